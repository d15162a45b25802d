import PyProof.Rows.All
import Wide.All
import OpenK.AllK
import Wide.FinOn
import Lean
import PyProof.EqAt
import PyProof.EqKinds
import PyProof.TupleCall
import PyProof.FactsAll.NoneType_1
import PyProof.WalkInts
import PyProof.SeqI3
import PyProof.SetKind
import PyProof.Rows.SetFrom
import PyProof.FactsAll.set
import PyProof.DictIter
import PyProof.DictWalks
import PyProof.WalksMore
import PyProof.MakeMany
import PyProof.FactsAll.subtypes_4
import KE.KDictSum
import KE.KRevIter
import PyProof.TupleOps
import PyProof.FactsAll.tuple
import PyProof.Rows.Range3
import PyProof.NoPylong
import KE.KIntText
import KE.IntTextLaws
import PySem.Challenge.RW_beltgarth_k67_whole_one_place_more
set_option Elab.async false
set_option autoImplicit true
set_option linter.all false
set_option maxHeartbeats 1000000
set_option maxHeartbeats 3200000
set_option maxHeartbeats 4000000
set_option maxRecDepth 100000
set_option relaxedAutoImplicit true
open List renaming getElem?_eq_getElem->aa,getElem?_eq_some_iff->ae,length_map->af,length_append->ai,mem_singleton->ak,getElem?_append_right->ao,getElem?_append_left->ar,size_toArray->ay,mem_append->aA,map_append->aC,mem_map->aE,mem_of_getElem?->aG,getElem?_map->aH,length_singleton->aI,mem_cons->aN,length_take->aR,length_eq_zero_iff->aS,mem_iff_getElem->aT,replicate->aV,getElem?_eq_none->aW,mem_append_right->aX,mem_filter->bb,take_length->bf,mem_cons_self->bg,mem_cons_of_mem->bh,length_filter_le->bq,getD_eq_getElem?_getD->bu,mem_append_left->bw,length_cons->bD,map_cons->bJ,drop_eq_getElem_cons->bM,length_reverse->bO,getElem?_reverse->bQ,nodup_cons->bX,getElem_mem->bY,not_mem_nil->b8,range->cc,length_drop->cz,replicate_succ->cD,dropLast_concat_getLast->cI,filter_cons->cO,map_map->cU,nodup_append->cV,take_of_length_le->cW,map_congr_left->cZ,mem_of_mem_drop->df,nodup_nil->dh,getElem?_inj->du,length_range->dv,find?_cons->dw,length_pos_iff->dA,all_eq_true->dH,lookup_cons->dI,getElem?_zip_eq_some->dP,ext_getElem?->dR,flatten_cons->dS,foldl_append->dU,filter_append->eG,pairwise_cons->eI,append_nil->eL,nil_append->eM,getElem?_toArray->eQ,append_assoc->eS,getElem?_of_mem->eW,length_dropLast->eX,length_eraseIdx->eY,take_zero->eZ,any_eq_true->fh,drop_length->fi,getLast?_eq_getElem?->fz,pairwise_iff_getElem->fA,filterMap_cons->fF,foldl_cons->fI,forIn_cons->fJ,length_nil->fK,sum_append->fL,pairwise_singleton->fS,drop_of_length_le->f6,drop_zero->f7,getElem?_set_self->f9,mem_range->gb,take_add_one->gd,concat_eq_append->gB,eq_nil_or_concat->gC,length_replicate->gD,any_cons->gZ,getElem?_set_ne->ic,mem_of_mem_take->ie,range_succ->iA,filter_sublist->iK,getElem?_range->iL,forIn_nil->iX,getElem?_drop->iY,getElem?_take->iZ,length->jh,not_lt->jj,length_set->kB,length_zip->kC,of_mem_zip->kD,take_succ->lb,all_cons->mG,map_take->mH,sum_cons->mI,foldl->rH
open PySem.Heap renaming get?_push_of_some->ag,get?_push_size->ax,lt_size->aD,size_push->bC,get?_update_other->bG,get?_update_self->bW
open Nat renaming le_refl->au,ne_of_lt->aL,lt_of_lt_of_le->a7,le_trans->a8,sub_self->a9,zero_le->bt,le_of_lt->bR,lt_or_ge->b6,add_sub_cancel->cx,ne_of_gt->cJ,lt_of_le_of_lt->cM,lt_succ_self->cP,lt_irrefl->cT,lt_succ_of_lt->cX,not_lt_zero->dy,le_succ->dW,min_le_right->gM,lt_trans->iO,not_lt->nN,mul_comm->oC
open PySem.W renaming mg_none_of->aY,nsIn->bz,fnOf->dX,keepIn->e6,codeIn->gg,methodObj->jn
open Int renaming toNat_natCast->aZ,emod_lt_of_pos->cu,natCast_nonneg->cw,emod_nonneg->cy
open Array renaming getElem?_eq_getElem->a6,length_toList->bF,getElem?_toList->bI,getElem?_eq_none->dD,getElem?_eq_some_iff->dJ,toArray_toList->ia,toList_append->iJ
open PyProof.Rows renaming callWith_type1->bo,slot_tuple_getitem->c6
open PySem renaming mem_of_lookup->b9,wpAny_setField_rec->cF,strKind->g0,call->rJ
open PySem.F renaming plainAttrs_list->cQ,plain_extend_loop->dQ,plainAttrs_dict->eC,args_tuple_add_2->fG,entry_tuple_add->fU,slot_tuple_add->gf,slot_dict_get->gE,slot_list_pop->gF,type_list_pop->gG
open Option renaming isSome_iff_exists->c8,getD_some->fj,map_some->iB,isSome_map->jk,getD_none->jO
abbrev Fg := PySem.W.Frag
section
namespace Bg
theorem Ml{α:Type}{P:List α->Prop}{us:List α}(h:us.length=0)(k:P []):P us:=by cases us with|nil=>exact k|cons a r=>cases h
theorem L8{α:Type}{P:List α->Prop}{us:List α}(h:us.length=1)(k:∀x0,P [x0]):P us:=by cases us with|nil=>cases h|cons a r=>exact Ml (P:=λr=>P (a::r)) (Nat.succ.inj h) (k a)
theorem L9{α:Type}{P:List α->Prop}{us:List α}(h:us.length=2)(k:∀x0 x1,P [x0,x1]):P us:=by cases us with|nil=>cases h|cons a r=>exact L8 (P:=λr=>P (a::r)) (Nat.succ.inj h) (k a)
theorem Ma{α:Type}{P:List α->Prop}{us:List α}(h:us.length=3)(k:∀x0 x1 x2,P [x0,x1,x2]):P us:=by cases us with|nil=>cases h|cons a r=>exact L9 (P:=λr=>P (a::r)) (Nat.succ.inj h) (k a)
theorem Mm{α:Type}{P:List α->Prop}{us:List α}(h:us.length=4)(k:∀x0 x1 x2 x3,P [x0,x1,x2,x3]):P us:=by cases us with|nil=>cases h|cons a r=>exact Ma (P:=λr=>P (a::r)) (Nat.succ.inj h) (k a)
theorem Mg{α:Type}{us:List α}(h:us.length=1):∃x0,us=[x0]:=L8 (P:=λus=>∃x0,us=[x0]) h λx0=>⟨x0,rfl⟩
theorem Mh{α:Type}{us:List α}(h:us.length=2):∃x0 x1,us=[x0,x1]:=L9 (P:=λus=>∃x0 x1,us=[x0,x1]) h λx0 x1=>⟨x0,x1,rfl⟩
theorem Mi{α:Type}{us:List α}(h:us.length=3):∃x0 x1 x2,us=[x0,x1,x2]:=Ma (P:=λus=>∃x0 x1 x2,us=[x0,x1,x2]) h λx0 x1 x2=>⟨x0,x1,x2,rfl⟩
theorem Mj{α:Type}{us:List α}(h:us.length=4):∃x0 x1 x2 x3,us=[x0,x1,x2,x3]:=Mm (P:=λus=>∃x0 x1 x2 x3,us=[x0,x1,x2,x3]) h λx0 x1 x2 x3=>⟨x0,x1,x2,x3,rfl⟩
end Bg
end
section
namespace L2
open PySem PySem.Spec PyProof.Rows
abbrev kY:=Sum Int Str
def mQ:kY->Value->Bool
 |.inl k,v=>Value.isInt k v
 |.inr x,v=>Value.isStrOf x v
def K4(w:World):kY->Int
 |.inl k=>hashInt k
 |.inr x=>hashStr w x
theorem dq:∀{k:kY} {v:Value},mQ k v=true->(∃i t,k=Sum.inl i/\v=Value.int i t)\/(∃x t,k=Sum.inr x/\v=Value.str x t)
 |.inl i,v,h=>by
  obtain⟨t,e⟩:=Value.isInt_shape (k:=i) (v:=v) h
  exact .inl ⟨i,t,rfl,e⟩
 |.inr x,v,h=>by
  obtain⟨t,e⟩:=Value.isStrOf_shape (x:=x) (v:=v) h
  exact .inr ⟨x,t,rfl,e⟩
theorem C1(i:Int)(t:Tok):mQ (.inl i) (.int i t)=true:=by simp[mQ,Value.isInt]
theorem C2(x:Str)(t:Tok):mQ (.inr x) (.str x t)=true:=by simp[mQ,Value.isStrOf]
theorem Jy(a b:Int):decide ((Sum.inl a:kY)=Sum.inl b)=(a==b):=by
 by_cases e:a=b
 ·subst e;simp
 ·have h:¬(Sum.inl a:kY)=Sum.inl b:=λq=>e (Sum.inl.inj q)
  rw[decide_eq_false h]
  exact(beq_eq_false_iff_ne.mpr e).symm
theorem JC(a b:Str):decide ((Sum.inr a:kY)=Sum.inr b)=decide (a=b):=by
 by_cases e:a=b
 ·subst e;simp
 ·have h:¬(Sum.inr a:kY)=Sum.inr b:=λq=>e (Sum.inr.inj q)
  rw[decide_eq_false h,decide_eq_false e]
theorem Jz(a:Int)(b:Str):decide ((Sum.inl a:kY)=Sum.inr b)=false:=decide_eq_false (λq=>nomatch q)
theorem JB(a:Str)(b:Int):decide ((Sum.inr a:kY)=Sum.inl b)=false:=decide_eq_false (λq=>nomatch q)
def dY(prog:Program)(w:World):PySem.KeyKind prog w kY where
 is:=mQ
 hash:=K4 w
 inj:=λv a b ha hb=>by
  rcases dq ha with⟨i,t,rfl,rfl⟩|⟨x,t,rfl,rfl⟩
  ·rcases dq hb with⟨j,u,rfl,e⟩|⟨y,u,rfl,e⟩
   ·injection e with e1 _;rw[e1]
   ·exact nomatch e
  ·rcases dq hb with⟨j,u,rfl,e⟩|⟨y,u,rfl,e⟩
   ·exact nomatch e
   ·injection e with e1 _;rw[e1]
 byValue:=λk v h=>by
  rcases dq h with⟨i,t,rfl,rfl⟩|⟨x,t,rfl,rfl⟩<;>rfl
 pyHash:=λhv h=>by
  rcases dq hv with⟨i,t,rfl,rfl⟩|⟨x,t,rfl,rfl⟩
  ·exact wpAny_pyHash_int h
  ·exact wpAny_pyHash_str h
 eqBool:=λhu hv h=>by
  rcases dq hu with⟨i,t,rfl,rfl⟩|⟨x,t,rfl,rfl⟩
  ·rcases dq hv with⟨j,u,rfl,rfl⟩|⟨y,u,rfl,rfl⟩
   ·rw[Jy] at h;exact wpAny_eqBool_int h
   ·rw[Jz] at h;exact SeqAt.EqAt.int_str i t y u _ _ _ _ h
  ·rcases dq hv with⟨j,u,rfl,rfl⟩|⟨y,u,rfl,rfl⟩
   ·rw[JB] at h;exact SeqAt.EqAt.str_int x t j u _ _ _ _ h
   ·rw[JC] at h;exact wpAny_eqBool_str h
 «strs»:=λk x t v h=>by
  rcases dq h with⟨i,u,rfl,e⟩|⟨y,u,rfl,e⟩
  ·exact nomatch e
  ·injection e with e1 _
   subst e1
   cases v<;>rfl
theorem yN(prog:Program)(w:World)(i:Int)(t:Tok):(dY prog w).is (.inl i) (.int i t)=true:=C1 i t
theorem yO(prog:Program)(w:World)(x:Str)(t:Tok):(dY prog w).is (.inr x) (.str x t)=true:=C2 x t
section
variable{prog:Program}{w:World}{A:Around}{E:Value->Shared->Prop}{s:Shared}
theorem oM(n:String):(some (Value.builtin n)==some Value.none)=false:=by rfl
theorem EF{Q:Int->Shared->Prop}(h:Q 0xFCA86420 {s with toks:=s.toks+1}):wpAny (model prog w) A (pyHash .none) Q E s:=by
 unfold pyHash
 have hT:s.TypeIs .none "NoneType":=rfl
 refine wpAny_bind ?_
 have hv:[Value.none].any Value.onHeap=false:=rfl
 rw[cRoomFor,if_neg (by rw[hv];exact Bool.false_ne_true)];refine wpAny_pure ?_
 refine wpAny_bind (wpAny_specialOf hT F.slot_NoneType_hash.lookup ?_)
 show wpAny _ _ (if(some (Value.builtin "NoneType.__hash__")==some Value.none)=true then _ else _) Q E s
 rw[if_neg (by rw[oM];exact Bool.false_ne_true)]
 refine wpAny_bind (wpAny_specialOf hT F.slot_NoneType_hash.lookup ?_)
 show wpAny _ _ (callSpecialIfBoundUnlessNone? .none "__hash__" _ >>= _) Q E s
 refine wpAny_bind (wpAny_callSpecialIfBoundUnlessNone?_slot hT F.slot_NoneType_hash
  (wpAny_call_entry F.slot_NoneType_hash hT F.entry_NoneType_hash
   (show wpAny _ _ (do ret (<-mkInt 0xFCA86420)) _ _ s from wpAny_ret_mkInt ?_) (F.args_NoneType_hash_1 _)))
 show wpAny _ _ (if(decide (-(2:Int) ^ 63<=0xFCA86420)&&decide ((0xFCA86420:Int)<2 ^ 63))=true then _ else _) Q E _
 rw[if_pos (by decide)]
 exact wpAny_pure h
end
abbrev cf:=Option kY
def IK:cf->Value->Bool
 |none,.none=>true
 |none,_=>false
 |some k,v=>mQ k v
def LW(w:World):cf->Int
 |none=>0xFCA86420
 |some k=>K4 w k
theorem dZ:∀{k:cf} {v:Value},IK k v=true->(k=none/\v=Value.none)\/∃k',k=some k'/\mQ k' v=true
 |some k',v,h=>.inr ⟨k',rfl,h⟩
 |none,.none,_=>.inl ⟨rfl,rfl⟩
theorem JD(a:kY):decide ((some a:cf)=none)=false:=decide_eq_false (λq=>nomatch q)
theorem JA(a:kY):decide ((none:cf)=some a)=false:=decide_eq_false (λq=>nomatch q)
theorem JE(a b:kY):decide ((some a:cf)=some b)=decide (a=b):=by
 by_cases e:a=b
 ·subst e;simp
 ·rw[decide_eq_false e,decide_eq_false (λq=>e (Option.some.inj q))]
theorem vo{k:kY}:mQ k .none=false:=by cases k<;>rfl
def dF(prog:Program)(w:World):PySem.KeyKind prog w cf where
 is:=IK
 hash:=LW w
 inj:=λv a b ha hb=>by
  rcases dZ ha with⟨rfl,rfl⟩|⟨a',rfl,ha⟩
  ·rcases dZ hb with⟨rfl,_⟩|⟨b',rfl,hb2⟩
   ·rfl
   ·rw[vo] at hb2;cases hb2
  ·rcases dZ hb with⟨rfl,rfl⟩|⟨b',rfl,hb⟩
   ·exact absurd (show mQ a' .none=true from ha) (by rw[vo];decide)
   ·rw[(dY prog w).inj v a' b' ha hb]
 byValue:=λk v h=>by
  rcases dZ h with⟨rfl,rfl⟩|⟨k',rfl,h⟩
  ·rfl
  ·exact(dY prog w).byValue k' v h
 pyHash:=λhv h=>by
  rcases dZ hv with⟨rfl,rfl⟩|⟨k',rfl,hk⟩
  ·exact EF h
  ·exact(dY prog w).pyHash (k:=k') hk h
 eqBool:=λhu hv h=>by
  rcases dZ hu with⟨rfl,rfl⟩|⟨a',rfl,ha⟩
  ·rcases dZ hv with⟨rfl,rfl⟩|⟨b',rfl,hb⟩
   ·exact SeqAt.EqAt.same _ _ _ _ _ (by simpa using h)
   ·rw[JA] at h
    rcases dq hb with⟨j,u,rfl,rfl⟩|⟨y,u,rfl,rfl⟩
    ·exact SeqAt.EqAt.none_int j u _ _ _ _ h
    ·exact SeqAt.EqAt.none_str y u _ _ _ _ h
  ·rcases dZ hv with⟨rfl,rfl⟩|⟨b',rfl,hb⟩
   ·rw[JD] at h
    rcases dq ha with⟨j,u,rfl,rfl⟩|⟨y,u,rfl,rfl⟩
    ·exact SeqAt.EqAt.int_none j u _ _ _ _ h
    ·exact SeqAt.EqAt.str_none y u _ _ _ _ h
   ·rw[JE] at h
    exact(dY prog w).eqBool (a:=a') (b:=b') ha hb h
 «strs»:=λk x t v h=>by
  rcases dZ h with⟨rfl,e⟩|⟨k',rfl,h⟩
  ·exact nomatch e
  ·exact(dY prog w).strs k' x t v h
inductive V where
 |non|bl (b:Bool)|int (i:Int)|str (x:Str)|byt (b:Array UInt8)|flt (b:UInt64)|ref (a:Addr)|ty (n:String)
 deriving DecidableEq
def cA:V->Value->Prop
 |.non,u=>u=Value.none
 |.bl b,u=>u=Value.bool b
 |.int i,u=>∃t,u=Value.int i t
 |.str x,u=>∃t,u=Value.str x t
 |.byt b,u=>∃t,u=Value.bytes b t
 |.flt b,u=>∃t,u=Value.float b t
 |.ref a,u=>u=Value.ref a
 |.ty n,u=>u=Value.type n
abbrev bV:List V->List Value->Prop:=Paired cA
theorem bV.length{xs:List V}{us:List Value}(r:bV xs us):xs.length=us.length:=Paired.length r
theorem bV.get:∀{xs:List V} {us:List Value} {i:Nat} {x:V},bV xs us->xs[i]?=some x->∃u,us[i]?=some u/\cA x u
 |_,_,_,_,.nil,e=>by simp at e
 |_,_,0,_,.cons r _,e=>by simp at e;subst e;exact⟨_,rfl,r⟩
 |_,_,i+1,x,.cons _ t,e=>by
  obtain⟨u,h1,h2⟩:=bV.get (i:=i) (x:=x) t (by simpa using e)
  exact⟨u,by simpa using h1,h2⟩
theorem bV.set{x:V}{u:Value}(r:cA x u):∀{xs:List V} {us:List Value} (i:Nat),bV xs us->bV (xs.set i x) (us.set i u)
 |_,_,_,.nil=>.nil
 |_,_,0,.cons _ t=>.cons r t
 |_,_,i+1,.cons q t=>.cons q (bV.set r i t)
theorem bV.append:∀{xs ys:List V} {us ws:List Value},bV xs us->bV ys ws->bV (xs++ys) (us++ws)
 |_,_,_,_,.nil,s=>s
 |_,_,_,_,.cons r t,s=>.cons r (bV.append t s)
theorem bV.take:∀{xs:List V} {us:List Value} (n:Nat),bV xs us->bV (xs.take n) (us.take n)
 |_,_,0,_=>.nil
 |_,_,_+1,.nil=>.nil
 |_,_,n+1,.cons r t=>.cons r (bV.take n t)
theorem bV.drop:∀{xs:List V} {us:List Value} (n:Nat),bV xs us->bV (xs.drop n) (us.drop n)
 |_,_,0,r=>r
 |_,_,_+1,.nil=>.nil
 |_,_,n+1,.cons _ t=>bV.drop n t
def pY:Option V->Option Value->Prop
 |some v,some u=>cA v u
 |none,none=>True
 |_,_=>False
def KV{κ:Type}:List (κ×V)->List (κ×Value)->Prop:=Paired λ(p:κ×V) (q:κ×Value)=>p.1=q.1/\cA p.2 q.2
def kV:kY->V
 |.inl i=>.int i
 |.inr x=>.str x
def kN:cf->V
 |none=>.non
 |some k=>kV k
inductive HO where
  |lst (xs:List V)
  |tup (xs:List V)
  |dK (kvs:List (kY×V))|dT (kvs:List (List cf×V))
  |set (S:Int->Bool) (n:Nat)
  |ins (C dx:Addr) (fs:List (Str×V))
  |own (x:Addr)
  |xd (fs:List (Str×V))
  |met (f x:Addr)
  |rng (lo hi:Int)
  |frz (o:Obj) (u:HO)
  |tbl (ps:Array Value)
  |ext (φ:Heap->Prop)
abbrev Hp:=Addr->Option HO
def aP(H:Hp)(a:Addr)(o:HO):Hp:=λb=>if b=a then some o else H b
theorem aj{H:Hp}{a:Addr}{o:HO}:aP H a o a=some o:=by unfold aP;rw[if_pos rfl]
theorem az{H:Hp}{a b:Addr}{o:HO}(h:b≠a):aP H a o b=H b:=by unfold aP;rw[if_neg h]
theorem BQ{H:Hp}{a b:Addr}{o u:HO}(h:H a=some o)(h':H b=some u)(d:o≠u):a≠b:=by
 intro e;subst e;rw[h] at h';exact d (Option.some.inj h')
theorem aJ{H:Hp}{a b:Addr}{o:HO}(h:H a=some o)(h':H b=none):a≠b:=by
 intro e;subst e;rw[h] at h';cases h'
def jE(h:Heap)(a:Addr)(items:Array Value):Prop:=∃o,h.get? a=some o/\(o.cls=.type "tuple"/\o.dict=none)/\∃n,o.data=.seq items n
theorem jE.tup{h:Heap}{a:Addr}{items:Array Value}(x:jE h a items):IsTup h a items:=let⟨o,e,c,n⟩:=x;⟨o,e,c.1,n⟩
theorem jE.lt{h:Heap}{a:Addr}{items:Array Value}(x:jE h a items):a<h.objs.size:=let⟨_,e,_⟩:=x;aD e
theorem jE.new(h:Heap)(items:Array Value):jE (h.push {cls:=.type "tuple",data:=.seq items}) h.objs.size items:=⟨_,ax _ rfl,⟨rfl,rfl⟩,_,rfl⟩
section
variable(P:Program)(w:World)
def d8(H:Hp)(h:Heap)(a:Addr):HO->Prop
 |.lst xs=>xs.length<=sizeLine/\∃(its:List Value) (n:Nat),bV xs its/\h.get? a=some {cls:=.type "list",data:=.seq its.toArray n}
 |.tup xs=>xs.length<=sizeLine/\∃its:List Value,bV xs its/\jE h a its.toArray
 |.dK kvs=>kvs.length<=sizeLine/\(a==sysModules)=false/\∃vs,KV kvs vs/\h.DictOf (dY P w) a vs
 |.dT kvs=>kvs.length<=sizeLine/\(a==sysModules)=false/\∃xs:List (List cf×Addr×Value),
   Paired (λ(p:List cf×V) (q:List cf×Addr×Value)=>p.1=q.1/\H q.2.1=some (.tup (p.1.map kN))/\cA p.2 q.2.2) kvs xs/\
   ∃o es ep,h.get? a=some o/\o.ExactDict/\o.data=.dict es ep/\es.toList=xs.map (entryOfKey (tupleKind (dF P w)))/\(xs.map (·.1)).Nodup
 |.set S n=>h.SetOf (intKind P w) a S n
 |.ins C dx fs=>H dx=some (.own a)/\fs.length<=1000/\dx≠a/\h.get? a=some (PySem.W.instObj C dx)/\
   ∃mA,h.Ns1 dx mA/\(∀f,pY (fs.lookup f) (mA f))/\PySem.Within mA (fs.map (·.1))
 |.own _=>∃o,h.get? a=some o
 |.xd fs=>∃mA,h.Ns1 a mA/\∀f,pY (fs.lookup f) (mA f)
 |.rng lo hi=>∃t u v,h.get? a=some {cls:=.type "range",data:=.fields #[.int lo t,.int hi u,.int 1 v]}
 |.frz o u=>h.get? a=some o/\d8 H h a u
 |.tbl ps=>h.get? a=some {cls:=.none,data:=.fields ps}
 |.met f x=>h.get? a=some (jn (.ref f) (.ref x))
 |.ext φ=>φ h/\(∃o,h.get? a=some o)/\∀h1 h2:Heap,φ h1->(∀o,h1.get? a=some o->h2.get? a=some o)->φ h2
def oG(H:Hp)(h:Heap):Prop:=∀a o,H a=some o->d8 P w H h a o
end
section
variable{P:Program}{w:World}{H H':Hp}{h h':Heap}{a:Addr}{o:HO}
theorem d8.lt(x:d8 P w H h a o):a<h.objs.size:=by
 cases o with
 |lst xs=>obtain⟨_,_,_,_,e⟩:=x;exact aD e
 |tup xs=>obtain⟨_,_,_,p⟩:=x;exact p.lt
 |dK kvs=>obtain⟨_,_,_,_,o,_,_,e,_⟩:=x;exact aD e
 |dT kvs=>obtain⟨_,_,_,_,o,_,_,e,_⟩:=x;exact aD e
 |set S n=>obtain⟨o,_,_,_,e,_⟩:=x;exact aD e
 |ins C dx fs=>obtain⟨_,_,_,e,_⟩:=x;exact aD e
 |own y=>obtain⟨_,e⟩:=x;exact aD e
 |xd fs=>obtain⟨_,⟨_,_,_,e,_⟩,_⟩:=x;exact aD e
 |rng lo hi=>obtain⟨_,_,_,e⟩:=x;exact aD e
 |frz ob u=>obtain⟨e,_⟩:=x;exact aD e
 |tbl ps=>exact aD (show h.get? a=some _ from x)
 |met f y=>exact aD (show h.get? a=some _ from x)
 |ext φ=>obtain⟨_,⟨_,e⟩,_⟩:=x;exact aD e
theorem Paired.mapP{α β:Type}{F G:α->β->Prop}:∀{l₁:List α} {l₂:List β},Paired F l₁ l₂->(∀a b,F a b->G a b)->Paired G l₁ l₂
 |_,_,.nil,_=>.nil
 |_,_,.cons r t,f=>.cons (f _ _ r) (Paired.mapP t f)
theorem d8.stay(x:d8 P w H h a o)(k:∀b u,(b=a\/H b=some (.own a))->h.get? b=some u->h'.get? b=some u)
  (ho:∀b,H b=some (.own a)->H' b=some (.own a)) (ht:∀b xs,H b=some (.tup xs)->H' b=some (.tup xs)):d8 P w H' h' a o:=by
 induction o with
 |lst xs=>obtain⟨z,its,n,r,e⟩:=x;exact⟨z,its,n,r,k _ _ (.inl rfl) e⟩
 |tup xs=>obtain⟨z,its,r,ob,e,c⟩:=x;exact⟨z,its,r,ob,k _ _ (.inl rfl) e,c⟩
 |dK kvs=>obtain⟨z,y,vs,r,ob,es,ep,e,c⟩:=x;exact⟨z,y,vs,r,ob,es,ep,k _ _ (.inl rfl) e,c⟩
 |dT kvs=>
  obtain⟨z,y,xs,r,ob,es,ep,e,c⟩:=x
  exact⟨z,y,xs,Paired.mapP r λp q z=>⟨z.1,ht _ _ z.2.1,z.2.2⟩,ob,es,ep,k _ _ (.inl rfl) e,c⟩
 |set S n=>obtain⟨ob,es,ep,t,e,c⟩:=x;exact⟨ob,es,ep,t,k _ _ (.inl rfl) e,c⟩
 |ins C dx fs=>
  obtain⟨d,z,ne,e,mA,⟨od,es,ep,e2,c⟩,r⟩:=x
  exact⟨ho _ d,z,ne,k _ _ (.inl rfl) e,mA,⟨od,es,ep,k _ _ (.inr d) e2,c⟩,r⟩
 |own y=>obtain⟨ob,e⟩:=x;exact⟨ob,k _ _ (.inl rfl) e⟩
 |xd fs=>obtain⟨mA,⟨od,es,ep,e,c⟩,r⟩:=x;exact⟨mA,⟨od,es,ep,k _ _ (.inl rfl) e,c⟩,r⟩
 |rng lo hi=>obtain⟨t,u,v,e⟩:=x;exact⟨t,u,v,k _ _ (.inl rfl) e⟩
 |frz ob u ih=>obtain⟨e,q⟩:=x;exact⟨k _ _ (.inl rfl) e,ih q⟩
 |tbl ps=>
  have e:h.get? a=some {cls:=.none,data:=.fields ps}:=x
  show h'.get? a=some {cls:=.none,data:=.fields ps}
  exact k a _ (.inl rfl) e
 |met f y=>
  have e:h.get? a=some (jn (.ref f) (.ref y)):=x
  show h'.get? a=some (jn (.ref f) (.ref y))
  exact k a _ (.inl rfl) e
 |ext φ=>obtain⟨p,⟨o,e⟩,st⟩:=x;exact⟨st _ _ p λo q=>k _ _ (.inl rfl) q,⟨o,k _ _ (.inl rfl) e⟩,st⟩
theorem oG.lt(x:oG P w H h)(e:H a=some o):a<h.objs.size:=(x a o e).lt
theorem oG.fresh(x:oG P w H h)(e:h.objs.size<=a):H a=none:=by
 cases q:H a with
 |none=>rfl
 |some u=>exact absurd (a7 (x.lt q) e) (cT _)
theorem oG.kept(x:oG P w H h)(k:∀b u,h.get? b=some u->h'.get? b=some u):oG P w H h':=λa o e=>
 (x a o e).stay (λb u _ q=>k b u q) (λ_ q=>q) λ_ _ q=>q
theorem oG.laid(x:oG P w H h)(k:∀b u,h.get? b=some u->h'.get? b=some u)(hp:h.objs.size<=a)(new:d8 P w (aP H a o) h' a o):oG P w (aP H a o) h':=λb u e=>by
 have hn:=x.fresh hp
 by_cases hb:b=a
 ·subst hb;rw[aj] at e;cases e;exact new
 ·rw[az hb] at e
  exact(x b u e).stay (λc v _ q=>k c v q) (λc q=>by rw[az (aJ q hn)];exact q) λc xs q=>by rw[az (aJ q hn)];exact q
end
def Rd(H:Hp)(a:Addr)(u:HO):Prop:=H a=some u\/∃o,H a=some (.frz o u)
theorem Rd.ok{P:Program}{w:World}{H:Hp}{h:Heap}{a:Addr}{u:HO}(r:Rd H a u)(x:oG P w H h):d8 P w H h a u:=by
 rcases r with r|⟨o,r⟩
 ·exact x a u r
 ·obtain⟨_,q⟩:=x a _ r
  exact q
def KL:Option HO->Prop
 |some (.lst _)=>True
 |some (.dK _)=>True
 |some (.dT _)=>True
 |some (.set _ _)=>True
 |some (.ins _ _ _)=>True
 |some (.ext _)=>True
 |_=>False
section
variable{P:Program}{w:World}{H:Hp}{h h':Heap}{x e:Addr}{o':HO}
theorem oG.write(ok:oG P w H h)(mu:KL (H x))(he:e=x\/H e=some (.own x))(k:∀b u,b≠e->h.get? b=some u->h'.get? b=some u)(heo:∃u,h'.get? e=some u)
  (new:d8 P w (aP H x o') h' x o'):oG P w (aP H x o') h':=λb u q=>by
 have nown:∀c y,H c=some (.own y)->c≠x:=λc y r z=>by subst z;rw[r] at mu;exact mu
 have ntup:∀c xs,H c=some (.tup xs)->c≠x:=λc xs r z=>by subst z;rw[r] at mu;exact mu
 by_cases hb:b=x
 ·subst hb;rw[aj] at q;cases q;exact new
 ·rw[az hb] at q
  by_cases hbe:b=e
  ·have q':H b=some (.own x):=by
    rcases he with z|z
    ·exact absurd (hbe.trans z) hb
    ·rw[hbe];exact z
   rw[q] at q';cases q'
   obtain⟨v,hv⟩:=heo
   exact⟨v,by rw[hbe];exact hv⟩
  ·refine(ok b u q).stay (λc v hc r=>k c v ?_ r) (λc r=>by rw[az (nown c b r)];exact r) λc xs r=>by rw[az (ntup c xs r)];exact r
   rcases hc with rfl|hc
   ·exact hbe
   ·rintro rfl
    rcases he with z|z
    ·exact nown c b hc z
    ·rw[hc] at z;cases z;exact hb rfl
end
structure Un(fs ex:List Addr)(H H':Hp)(h h':Heap):Prop where
 keep:∀b o,h.get? b=some o->H b=none->b∉fs->b∉ex->h'.get? b=some o
 slot:∀b o,h.get? b=some o->H b=none->b∈fs->b∉ex->∃sl,h'.get? b=some {o with slots:=sl}
 free:∀b o,h.get? b=some o->H b=none->b∉ex->H' b=none
 there:∀b o,h.get? b=some o->b∉ex->∃o',h'.get? b=some o'
 tups:∀b xs,H b=some (.tup xs)->H' b=some (.tup xs)
 frzs:∀b o u,H b=some (.frz o u)->H' b=some (.frz o u)
 tbls:∀b ps,H b=some (.tbl ps)->∃more,H' b=some (.tbl (ps++more))
section
variable{fs fs' ex ex':List Addr}{H H1 H2:Hp}{h h1 h2 h':Heap}{a x e:Addr}{o:HO}
theorem Un.any(u:Un fs ex H H1 h h1){b:Addr}{ob:Obj}(q:h.get? b=some ob)(n:H b=none)(hx:b∉ex):∃sl,h1.get? b=some {ob with slots:=sl}:=by
 by_cases hb:b∈fs
 ·exact u.slot b ob q n hb hx
 ·exact⟨ob.slots,u.keep b ob q n hb hx⟩
theorem Un.kept(k:∀b u,h.get? b=some u->h'.get? b=some u):Un fs ex H H h h':=
 ⟨λb ob q _ _ _=>k b ob q,λb ob q _ _ _=>⟨ob.slots,k b ob q⟩,λ_ _ _ n _=>n,λb ob q _=>⟨ob,k b ob q⟩,λ_ _ q=>q,λ_ _ _ q=>q,λ_ ps q=>⟨#[],by rw[q];simp⟩⟩
theorem Un.refl:Un fs ex H H h h:=Un.kept λ_ _ q=>q
theorem Un.laid(k:∀b u,h.get? b=some u->h'.get? b=some u)(hp:h.objs.size<=a)(hn:H a=none):Un fs ex H (aP H a o) h h' where
 keep:=λb u q _ _ _=>k b u q
 slot:=λb u q _ _ _=>⟨u.slots,k b u q⟩
 free:=λb u q n _=>by rw[az (aL (a7 (aD q) hp))];exact n
 there:=λb u q _=>⟨u,k b u q⟩
 tups:=λb xs q=>by rw[az (aJ q hn)];exact q
 frzs:=λb u xs q=>by rw[az (aJ q hn)];exact q
 tbls:=λb ps q=>⟨#[],by rw[az (aJ q hn),q];simp⟩
theorem Un.write(mu:KL (H x))(he:e=x\/H e=some (.own x))(k:∀b u,b≠e->h.get? b=some u->h'.get? b=some u)(heo:∃u,h'.get? e=some u):Un fs ex H (aP H x o) h h':=by
 have hx:∀b,H b=none->b≠x:=λb n z=>by subst z;rw[n] at mu;exact mu
 have hb:∀b,H b=none->b≠e:=λb n z=>by
  subst z
  rcases he with r|r
  ·exact hx b n r
  ·rw[n] at r;cases r
 have hm:∀b u,H b=some u->¬KL (some u)->b≠x:=λb u q nm z=>by subst z;rw[q] at mu;exact nm mu
 refine⟨λb u q n _ _=>k b u (hb b n) q,λb u q n _ _=>⟨u.slots,k b u (hb b n) q⟩,λb u q n _=>by rw[az (hx b n)];exact n,λb u q _=>?_,
  λb xs q=>by rw[az (hm b _ q λz=>z)];exact q,λb u xs q=>by rw[az (hm b _ q λz=>z)];exact q,λb ps q=>⟨#[],by rw[az (hm b _ q λz=>z),q];simp⟩⟩
 by_cases hbe:b=e
 ·subst hbe;exact heo
 ·exact⟨u,k b u hbe q⟩
end
def LN(h:Heap)(H:Hp):List Addr:=(cc h.objs.size).filter λa=>(H a).isSome
def wI(h:Heap)(H:Hp):Heap:=PySem.W.hideAll h (LN h H)
theorem CW(h:Heap)(H:Hp):(wI h H).objs.size=h.objs.size:=PySem.W.hideAll_size _ _
theorem EG{h:Heap}{H:Hp}{b:Addr}{o:Obj}(e:h.get? b=some o)(n:H b=none):(wI h H).get? b=some o:=
 PySem.W.hideAll_get _ e λhm=>by
  have q:(H b).isSome=true:=(bb.mp hm).2
  rw[n] at q;simp at q
theorem Hk{h:Heap}{H:Hp}{b:Addr}{o:Obj}(e:(wI h H).get? b=some o):h.get? b=some o/\H b=none:=by
 have e':h.get? b=some o:=PySem.W.of_hideAll (LN h H) e
 refine⟨e',?_⟩
 cases q:H b with
 |none=>rfl
 |some x=>
  have hm:b∈LN h H:=bb.mpr ⟨gb.mpr (aD e'),by simp[q]⟩
  have z:(wI h H).get? b=none:=PySem.W.hideAll_none (LN h H) hm
  rw[z] at e;cases e
structure Mod(K:Fg)(mg:Str->Option Value)(base:Heap):Prop where
 kin:K.In base
 glob:base.Ns mainGlobals mg
 blt:∃mb,base.Ns builtinsNs mb/\∀x:Str,x≠"__name__"->mb x=bootBuiltins x
 nolimit:base.NoLimit
structure Cx where
 prog:Program
 w:World
 K:Fg
 mg:Str->Option Value
 base:Heap
 A:Around
 N:List Str
 s₀:Shared
 H₀:Hp
 env:Env
 outer:List Env
 stack:List Env
 ex:List Addr
 fn:Str->Bool
 calm:Bool
 pn:List (Addr×Obj)
 xe:Value->Shared->Prop
def EC(l:List Env):List Addr:=l.filterMap (·.frame)
abbrev Cx.fs(X:Cx):List Addr:=EC X.outer
def LL(sc:Scope)(x:Str):Prop:=sc.names.lookup x=some .local\/sc.names.lookup x=some .cell\/sc.names.lookup x=some .free
def DX(sc:Scope)(x:Str):Prop:=sc.names.lookup x=some .local\/sc.names.lookup x=some .cell
def LQ(env:Env)(h:Heap)(m:Str->Option Value)(x:Str)(u:Value):Prop:=
 (env.kindOf x=some .local/\m x=some u)\/((env.kindOf x=some .cell\/env.kindOf x=some .free)/\∃c,env.cells.lookup x=some c/\h.IsCell c (some u))
structure Cx.Ok(X:Cx):Prop where
 mod:Mod X.K X.mg X.base
 kind:X.env.scope.kind=.function
 glob:X.env.globals=mainGlobals
 blt:X.env.builtins=builtinsNs
 above:X.s₀.heap.objs.size<=X.env.locals
 inj:∀x y c,X.env.cells.lookup x=some c->X.env.cells.lookup y=some c->x=y
 has:∀x,(X.env.kindOf x=some .cell\/X.env.kindOf x=some .free)->∃c,X.env.cells.lookup x=some c
 cab:∀x c,X.fn x=true->X.env.cells.lookup x=some c->X.s₀.heap.objs.size<=c
 hd:X.calm=true->X.A.handled=none
 frames:X.A.frames=some X.stack
 stk:X.stack=X.outer\/(X.stack=X.env::X.outer/\X.env.frame=some X.env.locals)
 exf:∀b∈X.ex,b≠X.env.locals/\∀x c,X.env.cells.lookup x=some c->c≠b
 bs:∀b o,X.base.get? b=some o->X.s₀.heap.get? b=some o/\X.H₀ b=none
 bsz:X.base.objs.size<=X.s₀.heap.objs.size
 noex:∀b o,X.base.get? b=some o->b∉X.ex
 exfs:∀b∈X.ex,b∉X.fs
 funs:X.s₀.heap.FunFrames X.base X.outer
 frf:∀b∈X.fs,X.H₀ b=none
structure bx(X:Cx)(pins:List (Addr×Obj))(σ:List (Option V))(H:Hp)(s:Shared):Prop where
 ok:X.Ok
 os:s.os=X.s₀.os
 bare:AllBare s.gens
 base:Un X.fs X.ex X.H₀ H X.s₀.heap s.heap
 loc:∃m,s.heap.Ns X.env.locals m/\∀(i:Nat) (x:Str) (v:V),X.N[i]?=some x->σ[i]?=some (some v)->LL X.env.scope x->∃u,cA v u/\LQ X.env s.heap m x u
 cell:∀x c,X.env.cells.lookup x=some c->∃v,s.heap.IsCell c v
 free:H X.env.locals=none
 freeC:∀x c,X.env.cells.lookup x=some c->H c=none
 pin:∀p∈X.pn++pins,s.heap.get? p.1=some p.2/\H p.1=none/\p.1≠X.env.locals/\p.1∉X.fs/\∀v,p.2.data≠.cell v
 hok:oG X.prog X.w H s.heap
 len:σ.length=X.N.length
section
variable{X:Cx}{pins:List (Addr×Obj)}{σ:List (Option V)}{H H':Hp}{s:Shared}{h':Heap}
theorem Cx.Ok.nofr(ok:X.Ok){b:Addr}{o:Obj}(e:X.base.get? b=some o):b∉X.fs:=λhb=>by
 have:=(ok.funs.mem hb).1
 rw[e] at this;cases this
theorem bx.bs(I:bx X pins σ H s):∀b o,X.base.get? b=some o->s.heap.get? b=some o/\H b=none:=λb o e=>
 ⟨I.base.keep b o (I.ok.bs b o e).1 (I.ok.bs b o e).2 (I.ok.nofr e) (I.ok.noex b o e),I.base.free b o (I.ok.bs b o e).1 (I.ok.bs b o e).2 (I.ok.noex b o e)⟩
theorem bx.bk(I:bx X pins σ H s):∀b o,X.base.get? b=some o->s.heap.get? b=some o:=λb o e=>(I.bs b o e).1
theorem bx.mod(I:bx X pins σ H s):Mod X.K X.mg X.base:=I.ok.mod
theorem bx.kIn(I:bx X pins σ H s):X.K.In s.heap:=I.ok.mod.kin.keeps I.bk
theorem bx.lt(I:bx X pins σ H s):X.env.locals<s.heap.objs.size:=let⟨_,hn,_⟩:=I.loc;hn.lt
theorem bx.sz(I:bx X pins σ H s):X.s₀.heap.objs.size<=s.heap.objs.size:=a8 I.ok.above (bR I.lt)
theorem bx.nofs(I:bx X pins σ H s){a:Addr}(h:s.heap.objs.size<=a):a∉X.fs:=λhb=>by
 obtain⟨_,o,ho,_⟩:=I.ok.funs.mem hb
 exact absurd (a7 (aD ho) (a8 I.sz h)) (cT _)
theorem bx.cne(I:bx X pins σ H s):∀x c,X.env.cells.lookup x=some c->c≠X.env.locals:=λx c e z=>by
 obtain⟨v,o,ho,hd⟩:=I.cell x c e
 obtain⟨m,⟨o',es,ep,ho',hd',_⟩,_⟩:=I.loc
 rw[z,ho'] at ho;cases ho;rw[hd'] at hd;cases hd
theorem bx.funs(I:bx X pins σ H s):s.heap.FunFrames X.base X.outer:=by
 have all:∀(l:List Env),(∀b∈EC l,b∈X.fs)->X.s₀.heap.FunFrames X.base l->s.heap.FunFrames X.base l:=by
  intro l
  induction l with
  |nil=>intro _ _;trivial
  |cons env r ih=>
   intro hs hl
   obtain⟨hk,⟨L,o,hf,hn,ho,hd⟩,hr⟩:=hl
   have hL:L∈X.fs:=hs L (by unfold EC;rw[fF,hf];exact bg)
   obtain⟨sl,e⟩:=I.base.slot L o ho (I.ok.frf L hL) hL λz=>I.ok.exfs L z hL
   exact⟨hk,⟨L,_,hf,hn,e,hd⟩,ih (λb hb=>hs b (by unfold EC;rw[fF,hf];exact bh _ hb)) hr⟩
 exact all X.outer (λ_ hb=>hb) I.ok.funs
theorem bx.stack(I:bx X pins σ H s):s.heap.FunFrames X.base X.stack:=by
 rcases I.ok.stk with e|⟨e,hf⟩
 ·rw[e];exact I.funs
 ·rw[e]
  obtain⟨m,hn,_⟩:=I.loc
  refine .cons (by rw[I.ok.kind];decide) hf hn ?_ I.funs
  exact Heap.get?_none_of_le (a8 I.ok.bsz I.ok.above)
theorem bx.stkSub(I:bx X pins σ H s):∀b∈EC X.stack,b∈X.env.locals::X.fs:=λb hb=>by
 rcases I.ok.stk with e|⟨e,hf⟩
 ·rw[e] at hb;exact bh _ hb
 ·rw[e] at hb
  unfold EC at hb
  rw[fF,hf] at hb
  exact hb
theorem bx.stkFree(I:bx X pins σ H s):∀b∈EC X.stack,H b=none:=λb hb=>by
 rcases aN.mp (I.stkSub b hb) with e|hb
 ·rw[e];exact I.free
 ·obtain⟨_,o,ho,_⟩:=I.ok.funs.mem hb
  exact I.base.free b o ho (I.ok.frf b hb) λz=>I.ok.exfs b z hb
theorem bx.step{g':Array GenState}{t':Nat}{d':Drawn}{ch:List Addr}(I:bx X pins σ H s)
  (hch:∀b∈ch,(b∈X.ex\/X.s₀.heap.objs.size<=b)/\b≠X.env.locals/\(∀x c,X.env.cells.lookup x=some c->c≠b)/\∀p∈X.pn++pins,p.1≠b)
  (keep:∀b o,b≠X.env.locals->b∉X.fs->b∉ch->s.heap.get? b=some o->H b=none->h'.get? b=some o)
  (slot:∀b o,b≠X.env.locals->b∈X.fs->b∉ch->s.heap.get? b=some o->H b=none->∃sl,h'.get? b=some {o with slots:=sl}) (free:∀b o,b∉ch->s.heap.get? b=some o->H b=none->H' b=none)
  (there:∀b o,b∉ch->s.heap.get? b=some o->∃o',h'.get? b=some o')
  (tups:∀b xs,H b=some (.tup xs)->H' b=some (.tup xs)) (frzs:∀b o u,H b=some (.frz o u)->H' b=some (.frz o u)) (tbls:∀b ps,H b=some (.tbl ps)->∃more,H' b=some (.tbl (ps++more)))
  (ns:∀m,s.heap.Ns X.env.locals m->h'.Ns X.env.locals m) (hok:oG X.prog X.w H' h') (hg:AllBare g') :
  bx X pins σ H' {s with heap:=h',gens:=g',drawn:=d',toks:=t'}:=by
 have neL:∀b o,X.s₀.heap.get? b=some o->b≠X.env.locals:=λb o e=>aL (a7 (aD e) I.ok.above)
 have neC:∀b o,X.s₀.heap.get? b=some o->b∉X.ex->b∉ch:=λb o e hx hb=>by
  rcases(hch b hb).1 with z|z
  ·exact hx z
  ·exact absurd (a7 (aD e) z) (cT _)
 have cellK:∀x c,X.env.cells.lookup x=some c->∀v,s.heap.IsCell c v->h'.IsCell c v:=λx c e v ⟨o,ho,hd⟩=>by
  have nch:c∉ch:=λz=>(hch c z).2.2.1 x c e rfl
  by_cases hc:c∈X.fs
  ·obtain⟨sl,q⟩:=slot c o (I.cne x c e) hc nch ho (I.freeC x c e)
   exact⟨_,q,hd⟩
  ·exact⟨o,keep c o (I.cne x c e) hc nch ho (I.freeC x c e),hd⟩
 refine⟨I.ok,I.os,hg,⟨λb o e n hb hx=>?_,λb o e n hb hx=>?_,λb o e n hx=>?_,λb o e hx=>?_,λb xs e=>tups b xs (I.base.tups b xs e),λb o xs e=>frzs b o xs (I.base.frzs b o xs e),λb ps e=>?_⟩,?_,λx c e=>?_,?_,λx c e=>?_,λp hp=>?_,hok,I.len⟩
 ·exact keep b o (neL b o e) hb (neC b o e hx) (I.base.keep b o e n hb hx) (I.base.free b o e n hx)
 ·obtain⟨sl,e1⟩:=I.base.slot b o e n hb hx
  obtain⟨sl',e2⟩:=slot b _ (neL b o e) hb (neC b o e hx) e1 (I.base.free b o e n hx)
  exact⟨sl',e2⟩
 ·obtain⟨o',e1⟩:=I.base.there b o e hx
  exact free b o' (neC b o e hx) e1 (I.base.free b o e n hx)
 ·obtain⟨o',e1⟩:=I.base.there b o e hx
  exact there b o' (neC b o e hx) e1
 ·obtain⟨m1,e1⟩:=I.base.tbls b ps e
  obtain⟨m2,e2⟩:=tbls b _ e1
  exact⟨m1++m2,by rw[e2,Array.append_assoc]⟩
 ·obtain⟨m,hn,hl⟩:=I.loc
  refine⟨m,ns m hn,λi x v e1 e2 e3=>?_⟩
  obtain⟨u,r,l⟩:=hl i x v e1 e2 e3
  refine⟨u,r,?_⟩
  rcases l with l|⟨k,c,e,z⟩
  ·exact .inl l
  ·exact .inr ⟨k,c,e,cellK x c e _ z⟩
 ·obtain⟨v,z⟩:=I.cell x c e
  exact⟨v,cellK x c e v z⟩
 ·obtain⟨m,⟨o,_,_,ho,_⟩,_⟩:=I.loc
  exact free _ o (λz=>(hch _ z).2.1 rfl) ho I.free
 ·obtain⟨v,o,ho,hd⟩:=I.cell x c e
  exact free c o (λz=>(hch c z).2.2.1 x c e rfl) ho (I.freeC x c e)
 ·obtain⟨e,n,ne,nf,d⟩:=I.pin p hp
  have nch:p.1∉ch:=λz=>(hch p.1 z).2.2.2 p hp rfl
  exact⟨keep p.1 p.2 ne nf nch e n,free p.1 p.2 nch e n,ne,nf,d⟩
theorem bx.un{t':Nat}(I:bx X pins σ H s)(u:Un X.fs [] H H' s.heap h')(hok:oG X.prog X.w H' h'):bx X pins σ H' {s with heap:=h',toks:=t'}:=by
 obtain⟨m,⟨o,es,ep,ho,r⟩,_⟩:=id I.loc
 obtain⟨sl,hL⟩:=u.any ho I.free (by simp)
 exact I.step (g':=s.gens) (d':=s.drawn) (ch:=[]) (λ_ z=>nomatch z) (λb o _ hb _ e n=>u.keep b o e n hb (by simp)) (λb o _ hb _ e n=>u.slot b o e n hb (by simp)) (λb o _ e n=>u.free b o e n (by simp)) (λb o _ e=>u.there b o e (by simp)) u.tups u.frzs u.tbls (λm' hm=>by
  obtain⟨o',es',ep',ho',r'⟩:=hm
  rw[ho] at ho';cases ho'
  exact⟨_,es',ep',hL,r'⟩) hok I.bare
theorem bx.call{g':Array GenState}{t':Nat}{d':Drawn}{ch:List Addr}(I:bx X pins σ H s)(u:Un (EC X.stack) ch H H' s.heap h')(hok:oG X.prog X.w H' h')(hg:AllBare g')
  (hch:∀b∈ch,(b∈X.ex\/X.s₀.heap.objs.size<=b)/\b≠X.env.locals/\(∀x c,X.env.cells.lookup x=some c->c≠b)/\∀p∈X.pn++pins,p.1≠b) :
  bx X pins σ H' {s with heap:=h',gens:=g',drawn:=d',toks:=t'}:=by
 obtain⟨m,⟨o,es,ep,ho,r⟩,_⟩:=id I.loc
 obtain⟨sl,hL⟩:=u.any ho I.free λz=>(hch _ z).2.1 rfl
 exact I.step (ch:=ch) hch (λb o hL hb hc e n=>u.keep b o e n (λz=>(aN.mp (I.stkSub b z)).elim hL hb) hc) (λb o _ _ hc e n=>u.any e n hc) (λb o hc e n=>u.free b o e n hc) (λb o hc e=>u.there b o e hc) u.tups u.frzs u.tbls (λm' hm=>by
  obtain⟨o',es',ep',ho',r'⟩:=hm
  rw[ho] at ho';cases ho'
  exact⟨_,es',ep',hL,r'⟩) hok hg
theorem bx.turned{t':Nat}{it:Addr}(I:bx X pins σ H s)(k:∀b o,b≠it->s.heap.get? b=some o->h'.get? b=some o)(hn:H it=none)(hL:it≠X.env.locals)
  (h1:it∈X.ex\/X.s₀.heap.objs.size<=it) (h2:∀x c,X.env.cells.lookup x=some c->c≠it) (h3:∀p∈X.pn++pins,p.1≠it):bx X pins σ H {s with heap:=h',toks:=t'}:=by
 have nit:∀b u,H b=some u->b≠it:=λb u e z=>by rw[z,hn] at e;cases e
 refine I.step (g':=s.gens) (d':=s.drawn) (ch:=[it]) (λb hb=>?_) (λb o _ _ hc e _=>k b o (λz=>hc (by simp[z])) e) (λb o _ _ hc e _=>⟨o.slots,k b o (λz=>hc (by simp[z])) e⟩) (λ_ _ _ _ n=>n)
  (λb o hc e=>⟨o,k b o (λz=>hc (by simp[z])) e⟩) (λ_ _ e=>e) (λ_ _ _ e=>e) (λb ps e=>⟨#[],by rw[e];simp⟩) (λm hm=>?_) (λb u e=>?_) I.bare
 ·have e:b=it:=by simpa using hb
  subst e
  exact⟨h1,hL,h2,h3⟩
 ·obtain⟨o,es,ep,ho,r⟩:=hm
  exact⟨o,es,ep,k _ o (Ne.symm hL) ho,r⟩
 ·refine(I.hok b u e).stay (λc v hc q=>k c v ?_ q) (λ_ q=>q) λ_ _ q=>q
  rcases hc with z|z
  ·rw[z];exact nit b u e
  ·exact nit c _ z
theorem bx.tok(I:bx X pins σ H s)(t:Nat):bx X pins σ H {s with toks:=t}:=I.un (h':=s.heap) (t':=t) Un.refl I.hok
theorem bx.kept{t':Nat}(I:bx X pins σ H s)(k:∀b u,s.heap.get? b=some u->h'.get? b=some u):bx X pins σ H {s with heap:=h',toks:=t'}:=I.un (Un.kept k) (I.hok.kept k)
theorem bx.laid{a:Addr}{o:HO}{t':Nat}(I:bx X pins σ H s)(k:∀b u,s.heap.get? b=some u->h'.get? b=some u)(hp:s.heap.objs.size<=a)(new:d8 X.prog X.w (aP H a o) h' a o) :
  bx X pins σ (aP H a o) {s with heap:=h',toks:=t'}:=I.un (Un.laid k hp (I.hok.fresh hp)) (I.hok.laid k hp new)
theorem bx.write{x e:Addr}{o:HO}{t':Nat}(I:bx X pins σ H s)(mu:KL (H x))(he:e=x\/H e=some (.own x))(k:∀b u,b≠e->s.heap.get? b=some u->h'.get? b=some u)(heo:∃u,h'.get? e=some u)
  (new:d8 X.prog X.w (aP H x o) h' x o):bx X pins σ (aP H x o) {s with heap:=h',toks:=t'}:=I.un (Un.write mu he k heo) (I.hok.write mu he k heo new)
theorem bx.pins_of{pins':List (Addr×Obj)}(I:bx X pins σ H s)(h:∀p∈pins',s.heap.get? p.1=some p.2/\H p.1=none/\p.1≠X.env.locals/\p.1∉X.fs/\∀v,p.2.data≠.cell v):bx X pins' σ H s:=
 ⟨I.ok,I.os,I.bare,I.base,I.loc,I.cell,I.free,I.freeC,λp hp=>(aA.mp hp).elim (λz=>I.pin p (bw _ z)) (h p),I.hok,I.len⟩
theorem yR{N:List Str}(hN:N.Nodup){i j:Nat}{x:Str}(a:N[i]?=some x)(b:N[j]?=some x):i=j:=by
 obtain⟨h1,e1⟩:=ae.mp a
 obtain⟨h2,e2⟩:=ae.mp b
 exact(List.getElem_inj hN).mp (e1.trans e2.symm)
theorem vK{M:Model}{A:Around}{E:Value->Shared->Prop}{i:Nat}{x:Str}{v:V}{u:Value}{Q:Unit->Shared->Prop}(I:bx X pins σ H s)(hN:X.N.Nodup)(hi:X.N[i]?=some x)(hx:DX X.env.scope x)(r:cA v u)
  (h:∀s',bx X pins (σ.set i (some v)) H s'->(∃a,Heap.SameBut a s.heap s'.heap/\(a=X.env.locals\/X.env.cells.lookup x=some a))->Q () s') (hf:X.fn x=true\/X.env.scope.names.lookup x=some .local:=by first|exact .inl rfl|exact .inr rfl|assumption):wpAny M A (storeName X.env x u) Q E s:=by
 obtain⟨m,hn,hl⟩:=id I.loc
 have hcls:(X.env.scope.kind==.class || (X.env.scope.kind==.module&&X.env.locals != X.env.globals))=false:=by rw[I.ok.kind];rfl
 have hiσ:i<σ.length:=by rw[I.len];exact(ae.mp hi).1
 have cne:=I.cne
 have tracked:∀{a:Addr} {h':Heap},(∃o,s.heap.get? a=some o/\H a=none)->Heap.SameBut a s.heap h'->oG X.prog X.w H h':=λ{a h'} ha hs b ob e=>by
  obtain⟨_,_,hfree⟩:=ha
  refine(I.hok b ob e).stay (λc w' hc q=>(hs.2 c ?_).trans q) (λ_ q=>q) λ_ _ q=>q
  rintro rfl
  rcases hc with rfl|hc
  ·rw[hfree] at e;cases e
  ·rw[hfree] at hc;cases hc
 rcases hx with hk|hk
 ·refine wpAny_storeName_local hk hn (λh' hn' hs=>?_) hcls
  obtain⟨oL,_,_,hoL,_⟩:=id hn
  refine h _ ⟨I.ok,I.os,I.bare,⟨λb o e n hb hx=>?_,λb o e n hb hx=>?_,I.base.free,λb o e hx=>?_,I.base.tups,I.base.frzs,I.base.tbls⟩,⟨_,hn',λj y v' e1 e2 e3=>?_⟩,λy c e=>?_,I.free,I.freeC,λp hp=>?_,tracked ⟨oL,hoL,I.free⟩ hs,by simpa using I.len⟩ ⟨_,hs,.inl rfl⟩
  ·exact(hs.2 b (aL (a7 (aD e) I.ok.above))).trans (I.base.keep b o e n hb hx)
  ·obtain⟨sl,e1⟩:=I.base.slot b o e n hb hx
   exact⟨sl,(hs.2 b (aL (a7 (aD e) I.ok.above))).trans e1⟩
  ·obtain⟨o',e1⟩:=I.base.there b o e hx
   exact⟨o',(hs.2 b (aL (a7 (aD e) I.ok.above))).trans e1⟩
  ·by_cases hj:j=i
   ·subst hj
    rw[hi] at e1;cases e1
    rw[f9 hiσ] at e2
    cases e2
    exact⟨u,r,.inl ⟨hk,by simp⟩⟩
   ·rw[ic (Ne.symm hj)] at e2
    obtain⟨u',r',q⟩:=hl j y v' e1 e2 e3
    refine⟨u',r',?_⟩
    rcases q with⟨k,e⟩|⟨k,c,e,z⟩
    ·refine .inl ⟨k,?_⟩
     have:y≠x:=λe=>hj (yR hN e1 (e ▸ hi))
     simp[this,e]
    ·exact .inr ⟨k,c,e,z.sameBut hs (cne y c e)⟩
  ·obtain⟨w',z⟩:=I.cell y c e
   exact⟨w',z.sameBut hs (cne y c e)⟩
  ·obtain⟨e,n,ne,nf,d⟩:=I.pin p hp
   exact⟨(hs.2 p.1 ne).trans e,n,ne,nf,d⟩
 ·have hfn:X.fn x=true:=by
   rcases hf with z|z
   ·exact z
   ·rw[z] at hk;cases hk
  obtain⟨c,hc⟩:=I.ok.has x (.inl hk)
  obtain⟨w',z⟩:=I.cell x c hc
  refine wpAny_storeName_cell I.ok.kind hk hc z (λh' hc' hs=>?_)
  obtain⟨oc,hoc,hocd⟩:=id z
  refine h {s with heap:=h'} ⟨I.ok,I.os,I.bare,⟨λb o e n hb hx=>?_,λb o e n hb hx=>?_,I.base.free,λb o e hx=>?_,I.base.tups,I.base.frzs,I.base.tbls⟩,⟨m,hn.sameBut hs (Ne.symm (cne x c hc)),λj y v' e1 e2 e3=>?_⟩,λy c' e=>?_,I.free,I.freeC,λp hp=>?_,tracked ⟨oc,hoc,I.freeC x c hc⟩ hs,by simpa using I.len⟩ ⟨c,hs,.inr hc⟩
  ·exact(hs.2 b (aL (a7 (aD e) (I.ok.cab x c hfn hc)))).trans (I.base.keep b o e n hb hx)
  ·obtain⟨sl,e1⟩:=I.base.slot b o e n hb hx
   exact⟨sl,(hs.2 b (aL (a7 (aD e) (I.ok.cab x c hfn hc)))).trans e1⟩
  ·obtain⟨o',e1⟩:=I.base.there b o e hx
   exact⟨o',(hs.2 b (aL (a7 (aD e) (I.ok.cab x c hfn hc)))).trans e1⟩
  ·by_cases hj:j=i
   ·subst hj
    rw[hi] at e1;cases e1
    rw[f9 hiσ] at e2
    cases e2
    exact⟨u,r,.inr ⟨.inl hk,c,hc,hc'⟩⟩
   ·rw[ic (Ne.symm hj)] at e2
    obtain⟨u',r',q⟩:=hl j y v' e1 e2 e3
    refine⟨u',r',?_⟩
    rcases q with q|⟨k,c',e,z'⟩
    ·exact .inl q
    ·refine .inr ⟨k,c',e,z'.sameBut hs ?_⟩
     rintro rfl
     exact hj (yR hN e1 (I.ok.inj _ _ _ e hc ▸ hi))
  ·by_cases hcc:c'=c
   ·subst hcc;exact⟨_,hc'⟩
   ·obtain⟨w2,z2⟩:=I.cell y c' e
    exact⟨w2,z2.sameBut hs hcc⟩
  ·obtain⟨e,n,ne,nf,d⟩:=I.pin p hp
   refine⟨(hs.2 p.1 ?_).trans e,n,ne,nf,d⟩
   intro q
   rw[q,hoc] at e
   have q':oc=p.2:=Option.some.inj e
   exact d w' (by rw[<-q'];exact hocd)
theorem zg{M:Model}{A:Around}{E:Value->Shared->Prop}{i:Nat}{x:Str}{v:V}{u:Value}{Q:Unit->Shared->Prop}(I:bx X pins σ H s)(hN:X.N.Nodup)(hi:X.N[i]?=some x)(hx:DX X.env.scope x)(r:cA v u)
  (h:∀s',bx X pins (σ.set i (some v)) H s'->Q () s') (hf:X.fn x=true\/X.env.scope.names.lookup x=some .local:=by first|exact .inl rfl|exact .inr rfl|assumption):wpAny M A (storeName X.env x u) Q E s:=
 vK I hN hi hx r (λs' I' _=>h s' I') hf
theorem bx.call'{s':Shared}{ch:List Addr}(I:bx X pins σ H s)(ho:s'.os=s.os)(u:Un (EC X.stack) ch H H' s.heap s'.heap)(hok:oG X.prog X.w H' s'.heap)(hg:AllBare s'.gens)
  (hch:∀b∈ch,(b∈X.ex\/X.s₀.heap.objs.size<=b)/\b≠X.env.locals/\(∀x c,X.env.cells.lookup x=some c->c≠b)/\∀p∈X.pn++pins,p.1≠b):bx X pins σ H' s':=by
 obtain⟨h',g',d',t',o'⟩:=s'
 have e:o'=s.os:=ho
 subst e
 exact I.call (g':=g') (t':=t') (d':=d') u hok hg hch
end
abbrev XK:=Value->Option Addr->Hp->Prop
abbrev St:=List (Option V)
abbrev VK:=V->Hp->Prop
abbrev TE:=St->Hp->VK->Prop
abbrev TT:=St->Hp->(Bool->Hp->Prop)->Prop
abbrev TA:=St->Hp->(List V->Hp->Prop)->Prop
structure kU where
 nx:St->Hp->Prop
 rt:VK
 bk:St->Hp->Prop:=λ_ _=>False
 ct:St->Hp->Prop:=λ_ _=>False
abbrev TS:=kU->St->Hp->Prop
def EP(X:Cx)(pins:List (Addr×Obj))(σ:St)(Q:VK)(u:Value)(s':Shared):Prop:=∃v H',bx X pins σ H' s'/\cA v u/\Q v H'
def TP(X:Cx)(pins:List (Addr×Obj))(σ:St)(Q:Bool->Hp->Prop)(b:Bool)(s':Shared):Prop:=∃H',bx X pins σ H' s'/\Q b H'
def AP(X:Cx)(pins:List (Addr×Obj))(σ:St)(Q:List V->Hp->Prop)(us:List Value)(s':Shared):Prop:=∃vs H',bx X pins σ H' s'/\bV vs us/\Q vs H'
def SP(X:Cx)(pins:List (Addr×Obj))(D:kU)(f:Flow)(s':Shared):Prop:=
 match f with
 |.next=>∃σ' H',bx X pins σ' H' s'/\D.nx σ' H'
 |.brk=>∃σ' H',bx X pins σ' H' s'/\D.bk σ' H'
 |.cont=>∃σ' H',bx X pins σ' H' s'/\D.ct σ' H'
 |.ret u=>∃v σ' H',bx X pins σ' H' s'/\cA v u/\D.rt v H'
def PE(X:Cx)(e:Expr)(t:TE):Prop:=
 ∀(pins:List (Addr×Obj)) (s:Shared) (σ:St) (H:Hp) (Q:VK),bx X pins σ H s->t σ H Q->wpAny (model X.prog X.w) X.A (eval e X.env) (EP X pins σ Q) X.xe s
def PT(X:Cx)(e:Expr)(t:TT):Prop:=
 ∀(pins:List (Addr×Obj)) (s:Shared) (σ:St) (H:Hp) (Q:Bool->Hp->Prop),bx X pins σ H s->t σ H Q->wpAny (model X.prog X.w) X.A (isTrue e X.env (eval e X.env)) (TP X pins σ Q) X.xe s
def PW(X:Cx)(e:Expr)(t:TT):Prop:=
 ∀(whole:Sem Value) (pins:List (Addr×Obj)) (s:Shared) (σ:St) (H:Hp) (Q:Bool->Hp->Prop),bx X pins σ H s->t σ H Q->wpAny (model X.prog X.w) X.A (isTrue e X.env whole) (TP X pins σ Q) X.xe s
theorem PW.pt{X:Cx}{e:Expr}{t:TT}(h:PW X e t):PT X e t:=h _
def PA(X:Cx)(es:List Expr)(t:TA):Prop:=
 ∀(pos:Pos) (pins:List (Addr×Obj)) (s:Shared) (σ:St) (H:Hp) (Q:List V->Hp->Prop),bx X pins σ H s->t σ H Q->wpAny (model X.prog X.w) X.A (spliced (backTo pos (starEach es X.env))) (AP X pins σ Q) X.xe s
def PS(X:Cx)(st:Stmt)(t:TS):Prop:=
 ∀(pins:List (Addr×Obj)) (s:Shared) (σ:St) (H:Hp) (D:kU),bx X pins σ H s->t D σ H->wpAny (model X.prog X.w) X.A (exec st X.env) (SP X pins D) X.xe s
def Ag(X:Cx)(st:List Stmt)(t:TS):Prop:=
 ∀(pins:List (Addr×Obj)) (s:Shared) (σ:St) (H:Hp) (D:kU),bx X pins σ H s->t D σ H->wpAny (model X.prog X.w) X.A (execs st X.env) (SP X pins D) X.xe s
theorem eF{α:Type}{t:Sem α}{Q Q':α->Shared->Prop}{M:Model}{A:Around}{E:Value->Shared->Prop}{s:Shared}(h:wpAny M A t Q E s)(hQ:∀a s,Q a s->Q' a s):wpAny M A t Q' E s:=wpAny_mono h hQ λ_ _ x=>x
section
variable{X:Cx}
def av(i:Nat):TE:=λσ H Q=>∃v,σ[i]?=some (some v)/\Q v H
def tC(v:V):TE:=λ_ H Q=>Q v H
theorem J1{i:Nat}{x:Str}{pos:Pos}(hN:X.N[i]?=some x)(hv:LL X.env.scope x)(hd:(x==("__debug__":Str))=false:=by decide)(hcd:(x==("__classdict__":Str))=false:=by decide):PE X (.Name x pos) (av i):=by
 intro pins s σ H Q I h
 obtain⟨v,e,h⟩:=h
 obtain⟨m,hn,hl⟩:=I.loc
 obtain⟨u,r,l⟩:=hl i x v hN e hv
 have fin:EP X pins σ Q u s:=⟨v,H,I,r,h⟩
 rcases l with⟨hk,hm⟩|⟨hk,c,hc,hcell⟩
 ·exact wpAny_Name (wpAny_loadName_local I.ok.kind hk hn hm fin) hd
 ·rcases hk with hk|hk
  ·exact wpAny_Name (wpAny_loadName_cell I.ok.kind hk hc hcell fin) hd
  ·exact wpAny_Name (wpAny_loadName_free I.ok.kind hk hc hcell fin hcd) hd
theorem JV{i j pos}:PE X (.Constant (.int i) j pos) (tC (.int i)):=λ_ _ _ H _ I h=>wpAny_Constant_int ⟨.int i,H,I.tok _,⟨_,rfl⟩,h⟩
theorem Ld{b j pos}:PE X (.Constant (.bool b) j pos) (tC (.bl b)):=λ_ _ _ H _ I h=>Constant_bool ⟨.bl b,H,I,rfl,h⟩
theorem JX{j pos}:PE X (.Constant .none j pos) (tC .non):=λ_ _ _ H _ I h=>Constant_none ⟨.non,H,I,rfl,h⟩
theorem JZ{x j pos}:PE X (.Constant (.str x) j pos) (tC (.str x)):=λ_ _ _ H _ I h=>Calls.Constant_str ⟨.str x,H,I.tok _,⟨_,rfl⟩,h⟩
def Gl(X:Cx)(x:Str):Prop:=X.env.kindOf x=some .globalImplicit
theorem G7{E:Value->Shared->Prop}{pins:List (Addr×Obj)}{s:Shared}{σ:St}{H:Hp}{x:Str}{u:Value}{pos:Pos}{Q:Value->Shared->Prop}(I:bx X pins σ H s)(hg:Gl X x)(hm:X.mg x=some u)(h:Q u s)
  (hd:(x==("__debug__":Str))=false:=by decide):wpAny (model X.prog X.w) X.A (eval (.Name x pos) X.env) Q E s:=
 Calls.Name_function_global I.ok.kind hg (Calls.loadGlobal_global (by rw[I.ok.glob];exact I.mod.glob.keeps I.bk) hm h) hd
theorem iF{E:Value->Shared->Prop}{pins:List (Addr×Obj)}{s:Shared}{σ:St}{H:Hp}{x:Str}{u:Value}{pos:Pos}{Q:Value->Shared->Prop}(I:bx X pins σ H s)(hg:Gl X x)(hm:X.mg x=none)(hv:bootBuiltins x=some u)(h:Q u s)
  (hn:x≠"__name__":=by decide) (hd:(x==("__debug__":Str))=false:=by decide):wpAny (model X.prog X.w) X.A (eval (.Name x pos) X.env) Q E s:=by
 obtain⟨mb,h1,h2⟩:=I.mod.blt
 exact Calls.Name_function_global I.ok.kind hg (Calls.loadGlobal_builtin (by rw[I.ok.glob];exact I.mod.glob.keeps I.bk) hm (by rw[I.ok.blt];exact h1.keeps I.bk) ((h2 x hn).trans hv) h) hd
variable{a b:Expr}{ta tb:TE}{pos:Pos}
def tB(t:TE):TT:=λσ H Q=>t σ H λx H1=>∃c,x=.bl c/\Q c H1
theorem Kb{e:Expr}{t:TE}(h:PE X e t)(he:∀whole,isTrue e X.env whole=(do let v <-whole;standAt e.pos;holding [v] (truthy v)):=by intro _;rfl):PT X e (tB t):=by
 intro pins s σ H Q I hw
 refine isTrue_plain (eF (h pins s σ H _ I hw) λv s1 ⟨x,H1,I1,r1,q1⟩=>?_) (he _)
 obtain⟨d,rfl,q⟩:=q1
 cases r1
 exact wpAny_truthy_bool ⟨H1,I1,q⟩
variable{tA tB':TT}{rest:List Expr}
def zi(t u:TT):TT:=λσ H Q=>t σ H λc H1=>if c=true then u σ H1 Q else Q false H1
def LA(t u:TT):TT:=λσ H Q=>t σ H λc H1=>if c=true then Q true H1 else u σ H1 Q
def Iw(t:TT):TT:=λσ H Q=>t σ H λc H1=>Q (!c) H1
theorem HQ(ha:PT X a tA):PW X (.BoolOp .And [a] pos) tA:=by
 intro wh pins s σ H Q I h
 refine isTrue_and (eF (ha pins s σ H Q I h) λc s1 e=>?_)
 cases c with
 |true=>exact isTrue_and_nil e
 |false=>exact e
theorem Ke(ha:PT X a tA):PW X (.BoolOp .Or [a] pos) tA:=by
 intro wh pins s σ H Q I h
 refine isTrue_or (eF (ha pins s σ H Q I h) λc s1 e=>?_)
 cases c with
 |false=>exact isTrue_or_nil e
 |true=>exact e
theorem Kd(ha:PT X a tA)(hb:PW X (.BoolOp .And (b::rest) pos) tB'):PW X (.BoolOp .And (a::b::rest) pos) (zi tA tB'):=by
 intro wh pins s σ H Q I h
 refine isTrue_and (eF (ha pins s σ H _ I h) λc s1 ⟨H1,I1,q1⟩=>?_)
 cases c with
 |true=>exact hb wh pins s1 σ H1 Q I1 q1
 |false=>exact⟨H1,I1,q1⟩
theorem Ll(ha:PT X a tA)(hb:PW X (.BoolOp .Or (b::rest) pos) tB'):PW X (.BoolOp .Or (a::b::rest) pos) (LA tA tB'):=by
 intro wh pins s σ H Q I h
 refine isTrue_or (eF (ha pins s σ H _ I h) λc s1 ⟨H1,I1,q1⟩=>?_)
 cases c with
 |true=>exact⟨H1,I1,q1⟩
 |false=>exact hb wh pins s1 σ H1 Q I1 q1
theorem Ka(ha:PT X a tA):PT X (.UnaryOp .Not a pos) (Iw tA):=by
 intro pins s σ H Q I h
 exact isTrue_not (ha pins s σ H (λc H1=>Q (!c) H1) I h)
def Ku(ta tb:TE):TE:=λσ H Q=>ta σ H λx H1=>∃c,x=.bl c/\if c=true then Q (.bl true) H1 else tb σ H1 Q
theorem JY{op}{t:TE}(h:PE X a t):PE X (.BoolOp op [a] pos) t:=λpins s σ H Q I hw=>BoolOp_one (h pins s σ H Q I hw)
theorem Li(ha:PE X a ta)(hb:PE X (.BoolOp .Or (b::rest) pos) tb):PE X (.BoolOp .Or (a::b::rest) pos) (Ku ta tb):=by
 intro pins s σ H Q I h
 refine BoolOp_or (eF (ha pins s σ H _ I h) λv s1 ⟨x,H1,I1,r1,q1⟩=>?_)
 obtain⟨c,rfl,q1⟩:=q1
 cases r1
 refine wpAny_truthy_bool ?_
 cases c with
 |false=>exact hb pins s1 σ H1 Q I1 q1
 |true=>exact⟨.bl true,H1,I1,rfl,q1⟩
def LM(t:TT)(ta tb:TE):TE:=λσ H Q=>t σ H λc H1=>if c=true then ta σ H1 Q else tb σ H1 Q
theorem Fd{c:Expr}(hc:PT X c tA)(ha:PE X a ta)(hb:PE X b tb):PE X (.IfExp c a b pos) (LM tA ta tb):=by
 intro pins s σ H Q I h
 refine wpAny_IfExp (eF (hc pins s σ H _ I h) λd s1 ⟨H1,I1,q1⟩=>?_)
 cases d with
 |true=>exact ha pins s1 σ H1 Q I1 q1
 |false=>exact hb pins s1 σ H1 Q I1 q1
end
def cq(K:Fg)(H:Hp)(a:Addr)(xs:List V):Prop:=
 Rd H a (.lst xs)\/
  ∃(o:Obj) (its:Array Value) (n:Nat),K.lookup a=some o/\o.cls=.type "list"/\o.dict=none/\o.data=.seq its n/\its.size<=sizeLine/\bV xs its.toList
def cE(K:Fg)(H:Hp)(a:Addr)(xs:List V):Prop:=
 Rd H a (.tup xs)\/
  ∃(o:Obj) (its:Array Value) (n:Nat),K.lookup a=some o/\o.cls=.type "tuple"/\o.data=.seq its n/\its.size<=sizeLine/\bV xs its.toList
def LU:Value->Option V
 |.none=>some .non
 |.bool b=>some (.bl b)
 |.int i _=>some (.int i)
 |.str x _=>some (.str x)
 |.bytes b _=>some (.byt b)
 |.float b _=>some (.flt b)
 |.ref a=>some (.ref a)
 |.type n=>some (.ty n)
 |_=>none
theorem cA.abs{x:V}{u:Value}(r:cA x u):LU u=some x:=by
 cases x with
 |non=>cases r;rfl
 |bl _=>cases r;rfl
 |int _=>obtain⟨t,rfl⟩:=r;rfl
 |str _=>obtain⟨t,rfl⟩:=r;rfl
 |byt _=>obtain⟨t,rfl⟩:=r;rfl
 |flt _=>obtain⟨t,rfl⟩:=r;rfl
 |ref _=>cases r;rfl
 |ty _=>cases r;rfl
theorem cA.inj{x y:V}{u:Value}(r:cA x u)(q:cA y u):x=y:=Option.some.inj (r.abs.symm.trans q.abs)
theorem bV.inj:∀{xs ys:List V} {us:List Value},bV xs us->bV ys us->xs=ys
 |_,_,_,.nil,.nil=>rfl
 |_,_,_,.cons r t,.cons r' t'=>by rw[r.inj r',bV.inj t t']
section
variable{X:Cx}{pins:List (Addr×Obj)}{σ:St}{H:Hp}{s:Shared}{a:Addr}{xs ys:List V}
theorem cq.of{K:Fg}(h:H a=some (.lst xs)):cq K H a xs:=.inl (.inl h)
theorem cE.of{K:Fg}(h:H a=some (.tup xs)):cE K H a xs:=.inl (.inl h)
theorem bx.list(I:bx X pins σ H s)(h:cq X.K H a xs):∃its:List Value,bV xs its/\PlainL s.heap a its.toArray/\xs.length<=sizeLine:=by
 rcases h with h|⟨o,its,n,hk,hc,hd,hs,hz,r⟩
 ·obtain⟨z,its,n,r,e⟩:=h.ok I.hok
  exact⟨its,r,⟨_,n,e,rfl,rfl,rfl⟩,z⟩
 ·refine⟨its.toList,r,⟨o,n,I.kIn a o hk,hc,hd,by simpa using hs⟩,?_⟩
  have e:=r.length
  simp only[bF] at e
  lia
theorem bx.tuple(I:bx X pins σ H s)(h:cE X.K H a xs):∃its:List Value,bV xs its/\IsTup s.heap a its.toArray/\xs.length<=sizeLine:=by
 rcases h with h|⟨o,its,n,hk,hc,hs,hz,r⟩
 ·obtain⟨z,its,r,p⟩:=h.ok I.hok
  exact⟨its,r,p.tup,z⟩
 ·refine⟨its.toList,r,⟨o,I.kIn a o hk,hc,n,by simpa using hs⟩,?_⟩
  have e:=r.length
  simp only[bF] at e
  lia
theorem bx.list_inj(I:bx X pins σ H s)(h:cq X.K H a xs)(h':cq X.K H a ys):xs=ys:=by
 obtain⟨its,r,⟨o,n,e,_,_,d⟩,_⟩:=I.list h
 obtain⟨its',r',⟨o',n',e',_,_,d'⟩,_⟩:=I.list h'
 rw[e] at e';cases e'
 rw[d] at d'
 injection d' with d1 _
 have:its=its':=by simpa using congrArg Array.toList d1
 subst this
 exact r.inj r'
theorem bx.tuple_inj(I:bx X pins σ H s)(h:cE X.K H a xs)(h':cE X.K H a ys):xs=ys:=by
 obtain⟨its,r,⟨o,e,_,n,d⟩,_⟩:=I.tuple h
 obtain⟨its',r',⟨o',e',_,n',d'⟩,_⟩:=I.tuple h'
 rw[e] at e';cases e'
 rw[d] at d'
 injection d' with d1 _
 have:its=its':=by simpa using congrArg Array.toList d1
 subst this
 exact r.inj r'
end
abbrev Cx.wish(X:Cx)(E:Value->Shared->Prop):Cx:={X with xe:=E}
abbrev Cx.nox(X:Cx):Cx:=X.wish λ_ _=>False
theorem Cx.Ok.wish{X:Cx}(ok:X.Ok)(E:Value->Shared->Prop):(X.wish E).Ok:=
 ⟨ok.mod,ok.kind,ok.glob,ok.blt,ok.above,ok.inj,ok.has,ok.cab,ok.hd,ok.frames,ok.stk,ok.exf,ok.bs,ok.bsz,ok.noex,ok.exfs,ok.funs,ok.frf⟩
theorem Cx.Ok.unwish{X:Cx}{E:Value->Shared->Prop}(ok:(X.wish E).Ok):X.Ok:=
 ⟨ok.mod,ok.kind,ok.glob,ok.blt,ok.above,ok.inj,ok.has,ok.cab,ok.hd,ok.frames,ok.stk,ok.exf,ok.bs,ok.bsz,ok.noex,ok.exfs,ok.funs,ok.frf⟩
section
variable{X:Cx}{pins:List (Addr×Obj)}{σ:St}{H:Hp}{s:Shared}{E:Value->Shared->Prop}
theorem bx.wish(I:bx X pins σ H s)(E:Value->Shared->Prop):bx (X.wish E) pins σ H s:=⟨I.ok.wish E,I.os,I.bare,I.base,I.loc,I.cell,I.free,I.freeC,I.pin,I.hok,I.len⟩
theorem bx.unwish(I:bx (X.wish E) pins σ H s):bx X pins σ H s:=⟨I.ok.unwish,I.os,I.bare,I.base,I.loc,I.cell,I.free,I.freeC,I.pin,I.hok,I.len⟩
theorem SP.unwish{D:kU}{f:Flow}{s':Shared}(h:SP (X.wish E) pins D f s'):SP X pins D f s':=by
 cases f with
 |next=>obtain⟨σ',H',I,q⟩:=h;exact⟨σ',H',I.unwish,q⟩
 |brk=>obtain⟨σ',H',I,q⟩:=h;exact⟨σ',H',I.unwish,q⟩
 |cont=>obtain⟨σ',H',I,q⟩:=h;exact⟨σ',H',I.unwish,q⟩
 |ret u=>obtain⟨v,σ',H',I,r,q⟩:=h;exact⟨v,σ',H',I.unwish,r,q⟩
theorem Ag.nox{st:List Stmt}{t:TS}(h:Ag X.nox st t):Ag X st t:=λpins s σ H D I hw=>
 wpAny_mono (h pins s σ H D (I.wish _) hw) (λ_ _ q=>q.unwish) λ_ _ z=>False.elim z
end
section
variable{X:Cx}{st:Stmt}{rest:List Stmt}{t u:TS}{e:Expr}{te:TE}{pos:Pos}
def d6:TS:=λD σ H=>D.nx σ H
def bB(t u:TS):TS:=λD σ H=>t {D with nx:=u D} σ H
theorem HM:Ag X [] d6:=λ_ _ σ H _ I h=>wpAny_execs_nil ⟨σ,H,I,h⟩
theorem Fk(h1:PS X st t)(h2:Ag X rest u):Ag X (st::rest) (bB t u):=by
 intro pins s σ H D I h
 refine wpAny_execs_cons (eF (h1 pins s σ H {D with nx:=u D} I h) λf s1 q=>?_)
 cases f with
 |next=>
  obtain⟨σ',H',I',q⟩:=q
  exact h2 pins s1 σ' H' D I' q
 |ret v=>exact q
 |brk=>exact q
 |cont=>exact q
theorem HN(h1:PS X st t):Ag X [st] t:=by
 intro pins s σ H D I h
 refine wpAny_execs_cons (eF (h1 pins s σ H D I h) λf s1 q=>?_)
 cases f with
 |next=>exact wpAny_execs_nil q
 |ret v=>exact q
 |brk=>exact q
 |cont=>exact q
theorem bx.quiet{pins:List (Addr×Obj)}{σ:St}{H:Hp}{s:Shared}(I:bx X pins σ H s):interactive X.env=false:=by simp[interactive,I.ok.kind]
def gq(te:TE):TS:=λD σ H=>te σ H λ_ H1=>D.nx σ H1
theorem HL(he:PE X e te)(hs:swapsWith e none pos.line X.env=pure false:=by rfl):PS X (.Expr e pos) (gq te):=by
 intro pins s σ H D I h
 exact wpAny_Expr_any (eF (he pins s σ H _ I h) λv s1 ⟨x,H1,I1,r1,q1⟩=>⟨σ,H1,I1,q1⟩) I.quiet hs
def c9(te:TE):TS:=λD σ H=>te σ H D.rt
theorem J8(he:PE X e te):PS X (.Return (some e) pos) (c9 te):=by
 intro pins s σ H D I h
 exact wpAny_Return_some (eF (he pins s σ H _ I h) λv s1 ⟨x,H1,I1,r1,q1⟩=>⟨x,σ,H1,I1,r1,q1⟩)
def fZ(c:TT)(t u:TS):TS:=λD σ H=>c σ H λb H1=>if b=true then t D σ H1 else u D σ H1
theorem Lk{c:Expr}{a b:List Stmt}{tc:TT}(hc:PT X c tc)(ha:Ag X a t)(hb:Ag X b u):PS X (.If c a b pos) (fZ tc t u):=by
 intro pins s σ H D I h
 refine wpAny_If (eF (hc pins s σ H _ I h) λd s1 ⟨H1,I1,q1⟩=>?_)
 cases d with
 |true=>exact ha pins s1 σ H1 D I1 q1
 |false=>exact hb pins s1 σ H1 D I1 q1
end
abbrev TG:=V->St->Hp->(St->Hp->Prop)->Prop
abbrev CJ:=List V->St->Hp->(St->Hp->Prop)->Prop
def PG(X:Cx)(target:Expr)(t:TG):Prop:=
 ∀(pins:List (Addr×Obj)) (s:Shared) (σ:St) (H:Hp) (v:V) (u:Value) (Q:St->Hp->Prop),bx X pins σ H s->cA v u->t v σ H Q->
  wpAny (model X.prog X.w) X.A (assign target X.env u) (λ_ s'=>∃σ' H',bx X pins σ' H' s'/\Q σ' H') X.xe s
def Ky(X:Cx)(ts:List Expr)(t:CJ):Prop:=
 ∀(pins:List (Addr×Obj)) (s:Shared) (σ:St) (H:Hp) (vs:List V) (us:List Value) (Q:St->Hp->Prop),bx X pins σ H s->bV vs us->t vs σ H Q->
  wpAny (model X.prog X.w) X.A (assignInOrder ((assignEach ts X.env).map (·.2)) us) (λ_ s'=>∃σ' H',bx X pins σ' H' s'/\Q σ' H') X.xe s
abbrev GK:=V->V->V->Hp->(Hp->Prop)->Prop
def GI(X:Cx)(t:GK):Prop:=
 ∀(pins:List (Addr×Obj)) (s:Shared) (σ:St) (H:Hp) (o i v:V) (ov iv u:Value) (Q:Hp->Prop),bx X pins σ H s->cA o ov->cA i iv->cA v u->t o i v H Q->
  wpAny (model X.prog X.w) X.A (setItem ov iv u) (λ_ s'=>∃H',bx X pins σ H' s'/\Q H') X.xe s
section
variable{X:Cx}{pos:Pos}
def aQ(i:Nat):TG:=λv σ H Q=>Q (σ.set i (some v)) H
theorem Hw{i:Nat}{x:Str}(hN:X.N.Nodup)(hi:X.N[i]?=some x)(hx:DX X.env.scope x)(hf:X.fn x=true\/X.env.scope.names.lookup x=some .local:=by first|exact .inl rfl|exact .inr rfl|assumption):PG X (.Name x pos) (aQ i):=by
 intro pins s σ H v u Q I r h
 exact wpAny_assign_Name (zg I hN hi hx r (λs' I'=>⟨_,H,I',h⟩) hf)
def qY:CJ:=λvs σ H Q=>vs=[]/\Q σ H
def fE(t:TG)(u:CJ):CJ:=λvs σ H Q=>∃v r,vs=v::r/\t v σ H λσ' H'=>u r σ' H' Q
theorem Hy:Ky X [] qY:=by
 intro pins s σ H vs us Q I r h
 obtain⟨e,h⟩:=h
 subst e
 cases r
 exact assignInOrder_nil ⟨σ,H,I,h⟩
theorem Ff{e:Expr}{es:List Expr}{t:TG}{u:CJ}(h1:PG X e t)(h2:Ky X es u)
  (hs:(assignEach (e::es) X.env).map (·.2)=assign e X.env::(assignEach es X.env).map (·.2):=by rfl):Ky X (e::es) (fE t u):=by
 intro pins s σ H vs us Q I r h
 obtain⟨v,vr,e1,h⟩:=h
 subst e1
 cases r with
 |cons r rr=>
  rw[hs]
  refine assignInOrder_cons (eF (h1 pins s σ H _ _ _ I r h) λ_ s1 ⟨σ1,H1,I1,q1⟩=>?_)
  exact h2 pins s1 σ1 H1 _ _ Q I1 rr q1
def sA(K:Fg)(n:Nat)(t:CJ):TG:=λv σ H Q=>∃a xs,v=.ref a/\cE K H a xs/\xs.length=n/\t xs σ H Q
theorem J3{es:List Expr}{k:Nat}{t:CJ}{n:Nat}(hc:X.calm=true)(h:Ky X es t)
  (hn:(assignEach es X.env).length=n:=by rfl) (hst:(assignEach es X.env).findIdx? (·.1)=none:=by rfl):PG X (.Tuple es k pos) (sA X.K n t):=by
 intro pins s σ H v u Q I r hw
 obtain⟨a,xs,e1,hq,hl,hw⟩:=hw
 subst e1
 cases r
 obtain⟨its,rv,ht,hz⟩:=I.tuple hq
 refine assign_Tuple_tuple (I.ok.hd hc) ht (by simp[hn,<-hl,rv.length]) hst λh' hx=>?_
 have I1:bx X pins σ H {s with heap:=h'}:=I.kept (t':=s.toks) λb o e=>hx b o (aL (aD e)) e
 exact h pins _ σ H xs _ Q I1 (by simpa using rv) hw
def yw(to ti:TE)(t:GK):TG:=λv σ H Q=>to σ H λo H1=>ti σ H1 λi H2=>t o i v H2 λH3=>Q σ H3
theorem J2{o i:Expr}{to ti:TE}{t:GK}(ho:PE X o to)(hi:PE X i ti)(hs:GI X t)
  (ha:∀v,assign (.Subscript o i pos) X.env v=(do
   let ov <-holding [v] (eval o X.env)
   let iv <-holding [v,ov] (eval i X.env)
   standAt pos
   holding [v,ov,iv] (setItem ov iv v)
   release [v,ov,iv] []):=by intro _;rfl):PG X (.Subscript o i pos) (yw to ti t):=by
 intro pins s σ H v u Q I r h
 rw[ha]
 refine wpAny_bind (wpAny_holding (eF (ho pins s σ H _ I h) λov s1 ⟨x,H1,I1,r1,q1⟩=>?_))
 refine wpAny_bind (wpAny_holding (eF (hi pins s1 σ H1 _ I1 q1) λiv s2 ⟨y,H2,I2,r2,q2⟩=>?_))
 refine wpAny_bind (wpAny_standAt (wpAny_bind (wpAny_holding (eF (hs pins s2 σ H2 x y v ov iv u _ I2 r1 r2 r q2) λ_ s3 ⟨H3,I3,q3⟩=>?_))))
 exact wpAny_release ⟨σ,H3,I3,q3⟩
def bU(te:TE)(g:TG):TS:=λD σ H=>te σ H λx H1=>g x σ H1 D.nx
theorem J6{tg e:Expr}{te:TE}{g:TG}(he:PE X e te)(hg:PG X tg g)(hs:swapsWithSole [tg] e pos.line X.env=pure false:=by rfl)(hw:swappedStores [tg] e X.env=pure none:=by rfl)
  (h1:(assignEach [tg] X.env).map (·.2)=[assign tg X.env]:=by rfl):PS X (.Assign [tg] e pos) (bU te g):=by
 intro pins s σ H D I h
 refine wpAny_Assign_stores (eF (he pins s σ H _ I h) λv s1 ⟨x,H1,I1,r1,q1⟩=>?_) hs hw
 rw[h1]
 exact eF (hg pins s1 σ H1 x v _ I1 r1 q1) λ_ s2 q=>q
theorem J9{i:Nat}{x:Str}{e:Expr}{te:TE}{pos':Pos}(hN:X.N.Nodup)(hi:X.N[i]?=some x)(hx:DX X.env.scope x)(he:PE X e te)(hs:swapsWith e (some (.Name x pos')) pos.line X.env=pure false:=by rfl)(hf:X.fn x=true\/X.env.scope.names.lookup x=some .local:=by first|exact .inl rfl|exact .inr rfl|assumption) :
  PS X (.Assign [.Name x pos'] e pos) (bU te (aQ i)):=by
 intro pins s σ H D I h
 refine wpAny_Assign_Name (eF (he pins s σ H _ I h) λv s1 ⟨y,H1,I1,r1,q1⟩=>?_) hs
 exact zg I1 hN hi hx r1 (λs2 I2=>⟨_,H1,I2,q1⟩) hf
end
section
variable{X:Cx}{pos:Pos}
def lT(c:TT)(tb:TS):TS:=λD σ H=>∃W:Nat->St->Hp->Prop,(∃m,W m σ H)/\∀m σ H,W m σ H->
 c σ H λb H1=>if b=true then ∃N:St->Hp->Prop,(∀σ' H',N σ' H'->∃m',m'<m/\W m' σ' H')/\tb {D with nx:=N,ct:=N,bk:=D.nx} σ H1 else D.nx σ H1
theorem Fj{c:Expr}{body:List Stmt}{tc:TT}{tb:TS}(hp:PassesOwn (model X.prog X.w) X.A X.env X.xe)(hc:PT X c tc)(hb:Ag X body tb):PS X (.While c body [] pos) (lT tc tb):=by
 intro pins s σ H D I h
 obtain⟨W,⟨m0,w0⟩,turn⟩:=h
 refine wpAny_While (codeAny_whileLoop (λn s'=>∃σ' H',bx X pins σ' H' s'/\W n σ' H') ?_ m0 ⟨σ,H,I,w0⟩)
 rintro n s1 ⟨σ1,H1,I1,w1⟩
 refine wpAny_passesOwn hp (eF (hc pins s1 σ1 H1 _ I1 (turn n σ1 H1 w1)) λb s2 ⟨H2,I2,q2⟩=>?_)
 cases b with
 |true=>
  obtain⟨N,hN,q2⟩:=q2
  rw[if_pos rfl]
  refine wpAny_passesOwn hp (eF (hb pins s2 σ1 H2 _ I2 q2) λf s3 q3=>?_)
  cases f with
  |next=>
   obtain⟨σ3,H3,I3,n3⟩:=q3
   obtain⟨m',hm,w3⟩:=hN σ3 H3 n3
   exact⟨m',hm,σ3,H3,I3,w3⟩
  |cont=>
   obtain⟨σ3,H3,I3,n3⟩:=q3
   obtain⟨m',hm,w3⟩:=hN σ3 H3 n3
   exact⟨m',hm,σ3,H3,I3,w3⟩
  |brk=>exact q3
  |ret v=>exact q3
 |false=>
  rw[if_neg Bool.false_ne_true]
  exact wpAny_execs_nil ⟨σ1,H2,I2,q2⟩
end
structure It where
 go:Nat->Hp->Prop
 yld:Nat->Hp->V->Hp->Prop
 stop:Nat->Hp->Prop
def nQ(X:Cx)(pins:List (Addr×Obj))(H:Hp)(b:Addr):Prop:=
 H b=none/\b≠X.env.locals/\b∉X.fs/\(b∈X.ex\/X.s₀.heap.objs.size<=b)/\(∀x c,X.env.cells.lookup x=some c->c≠b)/\∀p∈X.pn++pins,p.1≠b
theorem bx.fpOk{X:Cx}{pins:List (Addr×Obj)}{σ:St}{H H':Hp}{s:Shared}{b:Addr}(I:bx X pins σ H s)(hb:s.heap.objs.size<=b)(hn:H' b=none):nQ X pins H' b:=by
 refine⟨hn,cJ (a7 I.lt hb),I.nofs hb,.inr (a8 I.sz hb),λx c e z=>?_,λp hp z=>?_⟩
 ·obtain⟨v,q⟩:=I.cell x c e
  exact absurd (a7 q.lt (by rw[z];exact hb)) (cT _)
 ·exact absurd (a7 (aD (I.pin p hp).1) (by rw[z];exact hb)) (cT _)
structure qW(P:Program)(w:World)(K:Fg)(tg:Expr)(J:It)(fp:List Addr)(it:Addr)(tn:Nat->Heap->Prop):Prop where
 mem:it∈fp
 obj:∀i h,tn i h->∀b∈fp,∃o,h.get? b=some o/\∀v,o.data≠.cell v
 keep:∀i h h',tn i h->(∀b∈fp,∀o,h.get? b=some o->h'.get? b=some o)->tn i h'
 item:∀(X:Cx),X.prog=P->X.w=w->X.K=K->X.calm=true->∀(i:Nat) (pins:List (Addr×Obj)) (s:Shared) (σ:St) (H:Hp) (E:Value->Shared->Prop),bx X pins σ H s->(∀b∈fp,nQ X pins H b)->tn i s.heap->J.go i H->
  wpAny (model P w) X.A (pyNext (.ref it)) (λr s1=>∃u,r=some u/\
   wpAny (model P w) X.A (letOwnedTupleGo tg (.ref it) u) (λ_ s2=>∃x H',bx X pins σ H' s2/\cA x u/\J.yld i H x H'/\tn (i+1) s2.heap/\∀b∈fp,H' b=none) E s1) E s
 done:∀(X:Cx),X.prog=P->X.w=w->X.K=K->X.calm=true->∀(i:Nat) (pins:List (Addr×Obj)) (s:Shared) (σ:St) (H:Hp) (E:Value->Shared->Prop),bx X pins σ H s->(∀b∈fp,nQ X pins H b)->tn i s.heap->J.stop i H->
  wpAny (model P w) X.A (pyNext (.ref it)) (λr s1=>r=none/\bx X pins σ H s1) E s
 self:∀(A:Around) (i:Nat) (s:Shared) (Q:Value->Shared->Prop) (E:Value->Shared->Prop),tn i s.heap->Q (.ref it) s->wpAny (model P w) A (pyIter (.ref it)) Q E s
abbrev TI:=St->Hp->(It->Hp->Prop)->Prop
def L3(X:Cx)(pins:List (Addr×Obj))(σ:St)(tg:Expr)(R:It->Hp->Prop)(itv:Value)(s2:Shared):Prop:=
 ∃(it:Addr) (fp:List Addr) (tn:Nat->Heap->Prop) (J:It) (H':Hp),itv=.ref it/\bx X pins σ H' s2/\qW X.prog X.w X.K tg J fp it tn/\tn 0 s2.heap/\(∀b∈fp,nQ X pins H' b)/\R J H'
def PI(X:Cx)(tg iter:Expr)(wi:TI):Prop:=
 ∀(pins:List (Addr×Obj)) (s:Shared) (σ:St) (H:Hp) (R:It->Hp->Prop),bx X pins σ H s->wi σ H R->
  wpAny (model X.prog X.w) X.A (eval iter X.env) (λv s1=>wpAny (model X.prog X.w) X.A (pyIter v) (L3 X pins σ tg R) X.xe s1) X.xe s
theorem vj{M:Model}{A:Around}{E:Value->Shared->Prop}{s:Shared}{tg:Expr}{it:Addr}{u:Value}{o:Obj}{n:String}{vs:Array Value}{Q:Unit->Shared->Prop}(ho:s.heap.get? it=some o)(hc:o.cls=.type n)(hd:o.data=.fields vs)
  (hn:["enumerate","zip","dict_itemiterator","dict_reverseitemiterator","odict_iterator","itertools.zip_longest","itertools.pairwise"].contains n=false) (hQ:Q () s):wpAny M A (letOwnedTupleGo tg (.ref it) u) Q E s:=by
 unfold letOwnedTupleGo
 cases tg<;>first
  |exact wpAny_pure hQ
  |(cases u<;>first
    |exact wpAny_pure hQ
    |(refine wpAny_bind (wpAny_load ho ?_)
      rw[hc,hd]
      show wpAny M A (if(["enumerate","zip","dict_itemiterator","dict_reverseitemiterator","odict_iterator","itertools.zip_longest","itertools.pairwise"].contains n&&vs[0]?==some (rawInt _))=true then _ else _) Q E s
      rw[if_neg (by intro h;rw[hn,Bool.false_and] at h;cases h)]
      exact wpAny_pure hQ))
def ID(K:Fg)(a:Addr):It:=
 ⟨λi H=>∃xs x,cq K H a xs/\xs[i]?=some x,λi H x H'=>H'=H/\∀xs,cq K H a xs->xs[i]?=some x,λi H=>∃xs,cq K H a xs/\xs.length<=i⟩
def IE(K:Fg)(a:Addr):It:=
 ⟨λi H=>∃xs x,cE K H a xs/\xs[i]?=some x,λi H x H'=>H'=H/\∀xs,cE K H a xs->xs[i]?=some x,λi H=>∃xs,cE K H a xs/\xs.length<=i⟩
def Gy(lo:Int)(n:Nat):It:=⟨λi _=>i<n,λi H x H'=>H'=H/\x=.int (lo+i),λi _=>n<=i⟩
theorem DC{P:Program}{w:World}{K:Fg}{tg:Expr}(a it:Addr):qW P w K tg (ID K a) [it] it (λi h=>h.IsListIter it a i) where
 mem:=by simp
 obj:=λi h st b hb=>by
  have e:b=it:=by simpa using hb
  subst e
  obtain⟨o,e,c,d⟩:=st
  exact⟨o,e,λv z=>by rw[d] at z;cases z⟩
 keep:=λi h h' st k=>st.at λo e=>k it (by simp) o e
 item:=by
  intro X hP hw hK hc i pins s σ H E I hf st hg
  subst hP hw hK
  obtain⟨xs,x,hq,hx⟩:=hg
  obtain⟨its,rv,p,hz⟩:=I.list hq
  obtain⟨u,hu,ru⟩:=rv.get hx
  obtain⟨f0,f1,f2,f3,f4,f5⟩:=hf it (by simp)
  refine wpAny_pyNext_list_item st p.isList (x:=u) (by simpa using hu) λh' st' sb=>?_
  have I1:bx X pins σ H {s with heap:=h'}:=I.turned (t':=s.toks) (λb o hb e=>(sb.2 b hb).trans e) f0 f1 f3 f4 f5
  obtain⟨o,e,c,d⟩:=id st'
  exact⟨u,rfl,vj (s:={s with heap:=h'}) e c d (by decide) ⟨x,H,I1,ru,⟨rfl,λys hy=>by rw[I.list_inj hy hq];exact hx⟩,st',λb hb=>(hf b hb).1⟩⟩
 done:=by
  intro X hP hw hK hc i pins s σ H E I hf st hg
  subst hP hw hK
  obtain⟨xs,hq,hx⟩:=hg
  obtain⟨its,rv,p,hz⟩:=I.list hq
  obtain⟨f0,f1,f2,f3,f4,f5⟩:=hf it (by simp)
  have hl:=rv.length
  exact wpAny_pyNext_list_end (I.ok.hd hc) st p.isList (by simp;lia) λh' eb=>⟨rfl,I.turned (t':=s.toks) (λb o hb e=>eb b o hb e) f0 f1 f3 f4 f5⟩
 self:=λ_ _ _ _ _ st h=>wpAny_pyIter_listiter st h
theorem Bq{P:Program}{w:World}{K:Fg}{tg:Expr}(a it:Addr):qW P w K tg (IE K a) [it] it (λi h=>h.IsTupleIter it a i) where
 mem:=by simp
 obj:=λi h st b hb=>by
  have e:b=it:=by simpa using hb
  subst e
  obtain⟨o,e,c,d⟩:=st
  exact⟨o,e,λv z=>by rw[d] at z;cases z⟩
 keep:=λi h h' st k=>st.at λo e=>k it (by simp) o e
 item:=by
  intro X hP hw hK hc i pins s σ H E I hf st hg
  subst hP hw hK
  obtain⟨xs,x,hq,hx⟩:=hg
  obtain⟨its,rv,p,hz⟩:=I.tuple hq
  obtain⟨u,hu,ru⟩:=rv.get hx
  obtain⟨f0,f1,f2,f3,f4,f5⟩:=hf it (by simp)
  refine wpAny_pyNext_tuple_item st (show s.heap.IsTuple a its.toArray from p) (x:=u) (by simpa using hu) λh' st' sb=>?_
  have I1:bx X pins σ H {s with heap:=h'}:=I.turned (t':=s.toks) (λb o hb e=>(sb.2 b hb).trans e) f0 f1 f3 f4 f5
  obtain⟨o,e,c,d⟩:=id st'
  exact⟨u,rfl,vj (s:={s with heap:=h'}) e c d (by decide) ⟨x,H,I1,ru,⟨rfl,λys hy=>by rw[I.tuple_inj hy hq];exact hx⟩,st',λb hb=>(hf b hb).1⟩⟩
 done:=by
  intro X hP hw hK hc i pins s σ H E I hf st hg
  subst hP hw hK
  obtain⟨xs,hq,hx⟩:=hg
  obtain⟨its,rv,p,hz⟩:=I.tuple hq
  obtain⟨f0,f1,f2,f3,f4,f5⟩:=hf it (by simp)
  have hl:=rv.length
  exact wpAny_pyNext_tuple_end (I.ok.hd hc) st (show s.heap.IsTuple a its.toArray from p) (by simp;lia) λh' eb=>⟨rfl,I.turned (t':=s.toks) (λb o hb e=>eb b o hb e) f0 f1 f3 f4 f5⟩
 self:=λ_ _ _ _ _ st h=>wpAny_pyIter_tupleiter st h
theorem Bp{P:Program}{w:World}{K:Fg}{tg:Expr}(it:Addr)(lo:Int)(n:Nat):qW P w K tg (Gy lo n) [it] it (λi h=>IsRangeIter h it (lo+(i:Nat)*1) ((n:Int)-(i:Nat)) 1) where
 mem:=by simp
 obj:=λi h st b hb=>by
  have e:b=it:=by simpa using hb
  subst e
  exact⟨_,st,λv z=>by
   have z':Data.fields _=Data.cell v:=z
   cases z'⟩
 keep:=λi h h' st k=>k it (by simp) _ st
 item:=by
  intro X hP hw hK hc i pins s σ H E I hf st hg
  subst hP hw hK
  obtain⟨f0,f1,f2,f3,f4,f5⟩:=hf it (by simp)
  have W:=Walks.range (prog:=X.prog) (w:=X.w) (I.ok.hd hc) it lo 1 n
  refine W.item i s _ _ hg st λv h' tk hv st' kk=>?_
  obtain⟨t,rfl⟩:=hv
  have I1:bx X pins σ H {s with heap:=h',toks:=tk}:=I.turned (λb o hb e=>kk b o (by simpa using hb) e) f0 f1 f3 f4 f5
  refine⟨_,rfl,vj (s:={s with heap:=h',toks:=tk}) (n:="range_iterator") st' rfl rfl (by decide) ⟨.int (lo+i),H,I1,⟨t,?_⟩,⟨rfl,rfl⟩,st',λb hb=>(hf b hb).1⟩⟩
  rw[Int.mul_one]
 done:=by
  intro X hP hw hK hc i pins s σ H E I hf st hg
  subst hP hw hK
  obtain⟨f0,f1,f2,f3,f4,f5⟩:=hf it (by simp)
  exact wpAny_pyNext_range_end (I.ok.hd hc) st (by have:n<=i:=hg;lia) λh' eb=>⟨rfl,I.turned (t':=s.toks) (λb o hb e=>eb b o hb e) f0 f1 f3 f4 f5⟩
 self:=λ_ _ _ _ _ st h=>wpAny_pyIter_rangeiter st h
section
variable{X:Cx}{tg:Expr}
def IG(K:Fg)(tl:TE):TI:=λσ H R=>tl σ H λx H1=>∃a,x=.ref a/\(∃xs,cq K H1 a xs)/\R (ID K a) H1
def K1(K:Fg)(tl:TE):TI:=λσ H R=>tl σ H λx H1=>∃a,x=.ref a/\(∃xs,cE K H1 a xs)/\R (IE K a) H1
theorem HB{l:Expr}{tl:TE}(hl:PE X l tl):PI X tg l (IG X.K tl):=by
 intro pins s σ H R I h
 refine eF (hl pins s σ H _ I h) λv s1 ⟨x,H1,I1,r1,q1⟩=>?_
 obtain⟨a,e,⟨xs,hq⟩,q⟩:=q1
 subst e
 cases r1
 obtain⟨its,rv,p,hz⟩:=I1.list hq
 refine wpAny_pyIter_list p.isList ?_
 refine⟨s1.heap.objs.size,[s1.heap.objs.size],_,_,H1,rfl,I1.kept (t':=s1.toks) λb o e=>ag _ e,DC a _,⟨_,ax _ rfl,rfl,rfl⟩,λb hb=>?_,q⟩
 have e:b=s1.heap.objs.size:=by simpa using hb
 subst e
 exact I1.fpOk (au _) (I1.hok.fresh (au _))
theorem J5{l:Expr}{tl:TE}(hl:PE X l tl):PI X tg l (K1 X.K tl):=by
 intro pins s σ H R I h
 refine eF (hl pins s σ H _ I h) λv s1 ⟨x,H1,I1,r1,q1⟩=>?_
 obtain⟨a,e,⟨xs,hq⟩,q⟩:=q1
 subst e
 cases r1
 obtain⟨its,rv,p,hz⟩:=I1.tuple hq
 refine wpAny_pyIter_tuple (show s1.heap.IsTuple a its.toArray from p) ?_
 refine⟨s1.heap.objs.size,[s1.heap.objs.size],_,_,H1,rfl,I1.kept (t':=s1.toks) λb o e=>ag _ e,Bq a _,⟨_,ax _ rfl,rfl,rfl⟩,λb hb=>?_,q⟩
 have e:b=s1.heap.objs.size:=by simpa using hb
 subst e
 exact I1.fpOk (au _) (I1.hok.fresh (au _))
theorem FG{pins:List (Addr×Obj)}{σ:St}{H:Hp}{s:Shared}{R:It->Hp->Prop}{E:Value->Shared->Prop}{lo hi:Int}{t u v:Tok}{tk:Nat}(I:bx X pins σ H s)(h1:-(2 ^ 62)<=lo)(h2:lo<2 ^ 62)(h3:-(2 ^ 62)<=hi)(h4:hi<2 ^ 62)
  (q:R (Gy lo (hi-lo).toNat) H):wpAny (model X.prog X.w) X.A (pyIter (.ref s.heap.objs.size)) (L3 X pins σ tg R) E {s with heap:=s.heap.push {cls:=.type "range",data:=.fields #[.int lo t,.int hi u,.int 1 v]},toks:=tk}:=by
 refine wpAny_pyIter_range (IsRange.new ..) (small_one h1 h2 h3 h4) ?_
 have I1:bx X pins σ H {s with heap:=s.heap.push {cls:=.type "range",data:=.fields #[.int lo t,.int hi u,.int 1 v]},toks:=tk}:=I.kept λb o e=>ag _ e
 refine⟨(s.heap.push {cls:=.type "range",data:=.fields #[.int lo t,.int hi u,.int 1 v]}).objs.size,[(s.heap.push {cls:=.type "range",data:=.fields #[.int lo t,.int hi u,.int 1 v]}).objs.size],_,_,H,rfl,
  I1.kept (t':=tk) λb o e=>ag _ e,Bp _ lo (hi-lo).toNat,?_,λb hb=>?_,q⟩
 ·have e1:lo+((0:Nat):Int)*1=lo:=by simp
  have e2:(((hi-lo).toNat:Nat):Int)-((0:Nat):Int)=Builtin.Range.rangeSize lo hi 1:=by rw[rangeSize_one];split<;>lia
  show IsRangeIter _ _ (lo+((0:Nat):Int)*1) ((((hi-lo).toNat:Nat):Int)-((0:Nat):Int)) 1
  rw[e1,e2]
  exact ax _ rfl
 ·have e:b=(s.heap.push {cls:=.type "range",data:=.fields #[.int lo t,.int hi u,.int 1 v]}).objs.size:=by simpa using hb
  subst e
  exact I1.fpOk (au _) (I1.hok.fresh (au _))
def lB(ta:TA):TI:=λσ H R=>ta σ H λvs H1=>∃j:Int,vs=[.int j]/\-(2 ^ 62)<=j/\j<2 ^ 62/\R (Gy 0 j.toNat) H1
theorem C6{a:Expr}{ta:TA}{p pos:Pos}(hg:Gl X "range")(hm:X.mg "range"=none)(ha:PA X [a] ta)(hs:starEach [a] X.env=[(false,eval a X.env)]:=by rfl):PI X tg (.Call (.Name "range" p) [a] [] pos) (lB ta):=by
 intro pins s σ H R I h
 refine Call_ (iF I hg hm boot_range (bo (eF (ha pos pins s σ H _ I h) λus s1 ⟨vs,H1,I1,r1,q1⟩=>?_) hs rfl))
 obtain⟨j,e,q1,q2,q⟩:=q1
 subst e
 cases r1 with
 |cons r rr=>
  cases rr
  obtain⟨t,rfl⟩:=r
  exact call_range_1 (FG I1 (by lia) (by lia) q1 q2 (by simpa using q))
def jM(wi:TI)(g:TG)(tb:TS):TS:=λD σ H=>wi σ H λJ H1=>∃W:Nat->Nat->St->Hp->Prop,(∃m,W 0 m σ H1)/\∀i m σ H,W i m σ H->
 (J.stop i H/\D.nx σ H)\/(J.go i H/\∃N:St->Hp->Prop,(∀σ' H',N σ' H'->∃m',m'<m/\W (i+1) m' σ' H')/\∀x H',J.yld i H x H'->g x σ H' λσ2 H2=>tb {D with nx:=N,ct:=N,bk:=D.nx} σ2 H2)
def sM(fp:List Addr)(h:Heap):List (Addr×Obj):=fp.filterMap λb=>(h.get? b).map λo=>(b,o)
theorem ka{fp:List Addr}{h:Heap}{b:Addr}{o:Obj}(hb:b∈fp)(e:h.get? b=some o):(b,o)∈sM fp h:=List.mem_filterMap.mpr ⟨b,hb,by rw[e];rfl⟩
theorem C4{fp:List Addr}{h:Heap}{p:Addr×Obj}(hp:p∈sM fp h):p.1∈fp/\h.get? p.1=some p.2:=by
 obtain⟨b,hb,e⟩:=List.mem_filterMap.mp hp
 cases q:h.get? b with
 |none=>rw[q] at e;cases e
 |some o=>
  rw[q] at e
  have e':(b,o)=p:=Option.some.inj e
  subst e'
  exact⟨hb,q⟩
theorem bx.pinned{pins:List (Addr×Obj)}{σ:St}{H:Hp}{s:Shared}{fp:List Addr}(I:bx X pins σ H s)(hf:∀b∈fp,nQ X pins H b)(ho:∀b∈fp,∃o,s.heap.get? b=some o/\∀v,o.data≠.cell v):bx X (pins++sM fp s.heap) σ H s:=
 I.pins_of λp hp=>(aA.mp hp).elim (λz=>I.pin p (aX _ z)) λz=>by
  obtain⟨hb,e⟩:=C4 z
  obtain⟨f0,f1,f2,_⟩:=hf p.1 hb
  obtain⟨o,e',d⟩:=ho p.1 hb
  rw[e] at e';cases e'
  exact⟨e,f0,f1,f2,d⟩
theorem bx.unpinned{pins pl:List (Addr×Obj)}{σ:St}{H:Hp}{s:Shared}(I:bx X (pins++pl) σ H s):bx X pins σ H s:=I.pins_of λp hp=>I.pin p (aX _ (bw _ hp))
theorem J7{iter:Expr}{body:List Stmt}{wi:TI}{g:TG}{tb:TS}{pos:Pos}(hp:PassesOwn (model X.prog X.w) X.A X.env X.xe)(hc:X.calm=true)(hi:PI X tg iter wi)(hg:PG X tg g)(hb:Ag X body tb)
  (hs:∀x,foldedSetIterable iter X.env x=pure x:=by intro _;rfl):PS X (.For tg iter body [] pos) (jM wi g tb):=by
 intro pins s σ H D I h
 refine wpAny_For (eF (hi pins s σ H _ I h) λv s1 h1=>eF h1 λitv s2 h2=>?_) hs
 obtain⟨it,fp,tn,J,H2,e,I2,T,st2,f2,W,⟨m0,w0⟩,turn⟩:=h2
 subst e
 have stat:∀{H':Hp},(∀b∈fp,H' b=none)->∀b∈fp,nQ X pins H' b:=λhn b hb=>⟨hn b hb,(f2 b hb).2⟩
 refine codeAny_forLoop_any (λn s'=>∃i σ' H',bx X pins σ' H' s'/\tn i s'.heap/\(∀b∈fp,H' b=none)/\W i n σ' H') ?_ m0 ⟨0,σ,H2,I2,st2,λb hb=>(f2 b hb).1,w0⟩
 rintro n s3 ⟨i,σ3,H3,I3,st3,fr3,w3⟩
 rcases turn i n σ3 H3 w3 with⟨stop,qn⟩|⟨go,N,hN,step⟩
 ·refine wpAny_passesOwn hp (eF (T.done X rfl rfl rfl hc i pins s3 σ3 H3 X.xe I3 (stat fr3) st3 stop) λr s4 ⟨hr,I4⟩=>?_)
  subst hr
  exact wpAny_execs_nil ⟨σ3,H3,I4,qn⟩
 ·refine wpAny_passesOwn hp (eF (T.item X rfl rfl rfl hc i pins s3 σ3 H3 X.xe I3 (stat fr3) st3 go) λr s4 ⟨u,hr,h4⟩=>?_)
  subst hr
  refine wpAny_passesOwn hp (eF h4 λ_ s5 ⟨x,H5,I5,r5,y5,st5,fr5⟩=>?_)
  have I5':=I5.pinned (stat fr5) (T.obj _ _ st5)
  refine wpAny_passesOwn hp (eF (hg _ s5 σ3 H5 x u _ I5' r5 (step x H5 y5)) λ_ s6 ⟨σ6,H6,I6,q6⟩=>?_)
  refine wpAny_passesOwn hp (eF (hb _ s6 σ6 H6 _ I6 q6) λf s7 q7=>?_)
  have again:∀{σ7:St} {H7:Hp},bx X (pins++sM fp s5.heap) σ7 H7 s7->N σ7 H7->∃m,m<n/\∃i σ' H',bx X pins σ' H' s7/\tn i s7.heap/\(∀b∈fp,H' b=none)/\W i m σ' H':=λ{σ7 H7} I7 n7=>by
   obtain⟨m',hm,w7⟩:=hN σ7 H7 n7
   refine⟨m',hm,i+1,σ7,H7,I7.unpinned,T.keep _ _ _ st5 λb hb o e=>(I7.pin (b,o) (aX _ (aX _ (ka hb e)))).1,λb hb=>?_,w7⟩
   obtain⟨o,e,d⟩:=T.obj _ _ st5 b hb
   exact(I7.pin (b,o) (aX _ (aX _ (ka hb e)))).2.1
  cases f with
  |next=>obtain⟨σ7,H7,I7,n7⟩:=q7;exact again I7 n7
  |cont=>obtain⟨σ7,H7,I7,n7⟩:=q7;exact again I7 n7
  |brk=>obtain⟨σ7,H7,I7,q7⟩:=q7;exact⟨σ7,H7,I7.unpinned,q7⟩
  |ret v=>obtain⟨x7,σ7,H7,I7,r7,q7⟩:=q7;exact⟨x7,σ7,H7,I7.unpinned,r7,q7⟩
end
theorem sy{K:Fg}{a:Addr}{xs:List V}{g:TG}{tb:TS}{D:kU}{σ:St}{H:Hp}(Pv:Nat->St->Hp->Prop)(h0:Pv 0 σ H)(hl:∀i σ H,i<=xs.length->Pv i σ H->cq K H a xs)
  (hs:∀i x σ H,xs[i]?=some x->Pv i σ H->g x σ H λσ2 H2=>tb {D with nx:=Pv (i+1),ct:=Pv (i+1),bk:=D.nx} σ2 H2) (hd:∀σ H,Pv xs.length σ H->D.nx σ H) :
  ∃W:Nat->Nat->St->Hp->Prop,(∃m,W 0 m σ H)/\∀i m σ H,W i m σ H->
   ((ID K a).stop i H/\D.nx σ H)\/((ID K a).go i H/\∃N:St->Hp->Prop,(∀σ' H',N σ' H'->∃m',m'<m/\W (i+1) m' σ' H')/\∀x H',(ID K a).yld i H x H'->g x σ H' λσ2 H2=>tb {D with nx:=N,ct:=N,bk:=D.nx} σ2 H2):=by
 refine⟨λi m σ H=>m=xs.length-i/\i<=xs.length/\Pv i σ H,⟨xs.length,by simp,bt _,h0⟩,?_⟩
 rintro i m σ H ⟨rfl,hi,p⟩
 have q:=hl i σ H hi p
 by_cases hlt:i<xs.length
 ·refine .inr ⟨⟨xs,xs[i],q,by simp[hlt]⟩,Pv (i+1),λσ' H' p'=>⟨xs.length-(i+1),by lia,rfl,hlt,p'⟩,λx H' y=>?_⟩
  obtain⟨e,y⟩:=y
  subst e
  exact hs i x σ _ (y xs q) p
 ·have e:i=xs.length:=by lia
  subst e
  exact .inl ⟨⟨xs,q,au _⟩,hd σ H p⟩
theorem rk{K:Fg}{a:Addr}{xs:List V}{g:TG}{tb:TS}{D:kU}{σ:St}{H:Hp}(Pv:Nat->St->Hp->Prop)(h0:Pv 0 σ H)(hl:∀i σ H,i<=xs.length->Pv i σ H->cE K H a xs)
  (hs:∀i x σ H,xs[i]?=some x->Pv i σ H->g x σ H λσ2 H2=>tb {D with nx:=Pv (i+1),ct:=Pv (i+1),bk:=D.nx} σ2 H2) (hd:∀σ H,Pv xs.length σ H->D.nx σ H) :
  ∃W:Nat->Nat->St->Hp->Prop,(∃m,W 0 m σ H)/\∀i m σ H,W i m σ H->
   ((IE K a).stop i H/\D.nx σ H)\/((IE K a).go i H/\∃N:St->Hp->Prop,(∀σ' H',N σ' H'->∃m',m'<m/\W (i+1) m' σ' H')/\∀x H',(IE K a).yld i H x H'->g x σ H' λσ2 H2=>tb {D with nx:=N,ct:=N,bk:=D.nx} σ2 H2):=by
 refine⟨λi m σ H=>m=xs.length-i/\i<=xs.length/\Pv i σ H,⟨xs.length,by simp,bt _,h0⟩,?_⟩
 rintro i m σ H ⟨rfl,hi,p⟩
 have q:=hl i σ H hi p
 by_cases hlt:i<xs.length
 ·refine .inr ⟨⟨xs,xs[i],q,by simp[hlt]⟩,Pv (i+1),λσ' H' p'=>⟨xs.length-(i+1),by lia,rfl,hlt,p'⟩,λx H' y=>?_⟩
  obtain⟨e,y⟩:=y
  subst e
  exact hs i x σ _ (y xs q) p
 ·have e:i=xs.length:=by lia
  subst e
  exact .inl ⟨⟨xs,q,au _⟩,hd σ H p⟩
theorem gP{lo:Int}{n:Nat}{g:TG}{tb:TS}{D:kU}{σ:St}{H:Hp}(Pv:Nat->St->Hp->Prop)(h0:Pv 0 σ H)
  (hs:∀i σ H,i<n->Pv i σ H->g (.int (lo+i)) σ H λσ2 H2=>tb {D with nx:=Pv (i+1),ct:=Pv (i+1),bk:=D.nx} σ2 H2) (hd:∀σ H,Pv n σ H->D.nx σ H) :
  ∃W:Nat->Nat->St->Hp->Prop,(∃m,W 0 m σ H)/\∀i m σ H,W i m σ H->
   ((Gy lo n).stop i H/\D.nx σ H)\/((Gy lo n).go i H/\∃N:St->Hp->Prop,(∀σ' H',N σ' H'->∃m',m'<m/\W (i+1) m' σ' H')/\∀x H',(Gy lo n).yld i H x H'->g x σ H' λσ2 H2=>tb {D with nx:=N,ct:=N,bk:=D.nx} σ2 H2):=by
 refine⟨λi m σ H=>m=n-i/\i<=n/\Pv i σ H,⟨n,by simp,bt _,h0⟩,?_⟩
 rintro i m σ H ⟨rfl,hi,p⟩
 by_cases hlt:i<n
 ·refine .inr ⟨hlt,Pv (i+1),λσ' H' p'=>⟨n-(i+1),by lia,rfl,hlt,p'⟩,λx H' y=>?_⟩
  obtain⟨e,y⟩:=y
  subst e y
  exact hs i σ _ hlt p
 ·have e:i=n:=by lia
  subst e
  exact .inl ⟨au _,hd σ H p⟩
abbrev R2:=V->V->Hp->VK->Prop
def jc(X:Cx)(f:Value->Value->Sem Value)(r:R2):Prop:=
 ∀(pins:List (Addr×Obj)) (s:Shared) (σ:St) (H:Hp) (x y:V) (v u:Value) (Q:VK),bx X pins σ H s->cA x v->cA y u->r x y H Q->
  wpAny (model X.prog X.w) X.A (f v u) (EP X pins σ Q) X.xe s
def LK(X:Cx)(f:Value->Sem Value)(r:V->Hp->VK->Prop):Prop:=
 ∀(pins:List (Addr×Obj)) (s:Shared) (σ:St) (H:Hp) (x:V) (v:Value) (Q:VK),bx X pins σ H s->cA x v->r x H Q->
  wpAny (model X.prog X.w) X.A (f v) (EP X pins σ Q) X.xe s
def ip(X:Cx)(f:Value)(r:List V->Hp->VK->Prop):Prop:=
 ∀(pins:List (Addr×Obj)) (s:Shared) (σ:St) (H:Hp) (xs:List V) (us:List Value) (Q:VK),bx X pins σ H s->bV xs us->r xs H Q->
  wpAny (model X.prog X.w) X.A (call f us) (EP X pins σ Q) X.xe s
def bN(r:R2)(ta tb:TE):TE:=λσ H Q=>ta σ H λx H1=>tb σ H1 λy H2=>r x y H2 Q
def zU(r:V->Hp->VK->Prop)(ta:TE):TE:=λσ H Q=>ta σ H λx H1=>r x H1 Q
def rI(C:Int->Int->Prop)(g:Int->Int->V):R2:=λx y H Q=>∃i j,x=.int i/\y=.int j/\C i j/\Q (g i j) H
def DJ(g:Int->Int->V):R2:=λx y H Q=>∃i j,x=.int i/\y=.int j/\Q (g i j) H
def rU(g:Int->V):V->Hp->VK->Prop:=λx H Q=>∃i,x=.int i/\Q (g i) H
section
variable{X:Cx}{a b c:Expr}{ta tb tc:TE}{pos:Pos}
theorem Jk(ha:PE X a ta)(hb:PE X b tb){pins:List (Addr×Obj)}{s:Shared}{σ:St}{H:Hp}{R:V->V->Hp->Prop}(I:bx X pins σ H s)
  (h:ta σ H λx H1=>tb σ H1 λy H2=>R x y H2) {Q:Value->Shared->Prop} {f:Value->Value->Sem Value}
  (hf:∀v u s2 x y H2,bx X pins σ H2 s2->cA x v->cA y u->R x y H2->wpAny (model X.prog X.w) X.A (f v u) Q X.xe s2) :
  wpAny (model X.prog X.w) X.A (eval a X.env) (λv s₁=>wpAny (model X.prog X.w) X.A (eval b X.env) (λu s₂=>wpAny (model X.prog X.w) X.A (f v u) Q X.xe s₂) X.xe s₁) X.xe s:=by
 refine eF (ha pins s σ H _ I h) λv s1 ⟨x,H1,I1,r1,q1⟩=>?_
 refine eF (hb pins s1 σ H1 _ I1 q1) λu s2 ⟨y,H2,I2,r2,q2⟩=>?_
 exact hf v u s2 x y H2 I2 r1 r2 q2
theorem Lh{op:Operator}{r:R2}(ho:jc X (binaryOp op) r)(ha:PE X a ta)(hb:PE X b tb):PE X (.BinOp a op b pos) (bN r ta tb):=by
 intro pins s σ H Q I h
 exact wpAny_BinOp (Jk ha hb I h λv u s2 x y H2 I2 rx ry q=>ho pins s2 σ H2 x y v u Q I2 rx ry q)
theorem Lj{op:UnaryOp}{r:V->Hp->VK->Prop}(ho:LK X (unaryOp op) r)(ha:PE X a ta):PE X (.UnaryOp op a pos) (zU r ta):=by
 intro pins s σ H Q I h
 exact UnaryOp_ (eF (ha pins s σ H _ I h) λv s1 ⟨x,H1,I1,r1,q1⟩=>ho pins s1 σ H1 x v Q I1 r1 q1)
theorem LX{f:Value->Value->Sem Value}{C:Int->Int->Prop}{g:Int->Int->Int}
  (rule:∀(i j:Int) (t u:Tok) (s:Shared) (Q:Value->Shared->Prop) (E:Value->Shared->Prop),C i j->Q (.int (g i j) s.toks) {s with toks:=s.toks+1}->wpAny (model X.prog X.w) X.A (f (.int i t) (.int j u)) Q E s) :
  jc X f (rI C λi j=>.int (g i j)):=by
 intro pins s σ H x y v u Q I rx ry h
 obtain⟨i,j,rfl,rfl,hc,q⟩:=h
 obtain⟨t,rfl⟩:=rx
 obtain⟨t',rfl⟩:=ry
 exact rule i j t t' s _ _ hc ⟨.int (g i j),H,I.tok _,⟨_,rfl⟩,q⟩
theorem K8{f:Value->Value->Sem Value}{g:Int->Int->Int}
  (rule:∀(i j:Int) (t u:Tok) (s:Shared) (Q:Value->Shared->Prop) (E:Value->Shared->Prop),Q (.int (g i j) s.toks) {s with toks:=s.toks+1}->wpAny (model X.prog X.w) X.A (f (.int i t) (.int j u)) Q E s) :
  jc X f (DJ λi j=>.int (g i j)):=by
 intro pins s σ H x y v u Q I rx ry h
 obtain⟨i,j,rfl,rfl,q⟩:=h
 obtain⟨t,rfl⟩:=rx
 obtain⟨t',rfl⟩:=ry
 exact rule i j t t' s _ _ ⟨.int (g i j),H,I.tok _,⟨_,rfl⟩,q⟩
theorem JJ{f:Value->Value->Sem Value}{g:Int->Int->Bool}
  (rule:∀(i j:Int) (t u:Tok) (s:Shared) (Q:Value->Shared->Prop) (E:Value->Shared->Prop),Q (.bool (g i j)) s->wpAny (model X.prog X.w) X.A (f (.int i t) (.int j u)) Q E s) :
  jc X f (DJ λi j=>.bl (g i j)):=by
 intro pins s σ H x y v u Q I rx ry h
 obtain⟨i,j,rfl,rfl,q⟩:=h
 obtain⟨t,rfl⟩:=rx
 obtain⟨t',rfl⟩:=ry
 exact rule i j t t' s _ _ ⟨.bl (g i j),H,I,rfl,q⟩
def KB(i j:Int):Prop:=0<j/\j<1073741824
def Gv(i j:Int):Prop:=(-(2 ^ 64)<i/\i<2 ^ 64)\/(-(2 ^ 64)<j/\j<2 ^ 64)
theorem Gv.ok{i j:Int}(h:Gv i j):IntMulOk i j:=by
 rcases h with⟨h1,h2⟩|⟨h1,h2⟩
 ·exact .of_left (intBits_le_64 h1 h2)
 ·exact .of_right (intBits_le_64 h1 h2)
theorem JK:jc X (binaryOp .Add) (DJ λi j=>.int (i+j)):=K8 λ_ _ _ _ _ _ _ q=>add_int q
theorem lI:jc X (binaryOp .Sub) (DJ λi j=>.int (i-j)):=K8 λ_ _ _ _ _ _ _ q=>sub_int q
theorem JQ:jc X (binaryOp .Mult) (rI Gv λi j=>.int (i*j)):=LX λ_ _ _ _ _ _ _ hc q=>mul_int q hc.ok
theorem BS:jc X (binaryOp .FloorDiv) (rI KB λi j=>.int (i / j)):=LX λi j _ _ _ _ _ hc q=>by
 have h1:(0:Int)<j:=hc.1
 have h2:j<1073741824:=hc.2
 exact floordiv_int (by lia) (by rw[Int.fdiv_eq_ediv_of_nonneg i (by lia)];exact q) (.inl (PyProof.noPylong_small (by lia)))
theorem iG:jc X (binaryOp .Mod) (rI (λ_ j=>0<j) λi j=>.int (i % j)):=LX λi j _ _ _ _ _ hc q=>by
 have h1:(0:Int)<j:=hc
 exact mod_int' (by lia) (by rw[Int.fmod_eq_emod_of_nonneg i (by lia)];exact q)
theorem Mo{f:Value->Sem Value}{g:Int->Int}
  (rule:∀(i:Int) (t:Tok) (s:Shared) (Q:Value->Shared->Prop) (E:Value->Shared->Prop),Q (.int (g i) s.toks) {s with toks:=s.toks+1}->wpAny (model X.prog X.w) X.A (f (.int i t)) Q E s) :
  LK X f (rU λi=>.int (g i)):=by
 intro pins s σ H x v Q I rx h
 obtain⟨i,rfl,q⟩:=h
 obtain⟨t,rfl⟩:=rx
 exact rule i t s _ _ ⟨.int (g i),H,I.tok _,⟨_,rfl⟩,q⟩
theorem gY:LK X (unaryOp .USub) (rU λi=>.int (-i)):=Mo λ_ _ _ _ _ q=>neg_int q
end
def FR:V->V->Bool
 |.non,.non=>true|.non,.int _=>true|.int _,.non=>true|.non,.bl _=>true|.bl _,.non=>true|.non,.str _=>true|.str _,.non=>true
 |.int _,.int _=>true|.bl _,.bl _=>true|.str _,.str _=>true|.byt _,.byt _=>true
 |.int _,.str _=>true|.str _,.int _=>true|.bl _,.str _=>true|.str _,.bl _=>true
 |_,_=>false
def Mb:R2:=λx y H Q=>FR x y=true/\Q (.bl (decide (x=y))) H
def Mc:R2:=λx y H Q=>FR x y=true/\Q (.bl (!decide (x=y))) H
theorem BE{i j:Int}:decide (V.int i=V.int j)=(i==j):=by
 rw[Bool.eq_iff_iff]
 simp
theorem En{i j:Bool}:decide (V.bl i=V.bl j)=(i==j):=by
 rw[Bool.eq_iff_iff]
 simp
theorem BF{i j:Str}:decide (V.str i=V.str j)=(i==j):=by
 rw[Bool.eq_iff_iff]
 simp
theorem BD{i j:Array UInt8}:decide (V.byt i=V.byt j)=(i.toList==j.toList):=by
 rw[Bool.eq_iff_iff]
 cases i
 cases j
 simp
section
variable{X:Cx}{a b c:Expr}{ta tb tc:TE}{pos:Pos}
theorem cH{pins:List (Addr×Obj)}{σ:St}{H:Hp}{s:Shared}{Q:VK}{k k':Bool}(I:bx X pins σ H s)(q:Q (.bl k) H)(e:k=k'):EP X pins σ Q (.bool k') s:=by
 subst e
 exact⟨.bl k,H,I,rfl,q⟩
theorem K9:jc X (compareOp .Eq) Mb:=by
 intro pins s σ H x y v u Q I rx ry h
 obtain⟨hs,q⟩:=h
 cases x with
 |non=>
  cases rx
  cases y with
  |non=>cases ry;exact PySem.EqNone.eq_none_none (cH I q (by simp))
  |bl j=>cases ry;exact PySem.EqNone.eq_none_bool (cH I q (by simp))
  |int j=>obtain⟨t',rfl⟩:=ry;exact PySem.EqNone.eq_none_int (cH I q (by simp))
  |str j=>obtain⟨t',rfl⟩:=ry;exact PySem.EqNone.eq_none_str (cH I q (by simp))
  |_=>exact absurd (show false=true from hs) Bool.false_ne_true
 |bl i=>
  cases rx
  cases y with
  |non=>cases ry;exact PySem.EqNone.eq_bool_none (cH I q (by simp))
  |bl j=>cases ry;exact eq_bool (cH I q En)
  |str j=>obtain⟨t',rfl⟩:=ry;exact PySem.EqMixed.eq_bool_str (cH I q (by simp))
  |_=>exact absurd (show false=true from hs) Bool.false_ne_true
 |int i=>
  obtain⟨t,rfl⟩:=rx
  cases y with
  |non=>cases ry;exact PySem.EqNone.eq_int_none (cH I q (by simp))
  |int j=>obtain⟨t',rfl⟩:=ry;exact eq_int (cH I q BE)
  |str j=>obtain⟨t',rfl⟩:=ry;exact PySem.EqMixed.eq_int_str (cH I q (by simp))
  |_=>exact absurd (show false=true from hs) Bool.false_ne_true
 |str i=>
  obtain⟨t,rfl⟩:=rx
  cases y with
  |non=>cases ry;exact PySem.EqNone.eq_str_none (cH I q (by simp))
  |bl j=>cases ry;exact PySem.EqMixed.eq_str_bool (cH I q (by simp))
  |int j=>obtain⟨t',rfl⟩:=ry;exact PySem.EqMixed.eq_str_int (cH I q (by simp))
  |str j=>obtain⟨t',rfl⟩:=ry;exact eq_str (cH I q BF)
  |_=>exact absurd (show false=true from hs) Bool.false_ne_true
 |byt i=>
  obtain⟨t,rfl⟩:=rx
  cases y with
  |byt j=>obtain⟨t',rfl⟩:=ry;exact PySem.W.eq_bytes (cH I q BD)
  |_=>exact absurd (show false=true from hs) Bool.false_ne_true
 |_=>cases y<;>exact absurd (show false=true from hs) Bool.false_ne_true
theorem Lb:jc X (compareOp .NotEq) Mc:=by
 intro pins s σ H x y v u Q I rx ry h
 obtain⟨hs,q⟩:=h
 cases x with
 |non=>
  cases rx
  cases y with
  |non=>cases ry;exact PySem.EqNone.ne_none_none (cH I q (by simp))
  |bl j=>cases ry;exact PySem.EqNone.ne_none_bool (cH I q (by simp))
  |int j=>obtain⟨t',rfl⟩:=ry;exact PySem.EqNone.ne_none_int (cH I q (by simp))
  |str j=>obtain⟨t',rfl⟩:=ry;exact PySem.EqNone.ne_none_str (cH I q (by simp))
  |_=>exact absurd (show false=true from hs) Bool.false_ne_true
 |bl i=>
  cases rx
  cases y with
  |non=>cases ry;exact PySem.EqNone.ne_bool_none (cH I q (by simp))
  |bl j=>cases ry;exact ne_bool (cH I q (congrArg not En))
  |str j=>obtain⟨t',rfl⟩:=ry;exact PySem.EqMixed.ne_bool_str (cH I q (by simp))
  |_=>exact absurd (show false=true from hs) Bool.false_ne_true
 |int i=>
  obtain⟨t,rfl⟩:=rx
  cases y with
  |non=>cases ry;exact PySem.EqNone.ne_int_none (cH I q (by simp))
  |int j=>obtain⟨t',rfl⟩:=ry;exact ne_int (cH I q (congrArg not BE))
  |str j=>obtain⟨t',rfl⟩:=ry;exact PySem.EqMixed.ne_int_str (cH I q (by simp))
  |_=>exact absurd (show false=true from hs) Bool.false_ne_true
 |str i=>
  obtain⟨t,rfl⟩:=rx
  cases y with
  |non=>cases ry;exact PySem.EqNone.ne_str_none (cH I q (by simp))
  |bl j=>cases ry;exact PySem.EqMixed.ne_str_bool (cH I q (by simp))
  |int j=>obtain⟨t',rfl⟩:=ry;exact PySem.EqMixed.ne_str_int (cH I q (by simp))
  |str j=>obtain⟨t',rfl⟩:=ry;exact ne_str (cH I q (congrArg not BF))
  |_=>exact absurd (show false=true from hs) Bool.false_ne_true
 |byt i=>
  obtain⟨t,rfl⟩:=rx
  cases y with
  |byt j=>obtain⟨t',rfl⟩:=ry;exact PySem.W.ne_bytes (cH I q (congrArg not BD))
  |_=>exact absurd (show false=true from hs) Bool.false_ne_true
 |_=>cases y<;>exact absurd (show false=true from hs) Bool.false_ne_true
theorem vy:jc X (compareOp .Lt) (DJ λi j=>.bl (decide (i<j))):=JJ λ_ _ _ _ _ _ _ q=>lt_int q
theorem La:jc X (compareOp .LtE) (DJ λi j=>.bl (decide (i<=j))):=JJ λ_ _ _ _ _ _ _ q=>le_int q
theorem mS:jc X (compareOp .Gt) (DJ λi j=>.bl (decide (j<i))):=JJ λ_ _ _ _ _ _ _ q=>gt_int q
theorem qf:jc X (compareOp .Is) (λx y H Q=>y=.non/\Q (.bl (decide (x=.non))) H):=by
 intro pins s σ H x y v u Q I rx ry h
 obtain⟨rfl,q⟩:=h
 cases ry
 refine is_none_gen (cH I q ?_)
 cases x<;>first
  |(cases rx;rfl)
  |(obtain⟨t,rfl⟩:=rx;rfl)
theorem kc:jc X (compareOp .IsNot) (λx y H Q=>y=.non/\Q (.bl (!decide (x=.non))) H):=by
 intro pins s σ H x y v u Q I rx ry h
 obtain⟨rfl,q⟩:=h
 cases ry
 refine isnot_none_gen (cH I q ?_)
 cases x<;>first
  |(cases rx;rfl)
  |(obtain⟨t,rfl⟩:=rx;rfl)
theorem jc.or{f:Value->Value->Sem Value}{r r':R2}(h:jc X f r)(h':jc X f r'):jc X f (λx y H Q=>r x y H Q\/r' x y H Q):=by
 intro pins s σ H x y v u Q I rx ry q
 rcases q with q|q
 ·exact h pins s σ H x y v u Q I rx ry q
 ·exact h' pins s σ H x y v u Q I rx ry q
theorem Ht{op:CmpOp}{r:R2}(ho:jc X (compareOp op) r)(ha:PE X a ta)(hb:PE X b tb)(hm:behindInMarks op b=false):PE X (.Compare a [op] [b] pos) (bN r ta tb):=by
 intro pins s σ H Q I h
 exact wpAny_Compare1 (Jk ha hb I h λv u s2 x y H2 I2 rx ry q=>ho pins s2 σ H2 x y v u Q I2 rx ry q) hm
def cg(t:TE):TT:=λσ H Q=>t σ H λx H'=>∃k,x=.bl k/\Q k H'
theorem HP{op:CmpOp}{r:R2}(ho:jc X (compareOp op) r)(ha:PE X a ta)(hb:PE X b tb)(hm:behindInMarks op b=false):PT X (.Compare a [op] [b] pos) (cg (bN r ta tb)):=by
 intro pins s σ H Q I h
 refine wpAny_isTrue_Compare1 (eF (ha pins s σ H _ I h) λv s1 ⟨x,H1,I1,r1,q1⟩=>eF (hb pins s1 σ H1 _ I1 q1) λu s2 ⟨y,H2,I2,r2,q2⟩=>
  eF (ho pins s2 σ H2 x y v u _ I2 r1 r2 q2) λc s3 ⟨z,H3,I3,r3,k,e,q3⟩=>?_) hm
 subst e
 cases r3
 exact wpAny_truthy_bool ⟨H3,I3,q3⟩
theorem sG:(sizeLine:Nat)<2 ^ 63:=by rw[sizeLine_eq];decide
theorem AR:jc X (binaryOp .Add) (λx y H Q=>∃i j,x=.str i/\y=.str j/\i.length+j.length<=sizeLine/\Q (.str (i++j)) H):=by
 intro pins s σ H x y v u Q I rx ry h
 obtain⟨i,j,rfl,rfl,hz,q⟩:=h
 obtain⟨t,rfl⟩:=rx
 obtain⟨t',rfl⟩:=ry
 exact add_str (λt' tk=>⟨.str (i++j),H,I.tok _,⟨_,rfl⟩,q⟩) hz
theorem jZ{x:V}{us:List Value}(r:bV [x] us):∃u,us=[u]/\cA x u:=by
 cases r with
 |cons r1 r2=>cases r2;exact⟨_,rfl,r1⟩
theorem Gi{x y:V}{us:List Value}(r:bV [x,y] us):∃u w',us=[u,w']/\cA x u/\cA y w':=by
 cases r with
 |cons r1 r2=>
  cases r2 with
  |cons r3 r4=>cases r4;exact⟨_,_,rfl,r1,r3⟩
theorem p7(hc:X.calm=true):ip X (.builtin "min") (λxs H Q=>∃i j,xs=[.int i,.int j]/\Q (.int (if j<i then j else i)) H):=by
 intro pins s σ H xs us Q I r h
 obtain⟨i,j,rfl,q⟩:=h
 obtain⟨u,w',rfl,⟨t,rfl⟩,⟨t',rfl⟩⟩:=Gi r
 refine min_two_ints (I.ok.hd hc) λh' tk k=>⟨_,H,I.kept k,?_,q⟩
 by_cases hj:j<i
 ·rw[if_pos hj,if_pos hj];exact⟨_,rfl⟩
 ·rw[if_neg hj,if_neg hj];exact⟨_,rfl⟩
theorem vb:ip X (.type "int") (λxs H Q=>(∃i,xs=[.int i]/\Q (.int i) H)\/∃k,xs=[.bl k]/\Q (.int (if k then 1 else 0)) H):=by
 intro pins s σ H xs us Q I r h
 rcases h with⟨i,rfl,q⟩|⟨k,rfl,q⟩
 ·obtain⟨u,rfl,t,rfl⟩:=jZ r
  exact call_int_int ⟨.int i,H,I,⟨_,rfl⟩,q⟩
 ·obtain⟨u,rfl,r1⟩:=jZ r
  cases r1
  exact call_int_bool ⟨.int (if k then 1 else 0),H,I.tok _,⟨_,rfl⟩,q⟩
def KH(K:Fg)(x:V)(H:Hp)(n:Nat):Prop:=
 match x with
 |.str y=>y.length<=sizeLine/\n=y.length
 |.byt y=>y.size<=sizeLine/\n=y.size
 |.ref p=>(∃xs,cq K H p xs/\n=xs.length)\/∃xs,cE K H p xs/\n=xs.length
 |_=>False
theorem Eh:ip X (.builtin "len") (λxs H Q=>∃x n,xs=[x]/\KH X.K x H n/\Q (.int n) H):=by
 intro pins s σ H xs us Q I r h
 obtain⟨x,n,rfl,e,q⟩:=h
 obtain⟨u,rfl,rx⟩:=jZ r
 have hl:=sG
 have hs:sizeLine=16777216:=sizeLine_eq
 cases x with
 |str y=>
  obtain⟨t,rfl⟩:=rx
  obtain⟨hy,e'⟩:y.length<=sizeLine/\n=y.length:=e
  subst e'
  exact len_str (by lia) ⟨.int _,H,I.tok _,⟨_,rfl⟩,q⟩
 |byt y=>
  obtain⟨t,rfl⟩:=rx
  obtain⟨hy,e'⟩:y.size<=sizeLine/\n=y.size:=e
  subst e'
  exact PySem.W.len_bytes (by lia) ⟨.int _,H,I.tok _,⟨_,rfl⟩,q⟩
 |ref p=>
  cases rx
  have e':(∃xs,cq X.K H p xs/\n=xs.length)\/∃xs,cE X.K H p xs/\n=xs.length:=e
  rcases e' with⟨xs,hx,e'⟩|⟨xs,hx,e'⟩
  ·subst e'
   obtain⟨its,r',pl,hz⟩:=I.list hx
   have hlen:=r'.length
   exact Calls.call_len_list pl.isList (by simp only[ay];lia) ⟨.int xs.length,H,I.tok _,⟨_,by simp only[ay];rw[hlen]⟩,q⟩
  ·subst e'
   obtain⟨its,r',pl,hz⟩:=I.tuple hx
   have hlen:=r'.length
   exact len_tuple pl (by simp only[ay];lia) ⟨.int xs.length,H,I.tok _,⟨_,by simp only[ay];rw[hlen]⟩,q⟩
 |_=>exact(show False from e).elim
end
section
variable{prog:Program}{w:World}{A:Around}{E:Value->Shared->Prop}{s:Shared}{K:Fg}{x dx C f:Addr}{mA:Str->Option Value}{name:Str}{v:Value}
end
theorem pY.some_of{v:V}{o:Option Value}(r:pY (some v) o):∃u,o=some u/\cA v u:=by
 cases o with
 |none=>exact(show False from r).elim
 |some u=>exact⟨u,rfl,r⟩
section
variable{P:Program}{w:World}{H H':Hp}{h h':Heap}{a C dx:Addr}{fs fs':List (Str×V)}
end
section
variable{X:Cx}{pins:List (Addr×Obj)}{σ:St}{H:Hp}{s:Shared}{a C dx:Addr}{fs:List (Str×V)}{f:Str}{v:V}{A:Around}{E:Value->Shared->Prop}
end
section
variable{X:Cx}{o e value:Expr}{f:Str}{pos pos' tpos:Pos}{ta tv:TE}
end
section
variable{X:Cx}{pins:List (Addr×Obj)}{σ:St}{H:Hp}{s:Shared}{A:Around}{E:Value->Shared->Prop}{Q:Value->Shared->Prop}{c:Value}{b:Bool}
end
structure gN(k:Nat)(A:Around):Prop where
 hd:A.handled=none
 dp:A.depth+3*k+5<recursionLimit
 un:A.units+16*k+200<cLine
theorem gN.mono{j k:Nat}{A:Around}(r:gN k A)(h:j<=k):gN j A:=⟨r.hd,by have:=r.dp;lia,by have:=r.un;lia⟩
theorem gN.deeper{k:Nat}{A:Around}(r:gN (k+1) A)(env:Env):gN k (A.deeper env):=
 ⟨r.hd,by have:=r.dp;show A.depth+1+3*k+5<_;lia,by have:=r.un;show A.units+3+16*k+200<_;lia⟩
theorem gN.depth{k:Nat}{A:Around}(r:gN k A):A.depth<recursionLimit:=by have:=r.dp;lia
theorem gN.units{k:Nat}{A:Around}(r:gN k A):A.units+64<cLine:=by have:=r.un;lia
theorem gN.units0{k:Nat}{A:Around}(r:gN k A):A.units<cLine:=by have:=r.un;lia
def aO:TA:=λ_ H Q=>Q [] H
def aq(ta:TE)(tr:TA):TA:=λσ H Q=>ta σ H λx H1=>tr σ H1 λxs H2=>Q (x::xs) H2
section
variable{X:Cx}{e:Expr}{es:List Expr}{te:TE}{t:TA}{pos:Pos}
theorem JT:PA X [] aO:=λ_ _ _ _ H Q I h=>Calls.spliced_nil ⟨[],H,I,.nil,h⟩
theorem Hr(ha:PE X e te)(hr:PA X es t)(hs:starEach (e::es) X.env=(false,eval e X.env)::starEach es X.env:=by rfl):PA X (e::es) (aq te t):=by
 intro pos pins s σ H Q I h
 rw[hs]
 show wpAny _ _ (spliced ((false,eval e X.env)::backTo pos (starEach es X.env))) _ _ s
 refine Calls.spliced_cons (eF (ha pins s σ H _ I h) λu s1 ⟨x,H1,I1,r1,q1⟩=>?_)
 exact eF (hr pos pins s1 σ H1 _ I1 q1) λus s2 ⟨xs,H2,I2,r2,q2⟩=>⟨x::xs,H2,I2,.cons r1 r2,q2⟩
def kz(t:TA):TE:=λσ H Q=>t σ H λxs H1=>xs.length<=sizeLine/\∀p,H1 p=none->Q (.ref p) (aP H1 p (.tup xs))
def gA(t:TA):TE:=λσ H Q=>t σ H λxs H1=>xs.length<=sizeLine/\∀p,H1 p=none->Q (.ref p) (aP H1 p (.lst xs))
theorem J0{x1}(h:PA X es t):PE X (.Tuple es x1 pos) (kz t):=by
 intro pins s σ H Q I hq
 refine wpAny_Tuple_spliced (eF (h pos pins s σ H _ I hq) λus s1 ⟨xs,H1,I1,r,z,q⟩=>⟨by rw[<-r.length];exact z,?_⟩)
 have hf:H1 s1.heap.objs.size=none:=I1.hok.fresh (au _)
 refine⟨.ref s1.heap.objs.size,aP H1 s1.heap.objs.size (.tup xs),I1.laid (t':=s1.toks) (λb u e=>ag _ e) (au _) ?_,rfl,q _ hf⟩
 exact⟨z,us,r,⟨_,ax _ rfl,⟨rfl,rfl⟩,_,rfl⟩⟩
theorem JW(h:PA X es t):PE X (.List es pos) (gA t):=by
 intro pins s σ H Q I hq
 refine wpAny_List_spliced (eF (h pos pins s σ H _ I hq) λus s1 ⟨xs,H1,I1,r,z,q⟩=>⟨by rw[<-r.length];exact z,?_⟩)
 have hf:H1 s1.heap.objs.size=none:=I1.hok.fresh (au _)
 refine⟨.ref s1.heap.objs.size,aP H1 s1.heap.objs.size (.lst xs),I1.laid (t':=s1.toks) (λb u e=>ag _ e) (au _) ?_,rfl,q _ hf⟩
 exact⟨z,us,0,r,ax _ rfl⟩
end
abbrev Sp:=List V->Hp->VK->XK->Prop
abbrev DK:=List Env->Hp->Shared->XK->Value->Shared->Prop
structure Gx(P:Program)(w:World)(K:Fg)(mg:Str->Option Value)(base:Heap)(A:Around)(outer:List Env)(s:Shared)(H:Hp):Prop where
 frames:A.frames=some outer
 mod:Mod K mg base
 bs:∀b o,base.get? b=some o->s.heap.get? b=some o/\H b=none
 bsz:base.objs.size<=s.heap.objs.size
 funs:s.heap.FunFrames base outer
 frf:∀b∈EC outer,H b=none
 hok:oG P w H s.heap
 bare:AllBare s.gens
def CE(outer:List Env)(P:Program)(w:World)(H:Hp)(s:Shared)(Q:VK)(u:Value)(s':Shared):Prop:=
 ∃v H',s'.os=s.os/\AllBare s'.gens/\Un (EC outer) [] H H' s.heap s'.heap/\oG P w H' s'.heap/\cA v u/\Q v H'
def CR(CX:DK)(outer:List Env)(P:Program)(w:World)(H:Hp)(s:Shared)(Q:VK)(E:XK)(r:Result)(s':Shared):Prop:=
 match r with
 |.ok (.ret u)=>CE outer P w H s Q u s'
 |.ok _=>False
 |.error e=>CX outer H s E e s'
structure uk(P:Program)(w:World)(K:Fg)(mg:Str->Option Value)(base:Heap)(CX:DK)(k:Nat)(f:Addr)(fd:FuncData)(ps:List Str)(sp:Sp):Prop where
 len:∀vs H Q E,sp vs H Q E->vs.length=ps.length
 run:∀(A:Around) (outer:List Env) (s:Shared) (H:Hp) (args:Args) (us:List Value) (vs:List V) (Q:VK) (E:XK),gN k A->Gx P w K mg base A outer s H->BindsTo s fd args (ps.zip us)->bV vs us->sp vs H Q E->
  codeAny (model P w) A (.call (.ref f) args) (CR CX outer P w H s Q E) s
section
variable{X:Cx}{pins:List (Addr×Obj)}{σ:St}{H:Hp}{s s':Shared}
theorem bx.env0(I:bx X pins σ H s):Gx X.prog X.w X.K X.mg X.base X.A X.stack s H:=
 ⟨I.ok.frames,I.ok.mod,I.bs,a8 I.ok.bsz I.sz,I.stack,I.stkFree,I.hok,I.bare⟩
theorem bx.after{Q:VK}{u:Value}(I:bx X pins σ H s)(h:CE X.stack X.prog X.w H s Q u s'):EP X pins σ Q u s':=by
 obtain⟨v,H',os,bare,un,hok,r,q⟩:=h
 obtain⟨hh,g,d,t,os'⟩:=s'
 obtain rfl:os'=s.os:=os
 exact⟨v,H',I.call (h':=hh) (g':=g) (d':=d) (t':=t) (ch:=[]) un hok bare (λb z=>absurd z (by simp)),r,q⟩
end
def br(sp:Sp)(dvs:List V)(E:XK)(t:TA):TE:=λσ H Q=>t σ H λvs H1=>sp (vs++dvs) H1 Q E
def uZ(K:Fg)(fd:FuncData)(ps:List Str)(ds:List Value):Prop:=
 ∀(s:Shared) (us:List Value),K.In s.heap->(us++ds).length=ps.length->BindsTo s fd ⟨us,[]⟩ (ps.zip (us++ds))
theorem uZ.all{K:Fg}{fd:FuncData}{ps:List Str}(h:∀us:List Value,us.length=ps.length->bindArgs fd ⟨us,[]⟩=pure (ps.zip us)):uZ K fd ps []:=λs us _ hl=>by
 rw[eL] at hl ⊢
 exact .of_eq (h us hl)
def Ah(CX:DK)(X:Cx)(E:XK):Prop:=∀(pins:List (Addr×Obj)) (σ:St) (H:Hp) (s:Shared) (e:Value) (s':Shared),bx X pins σ H s->CX X.stack H s E e s'->X.xe e s'
section
variable{X:Cx}{CX:DK}{k:Nat}{f C:Addr}{fd:FuncData}{ps:List Str}{sp:Sp}{dvs:List V}{ds:List Value}{E:XK}{x m:Str}{p pos apos:Pos}{e o:Expr}{es:List Expr}{ta:TE}{t:TA}
theorem Kn{pins:List (Addr×Obj)}{σ:St}{H:Hp}{s:Shared}{Q:VK}{us:List Value}{vs:List V}(F:uk X.prog X.w X.K X.mg X.base CX k f fd ps sp)(hr:gN k X.A)(hb:uZ X.K fd ps ds)(hd:bV dvs ds)(hx:Ah CX X E)
  (I:bx X pins σ H s) (r:bV vs us) (h:sp (vs++dvs) H Q E):wpAny (model X.prog X.w) X.A (call (.ref f) us) (EP X pins σ Q) X.xe s:=by
 have r2:bV (vs++dvs) (us++ds):=r.append hd
 have hl:(us++ds).length=ps.length:=by rw[<-r2.length];exact F.len _ _ _ _ h
 refine wpAny_call (codeAny_mono (F.run X.A X.stack s H ⟨us,[]⟩ (us++ds) (vs++dvs) Q E hr I.env0 (hb s us I.kIn hl) r2 h) λr s' hq=>?_)
 cases r with
 |error e=>exact hx pins σ H s e s' I hq
 |ok fl=>
  cases fl with
  |ret u=>exact I.after hq
  |next=>exact False.elim hq
  |brk=>exact False.elim hq
  |cont=>exact False.elim hq
theorem Hs(F:uk X.prog X.w X.K X.mg X.base CX k f fd ps sp)(hr:gN k X.A)(hg:Gl X x)(hm:X.mg x=some (.ref f))(hk:e6 X.K (.ref f)=true)(hb:uZ X.K fd ps ds)(hd:bV dvs ds)(hx:Ah CX X E)
  (ha:PA X (e::es) t) (hdb:(x==("__debug__":Str))=false:=by decide) (he:starEach (e::es) X.env=(false,eval e X.env)::starEach es X.env:=by rfl) (hpl:(backTo pos (starEach es X.env)).any (·.1)=false:=by rfl) :
  PE X (.Call (.Name x p) (e::es) [] pos) (br sp dvs E t):=by
 intro pins s σ H Q I h
 refine wpAny_Call_Name_kw (G7 I hg hm ?_ hdb)
 refine PySem.W.callWith_K (h₀:=X.base) I.ok.mod.kin hk (eF (ha pos pins s σ H _ I h) λus s1 ⟨vs,H1,I1,r,q⟩=>⟨I1.kIn,?_⟩) he hpl
 exact Kn F hr hb hd hx I1 r q
end
section
variable{X:Cx}{CX:DK}{k:Nat}{f C:Addr}{fd:FuncData}{ps ks:List Str}{sp:Sp}{E:XK}{x m:Str}{p pos apos kpos:Pos}{e o:Expr}{es:List Expr}{kws:List Keyword}{te ta:TE}{t tk:TA}{nm:Option Str}
variable{g:List Value->List Value->List Value}{gV:List V->List V->List V}
end
structure rg(N P:List Str)(sc:Scope):Prop where
 kind:sc.kind=.function
 co:sc.isCoroutine=false
 gen:sc.isGenerator=false
 nd:N.Nodup
 pre:N.take P.length=P
 par:∀x∈P,sc.names.lookup x=some .local\/sc.names.lookup x=some .cell
 nofree:∀y∈sc.names,y.2≠.free
theorem va{kindOf:Str->Option NameKind}{x:Str}:∀{binds:List (Str×Value)} {m:Str->Option Value},(∀v,(x,v)∉binds)->bindL kindOf binds m x=m x
 |[],_,_=>rfl
 |(n,v)::r,m,h=>by
  unfold bindL
  rw[va λw hw=>h w (bh _ hw)]
  split
  ·have:x≠n:=by rintro rfl;exact h v bg
   simp[this]
  ·rfl
theorem u7{kindOf:Str->Option NameKind}{x:Str}:∀{binds:List (Str×Value)} {m:Str->Option Value},(∀v,(x,v)∉binds)->bindC kindOf binds m x=m x
 |[],_,_=>rfl
 |(n,v)::r,m,h=>by
  unfold bindC
  rw[u7 λw hw=>h w (bh _ hw)]
  split
  ·rfl
  ·have:x≠n:=by rintro rfl;exact h v bg
   simp[this]
theorem u9{kindOf:Str->Option NameKind}{x:Str}{v:Value}:∀{P:List Str} {vs:List Value} {i:Nat} {m:Str->Option Value},P.Nodup->P[i]?=some x->vs[i]?=some v->kindOf x=some .local->
  bindL kindOf (P.zip vs) m x=some v
 |[],_,_,_,_,h,_,_=>by simp at h
 |_::_,[],_,_,_,_,h,_=>by simp at h
 |p::P,w::vs,0,m,nd,h1,h2,hk=>by
  simp at h1 h2;subst h1;subst h2
  show bindL kindOf ((p,w)::P.zip vs) m p=_
  unfold bindL
  rw[va λv hv=>(bX.mp nd).1 (kD hv).1,if_pos hk]
  simp
 |p::P,w::vs,i+1,m,nd,h1,h2,hk=>by
  show bindL kindOf ((p,w)::P.zip vs) m x=_
  unfold bindL
  exact u9 (i:=i) (bX.mp nd).2 (by simpa using h1) (by simpa using h2) hk
theorem u6{kindOf:Str->Option NameKind}{x:Str}{v:Value}:∀{P:List Str} {vs:List Value} {i:Nat} {m:Str->Option Value},P.Nodup->P[i]?=some x->vs[i]?=some v->kindOf x≠some .local->
  bindC kindOf (P.zip vs) m x=some v
 |[],_,_,_,_,h,_,_=>by simp at h
 |_::_,[],_,_,_,_,h,_=>by simp at h
 |p::P,w::vs,0,m,nd,h1,h2,hk=>by
  simp at h1 h2;subst h1;subst h2
  show bindC kindOf ((p,w)::P.zip vs) m p=_
  unfold bindC
  rw[u7 λv hv=>(bX.mp nd).1 (kD hv).1,if_neg hk]
  simp
 |p::P,w::vs,i+1,m,nd,h1,h2,hk=>by
  show bindC kindOf ((p,w)::P.zip vs) m x=_
  unfold bindC
  exact u6 (i:=i) (bX.mp nd).2 (by simpa using h1) (by simpa using h2) hk
def start(N:List Str)(vs:List V):St:=vs.map some++aV (N.length-vs.length) none
def yj(CX:DK)(P:Program)(w:World)(K:Fg)(mg:Str->Option Value)(base:Heap)(N:List Str)(qual:Str)(scope:Scope)(f:Addr)(cd:Value)(A:Around)(outer:List Env)(s:Shared)(H:Hp)(E:XK):Cx where
 prog:=P
 w:=w
 K:=K
 mg:=mg
 base:=base
 A:=A.deeper (envOfC qual scope s.heap.objs.size f cd)
 N:=N
 s₀:=s
 H₀:=H
 env:=envOfC qual scope s.heap.objs.size f cd
 outer:=outer
 stack:=envOfC qual scope s.heap.objs.size f cd::outer
 ex:=[]
 calm:=true
 fn:=λ_=>true
 pn:=[]
 xe:=λe s'=>wpAny (model P w) (A.deeper (envOfC qual scope s.heap.objs.size f cd)) (leaving (envOfC qual scope s.heap.objs.size f cd) e) (λ_ s''=>CX outer H s E e s'') (λe' s''=>CX outer H s E e' s'') s'
theorem yd{sc:Scope}{n:Nat}{x:Str}(h:sc.names.lookup x=some .cell):∃c,(cellsFrom n sc.names []).lookup x=some c:=by
 have q:=PySem.W.cellsFrom_some sc.names n [] (.inl h)
 exact c8.mp q
theorem CY{CX:DK}{P:Program}{w:World}{K:Fg}{mg:Str->Option Value}{base:Heap}{N ps:List Str}{qual:Str}{scope:Scope}{f:Addr}{cd:Value}{A:Around}{outer:List Env}{s s1:Shared}{H:Hp}{E:XK}{us:List Value}{vs:List V}
  (S:rg N ps scope) (hd:A.handled=none) (e0:Gx P w K mg base A outer s H) (hl:vs.length=ps.length) (r:bV vs us)
  (x:InCallC s s.heap.objs.size (bindL (envOfC qual scope s.heap.objs.size f cd).kindOf (ps.zip us) λ_=>none) (cellsFrom (s.heap.objs.size+1) scope.names []) (bindC (envOfC qual scope s.heap.objs.size f cd).kindOf (ps.zip us) λ_=>none) s1) :
  bx (yj CX P w K mg base N qual scope f cd A outer s H E) [] (start N vs) H s1:=by
 have hpl:ps.length<=N.length:=by have:=congrArg jh S.pre;rw[aR] at this;lia
 obtain⟨h1,tk,rfl,hk⟩:=x.done
 have noA:∀b:Addr,b∉(yj CX P w K mg base N qual scope f cd A outer s H E).ex:=λb z=>absurd (show b∈([]:List Addr) from z) (by simp)
 refine⟨⟨e0.mod,S.kind,rfl,rfl,au _,λy z c h1 h2=>?_,λy hy=>?_,λy c _ h=>?_,λ_=>hd,Around.frames_deeper e0.frames,.inr ⟨rfl,rfl⟩,λb z=>absurd z (noA b),e0.bs,e0.bsz,λb _ _=>noA b,λb z=>absurd z (noA b),e0.funs,e0.frf⟩,
  rfl,e0.bare,Un.kept hk,⟨_,x.toInCall.ns,λi y v h1 h2 h3=>?_⟩,λy c h=>⟨_,x.cell y c h⟩,e0.hok.fresh (au _),λy c h=>?_,λp hp=>absurd (show p∈([]:List (Addr×Obj)) from hp) (by simp),e0.hok.kept hk,?_⟩
 ·exact name_of_addr x.apart (b9 h1) (b9 h2)
 ·have hy:scope.names.lookup y=some .cell\/scope.names.lookup y=some .free:=hy
  rcases hy with hy|hy
  ·exact yd hy
  ·exact absurd rfl (S.nofree _ (b9 hy))
 ·exact bR (x.above y c (b9 h))
 ·have hi:i<vs.length:=by
   unfold start at h2
   by_cases hi:i<vs.length
   ·exact hi
   ·rw[ao (by simpa using hi)] at h2
    rw[List.getElem?_replicate] at h2
    split at h2<;>cases h2
  have ha:vs[i]?=some v:=by
   unfold start at h2
   rw[ar (by simpa using hi),aH] at h2
   cases e:vs[i]? with
   |none=>rw[e] at h2;cases h2
   |some a=>rw[e] at h2;cases h2;rfl
  obtain⟨u,hu,rv⟩:=r.get ha
  have hp:ps[i]?=some y:=by
   rw[<-S.pre,List.getElem?_take_of_lt (by lia)];exact h1
  have ndP:ps.Nodup:=by rw[<-S.pre];exact S.nd.sublist (List.take_sublist _ _)
  refine⟨u,rv,?_⟩
  rcases S.par y (aG hp) with k|k
  ·exact .inl ⟨k,u9 ndP hp hu k⟩
  ·obtain⟨c,e⟩:=yd (n:=s.heap.objs.size+1) k
   refine .inr ⟨.inl k,c,e,?_⟩
   have q:=x.cell y c e
   rw[u6 ndP hp hu (by show scope.names.lookup y≠_;rw[k];decide)] at q
   exact q
 ·exact e0.hok.fresh (bR (x.above y c (b9 h)))
 ·unfold start
  show _=N.length
  rw[ai,af,gD]
  lia
theorem KZ{CX:DK}{P:Program}{w:World}{K:Fg}{mg:Str->Option Value}{base:Heap}{k:Nat}{f:Addr}{name qual:Str}{params:Arguments}{body:List Stmt}{scope:Scope}{dV kV doc pm cdv ct oc:Value}{an od:Option Addr}
  {osl:Array (Option Value)} {N ps:List Str} {sp:Sp} (lk:K.lookup f=some ⟨oc,od,.func (dX name qual params body scope dV kV doc pm an cdv ct),osl⟩) (hcd:gg K cdv qual=true) (S:rg N ps scope)
  (len:∀vs H Q E,sp vs H Q E->vs.length=ps.length)
  (hbody:∀(A:Around) (outer:List Env) (s:Shared) (H:Hp) (vs:List V) (Q:VK) (E:XK),gN k (A.deeper (envOfC qual scope s.heap.objs.size f cdv))->sp vs H Q E->
   ∃t,Ag (yj CX P w K mg base N qual scope f cdv A outer s H E) body t/\t {nx:=λ_ H'=>Q .non H',rt:=Q} (start N vs) H) :
  uk P w K mg base CX (k+1) f (dX name qual params body scope dV kV doc pm an cdv ct) ps sp:=by
 refine⟨len,λA outer s H args us vs Q E hr e0 hb r hsp=>?_⟩
 have hl:=len _ _ _ _ hsp
 have KX:K.In s.heap:=e0.mod.kin.keeps λb o e=>(e0.bs b o e).1
 have lim:s.heap.NoLimit:=e0.mod.nolimit.keeps λb o e=>(e0.bs b o e).1
 have hkind:∀y∈ps.zip us,scope.names.lookup y.1=some .local\/(scope.names.lookup y.1=some .cell/\((cellsFrom (s.heap.objs.size+1) scope.names []).lookup y.1).isSome=true):=λ⟨n,v⟩ hy=>by
  rcases S.par n (kD hy).1 with q|q
  ·exact .inl q
  ·exact .inr ⟨q,PySem.W.cellsFrom_some _ _ _ (.inl q)⟩
 refine codeAny_call_function hr.depth (KX _ _ lk) rfl S.co S.gen rfl (PySem.W.codeRec_of KX hcd) (hb _ _ _ _ ?_)
 refine wpAny_newFunctionEnv_cells S.kind hkind λenv he s1 x=>?_
 subst he
 refine⟨lim.keeps x.toInCall.keep,codeAny_func ?_⟩
 obtain⟨t,ht,hq⟩:=hbody A outer s H vs Q E (hr.deeper _) hsp
 have I:bx (yj CX P w K mg base N qual scope f cdv A outer s H E) [] (start N vs) H s1:=CY S hr.hd e0 hl r x
 refine wpAny_mono (ht [] s1 (start N vs) H _ I hq) (λfl s' hs=>?_) λe s' hs=>hs
 have fin:∀{σ':St} {H':Hp} {v:V} {u:Value},bx (yj CX P w K mg base N qual scope f cdv A outer s H E) [] σ' H' s'->cA v u->Q v H'->CE outer P w H s Q u s':=
  λ{σ' H' v u} J rv q=>⟨v,H',J.os,J.bare,J.base,J.hok,rv,q⟩
 cases fl with
 |ret u=>
  obtain⟨v,σ',H',J,rv,q⟩:=hs
  exact fin J rv q
 |next=>
  obtain⟨σ',H',J,q⟩:=hs
  exact fin (v:=V.non) (u:=Value.none) J rfl q
 |brk=>
  obtain⟨_,_,_,q⟩:=hs
  exact False.elim q
 |cont=>
  obtain⟨_,_,_,q⟩:=hs
  exact False.elim q
section
variable{X:Cx}{x:Str}{p pos:Pos}{e:Expr}{es:List Expr}{t:TA}{id T:String}{r:List V->Hp->VK->Prop}
def ff(r:List V->Hp->VK->Prop)(t:TA):TE:=λσ H Q=>t σ H λvs H1=>r vs H1 Q
theorem E6(hc:ip X (.builtin id) r)(hg:Gl X x)(hm:X.mg x=none)(hv:bootBuiltins x=some (.builtin id))(ha:PA X (e::es) t)(hn:x≠"__name__":=by decide)(hdb:(x==("__debug__":Str))=false:=by decide)
  (he:starEach (e::es) X.env=(false,eval e X.env)::starEach es X.env:=by rfl) (hpl:(backTo pos (starEach es X.env)).any (·.1)=false:=by rfl):PE X (.Call (.Name x p) (e::es) [] pos) (ff r t):=by
 intro pins s σ H Q I h
 refine wpAny_Call_Name_kw (iF I hg hm hv ?_ hn hdb)
 exact PyProof.Rows.callWith_builtin1 (eF (ha pos pins s σ H _ I h) λus s1 ⟨vs,H1,I1,r1,q1⟩=>hc pins s1 σ H1 vs us Q I1 r1 q1) he hpl
theorem C5(hc:ip X (.type T) r)(hg:Gl X x)(hm:X.mg x=none)(hv:bootBuiltins x=some (.type T))(ha:PA X (e::es) t)(hn:x≠"__name__":=by decide)(hdb:(x==("__debug__":Str))=false:=by decide)
  (he:starEach (e::es) X.env=(false,eval e X.env)::starEach es X.env:=by rfl) (hpl:(backTo pos (starEach es X.env)).any (·.1)=false:=by rfl):PE X (.Call (.Name x p) (e::es) [] pos) (ff r t):=by
 intro pins s σ H Q I h
 refine wpAny_Call_Name_kw (iF I hg hm hv ?_ hn hdb)
 exact bo (eF (ha pos pins s σ H _ I h) λus s1 ⟨vs,H1,I1,r1,q1⟩=>hc pins s1 σ H1 vs us Q I1 r1 q1) he hpl
end
end L2
namespace HT
open PySem PyProof.Rows
section
open PySem.SeqAt
open PySem.AutoSeq1 (wpAny_loadPart')
open PySem.MeetsSeq PySem.MeetsSeq2 PySem.MeetsSeq3
end
section
variable{prog:Program}{w:World}{A:Around}{E:Value->Shared->Prop}{s:Shared}
theorem cat_tup{t b:Addr}{vs ws:List Value}{Q:Value->Shared->Prop}(ht:IsTup s.heap t vs.toArray)(hb:IsTup s.heap b ws.toArray)(hv:vs≠[])
  (h1:ws=[]->Q (.ref t) s) (h2:ws≠[]->Q (.ref s.heap.objs.size) {s with heap:=s.heap.push {cls:=.type "tuple",data:=.seq (vs++ws).toArray}})
  (hsz:vs.length+ws.length<=sizeLine):wpAny (model prog w) A (binaryOp .Add (.ref t) (.ref b)) Q E s:=by
 obtain⟨⟨cls,dd,data,sl⟩,ho,hc,n,hd⟩:=id ht
 obtain⟨⟨cls2,dd2,data2,sl2⟩,ho2,hc2,n2,hd2⟩:=id hb
 simp only at hc hd hc2 hd2
 subst hc hd hc2 hd2
 have e:vs.toArray++ws.toArray=(vs++ws).toArray:=by simp
 by_cases hw:ws=[]
 ·exact concat_meets ⟨_,ho,rfl⟩ ⟨_,ho2,rfl⟩ noFill_tuple_add seq_tuple_add gf fU (fG _ _)
   (tuple_addW1 t b vs.toArray ws.toArray n n2 dd dd2 sl sl2 (by simpa using hv) (by simp[hw])) ⟨ho,ho2,h1 hw⟩
 ·refine concat_meets ⟨_,ho,rfl⟩ ⟨_,ho2,rfl⟩ noFill_tuple_add seq_tuple_add gf fU (fG _ _)
   (tuple_addW2 t b vs.toArray ws.toArray n n2 dd dd2 sl sl2 (by simpa using hv) (by simpa using hw) (by rw[ay,ay];exact hsz)) ⟨ho,ho2,?_⟩
  rw[e]
  exact h2 hw
def sIx(n d:Nat):Option Int->Nat
 |none=>d
 |some v=>if v<0 then(v+(n:Int)).toNat else min v.toNat n
theorem sIx_none(n d:Nat):sIx n d none=d:=rfl
theorem sIx_nat(n d k:Nat):sIx n d (some (k:Int))=min k n:=by
 show(if(k:Int)<0 then((k:Int)+(n:Int)).toNat else min (k:Int).toNat n)=min k n
 rw[if_neg (by lia),aZ]
theorem Ko(n d:Nat)(hd:d<=n)(o:Option Int):sIx n d o<=n:=by
 cases o with
 |none=>exact hd
 |some v=>
  show(if v<0 then(v+(n:Int)).toNat else min v.toNat n)<=n
  by_cases hv:v<0
  ·rw[if_pos hv];lia
  ·rw[if_neg hv];exact gM _ _
theorem BB(v:Int)(n d:Nat):(if v<0 then max (v+(n:Int)) 0 else min v (n:Int))=((sIx n d (some v):Nat):Int):=by
 show(if v<0 then max (v+(n:Int)) 0 else min v (n:Int))=(((if v<0 then(v+(n:Int)).toNat else min v.toNat n):Nat):Int)
 by_cases hv:v<0
 ·simp only[if_pos hv];lia
 ·simp only[if_neg hv];lia
theorem Aj(lo hi:Option Int)(n:Nat):Builtin.Slice.sliceAdjust lo hi 1 (n:Int)=(((sIx n 0 lo:Nat):Int),((sIx n n hi:Nat):Int)):=by
 have h1:¬((1:Int)<0):=by lia
 unfold Builtin.Slice.sliceAdjust
 simp only[h1,if_false]
 refine Prod.ext ?_ ?_
 ·cases lo with
  |none=>rfl
  |some v=>exact BB v n 0
 ·cases hi with
  |none=>rfl
  |some v=>exact BB v n n
theorem AU(i j:Nat):Builtin.Slice.slicePlaces (i:Int) (j:Int) 1=j-i:=by
 unfold Builtin.Slice.slicePlaces
 have h1:(1:Int)>0:=by lia
 simp only[h1,if_true,Int.ediv_one]
 split<;>lia
theorem tG{v:Value}{o:Option Int}{Q:Option Int->Shared->Prop}(p:IsPart v o)(h:Q o s):wpAny (model prog w) A (Builtin.Slice.slicePartIndex v) Q E s:=by
 cases p with
 |none=>exact slicePart_none h
 |int i t=>exact slicePart_int h
theorem jX{sl:Addr}{vl vu:Value}{lo hi:Option Int}{n:Nat}{Q:Int×Int×Nat->Shared->Prop}(hs:s.heap.IsSliceOf sl vl vu .none)(pl:IsPart vl lo)(pu:IsPart vu hi)
  (h:Q (((sIx n 0 lo:Nat):Int),1,sIx n n hi-sIx n 0 lo) s):wpAny (model prog w) A (Builtin.Slice.sliceApplied (.ref sl) (pure (n:Int))) Q E s:=by
 obtain⟨os,hos,hcs,hds⟩:=id hs
 unfold Builtin.Slice.sliceApplied Builtin.Slice.sliceFields
 refine wpAny_bind (wpAny_bind (wpAny_field hos hds (x:=vl) rfl (wpAny_bind (wpAny_field hos hds (x:=vu) rfl (wpAny_bind (wpAny_field hos hds (x:=.none) rfl (wpAny_pure ?_)))))))
 refine wpAny_bind (slicePart_none ?_)
 show wpAny _ _ (if((1:Int)==0)=true then _ else _) _ _ s
 rw[if_neg (by decide)]
 refine wpAny_bind (tG pl (wpAny_bind (tG pu (wpAny_bind (wpAny_pure ?_)))))
 show wpAny _ _ (match Builtin.Slice.sliceAdjust lo hi 1 (n:Int) with|(lo,hi)=>pure (lo,(1:Int),Builtin.Slice.slicePlaces lo hi 1)) _ _ s
 rw[Aj lo hi n]
 show wpAny _ _ (pure (((sIx n 0 lo:Nat):Int),(1:Int),Builtin.Slice.slicePlaces ((sIx n 0 lo:Nat):Int) ((sIx n n hi:Nat):Int) 1)) _ _ s
 rw[AU]
 exact wpAny_pure h
theorem Fi(xs:Array Value)(i k:Nat):((cc k).filterMap λ(m:Nat)=>xs[((i:Int)+(m:Int)*1).toNat]?).toArray=((xs.toList.drop i).take k).toArray:=by
 have e:(λ(m:Nat)=>xs[((i:Int)+(m:Int)*1).toNat]?)=λm=>xs[i+m]?:=by
  funext m
  have:((i:Int)+(m:Int)*1).toNat=i+m:=by lia
  rw[this]
 rw[e]
 have:=pick_run xs i k
 rw[List.filterMap_map] at this
 have e2:((λx=>xs[x]?) ∘ λx=>i+x)=λm=>xs[i+m]?:=rfl
 rw[e2] at this
 rw[this]
theorem getItem_tuple_cut{t sl:Addr}{items:Array Value}{vl vu:Value}{lo hi:Option Int}{Q:Value->Shared->Prop}(ht:IsTup s.heap t items)(hs:s.heap.IsSliceOf sl vl vu .none)(pl:IsPart vl lo)(pu:IsPart vu hi)
  (hw:¬(sIx items.size 0 lo=0/\sIx items.size items.size hi=items.size))
  (h:Q (.ref s.heap.objs.size) {s with heap:=s.heap.push {cls:=.type "tuple",data:=.seq ((items.toList.drop (sIx items.size 0 lo)).take (sIx items.size items.size hi-sIx items.size 0 lo)).toArray}})
  (hsz:items.size<=sizeLine):wpAny (model prog w) A (getItem (.ref t) (.ref sl)) Q E s:=by
 have htake:sizeOk (.seq ((items.toList.drop (sIx items.size 0 lo)).take (sIx items.size items.size hi-sIx items.size 0 lo)).toArray):=by
  show((items.toList.drop (sIx items.size 0 lo)).take (sIx items.size items.size hi-sIx items.size 0 lo)).toArray.size<=sizeLine
  rw[ay,aR,cz,bF]
  lia
 have hj:sIx items.size items.size hi<=items.size:=Ko _ _ (au _) hi
 obtain⟨os,hos,hcs,hds⟩:=id hs
 have hTs:s.TypeIs (.ref sl) "slice":=⟨os,hos,hcs⟩
 unfold getItem
 try with_reducible refine wpAny_holding ?_
 first|refine wpAny_bind (wpAny_pure ?_)|skip
 refine wpAny_bind (wpAny_sequenceKey ht.typeIs (by decide) ?_)
 refine wpAny_bind (wpAny_callSpecial?_slot (name:=Str.ofString "__getitem__") ht.typeIs c6
  (wpAny_call_entry c6 ht.typeIs entry_tuple_getitem ?_ (args_tuple_getitem _ _)))
 show wpAny _ _ (Builtin.Tuple.tupleItemsOf (.ref t) >>= _) _ _ s
 refine wpAny_bind (tupleItemsOf_ ht ?_)
 refine wpAny_bind (wpAny_typeOf hTs ?_)
 rw[if_pos (by decide)]
 refine wpAny_bind (jX hs pl pu ?_)
 have hno:¬((((sIx items.size 0 lo:Nat):Int)==0&&(1:Int)==1&&(sIx items.size items.size hi-sIx items.size 0 lo)==items.size)=true):=by
  intro q
  rw[Bool.and_eq_true,Bool.and_eq_true] at q
  have q1:((sIx items.size 0 lo:Nat):Int)=0:=eq_of_beq q.1.1
  have q2:sIx items.size items.size hi-sIx items.size 0 lo=items.size:=eq_of_beq q.2
  exact hw ⟨by lia,by lia⟩
 show wpAny _ _ (if(((sIx items.size 0 lo:Nat):Int)==0&&(1:Int)==1&&(sIx items.size items.size hi-sIx items.size 0 lo)==items.size)=true then _ else _) _ _ s
 rw[if_neg hno,Fi]
 first
  |exact wpAny_bind (m:=Builtin.Tuple.tupleExact _) (wpAny_newObj_type (wpAny_pure ⟨_,rfl,wpAny_pure h⟩) htake)
  |exact wpAny_bind (m:=Builtin.Tuple.tupleExact _) (wpAny_newObj_type (wpAny_bind (wpAny_pure (wpAny_pure ⟨_,rfl,wpAny_pure h⟩))) htake)
  |exact wpAny_bind (wpAny_bind (m:=Builtin.Tuple.tupleExact _) (wpAny_newObj_type (wpAny_pure (wpAny_pure ⟨_,rfl,wpAny_pure h⟩)) htake))
  |exact wpAny_bind (wpAny_bind (m:=Builtin.Tuple.tupleExact _) (wpAny_newObj_type (wpAny_pure ⟨_,rfl,wpAny_pure h⟩) htake))
end
end HT
namespace L2
open PySem PySem.Spec PyProof.Rows
abbrev TO:=St->Hp->(Option Int->Hp->Prop)->Prop
def PO(X:Cx)(e:Option Expr)(t:TO):Prop:=
 ∀(pins:List (Addr×Obj)) (s:Shared) (σ:St) (H:Hp) (Q:Option Int->Hp->Prop),bx X pins σ H s->t σ H Q->
  wpAny (model X.prog X.w) X.A (evalPart e X.env) (λu s'=>∃o H',bx X pins σ H' s'/\IsPart u o/\Q o H') X.xe s
def gu:TO:=λ_ H Q=>Q none H
def lS(t:TE):TO:=λσ H Q=>t σ H λx H1=>∃i,x=.int i/\Q (some i) H1
section
variable{X:Cx}{e:Expr}{te:TE}{lo hi:Option Expr}{tl th:TO}{pos p2:Pos}
theorem HI:PO X none gu:=by
 intro pins s σ H Q I h
 rw[evalPart_none]
 exact wpAny_pure ⟨none,H,I,.none,h⟩
theorem HJ(h:PE X e te):PO X (some e) (lS te):=by
 intro pins s σ H Q I hw
 rw[evalPart_some]
 refine eF (h pins s σ H _ I hw) λu s1 ⟨x,H1,I1,r1,q1⟩=>?_
 obtain⟨i,rfl,q⟩:=q1
 obtain⟨t,rfl⟩:=r1
 exact⟨some i,H1,I1,.int i t,q⟩
def D7(X:Cx)(r:V->Option Int->Option Int->Hp->VK->Prop):Prop:=
 ∀(pins:List (Addr×Obj)) (s:Shared) (σ:St) (H:Hp) (x:V) (v vl vu:Value) (lo hi:Option Int) (sl:Addr) (Q:VK),bx X pins σ H s->cA x v->s.heap.IsSliceOf sl vl vu .none->IsPart vl lo->IsPart vu hi->r x lo hi H Q->
  ∃T id,typeLookup (.type T) "__getitem__"=pure (some (.builtin id))/\s.TypeIs v T/\wpAny (model X.prog X.w) X.A (getItem v (.ref sl)) (EP X pins σ Q) X.xe s
theorem D7.or{r r':V->Option Int->Option Int->Hp->VK->Prop}(h:D7 X r)(h':D7 X r'):D7 X (λx lo hi H Q=>r x lo hi H Q\/r' x lo hi H Q):=by
 intro pins s σ H x v vl vu lo hi sl Q I rx hs pl pu q
 rcases q with q|q
 ·exact h pins s σ H x v vl vu lo hi sl Q I rx hs pl pu q
 ·exact h' pins s σ H x v vl vu lo hi sl Q I rx hs pl pu q
def FY(r:V->Option Int->Option Int->Hp->VK->Prop)(te:TE)(tl th:TO):TE:=λσ H Q=>te σ H λx H1=>tl σ H1 λl H2=>th σ H2 λu H3=>r x l u H3 Q
theorem Fe{r:V->Option Int->Option Int->Hp->VK->Prop}(hr:D7 X r)(he:PE X e te)(hl:PO X lo tl)(hu:PO X hi th):PE X (.Subscript e (.Slice lo hi none p2) pos) (FY r te tl th):=by
 intro pins s σ H Q I h
 refine Subscript_ (eF (he pins s σ H _ I h) λv s1 ⟨x,H1,I1,r1,q1⟩=>?_)
 refine wpAny_Slice (eF (hl pins s1 σ H1 _ I1 q1) λvl s2 ⟨l,H2,I2,pl,q2⟩=>eF (hu pins s2 σ H2 _ I2 q2) λvu s3 ⟨u,H3,I3,pu,q3⟩=>?_)
 rw[evalPart_none]
 refine wpAny_pure ?_
 have I4:bx X pins σ H3 {s3 with heap:=s3.heap.push {cls:=.type "slice",data:=.fields #[vl,vu,.none]}}:=I3.kept (t':=s3.toks) λb ob q=>ag _ q
 obtain⟨T,id,hT,ht,hg⟩:=hr pins {s3 with heap:=s3.heap.push {cls:=.type "slice",data:=.fields #[vl,vu,.none]}} σ H3 x v vl vu l u s3.heap.objs.size Q I4 r1 (Heap.IsSliceOf.new ..) pl pu q3
 show wpAny (model X.prog X.w) X.A (subscriptTail e (.Slice lo hi none p2) v (.ref s3.heap.objs.size)) (EP X pins σ Q) X.xe {s3 with heap:=s3.heap.push {cls:=.type "slice",data:=.fields #[vl,vu,.none]}}
 exact tail_any (ops:=[.ref s3.heap.objs.size,v]) ht hT hg (by with_unfolding_all rfl)
def mB(xs:List V)(lo hi:Option Int):List V:=(xs.drop (HT.sIx xs.length 0 lo)).take (HT.sIx xs.length xs.length hi-HT.sIx xs.length 0 lo)
theorem qC(xs:List V)(lo hi:Option Int):(mB xs lo hi).length<=xs.length:=by
 unfold mB
 rw[aR,cz]
 lia
def Lx(K:Fg):V->Option Int->Option Int->Hp->VK->Prop:=λx lo hi H Q=>∃a xs,x=.ref a/\cE K H a xs/\
 ¬(HT.sIx xs.length 0 lo=0/\HT.sIx xs.length xs.length hi=xs.length)/\∀p,H p=none->Q (.ref p) (aP H p (.tup (mB xs lo hi)))
theorem Ks:D7 X (Lx X.K):=by
 intro pins s σ H x v vl vu lo hi sl Q I rx hs pl pu h
 obtain⟨a,xs,rfl,hx,hw,q⟩:=h
 cases rx
 obtain⟨its,r,ht,hz⟩:=I.tuple hx
 have hlen:its.toArray.size=xs.length:=by rw[ay];exact r.length.symm
 refine⟨"tuple",_,c6.lookup,ht.typeIs,?_⟩
 refine HT.getItem_tuple_cut ht hs pl pu (by rw[hlen];exact hw) ?_ (by rw[hlen];exact hz)
 rw[hlen]
 refine⟨.ref s.heap.objs.size,_,I.laid (t':=s.toks) (o:=.tup (mB xs lo hi)) (λb ob q=>ag _ q) (au _) ?_,rfl,q _ (I.hok.fresh (au _))⟩
 exact⟨a8 (qC xs lo hi) hz,_,(r.drop (HT.sIx xs.length 0 lo)).take (HT.sIx xs.length xs.length hi-HT.sIx xs.length 0 lo),jE.new _ _⟩
def IL(K:Fg):R2:=λx y H Q=>∃a b xs ys,x=.ref a/\y=.ref b/\cE K H a xs/\cE K H b ys/\xs≠[]/\xs.length+ys.length<=sizeLine/\
 (ys=[]->Q (.ref a) H)/\(ys≠[]->∀p,H p=none->Q (.ref p) (aP H p (.tup (xs++ys))))
theorem bV.nil_iff{xs:List V}{us:List Value}(r:bV xs us):us=[]↔xs=[]:=by
 cases r with
 |nil=>simp
 |cons _ _=>simp
theorem Hm:jc X (binaryOp .Add) (IL X.K):=by
 intro pins s σ H x y v u Q I rx ry h
 obtain⟨a,b,xs,ys,rfl,rfl,ha,hb,hx,hz,q1,q2⟩:=h
 cases rx
 cases ry
 obtain⟨its,r1,p1,_⟩:=I.tuple ha
 obtain⟨its2,r2,p2,_⟩:=I.tuple hb
 refine HT.cat_tup p1 p2 (λz=>hx (r1.nil_iff.mp z)) (λz=>⟨.ref a,H,I,rfl,q1 (r2.nil_iff.mp z)⟩) (λz=>?_) (by rw[<-r1.length,<-r2.length];exact hz)
 refine⟨.ref s.heap.objs.size,_,I.laid (t':=s.toks) (o:=.tup (xs++ys)) (λb ob q=>ag _ q) (au _) ?_,rfl,q2 (λw=>z (r2.nil_iff.mpr w)) _ (I.hok.fresh (au _))⟩
 exact⟨by rw[ai];exact hz,_,r1.append r2,jE.new _ _⟩
end
def GZ(n:Nat)(i:Int):Option Nat:=if 0<=i then(if i<n then some i.toNat else none) else if -(n:Int)<=i then some (i+n).toNat else none
def GO{α:Type}(xs:List α)(i:Int):Option α:=(GZ xs.length i).bind λj=>xs[j]?
theorem BN{n:Nat}{i:Int}{j:Nat}(h:GZ n i=some j):seqIndex? i n=some j/\j<n/\-(n:Int)<=i/\i<n:=by
 unfold GZ at h
 by_cases h0:0<=i
 ·rw[if_pos h0] at h
  by_cases h1:i<n
  ·rw[if_pos h1] at h
   have e:i.toNat=j:=Option.some.inj h
   exact⟨by rw[seqIndex_of h0 h1,e],by lia,by lia,h1⟩
  ·rw[if_neg h1] at h;cases h
 ·rw[if_neg h0] at h
  by_cases h1:-(n:Int)<=i
  ·rw[if_pos h1] at h
   have e:(i+n).toNat=j:=Option.some.inj h
   exact⟨by rw[seqIndex_neg (by lia) h1,e],by lia,h1,by lia⟩
  ·rw[if_neg h1] at h;cases h
theorem wz{α:Type}{xs:List α}{i:Int}{v:α}(h:GO xs i=some v):∃j,seqIndex? i xs.length=some j/\xs[j]?=some v/\j<xs.length/\-(xs.length:Int)<=i/\i<xs.length:=by
 unfold GO at h
 cases e:GZ xs.length i with
 |none=>rw[e] at h;cases h
 |some j=>
  rw[e] at h
  obtain⟨h1,h2,h3,h4⟩:=BN e
  exact⟨j,h1,h,h2,h3,h4⟩
theorem Ed{α:Type}(xs:List α)(v:α):GO (xs++[v]) (-1)=some v:=by
 have hl:(xs++[v]).length=xs.length+1:=by simp
 have e:GZ (xs++[v]).length (-1)=some xs.length:=by
  unfold GZ
  rw[hl,if_neg (by decide),if_pos (by lia)]
  congr 1
  lia
 unfold GO
 rw[e]
 show(xs++[v])[xs.length]?=some v
 simp
def wx(b:Expr):Prop:=∀o i,subscripted b false o i=operate [o,i] (getItem o i)
def Gs(X:Cx)(r:R2):Prop:=
 ∀(value slice:Expr) (pins:List (Addr×Obj)) (s:Shared) (σ:St) (H:Hp) (x y:V) (v u:Value) (Q:VK),bx X pins σ H s->cA x v->cA y u->r x y H Q->
  subscripted slice false v u=operate [v,u] (getItem v u)->wpAny (model X.prog X.w) X.A (subscriptTail value slice v u) (EP X pins σ Q) X.xe s
def KI(X:Cx)(id:String)(r:V->List V->Hp->VK->Prop):Prop:=
 ∀(pins:List (Addr×Obj)) (s:Shared) (σ:St) (H:Hp) (x:V) (xs:List V) (v:Value) (us:List Value) (Q:VK),bx X pins σ H s->cA x v->bV xs us->r x xs H Q->
  wpAny (model X.prog X.w) X.A (call (.builtin id) (v::us)) (EP X pins σ Q) X.xe s
section
variable{X:Cx}{a b:Expr}{ta tb:TE}{pos:Pos}
theorem Gs.or{r r':R2}(h:Gs X r)(h':Gs X r'):Gs X (λx y H Q=>r x y H Q\/r' x y H Q):=by
 intro value slice pins s σ H x y v u Q I rx ry q hs
 rcases q with q|q
 ·exact h value slice pins s σ H x y v u Q I rx ry q hs
 ·exact h' value slice pins s σ H x y v u Q I rx ry q hs
theorem Lg{r:R2}(hr:Gs X r)(ha:PE X a ta)(hb:PE X b tb)(hs:wx b):PE X (.Subscript a b pos) (bN r ta tb):=by
 intro pins s σ H Q I h
 exact Subscript_ (Jk ha hb I h λv u s2 x y H2 I2 rx ry q=>hr a b pins s2 σ H2 x y v u Q I2 rx ry q (hs _ _))
def Lr(K:Fg):R2:=λx y H Q=>∃p xs i v,x=.ref p/\y=.int i/\cq K H p xs/\GO xs i=some v/\Q v H
def Lu(K:Fg):R2:=λx y H Q=>∃p xs i v,x=.ref p/\y=.int i/\cE K H p xs/\GO xs i=some v/\Q v H
def Ls:R2:=λx y H Q=>∃z i c,x=.str z/\y=.int i/\z.length<=sizeLine/\GO z.cps.toList i=some c/\Q (.str ⟨#[c]⟩) H
theorem G0:Gs X (Lr X.K):=by
 intro value slice pins s σ H x y v u Q I rx ry h hs
 obtain⟨p,xs,i,z,rfl,rfl,hq,he,q⟩:=h
 cases rx
 obtain⟨t,rfl⟩:=ry
 obtain⟨its,r,pl,hz⟩:=I.list hq
 obtain⟨j,h1,h2,h3,h4,h5⟩:=wz he
 obtain⟨w,ew,rw'⟩:=r.get h2
 have hl:=r.length
 have hn:=sG
 have fin:EP X pins σ Q w s:=⟨z,H,I,rw',q⟩
 by_cases h0:0<=i
 ·have hj:i.toNat=j:=by
   rw[seqIndex_of h0 h5] at h1
   exact Option.some.inj h1
  exact item_listR pl.isList h0 (by lia) (by rw[hj];simpa using ew) fin hs
 ·have hj:(i+(its.toArray.size:Int)).toNat=j:=by
   rw[seqIndex_neg (by lia) h4] at h1
   rw[ay,<-hl]
   exact Option.some.inj h1
  exact subscriptTail_builtinR (x:=w) pl.isList.typeIs slot_list_getitem.lookup
   (wpAny_getItem_list_neg (Q:=λr s'=>r=w/\EP X pins σ Q r s') pl.isList (by lia) (by rw[ay]<;>lia) (by lia) (by rw[hj];simpa using ew) ⟨rfl,fin⟩) hs
theorem Jt:Gs X (Lu X.K):=by
 intro value slice pins s σ H x y v u Q I rx ry h hs
 obtain⟨p,xs,i,z,rfl,rfl,hq,he,q⟩:=h
 cases rx
 obtain⟨t,rfl⟩:=ry
 obtain⟨its,r,pl,hz⟩:=I.tuple hq
 obtain⟨j,h1,h2,h3,h4,h5⟩:=wz he
 obtain⟨w,ew,rw'⟩:=r.get h2
 have hl:=r.length
 have hn:=sG
 have fin:EP X pins σ Q w s:=⟨z,H,I,rw',q⟩
 exact subscriptTail_builtinR (x:=w) pl.typeIs slot_tuple_getitem.lookup
  (getItem_tuple (j:=j) (Q:=λr s'=>r=w/\EP X pins σ Q r s') pl (by lia) (by lia) (by rw[ay,<-hl];exact h1) (by simpa using ew) ⟨rfl,fin⟩) hs
theorem Js:Gs X Ls:=by
 intro value slice pins s σ H x y v u Q I rx ry h hs
 obtain⟨z,i,c,rfl,rfl,hz,he,q⟩:=h
 obtain⟨t,rfl⟩:=rx
 obtain⟨t',rfl⟩:=ry
 obtain⟨j,h1,h2,h3,h4,h5⟩:=wz he
 have hl:z.cps.toList.length=z.length:=by simp[Str.length]
 rw[hl] at h1 h4 h5
 have hn:=sG
 exact tail_any (typeIs_str s z t) slot_str_getitem.lookup (getItem_str (c:=c) (by
  have e1:decide (i < -(2 ^ 63:Int))=false:=decide_eq_false (by lia)
  have e2:decide (i >= 2 ^ 63)=false:=decide_eq_false (by lia)
  rw[e1,e2,Bool.or_false]) (by rw[h1];simpa using h2) ⟨.str ⟨#[c]⟩,H,I.tok _,⟨_,rfl⟩,q⟩) hs
def eU(K:Fg):R2:=λx y H Q=>Lr K x y H Q\/Lu K x y H Q\/Ls x y H Q
theorem Jr:Gs X (eU X.K):=G0.or (Jt.or Js)
theorem AN(its:List Value)(n j:Nat)(u:Value):Obj.mapSeq (·.setIfInBounds j u) {cls:=.type "list",data:=.seq its.toArray n}={cls:=.type "list",data:=.seq (its.set j u).toArray n}:=by
 simp[Obj.mapSeq]
theorem bx.lst{pins:List (Addr×Obj)}{σ:St}{H:Hp}{s:Shared}{p:Addr}{xs:List V}(I:bx X pins σ H s)(h:H p=some (.lst xs)) :
  ∃(its:List Value) (n:Nat),bV xs its/\s.heap.get? p=some {cls:=.type "list",data:=.seq its.toArray n}/\xs.length<=sizeLine:=by
 obtain⟨z,its,n,r,e⟩:=I.hok p _ h
 exact⟨its,n,r,e,z⟩
theorem bx.lstUpd{pins:List (Addr×Obj)}{σ:St}{H:Hp}{s:Shared}{p:Addr}{xs ys:List V}{its its':List Value}{n n':Nat}{f:Obj->Obj}(I:bx X pins σ H s)(h:H p=some (.lst xs))
  (ho:s.heap.get? p=some {cls:=.type "list",data:=.seq its.toArray n}) (hf:f {cls:=.type "list",data:=.seq its.toArray n}={cls:=.type "list",data:=.seq its'.toArray n'}) (r:bV ys its') (hz:ys.length<=sizeLine) (t:Nat) :
  bx X pins σ (aP H p (.lst ys)) {s with heap:=s.heap.update p f,toks:=t}:=by
 have e:(s.heap.update p f).get? p=some {cls:=.type "list",data:=.seq its'.toArray n'}:=by
  rw[bW f ho (by rw[hf]<;>rfl),hf]
 refine I.write (x:=p) (e:=p) (by rw[h];trivial) (.inl rfl) (λb u hb q=>(bG _ _ (Ne.symm hb)).trans q) ⟨_,e⟩ ?_
 exact⟨hz,its',n',r,e⟩
def yY:V->V->V->Hp->(Hp->Prop)->Prop:=λo i v H Q=>∃p xs k j,o=.ref p/\i=.int k/\H p=some (.lst xs)/\GZ xs.length k=some j/\Q (aP H p (.lst (xs.set j v)))
theorem tF:GI X yY:=by
 intro pins s σ H o i v ov iv u Q I ro ri rv h
 obtain⟨p,xs,k,j,rfl,rfl,hp,hj,q⟩:=h
 cases ro
 obtain⟨t,rfl⟩:=ri
 obtain⟨its,n,r,ho,hz⟩:=I.lst hp
 obtain⟨h1,h2,h3,h4⟩:=BN hj
 have hl:=r.length
 have hn:=sG
 have I':bx X pins σ (aP H p (.lst (xs.set j v))) {s with heap:=s.heap.update p (Obj.mapSeq (·.setIfInBounds j u))}:=
  I.lstUpd hp ho (AN its n j u) (r.set rv j) (by rw[kB];exact hz) s.toks
 by_cases h0:0<=k
 ·have hk:k.toNat=j:=by
   rw[seqIndex_of h0 h4] at h1
   exact Option.some.inj h1
  exact PySem.W.ki_setAt ho h0 (by lia) (by rw[ay,<-hl];exact h4) (by rw[hk];exact⟨_,I',q⟩)
 ·have hk:(k+(its.toArray.size:Int)).toNat=j:=by
   rw[seqIndex_neg (by lia) h3] at h1
   rw[ay,<-hl]
   exact Option.some.inj h1
  exact PySem.W.ki_setBack ho (by lia) (by rw[ay,<-hl];exact h3) (by lia) (by rw[hk];exact⟨_,I',q⟩)
theorem xr(lo hi:Option Int)(n:Nat):(sliceBounds lo hi none n).1=((HT.sIx n 0 lo:Nat):Int)/\(sliceBounds lo hi none n).2.1=((HT.sIx n n hi:Nat):Int)/\(sliceBounds lo hi none n).2.2=1:=by
 refine⟨?_,?_,rfl⟩
 ·cases lo with
  |none=>simp[sliceBounds,HT.sIx]
  |some i=>
   simp only[sliceBounds,HT.sIx,jO,show(1:Int)>0 by decide,if_true]
   by_cases h:i<0
   ·simp only[h,if_true]<;>lia
   ·simp only[h,if_false]<;>lia
 ·cases hi with
  |none=>simp[sliceBounds,HT.sIx]
  |some i=>
   simp only[sliceBounds,HT.sIx,jO,show(1:Int)>0 by decide,if_true]
   by_cases h:i<0
   ·simp only[h,if_true]<;>lia
   ·simp only[h,if_false]<;>lia
theorem uR(its:List Value)(lo hi:Option Int):slicePick its.toArray lo hi none=((its.drop (HT.sIx its.length 0 lo)).take (HT.sIx its.length its.length hi-HT.sIx its.length 0 lo)).toArray:=by
 obtain⟨h1,h2,h3⟩:=xr lo hi its.toArray.size
 unfold slicePick
 rw[h1,h2,h3]
 simp only[sliceRange_one,pick_run,ay]<;>rfl
def Lw(K:Fg):V->Option Int->Option Int->Hp->VK->Prop:=λx lo hi H Q=>∃a xs,x=.ref a/\cq K H a xs/\∀p,H p=none->Q (.ref p) (aP H p (.lst (mB xs lo hi)))
theorem Ir:D7 X (Lw X.K):=by
 intro pins s σ H x v vl vu lo hi sl Q I rx hs pl pu h
 obtain⟨a,xs,rfl,hx,q⟩:=h
 cases rx
 obtain⟨its,r,ht,hz⟩:=I.list hx
 have hlen:=r.length
 refine⟨"list",_,slot_list_getitem.lookup,ht.isList.typeIs,?_⟩
 refine wpAny_getItem_list_slice ht.isList hs pl pu .none (by simp) ?_ (by rw[ay]<;>lia)
 rw[uR,<-hlen]
 refine⟨.ref s.heap.objs.size,_,I.laid (t':=s.toks) (o:=.lst (mB xs lo hi)) (λb ob q=>ag _ q) (au _) ?_,rfl,q _ (I.hok.fresh (au _))⟩
 exact⟨a8 (qC xs lo hi) hz,_,0,(r.drop (HT.sIx xs.length 0 lo)).take (HT.sIx xs.length xs.length hi-HT.sIx xs.length 0 lo),ax _ rfl⟩
def ir:V->Bool
 |.non=>true
 |.bl _=>true
 |.int _=>true
 |.str _=>true
 |_=>false
def yt:V->V->Bool
 |.non,.non=>true
 |.bl a,.bl b=>a==b
 |.bl a,.int b=>(if a then 1 else 0)==b
 |.int a,.bl b=>a==(if b then 1 else 0)
 |.int a,.int b=>a==b
 |.str a,.str b=>a==b
 |_,_=>false
theorem Et{A:Around}{s:Shared}{y x:V}{u v:Value}(ry:cA y u)(rx:cA x v)(fy:ir y=true)(fx:ir x=true):SeqAt.EqAt A s u v (yt y x):=by
 cases y with
 |non=>
  cases ry
  cases x with
  |non=>cases rx;exact SeqAt.EqAt.same _
  |bl b=>cases rx;exact SeqAt.EqAt.none_bool b
  |int b=>obtain⟨t,rfl⟩:=rx;exact SeqAt.EqAt.none_int b t
  |str b=>obtain⟨t,rfl⟩:=rx;exact SeqAt.EqAt.none_str b t
  |_=>exact absurd (show false=true from fx) Bool.false_ne_true
 |bl a=>
  cases ry
  cases x with
  |non=>cases rx;exact SeqAt.EqAt.bool_none a
  |bl b=>cases rx;exact SeqAt.EqAt.bool_bool a b
  |int b=>obtain⟨t,rfl⟩:=rx;exact SeqAt.EqAt.bool_int a b t
  |str b=>obtain⟨t,rfl⟩:=rx;exact SeqAt.EqAt.bool_str a b t
  |_=>exact absurd (show false=true from fx) Bool.false_ne_true
 |int a=>
  obtain⟨t',rfl⟩:=ry
  cases x with
  |non=>cases rx;exact SeqAt.EqAt.int_none a t'
  |bl b=>cases rx;exact SeqAt.EqAt.int_bool a t' b
  |int b=>obtain⟨t,rfl⟩:=rx;exact SeqAt.EqAt.int_int a t' b t
  |str b=>obtain⟨t,rfl⟩:=rx;exact SeqAt.EqAt.int_str a t' b t
  |_=>exact absurd (show false=true from fx) Bool.false_ne_true
 |str a=>
  obtain⟨t',rfl⟩:=ry
  cases x with
  |non=>cases rx;exact SeqAt.EqAt.str_none a t'
  |bl b=>cases rx;exact SeqAt.EqAt.str_bool a t' b
  |int b=>obtain⟨t,rfl⟩:=rx;exact SeqAt.EqAt.str_int a t' b t
  |str b=>obtain⟨t,rfl⟩:=rx;exact SeqAt.EqAt.str_str a t' b t
  |_=>exact absurd (show false=true from fx) Bool.false_ne_true
 |_=>exact absurd (show false=true from fy) Bool.false_ne_true
def AB(x:V)(u:Value):Bool:=match u with
 |.none=>yt .non x
 |.bool b=>yt (.bl b) x
 |.int i _=>yt (.int i) x
 |.str z _=>yt (.str z) x
 |_=>false
theorem Eu{x y:V}{u:Value}(r:cA y u)(f:ir y=true):AB x u=yt y x:=by
 cases y with
 |non=>cases r;rfl
 |bl b=>cases r;rfl
 |int i=>obtain⟨t,rfl⟩:=r;rfl
 |str z=>obtain⟨t,rfl⟩:=r;rfl
 |_=>exact absurd (show false=true from f) Bool.false_ne_true
theorem oJ{x:V}:∀{xs:List V} {us:List Value},bV xs us->xs.all ir=true->us.any (AB x)=xs.any λy=>yt y x
 |_,_,.nil,_=>rfl
 |y::xs,u::us,.cons r t,f=>by
  rw[mG,Bool.and_eq_true] at f
  rw[gZ,gZ,Eu r f.1,oJ t f.2]
theorem lE{A:Around}{s:Shared}{x:V}{v:Value}(rx:cA x v)(fx:ir x=true):∀{xs:List V} {us:List Value},bV xs us->xs.all ir=true->∀u∈us,SeqAt.EqAt A s u v (AB x u)
 |_,_,.nil,_=>λu hu=>by cases hu
 |y::xs,u::us,.cons r t,f=>λu' hu=>by
  rw[mG,Bool.and_eq_true] at f
  rcases aN.mp hu with rfl|hu
  ·rw[Eu r f.1];exact Et r rx f.1 fx
  ·exact lE rx fx t f.2 u' hu
def AF(x:V)(xs:List V):Bool:=xs.any λy=>yt y x
def C9(K:Fg)(neg:Bool):R2:=λx y H Q=>∃p xs,y=.ref p/\(cq K H p xs\/cE K H p xs)/\ir x=true/\xs.all ir=true/\Q (.bl (if neg then !AF x xs else AF x xs)) H
theorem gR:jc X (compareOp .In) (C9 X.K false):=by
 intro pins s σ H x y v u Q I rx ry h
 obtain⟨p,xs,rfl,hq,fx,fs,q⟩:=h
 cases ry
 rcases hq with hq|hq
 ·obtain⟨its,r,pl,hz⟩:=I.list hq
  refine SeqAt.in_listAt (AB x) pl.isList (λw hw=>lE rx fx r fs w (by simpa using hw)) ⟨.bl _,H,I,rfl,?_⟩
  rw[show its.toArray.any (AB x)=its.any (AB x) by simp,oJ r fs]
  exact q
 ·obtain⟨its,r,pl,hz⟩:=I.tuple hq
  refine SeqAt.in_tupleAt (AB x) pl (λw hw=>lE rx fx r fs w (by simpa using hw)) ⟨.bl _,H,I,rfl,?_⟩
  rw[show its.toArray.any (AB x)=its.any (AB x) by simp,oJ r fs]
  exact q
theorem oW:jc X (compareOp .NotIn) (C9 X.K true):=by
 intro pins s σ H x y v u Q I rx ry h
 obtain⟨p,xs,rfl,hq,fx,fs,q⟩:=h
 cases ry
 rcases hq with hq|hq
 ·obtain⟨its,r,pl,hz⟩:=I.list hq
  refine SeqAt.notIn_listAt (AB x) pl.isList (λw hw=>lE rx fx r fs w (by simpa using hw)) ⟨.bl _,H,I,rfl,?_⟩
  rw[show its.toArray.any (AB x)=its.any (AB x) by simp,oJ r fs]
  exact q
 ·obtain⟨its,r,pl,hz⟩:=I.tuple hq
  refine SeqAt.notIn_tupleAt (AB x) pl (λw hw=>lE rx fx r fs w (by simpa using hw)) ⟨.bl _,H,I,rfl,?_⟩
  rw[show its.toArray.any (AB x)=its.any (AB x) by simp,oJ r fs]
  exact q
theorem j6:ip X (.type "list") (λxs H Q=>∃p ys,xs=[.ref p]/\(cq X.K H p ys\/cE X.K H p ys)/\∀l,H l=none->Q (.ref l) (aP H l (.lst ys))):=by
 intro pins s σ H xs us Q I r h
 obtain⟨p,ys,rfl,hq,q⟩:=h
 obtain⟨u,rfl,rx⟩:=jZ r
 cases rx
 have fin:∀(its:List Value),bV ys its->ys.length<=sizeLine->∀(h':Heap) (c':Nat),(∀b o',s.heap.get? b=some o'->h'.get? b=some o')->
   h'.get? s.heap.objs.size=some {cls:=.type "list",dict:=none,data:=.seq its.toArray c',slots:=#[]}->EP X pins σ Q (.ref s.heap.objs.size) {s with heap:=h'}:=λits r' hz h' c' kp e=>
  ⟨.ref s.heap.objs.size,_,I.laid (t':=s.toks) kp (au _) (show d8 X.prog X.w _ h' _ (.lst ys) from⟨hz,its,c',r',e⟩),rfl,q _ (I.hok.fresh (au _))⟩
 rcases hq with hq|hq
 ·obtain⟨its,r',pl,hz⟩:=I.list hq
  have hlen:=r'.length
  obtain⟨o,ho,hc,n,hd⟩:=pl.isList
  exact call_list_seq p (.inl rfl) ho hc hd (λh' c' kp e=>fin its r' hz h' c' kp e) (by simp only[ay]<;>lia)
 ·obtain⟨its,r',pl,hz⟩:=I.tuple hq
  have hlen:=r'.length
  obtain⟨o,ho,hc,n,hd⟩:=pl
  exact call_list_seq p (.inr rfl) ho hc hd (λh' c' kp e=>fin its r' hz h' c' kp e) (by simp only[ay]<;>lia)
theorem bS:ip X (.type "tuple") (λxs H Q=>∃p ys,xs=[.ref p]/\((cq X.K H p ys/\∀l,H l=none->Q (.ref l) (aP H l (.tup ys)))\/(cE X.K H p ys/\Q (.ref p) H))):=by
 intro pins s σ H xs us Q I r h
 obtain⟨p,ys,rfl,h⟩:=h
 obtain⟨u,rfl,rx⟩:=jZ r
 cases rx
 rcases h with⟨hq,q⟩|⟨hq,q⟩
 ·obtain⟨its,r',pl,hz⟩:=I.list hq
  have hlen:=r'.length
  refine call_tuple_list pl.isList (λh' kp=>?_) (by simp only[ay]<;>lia)
  have I1:bx X pins σ H {s with heap:=h'}:=I.kept (t':=s.toks) kp
  have I2:bx X pins σ (aP H h'.objs.size (.tup ys)) {s with heap:=h'.push {cls:=.type "tuple",data:=.seq its.toArray}}:=
   I1.laid (t':=s.toks) (λb o e=>ag _ e) (au _) (show d8 X.prog X.w _ _ _ (.tup ys) from⟨hz,its,r',jE.new _ _⟩)
  exact⟨.ref h'.objs.size,_,I2,rfl,q _ (I1.hok.fresh (au _))⟩
 ·obtain⟨its,r',pl,hz⟩:=I.tuple hq
  exact call_tuple_same pl ⟨.ref p,H,I,rfl,q⟩
def L0(K:Fg)(T:String)(x:V)(H:Hp):Prop:=match x with
 |.str _=>T="str"
 |.int _=>T="int"
 |.ref p=>(T="list"/\∃xs,cq K H p xs)\/(T="tuple"/\∃o,K.lookup p=some o/\o.cls=.type "tuple"/\o.dict=none)\/
   (T="dict"/\((∃kvs,H p=some (.dK kvs))\/∃kvs,H p=some (.dT kvs)))\/(T="set"/\∃S n,H p=some (.set S n))
 |_=>False
theorem Gf{pins:List (Addr×Obj)}{σ:St}{H:Hp}{s:Shared}{T:String}{x:V}{v:Value}(I:bx X pins σ H s)(r:cA x v)(ty:L0 X.K T x H) :
  s.TypeIs v T/\∀a,v=.ref a->∃ob,s.heap.get? a=some ob/\ob.dict=none:=by
 cases x with
 |str z=>
  obtain⟨t,rfl⟩:=r
  cases(show T="str" from ty)
  exact⟨typeIs_str s z t,λ_ e=>nomatch e⟩
 |int i=>
  obtain⟨t,rfl⟩:=r
  cases(show T="int" from ty)
  exact⟨typeIs_int s i t,λ_ e=>nomatch e⟩
 |ref p=>
  cases r
  rcases ty with⟨rfl,xs,hq⟩|⟨rfl,o,hk,hc,hd⟩|⟨rfl,hk⟩|⟨rfl,S,n,hk⟩
  ·obtain⟨its,_,pl,_⟩:=I.list hq
   refine⟨pl.isList.typeIs,λa e=>?_⟩
   cases e
   obtain⟨o,n,e,c,hd,_⟩:=pl
   exact⟨o,e,hd⟩
  ·refine⟨⟨o,I.kIn p o hk,hc⟩,λa e=>?_⟩
   cases e
   exact⟨o,I.kIn _ o hk,hd⟩
  ·have z:∃o,s.heap.get? p=some o/\o.ExactDict:=by
    rcases hk with⟨kvs,hk⟩|⟨kvs,hk⟩
    ·obtain⟨_,_,_,_,o,_,_,e,ex,_⟩:=I.hok p _ hk
     exact⟨o,e,ex⟩
    ·obtain⟨_,_,_,_,o,_,_,e,ex,_⟩:=I.hok p _ hk
     exact⟨o,e,ex⟩
   obtain⟨o,e,ex⟩:=z
   refine⟨⟨o,e,ex.1⟩,λa e2=>?_⟩
   cases e2
   exact⟨o,e,ex.2.1⟩
  ·obtain⟨o,_,_,_,e,ex,_⟩:=I.hok p _ hk
   refine⟨⟨o,e,ex.1⟩,λa e2=>?_⟩
   cases e2
   exact⟨o,e,ex.2.1⟩
 |_=>exact False.elim ty
def Kt(K:Fg)(T:String)(r:V->List V->Hp->VK->Prop)(to:TE):TE:=λσ H Q=>to σ H λx H1=>L0 K T x H1/\r x [] H1 Q
def rE(K:Fg)(T:String)(r:V->List V->Hp->VK->Prop)(to:TE)(t:TA):TE:=λσ H Q=>to σ H λx H1=>L0 K T x H1/\t σ H1 λxs H2=>r x xs H2 Q
variable{o e:Expr}{es:List Expr}{to:TE}{t:TA}{name:Str}{apos cpos:Pos}{T id:String}{r:V->List V->Hp->VK->Prop}
theorem JU(pa:PlainAttrs T)(slot:Slot T name id)(hty:typeOf (.builtin id)=pure (.type "method_descriptor"))(hm:KI X id r)(ho:PE X o to)
  (hbase:attributeBase o name X.env (eval o X.env)=eval o X.env:=by rfl) (hline:(apos.endLine==cpos.line)=true:=by rfl):PE X (.Call (.Attribute o name apos) [] [] cpos) (Kt X.K T r to):=by
 intro pins s σ H Q I h
 refine wpAny_Call_method0_late hbase hline (eF (ho pins s σ H _ I h) λv s1 ⟨x,H1,I1,r1,ty,q1⟩=>?_)
 obtain⟨h1,h2⟩:=Gf I1 r1 ty
 exact⟨T,id,pa,slot,hty,h1,h2,Calls.callWith_builtin rfl (PySem.evalArgs_none (hm pins s1 σ H1 x [] v [] Q I1 r1 .nil q1))⟩
theorem Le(pa:PlainAttrs T)(slot:Slot T name id)(hty:typeOf (.builtin id)=pure (.type "method_descriptor"))(hm:KI X id r)(ho:PE X o to)(ha:PA X (e::es) t)
  (hbase:attributeBase o name X.env (eval o X.env)=eval o X.env:=by rfl)
  (hfew:((backTo cpos (starEach (e::es) X.env)).all (λx=>!x.1)&&(backToKw cpos (keywordEach [] X.env)).all (λx=>x.1.isSome)
   && decide ((e::es).length+([]:List Keyword).length+(if([]:List Keyword).isEmpty then 0 else 1)<30))=true:=by rfl)
  (hline:(apos.endLine==cpos.line)=true:=by rfl) (hs:starEach (e::es) X.env=(false,eval e X.env)::starEach es X.env:=by rfl) (hplain:(backTo cpos (starEach es X.env)).any (·.1)=false:=by rfl) :
  PE X (.Call (.Attribute o name apos) (e::es) [] cpos) (rE X.K T r to t):=by
 intro pins s σ H Q I h
 refine wpAny_Call_method_late hbase hfew hline rfl (eF (ho pins s σ H _ I h) λv s1 ⟨x,H1,I1,r1,ty,q1⟩=>?_)
 obtain⟨h1,h2⟩:=Gf I1 r1 ty
 refine⟨T,id,pa,slot,hty,h1,h2,?_⟩
 have hA:=ha cpos pins s1 σ H1 _ I1 q1
 rw[hs] at hA ⊢
 refine Calls.callWith_builtin (by show(false || (backTo cpos (starEach es X.env)).any (·.1))=false;rw[hplain]<;>rfl) (Calls.evalArgs_plain ?_)
 exact eF hA λus s2 ⟨vs,H2,I2,r2,q2⟩=>hm pins s2 σ H2 x vs v us Q I2 r1 r2 q2
end
def LJ(X:Cx)(id:String)(r:V->List V->Hp->VK->Prop):Prop:=
 ∀(pins:List (Addr×Obj)) (s:Shared) (σ:St) (H:Hp) (x:V) (xs:List V) (v:Value) (us:List Value) (Q:VK),bx X pins σ H s->cA x v->bV xs us->r x xs H Q->
  wpAny (model X.prog X.w) X.A (call (.builtin id) (v::us)) (EP X pins σ Q) X.xe s
theorem bV.one:∀{x:V} {us:List Value},bV [x] us->∃u,us=[u]/\cA x u
 |_,_,.cons r .nil=>⟨_,rfl,r⟩
theorem bV.zero:∀{us:List Value},bV [] us->us=[]
 |_,.nil=>rfl
theorem bV.dropLast{xs:List V}{us:List Value}(h:bV xs us):bV xs.dropLast us.dropLast:=by
 induction h with
 |nil=>exact .nil
 |cons r t ih=>
  cases t with
  |nil=>exact .nil
  |cons q t'=>exact .cons r ih
theorem bV.eraseIdx:∀{xs:List V} {us:List Value} (i:Nat),bV xs us->bV (xs.eraseIdx i) (us.eraseIdx i)
 |_,_,_,.nil=>.nil
 |_,_,0,.cons _ t=>t
 |_,_,i+1,.cons r t=>.cons r (bV.eraseIdx i t)
theorem bV.reverse{xs:List V}{us:List Value}(h:bV xs us):bV xs.reverse us.reverse:=by
 induction h with
 |nil=>exact .nil
 |cons r t ih=>rw[List.reverse_cons,List.reverse_cons];exact bV.append ih (.cons r .nil)
theorem bV.rep{xs:List V}{us:List Value}(h:bV xs us):∀k:Nat,bV (aV k xs).flatten (aV k us).flatten
 |0=>.nil
 |k+1=>by
  rw[cD,cD,dS,dS]
  exact bV.append h (bV.rep h k)
theorem AD{α:Type}(l:List α):l.eraseIdx (l.length-1)=l.dropLast:=by
 induction l with
 |nil=>rfl
 |cons a r ih=>
  cases r with
  |nil=>rfl
  |cons b r=>
   have e:(a::b::r).length-1=((b::r).length-1)+1:=by
    have h1:(a::b::r).length=r.length+2:=rfl
    have h2:(b::r).length=r.length+1:=rfl
    lia
   rw[e,List.eraseIdx_cons_succ,ih]
   all_goals rfl
theorem vp{α:Type}:∀(l:List α) (i:Nat),(l.eraseIdx i).length<=l.length
 |[],_=>au _
 |_::_,0=>dW _
 |_::r,i+1=>Nat.succ_le_succ (vp r i)
theorem vh(its:List Value):∀(k:Nat) (acc:List Value),
  rH (λx1 x2=>x1++x2) acc.toArray (aV k its.toArray)=(acc++(aV k its).flatten).toArray
 |0,acc=>by simp
 |k+1,acc=>by
  have e:acc.toArray++its.toArray=(acc++its).toArray:=by simp
  have e2:(acc++its)++(aV k its).flatten=acc++(aV (k+1) its).flatten:=by
   rw[cD,dS,eS]
  rw[<-e2,<-vh its k (acc++its),<-e,cD,fI]
section
variable{X:Cx}{pins:List (Addr×Obj)}{σ:St}{H:Hp}{s:Shared}{l b:Addr}{xs ys zs:List V}
theorem bx.lset{its its':List Value}{n:Nat}{f:Array Value->Array Value}{t':Nat}(I:bx X pins σ H s)(hH:H l=some (.lst xs))
  (e:s.heap.get? l=some {cls:=.type "list",data:=.seq its.toArray n}) (hf:f its.toArray=its'.toArray) (hv:bV ys its') (hz:ys.length<=sizeLine) :
  bx X pins σ (aP H l (.lst ys)) {s with heap:=s.heap.update l (Obj.mapSeq f),toks:=t'}:=by
 have q:=PySem.IsL.update e f
 rw[hf] at q
 refine I.write (x:=l) (e:=l) (by rw[hH];exact trivial) (.inl rfl) (λb' u hb hu=>(bG s.heap (Obj.mapSeq f) (Ne.symm hb)).trans hu) ⟨_,q⟩ ?_
 exact⟨hz,its',_,hv,q⟩
theorem bx.lnew{its:List Value}{t':Nat}(I:bx X pins σ H s)(hv:bV ys its)(hz:ys.length<=sizeLine) :
  bx X pins σ (aP H s.heap.objs.size (.lst ys)) {s with heap:=s.heap.push {cls:=.type "list",data:=.seq its.toArray},toks:=t'}:=
 I.laid (λ_ _ q=>ag _ q) (au _) ⟨hz,its,0,hv,ax _ rfl⟩
theorem bx.fresh(I:bx X pins σ H s):H s.heap.objs.size=none:=I.hok.fresh (au _)
theorem bx.lstM(I:bx X pins σ H s)(hH:H l=some (.lst xs)):xs.length<=sizeLine/\∃(its:List Value) (n:Nat),bV xs its/\xs.length=its.length/\s.heap.get? l=some {cls:=.type "list",data:=.seq its.toArray n}:=by
 obtain⟨z,its,n,r,e⟩:=I.hok l _ hH
 exact⟨z,its,n,r,r.length,e⟩
theorem E2{n:Nat}(h:n<=sizeLine):Builtin.List.listTooLong n=false:=by
 unfold Builtin.List.listTooLong
 exact decide_eq_false (by lia)
end
section
variable{X:Cx}
def dN:V->List V->Hp->VK->Prop:=λx vs H Q=>∃l xs y,x=.ref l/\vs=[y]/\H l=some (.lst xs)/\xs.length<sizeLine/\Q .non (aP H l (.lst (xs++[y])))
theorem vq:LJ X "list.append" dN:=by
 intro pins s σ H x vs v us Q I rx rv h
 obtain⟨l,xs,y,rfl,rfl,hH,hz,q⟩:=h
 cases rx
 obtain⟨u,rfl,ru⟩:=rv.one
 obtain⟨z,its,n,r,hl,e⟩:=I.lstM hH
 refine call_meets F.slot_list_append ⟨_,e,rfl⟩ F.entry_list_append (F.args_list_append_2 _ _) (PySem.list_append l its.toArray n u (by rw[ay];lia)) ⟨e,?_⟩
 refine⟨.non,_,I.lset (its':=its++[u]) hH e (by simp) (r.append (.cons ru .nil)) ?_,rfl,q⟩
 rw[ai,aI]
 lia
def wZ:V->List V->Hp->VK->Prop:=λx vs H Q=>∃l b xs zs,x=.ref l/\vs=[.ref b]/\H l=some (.lst xs)/\H b=some (.lst zs)/\xs.length+zs.length<=sizeLine/\Q .non (aP H l (.lst (xs++zs)))
theorem vt:LJ X "list.extend" wZ:=by
 intro pins s σ H x vs v us Q I rx rv h
 obtain⟨l,b,xs,zs,rfl,rfl,hH,hB,hz,q⟩:=h
 cases rx
 obtain⟨u,rfl,ru⟩:=rv.one
 cases ru
 obtain⟨z,its,n,r,hl,e⟩:=I.lstM hH
 obtain⟨z2,its2,n2,r2,hl2,e2⟩:=I.lstM hB
 have hsz:its.toArray.size+its2.toArray.size<=sizeLine:=by rw[ay,ay];lia
 have hlong:¬(!its.toArray.isEmpty&&Builtin.List.listTooLong (its.toArray.size+its2.toArray.size))=true:=by
  rw[E2 hsz,Bool.and_false]
  exact Bool.false_ne_true
 refine call_meets F.slot_list_extend ⟨_,e,rfl⟩ F.entry_list_extend (F.args_list_extend_2 _ _)
  (AutoSeq1.list_extend_list_list_0 l its.toArray n b its2.toArray n2 hlong (by rw[ay];lia) (by lia)) ⟨e,e2,?_⟩
 refine⟨.non,_,I.lset (its':=its++its2) hH e (by simp) (r.append r2) ?_,rfl,q⟩
 rw[ai]
 lia
def Lv:V->List V->Hp->VK->Prop:=λx vs H Q=>∃l xs y,x=.ref l/\vs=[]/\H l=some (.lst xs)/\xs[xs.length-1]?=some y/\Q y (aP H l (.lst xs.dropLast))
theorem JH:LJ X "list.pop" Lv:=by
 intro pins s σ H x vs v us Q I rx rv h
 obtain⟨l,xs,y,rfl,rfl,hH,hy,q⟩:=h
 cases rx
 have hus:=rv.zero
 subst hus
 obtain⟨z,its,n,r,hl,e⟩:=I.lstM hH
 obtain⟨u,hu,ru⟩:=r.get hy
 have hy':its.toArray[its.toArray.size-1]?=some u:=by
  show its.toArray[its.length-1]?=some u
  rw[<-bI,<-hl]
  exact hu
 refine call_meets F.slot_list_pop ⟨_,e,rfl⟩ F.entry_list_pop (F.args_list_pop_1 _) (MeetsSeq.list_pop_last l its.toArray n u hy' (by rw[ay];lia)) ⟨e,?_⟩
 refine⟨y,_,I.lset (its':=its.dropLast) hH e ?_ r.dropLast ?_,ru,q⟩
 ·show its.toArray.eraseIdxIfInBounds (its.toArray.size-1)=its.dropLast.toArray
  rw[ay,List.eraseIdxIfInBounds_toArray,AD]
 ·rw[eX]
  lia
def AZ:V->List V->Hp->VK->Prop:=λx vs H Q=>∃l xs i k y,x=.ref l/\vs=[.int i]/\H l=some (.lst xs)/\-(2 ^ 63)<=i/\i<2 ^ 63/\seqIndex? i xs.length=some k/\xs[k]?=some y/\Q y (aP H l (.lst (xs.eraseIdx k)))
theorem yP:LJ X "list.pop" AZ:=by
 intro pins s σ H x vs v us Q I rx rv h
 obtain⟨l,xs,i,k,y,rfl,rfl,hH,h1,h2,hk,hy,q⟩:=h
 cases rx
 obtain⟨u,rfl,ru⟩:=rv.one
 obtain⟨t,rfl⟩:=ru
 obtain⟨z,its,n,r,hl,e⟩:=I.lstM hH
 obtain⟨w,hw,rw'⟩:=r.get hy
 refine call_meets F.slot_list_pop ⟨_,e,rfl⟩ F.entry_list_pop (F.args_list_pop_2 _ _)
  (MeetsSeq.list_pop_at l its.toArray n i t k w (fitsIndex_both h1 h2) (by rw[ay,<-hl];exact hk) (by rw[<-bI];exact hw) (by rw[ay];lia)) ⟨e,?_⟩
 refine⟨y,_,I.lset (its':=its.eraseIdx k) hH e ?_ (r.eraseIdx k) ?_,rw',q⟩
 ·show its.toArray.eraseIdxIfInBounds k=(its.eraseIdx k).toArray
  rw[List.eraseIdxIfInBounds_toArray]
 ·have:=vp xs k
  lia
def Lp:R2:=λx y H Q=>∃l b xs zs,x=.ref l/\y=.ref b/\H l=some (.lst xs)/\H b=some (.lst zs)/\xs.length+zs.length<=sizeLine/\∀p,H p=none->Q (.ref p) (aP H p (.lst (xs++zs)))
theorem JL:jc X (binaryOp .Add) Lp:=by
 intro pins s σ H x y v u Q I rx ry h
 obtain⟨l,b,xs,zs,rfl,rfl,hH,hB,hz,q⟩:=h
 cases rx
 cases ry
 obtain⟨z,its,n,r,hl,e⟩:=I.lstM hH
 obtain⟨z2,its2,n2,r2,hl2,e2⟩:=I.lstM hB
 refine PySem.P.add_list e e2 ?_ (by rw[ay,ay];lia)
 have ea:its.toArray++its2.toArray=(its++its2).toArray:=by simp
 rw[ea]
 exact⟨.ref _,_,I.lnew (t':=s.toks) (r.append r2) (by rw[ai];lia),rfl,q _ I.fresh⟩
theorem G8{α:Type}(xs:List α)(k:Nat):(aV k xs).flatten.length=k*xs.length:=by
 induction k with
 |zero=>simp
 |succ k ih=>rw[cD,dS,ai,ih,Nat.succ_mul,Nat.add_comm]
end
section
variable{prog:Program}{w:World}{A:Around}{E:Value->Shared->Prop}{s:Shared}
set_option maxRecDepth 100000 in
end
section
variable{X:Cx}
end
end L2
namespace Att
open PySem PySem.W PySem.Calls PyProof.Rows
theorem qZ{P:Params}{h:Heap}:∀(ns:List Int) (vs:List Value),WellAll P h vs (ns.map WData.int)->IntsAre vs ns:=by
 intro ns
 induction ns with
 |nil=>
  intro vs w
  rw[List.map_nil] at w
  cases w
  exact .nil
 |cons n ns ih=>
  intro vs w
  rw[bJ] at w
  cases w with
  |cons a b=>
   cases a
   exact .cons _ _ (ih _ b)
theorem Do{l:OpenLaw}{n:Nat}(hn:l.most=some n){P:Params}{h:Heap}{args:List WData}{vals:List Value}
  (hpre:l.row.toRowW.claim.pre args=true) (hwl:WellAll P h vals args) :
  ∃a vs ns,vals=[Value.ref a]/\args=[WData.list (ns.map WData.int)]/\h.get? a=some {cls:=.type "list",data:=.seq vs.toArray}/\IntsAre vs ns/\ns.length<=n:=by
 have hsh:WShape.hasAll [] args [.list .int]=true:=(pre_splitW hpre).1
 have hc:l.pre.holds [] {args:=args}=true:=(pre_splitW hpre).2
 obtain⟨d,r,rfl,h1,h2⟩:=hasAllW_cons hsh
 obtain rfl:=hasAllW_nil h2
 obtain⟨xs,rfl,h3⟩:=hasW_list h1
 obtain⟨ns,rfl⟩:=items_int h3
 have hlen:ns.length<=n:=by
  unfold OpenLaw.pre at hc
  have h4:(WTm.not (.lt (.lit (.int (n:Int))) (.len (.arg 0)))).holds [] {args:=[.list (ns.map .int)]}=true:=by
   have h4:=(holds_andW hc).1
   rw[hn] at h4
   exact h4
  have h5:=condW_of h4 (w_not (w_lt w_lit (w_len_list (w_arg rfl))))
  rw[af] at h5
  refine Nat.le_of_not_lt λq=>?_
  have q':(n:Int)<((ns.length:Nat):Int):=by lia
  first
   |(rw[decide_eq_true q'] at h5;exact absurd h5 (by decide))
   |(simp at h5;lia)
 cases hwl with
 |cons w1 w2=>
  cases w2
  cases w1 with
  |list ho hall=>exact⟨_,_,ns,rfl,rfl,ho,qZ ns _ hall,hlen⟩
theorem C7(l:OpenLaw)(args:List WData):l.row.toRowW.claim.post args (.bool true) args=true:=
 postW_of (r:=l.row.toRowW) (X:=(true==true))
  (show WShape.has [] (.bool true) .bool=true by first|rfl|decide|simp[WShape.has,WShape.arms,WShape.armsAll])
  (show(WTm.eq .res (.lit (.bool true))).value [] {args:=args,res:=some (.bool true),after:=args}=some (.bool (true==true)) from w_eq_bool (w_res rfl) w_lit) rfl
theorem attach_call{l:OpenLaw}{n:Nat}{q:Program}{loose:List Str}{XP:(Str->Option Value)->Heap->Prop}{YP:World->Heap->Prop}{d:DefRec}
  (hn:l.most=some n) (hdf:d.params.defaults=[])
  (call:∀(w:World) (s₀ s₁:Shared) (mg mb:Str->Option Value) (fa:Addr) (o:Obj) (pm cd doc:Value) (a:Addr) (vs:List Value) (ns:List Int),
   Ground q loose [] XP w s₀ mg mb s₁.heap->YP w s₁.heap->
   s₁.heap.get? fa=some o->o.data=.func (docDef d.name d.params d.body d.scope pm cd doc)->s₁.heap.CodeRec cd d.name->mg d.name=some (.ref fa)->
   s₁.heap.get? a=some {cls:=.type "list",data:=.seq vs.toArray}->IntsAre vs ns->ns.length<=n->s₁.gens=#[]->
   codeAny (model l.prog w) callerA (.call (.ref fa) ⟨[.ref a],[]⟩) (λr s'=>r=.ok (.ret (.bool true))/\OldK s₁.heap s'.heap/\s'.os=s₁.os/\AllBare s'.gens) s₁) :
  WalkO q loose XP YP l.row.toRowW d [] (λf vs=>rJ f vs):=by
 intro w s₀ s₁ mg mb G Y fa o pm cd doc dV kV ho hd hcd hD hmg hg args vals as hpre hlay hrd hwl hlo
 obtain rfl:dV=.none:=Dflts.none hD hdf
 obtain rfl:kV=.none:=Dflts.noKw hD
 obtain⟨a,vs,ns,rfl,rfl,hobj,hints,hlen⟩:=Do hn hpre hwl
 refine enter_call (codeAny_mono (call w s₀ s₁ mg mb fa o pm cd doc a vs ns G Y ho (fd_plain hd) hcd hmg hobj hints hlen hg) λr s' hq=>?_)
 obtain⟨rfl,h2,h3,h4⟩:=hq
 exact⟨.inl ⟨.bool true,.bool true,[],rfl,λ_=>rfl,.bool true,C7 l _,λ_=>⟨List.Pairwise.nil,λ_ hm=>(nomatch hm)⟩⟩,h2,h3,h4⟩
section
variable{prog:Program}{w:World}{A:Around}{E:Value->Shared->Prop}{s:Shared}{K:Frag}
end
end Att
namespace L2
open PySem PySem.Spec PyProof.Rows
theorem vZ:∀{vs:List Value} {ns:List Int},IntsAre vs ns->bV (ns.map V.int) vs
 |_,_,.nil=>.nil
 |_,_,.cons n t h=>.cons ⟨t,rfl⟩ (vZ h)
def GD(H:Hp):Prop:=∀b,H b=none\/∃o xs,H b=some (.frz o (.lst xs))
theorem EX{P:Program}{w:World}{K:Fg}{mg mb:Str->Option Value}{CX:DK}{k:Nat}{fa a:Addr}{fd:FuncData}{x:Str}{sp:Sp}{s₁:Shared}{vs:List Value}{ns:List Int}
  (KX:K.In s₁.heap) (hns:s₁.heap.Ns mainGlobals mg) (hb:s₁.heap.Ns builtinsNs mb) (hbb:∀x:Str,x≠"__name__"->mb x=bootBuiltins x) (hlim:s₁.heap.NoLimit) (hg:s₁.gens=#[])
  (ha:s₁.heap.get? a=some {cls:=.type "list",data:=.seq vs.toArray}) (hi:IntsAre vs ns) (hl:ns.length<=sizeLine) (hr:gN k callerA)
  (F:∀base:Heap,K.In base->base.Ns mainGlobals mg->uk P w K mg base CX k fa fd [x] sp) (hbind:∀(s:Shared) (u:Value),BindsTo s fd ⟨[u],[]⟩ [(x,u)])
  (hsp:∀H:Hp,GD H->cq K H a (ns.map V.int)->sp [.ref a] H (λv _=>v=.bl true) λ_ _ _=>False)
  (hCX:∀H e s',CX [] H s₁ (λ_ _ _=>False) e s'->False) :
  codeAny (model P w) callerA (.call (.ref fa) ⟨[.ref a],[]⟩) (λr s'=>r=.ok (.ret (.bool true))/\OldK s₁.heap s'.heap/\s'.os=s₁.os/\AllBare s'.gens) s₁:=by
 have rv:=vZ hi
 have lenV:=hi.length
 have core:∀H:Hp,GD H->cq K H a (ns.map V.int)->oG P w H s₁.heap->(∀b,H b≠none->b=a)->(H a≠none->K.lookup a=none)->
   codeAny (model P w) callerA (.call (.ref fa) ⟨[.ref a],[]⟩) (λr s'=>r=.ok (.ret (.bool true))/\OldK s₁.heap s'.heap/\s'.os=s₁.os/\AllBare s'.gens) s₁:=by
  intro H hO hS hok hA hK
  have base_of:∀{b:Addr} {o:Obj},s₁.heap.get? b=some o->H b=none->(wI s₁.heap H).get? b=some o:=λe n=>EG e n
  have noA:∀{b:Addr} {o:Obj} {es:Array DictEntry} {ep:Nat},s₁.heap.get? b=some o->o.data=.dict es ep->H b=none:=λ{b o es ep} e d=>by
   cases q:H b with
   |none=>rfl
   |some u=>
    have e':b=a:=hA b (by rw[q];simp)
    subst e'
    rw[ha] at e;cases e
    have d':Data.seq vs.toArray _=Data.dict es ep:=d
    cases d'
  have nsK:∀{b:Addr} {m:Str->Option Value},s₁.heap.Ns b m->(wI s₁.heap H).Ns b m:=λ{b m} ⟨o,es,ep,e,d,r⟩=>⟨o,es,ep,base_of e (noA e d),d,r⟩
  have hKb:K.In (wI s₁.heap H):=λb o e=>base_of (KX b o e) (by
   cases q:H b with
   |none=>rfl
   |some u=>
    have e':b=a:=hA b (by rw[q];simp)
    subst e'
    rw[hK (by rw[q];simp)] at e;cases e)
  have hM:Mod K mg (wI s₁.heap H):=⟨hKb,nsK hns,⟨mb,nsK hb,hbb⟩,let⟨mc,h1,h2⟩:=hlim;⟨mc,nsK h1,h2⟩⟩
  have e0:Gx P w K mg (wI s₁.heap H) callerA [] s₁ H:=⟨rfl,hM,λb o e=>Hk e,Nat.le_of_eq (CW _ _),trivial,λb hb=>absurd (show b∈([]:List Addr) from hb) (by simp),hok,.of_eq hg⟩
  refine codeAny_mono ((F _ hKb (nsK hns)).run callerA [] s₁ H ⟨[.ref a],[]⟩ [.ref a] [.ref a] _ _ hr e0 (hbind s₁ (.ref a)) (.cons rfl .nil) (hsp H hO hS)) λr s' h=>?_
  cases r with
  |error e=>exact(hCX H e s' h).elim
  |ok fl=>
   cases fl with
   |next=>exact False.elim h
   |brk=>exact False.elim h
   |cont=>exact False.elim h
   |ret u=>
    obtain⟨v,H',os,bare,un,hok',r',q⟩:=h
    have q':v=.bl true:=q
    subst q'
    obtain rfl:u=Value.bool true:=r'
    refine⟨rfl,OldK.of_keep λb o e=>?_,os,bare⟩
    cases q:H b with
    |none=>exact un.keep b o e q (by intro z;exact absurd (show b∈([]:List Addr) from z) (by simp)) (by simp)
    |some u=>
     rcases hO b with z|⟨ob,xs,z⟩
     ·rw[q] at z;cases z
     ·have z2:=un.frzs b ob _ z
      obtain⟨e1,_⟩:=hok b _ z
      obtain⟨e2,_⟩:=hok' b _ z2
      rw[e] at e1;cases e1
      exact e2
 cases hk:K.lookup a with
 |some o=>
  have e:=KX a o hk
  rw[ha] at e
  cases e
  refine core (λ_=>none) (λ_=>.inl rfl) (.inr ⟨_,vs.toArray,_,hk,rfl,rfl,rfl,by rw[ay,lenV];exact hl,by simpa using rv⟩) (λb u z=>by have z':(none:Option HO)=some u:=z;cases z') (λb z=>absurd rfl z) λz=>absurd rfl z
 |none=>
  refine core (λb=>if b=a then some (.frz {cls:=.type "list",data:=.seq vs.toArray} (.lst (ns.map V.int))) else none) (λb=>?_) (.inl (.inr ⟨{cls:=.type "list",data:=.seq vs.toArray},if_pos rfl⟩)) (λb u z=>?_) (λb z=>?_) λ_=>hk
  ·by_cases hb:b=a
   ·exact .inr ⟨_,_,if_pos hb⟩
   ·exact .inl (if_neg hb)
  ·by_cases hb:b=a
   ·have z':=(if_pos hb).symm.trans z
    cases z'
    subst hb
    exact⟨ha,by rw[af];exact hl,vs,_,rv,ha⟩
   ·have z':=(if_neg hb).symm.trans z
    cases z'
  ·by_cases hb:b=a
   ·exact hb
   ·exact absurd (if_neg hb) z
theorem walk_of{l:PySem.W.OpenLaw}{n k:Nat}{q:Program}{loose:List Str}{XP:(Str->Option Value)->Heap->Prop}{YP:World->Heap->Prop}{d:DefRec}{K:Params->Fg}{CX:World->DK}{sp:World->Sp}{x:Str}
  (hn:l.most=some n) (hn2:n<=sizeLine) (hdf:d.params.defaults=[]) (hr:gN k callerA)
  (hY:∀(w:World) (h:Heap),YP w h->(K w.params).In h)
  (F:∀(w:World) (mg:Str->Option Value) (fa:Addr) (h:Heap),(K w.params).In h->h.Ns mainGlobals mg->mg d.name=some (.ref fa)->
   ∃fd:FuncData,(∀(s:Shared) (u:Value),BindsTo s fd ⟨[u],[]⟩ [(x,u)])/\
    ∀base:Heap,(K w.params).In base->base.Ns mainGlobals mg->uk l.prog w (K w.params) mg base (CX w) k fa fd [x] (sp w))
  (hsp:∀(w:World) (H:Hp) (a:Addr) (ns:List Int),ns.length<=n->GD H->cq (K w.params) H a (ns.map V.int)->sp w [.ref a] H (λv _=>v=.bl true) λ_ _ _=>False)
  (hCX:∀(w:World) (H:Hp) (s:Shared) (e:Value) (s':Shared),CX w [] H s (λ_ _ _=>False) e s'->False) :
  PySem.W.WalkO q loose XP YP l.row.toRowW d [] (λf vs=>rJ f vs):=by
 refine Att.attach_call hn hdf λw s₀ s₁ mg mb fa o pm cd doc a vs ns G Y ho hd hcd hmg hobj hints hlen hg=>?_
 have KX:=hY w _ Y
 obtain⟨fd,hb,hF⟩:=F w mg fa _ KX G.T.g hmg
 exact EX KX G.T.g G.T.b G.T.builtins G.T.nolimit hg hobj hints (a8 hlen hn2) hr hF hb (λH hO hS=>hsp w H a ns hlen hO hS) λH e s'=>hCX w H s₁ e s'
def j7(s:Stmt):Arguments:=match s with
 |.FunctionDef _ a _ _ _ _ _ _ _ _=>a
 |_=>{posonlyargs:=[],args:=[],vararg:=none,kwonlyargs:=[],kw_defaults:=[],kwarg:=none,defaults:=[]}
def g9(s:Stmt):List Stmt:=match s with
 |.FunctionDef _ _ b _ _ _ _ _ _ _=>b
 |_=>[]
def cG(s:Stmt):Scope:=match s with
 |.FunctionDef _ _ _ _ _ _ sc _ _ _=>sc
 |_=>{kind:=.function,names:=[],isGenerator:=false,isCoroutine:=false}
abbrev Gr:DK:=λ_ _ _ _ _ _=>False
abbrev E0:XK:=λ_ _ _=>False
theorem Lc{X:Cx}:Ah Gr X E0:=λ_ _ _ _ _ _ _ h=>h.elim
structure KD(K:Fg)(x qual:Str)(st:Stmt)(f:Addr)(fd:FuncData):Prop where
 ex:∃(oc:Value) (od:Option Addr) (kV doc pm:Value) (an:Option Addr) (cdv ct:Value) (osl:Array (Option Value)),
  fd=dX x qual (j7 st) (g9 st) (cG st) .none kV doc pm an cdv ct/\K.lookup f=some ⟨oc,od,.func fd,osl⟩/\gg K cdv qual=true
 kp:e6 K (.ref f)=true
section
variable{P:Program}{w:World}{K:Fg}{mg:Str->Option Value}{base:Heap}
theorem KD.ok{x qual:Str}{st:Stmt}{f:Addr}{fd:FuncData}{N ps:List Str}{k:Nat}{sp:Sp}(F:KD K x qual st f fd)(S:rg N ps (cG st))(len:∀vs H Q E,sp vs H Q E->vs.length=ps.length)
  (hbody:∀(cdv:Value) (A:Around) (outer:List Env) (s:Shared) (H:Hp) (vs:List V) (Q:VK) (E:XK),gN k (A.deeper (envOfC qual (cG st) s.heap.objs.size f cdv))->sp vs H Q E->
   ∃t,Ag (yj Gr P w K mg base N qual (cG st) f cdv A outer s H E).nox (g9 st) t/\t {nx:=λ_ H'=>Q .non H',rt:=Q} (start N vs) H):uk P w K mg base Gr (k+1) f fd ps sp:=by
 obtain⟨oc,od,kV,doc,pm,an,cdv,ct,osl,rfl,lk,hcd⟩:=F.ex
 refine KZ lk hcd S len λA outer s H vs Q E hr hsp=>?_
 obtain⟨t,h,q⟩:=hbody cdv A outer s H vs Q E hr hsp
 exact⟨t,h.nox,q⟩
theorem KD.binds{x qual:Str}{st:Stmt}{f:Addr}{fd:FuncData}{ps:List Str}(F:KD K x qual st f fd)
  (h:∀(kV doc pm:Value) (an:Option Addr) (cdv ct:Value) (us:List Value),us.length=ps.length->bindArgs (dX x qual (j7 st) (g9 st) (cG st) .none kV doc pm an cdv ct) ⟨us,[]⟩=pure (ps.zip us)):uZ K fd ps []:=by
 obtain⟨oc,od,kV,doc,pm,an,cdv,ct,osl,rfl,lk,hcd⟩:=F.ex
 exact .all (h kV doc pm an cdv ct)
theorem ED{x qual:Str}{st:Stmt}{f:Addr}{oc:Value}{od an:Option Addr}{osl:Array (Option Value)}{kV doc pm cdv ct:Value}(l:K.lookup f=some ⟨oc,od,.func (dX x qual (j7 st) (g9 st) (cG st) .none kV doc pm an cdv ct),osl⟩)
  (c:gg K cdv qual=true) (k:e6 K (.ref f)=true):KD K x qual st f (dX x qual (j7 st) (g9 st) (cG st) .none kV doc pm an cdv ct):=⟨⟨oc,od,kV,doc,pm,an,cdv,ct,osl,rfl,l,c⟩,k⟩
end
theorem K0{A:Around}{k:Nat}(hr:gN k A):A.units+1<cLine:=cM (Nat.add_le_add_left (by decide:1<=64) _) hr.units
section
variable{X:Cx}
theorem pv(i:Nat){x:Str}{pos:Pos}(hN:X.N[i]?=some x:=by rfl)(hv:LL X.env.scope x:=by first|exact Or.inl rfl|exact Or.inr (Or.inl rfl)|exact Or.inr (Or.inr rfl))(hd:(x==("__debug__":Str))=false:=by decide)
  (hcd:(x==("__classdict__":Str))=false:=by decide):PE X (.Name x pos) (av i):=J1 hN hv hd hcd
end
theorem iE{A B:Prop}(h:B):if false=true then A else B:=by
 rw[if_neg Bool.false_ne_true]
 exact h
theorem qa{A B:Prop}(h:A):if true=true then A else B:=by
 rw[if_pos rfl]
 exact h
def aM(H H':Hp):Prop:=∀b o,H b=some o->H' b=some o
theorem aM.refl(H:Hp):aM H H:=λ_ _ h=>h
theorem aM.trans{H H1 H2:Hp}(a:aM H H1)(b:aM H1 H2):aM H H2:=λc o h=>b c o (a c o h)
theorem aM.free{H H':Hp}(e:aM H H'){l:Addr}(h:H' l=Option.none):H l=Option.none:=by
 cases q:H l with
 |none=>rfl
 |some o=>
  rw[e l o q] at h
  cases h
section
variable{prog:Program}{w:World}{A:Around}{R:Result->Shared->Prop}{s:Shared}
theorem wD{elt target iter:Expr}{ifs:List Expr}{scope:Scope}{pos:Pos}{it acc:Value}{env:Env}(I:Nat->Shared->Prop)
  (turn:∀n s,I n s->wpAny (model prog w) A (pyNext it) (λr s₁=>match r with
   |none=>R (.ok .next) s₁
   |some v=>wpAny (model prog w) A (letOwnedTupleGo target it v) (λ_ s₁=>wpAny (model prog w) A (assign target env v) (λ_ s₂=>
     wpAny (model prog w) A (forIn ifs true λc r=>if r=true then do let ok <-isTrue c env (eval c env);pure (ForInStep.yield ok) else pure (ForInStep.yield r)) (λok s₃=>
      if ok=true then wpAny (model prog w) A (eval elt env) (λx s₄=>
       wpAny (model prog w) A (call (.builtin "list.append") [acc,x]) (λ_ s₅=>∃m,m<n/\I m s₅) (λ_ _=>False) s₄) (λ_ _=>False) s₃
      else ∃m,m<n/\I m s₃) (λ_ _=>False) s₂) (λ_ _=>False) s₁) (λ_ _=>False) s₁) (λ_ _=>False) s)
  (n:Nat) (h:I n s) :
  codeAny (model prog w) A (.compLoop (.ListComp elt [⟨target,iter,ifs,0⟩] scope pos) 0 it acc env) R s:=by
 refine codeAny_loop rfl I (λn s hI=>?_) n h
 show wpAny _ A ((compTurn (.ListComp elt [⟨target,iter,ifs,0⟩] scope pos) 0 it acc env).onRaise (λx=>do noteFrame x env;theTreesLotGoes x)) _ _ s
 refine wpAny_noted ?_
 rw[compTurn_list]
 refine wpAny_bind (wpAny_standAt (wpAny_bind (wpAny_mono (turn n s hI) (λr s₁ h₁=>?_) λ_ _ h'=>h'.elim)))
 cases r with
 |none=>exact wpAny_pure h₁
 |some v=>
  refine wpAny_bind (wpAny_mono h₁ (λ_ s₁' h₁'=>?_) λ_ _ h'=>h'.elim)
  refine wpAny_bind (wpAny_mono h₁' (λ_ s₂ h₂=>wpAny_bind (wpAny_mono h₂ (λok s₃ h₃=>?_) λ_ _ h'=>h'.elim)) λ_ _ h'=>h'.elim)
  cases ok with
  |false=>exact wpAny_pure ⟨rfl,h₃⟩
  |true=>
   exact wpAny_bind (wpAny_bind (wpAny_mono h₃ (λx s₄ h₄=>wpAny_bind (wpAny_mono h₄ (λ_ s₅ h₅=>wpAny_pure (wpAny_pure ⟨rfl,h₅⟩)) λ_ _ h'=>h'.elim)) λ_ _ h'=>h'.elim))
end
theorem nV{env:Env}{f:Str×NameKind->List (Str×Addr)->Sem (ForInStep (List (Str×Addr)))}
  (hf:∀n k cs,f (n,k) cs=if(k==NameKind.free)=true then(do let c <-cellOf env n;pure (.yield ((n,c)::cs))) else pure (.yield cs)) :
  ∀(names:List (Str×NameKind)) (cs:List (Str×Addr)),(∀x∈names,x.2=NameKind.free->∃c,env.cells.lookup x.1=some c)->(∀n c,cs.lookup n=some c->env.cells.lookup n=some c)->
   ∃cl,(forIn names cs f:Sem (List (Str×Addr)))=pure cl/\(∀n c,cl.lookup n=some c->env.cells.lookup n=some c)/\(∀n,(cs.lookup n).isSome=true->(cl.lookup n).isSome=true)/\∀x∈names,x.2=NameKind.free->(cl.lookup x.1).isSome=true
 |[],cs,_,h2=>⟨cs,rfl,h2,λ_ h=>h,λ_ h=>nomatch h⟩
 |(n,k)::r,cs,h1,h2=>by
  have h1r:∀x∈r,x.2=NameKind.free->∃c,env.cells.lookup x.1=some c:=λx hx=>h1 x (bh _ hx)
  rw[fJ,hf]
  by_cases hk:k=NameKind.free
  ·subst hk
   obtain⟨c,hc⟩:=h1 (n,NameKind.free) bg rfl
   have h2':∀m d,((n,c)::cs).lookup m=some d->env.cells.lookup m=some d:=λm d hd=>by
    rw[dI] at hd
    cases e:(m==n) with
    |true=>
     rw[e] at hd
     have:m=n:=by simpa using e
     rw[this];cases hd;exact hc
    |false=>rw[e] at hd;exact h2 m d hd
   obtain⟨cl,e1,e2,e3,e4⟩:=nV hf r ((n,c)::cs) h1r h2'
   refine⟨cl,?_,e2,λm hm=>e3 m ?_,λx hx hk=>?_⟩
   ·rw[<-e1]
    have ec:cellOf env n=pure c:=by unfold cellOf;rw[hc]
    rw[ec]
    rfl
   ·rw[dI]
    cases e:(m==n) with
    |true=>rfl
    |false=>exact hm
   ·rcases aN.mp hx with rfl|hx
    ·exact e3 n (by rw[dI,beq_self_eq_true];rfl)
    ·exact e4 x hx hk
  ·have hb:(k==NameKind.free)=false:=by simpa using hk
   obtain⟨cl,e1,e2,e3,e4⟩:=nV hf r cs h1r h2
   refine⟨cl,?_,e2,e3,λx hx hk'=>?_⟩
   ·rw[<-e1,hb]
    rfl
   ·rcases aN.mp hx with rfl|hx
    ·exact absurd hk' hk
    ·exact e4 x hx hk'
theorem sk{scope:Scope}{env:Env}(h1:∀x∈scope.names,x.2=NameKind.free->∃c,env.cells.lookup x.1=some c) :
  ∃cl,closureFor scope env=pure cl/\(∀n c,cl.lookup n=some c->env.cells.lookup n=some c)/\∀x∈scope.names,x.2=NameKind.free->(cl.lookup x.1).isSome=true:=by
 obtain⟨cl,e1,e2,_,e4⟩:=nV (env:=env) (f:=λ(x:Str×NameKind) cs=>if(x.2==NameKind.free)=true then(do let c <-cellOf env x.1;pure (.yield ((x.1,c)::cs))) else pure (.yield cs)) (λ_ _ _=>rfl) scope.names [] h1 (λ_ _ h=>nomatch h)
 refine⟨cl,Eq.trans (show closureFor scope env=((forIn scope.names ([]:List (Str×Addr)) λ(x:Str×NameKind) cs=>if(x.2==NameKind.free)=true then(do let c <-cellOf env x.1;pure (.yield ((x.1,c)::cs))) else pure (.yield cs)) >>= λcs=>pure cs) from rfl) ?_,e2,e4⟩
 rw[e1]
 all_goals rfl
theorem gj{env:Env}{x:Str}:∀(names:List (Str×NameKind)),
  (names.map λ(n,k)=>if(k==NameKind.free&&env.scope.kind==.function&&env.kindOf n==some .cell) then(n,NameKind.cell) else(n,k)).lookup x =
   (names.lookup x).map λk=>if(k==NameKind.free&&env.scope.kind==.function&&env.kindOf x==some .cell) then NameKind.cell else k
 |[]=>rfl
 |(n,k)::r=>by
  have ih:=gj (env:=env) (x:=x) r
  show List.lookup x ((if(k==NameKind.free&&env.scope.kind==.function&&env.kindOf n==some .cell)=true then(n,NameKind.cell) else(n,k))::_)=_
  cases hx:x==n with
  |true=>
   have e:x=n:=by simpa using hx
   subst e
   by_cases hc:(k==NameKind.free&&env.scope.kind==.function&&env.kindOf x==some .cell)=true
   ·rw[if_pos hc];simp only[dI,hx,iB,if_pos hc]
   ·rw[if_neg hc];simp only[dI,hx,iB,if_neg hc]
  |false=>
   by_cases hc:(k==NameKind.free&&env.scope.kind==.function&&env.kindOf n==some .cell)=true
   ·rw[if_pos hc];simp only[dI,hx];exact ih
   ·rw[if_neg hc];simp only[dI,hx];exact ih
theorem FJ{scope:Scope}{env:Env}{x:Str}(hcell:∀y∈scope.names,y.2≠NameKind.cell)(h:(relabel scope env).names.lookup x=some .cell\/(relabel scope env).names.lookup x=some .free):scope.names.lookup x=some .free:=by
 have e:(relabel scope env).names.lookup x=_:=gj (env:=env) (x:=x) scope.names
 rw[e] at h
 cases q:scope.names.lookup x with
 |none=>rw[q] at h;rcases h with h|h<;>cases h
 |some k=>
  rw[q] at h
  by_cases hk:k=NameKind.free
  ·rw[hk]
  ·have hb:(k==NameKind.free)=false:=by simpa using hk
   simp only[iB,hb,Bool.false_and,Bool.false_eq_true,if_false] at h
   rcases h with h|h
   ·cases h;exact absurd rfl (hcell _ (b9 q))
   ·exact h
theorem Ik{scope:Scope}{env:Env}{x:Str}(h:(relabel scope env).names.lookup x≠none):scope.names.lookup x≠none:=by
 have e:(relabel scope env).names.lookup x=_:=gj (env:=env) (x:=x) scope.names
 intro q
 rw[e,q] at h
 exact h rfl
structure nO(sc:Scope)(N:List Str)(scope:Scope)(NY:List Str)(js:List Nat):Prop where
 kind:scope.kind=.function
 cell:∀y∈scope.names,y.2≠NameKind.cell
 names:∀x∈scope.names,x.2=NameKind.local->scope.names.lookup x.1=some .local
 free:∀x∈scope.names,x.2=NameKind.free->sc.names.lookup x.1=some .cell\/sc.names.lookup x.1=some .free
 pre:NY.take N.length=N
 cap:∀p∈N.zipIdx,js.contains p.2=true\/scope.names.lookup p.1=none\/scope.names.lookup p.1=some .free
def vd(js:List Nat)(k:Nat)(σ:St):St:=js.foldl (λs j=>s.set j none) σ++aV k none
theorem mh:∀(js:List Nat) (σ:St),(js.foldl (λs j=>s.set j none) σ).length=σ.length
 |[],_=>rfl
 |j::r,σ=>by rw[fI,mh r,kB]
theorem vc:∀(js:List Nat) (σ:St) (i:Nat) (v:V),(js.foldl (λs j=>s.set j none) σ)[i]?=some (some v)->σ[i]?=some (some v)/\js.contains i=false
 |[],σ,i,v,h=>⟨h,rfl⟩
 |j::r,σ,i,v,h=>by
  rw[fI] at h
  obtain⟨h1,h2⟩:=vc r _ i v h
  by_cases e:j=i
  ·subst e
   by_cases hj:j<σ.length
   ·rw[f9 hj] at h1;cases h1
   ·rw[aW (by rw[kB];lia)] at h1;cases h1
  ·rw[ic e] at h1
   refine⟨h1,?_⟩
   rw[List.contains_cons,h2]
   have:(i==j)=false:=by simpa using λz=>e z.symm
   rw[this];rfl
theorem GW{js:List Nat}{k:Nat}{σ:St}{i:Nat}{v:V}(h:(vd js k σ)[i]?=some (some v)):σ[i]?=some (some v)/\js.contains i=false:=by
 unfold vd at h
 by_cases hi:i<σ.length
 ·rw[ar (by rw[mh];exact hi)] at h
  exact vc js σ i v h
 ·rw[ao (by rw[mh];lia),List.getElem?_replicate] at h
  split at h<;>cases h
theorem GX{js:List Nat}{k:Nat}{σ:St}:(vd js k σ).length=σ.length+k:=by
 unfold vd
 rw[ai,mh,gD]
def cN(X:Cx)(NY:List Str)(scope:Scope)(cl:List (Str×Addr))(C:Addr)(s₀:Shared)(H₀:Hp)(fp:List Addr):Cx:=
 {X with N:=NY,s₀:=s₀,H₀:=H₀,env:=compEnvC scope cl C X.env,outer:=X.stack,ex:=fp,fn:=λ_=>false,pn:=[],xe:=λ_ _=>False}
def CB(X:Cx)(ifs:List Expr)(t:TT):Prop:=
 ∀(pins:List (Addr×Obj)) (s:Shared) (σ:St) (H:Hp) (Q:Bool->Hp->Prop),bx X pins σ H s->t σ H Q->
  wpAny (model X.prog X.w) X.A (forIn ifs true λc r=>if r=true then do let ok <-isTrue c X.env (eval c X.env);pure (ForInStep.yield ok) else pure (ForInStep.yield r)) (TP X pins σ Q) X.xe s
def jN:TT:=λ_ H Q=>Q true H
theorem HG{X:Cx}:CB X [] jN:=λ_ _ _ H _ I h=>wpAny_tests_nil ⟨H,I,h⟩
theorem HH{X:Cx}{c:Expr}{t:TT}(h:PT X c t):CB X [c] t:=λpins s σ H Q I q=>wpAny_tests_one (h pins s σ H Q I q)
def jI(D:Addr)(tc:TT)(te:TE):TS:=λE σ H=>tc σ H λb H1=>if b=true then te σ H1 λy H2=>∃ys,H2 D=some (.lst ys)/\ys.length<sizeLine/\E.nx σ (aP H2 D (.lst (ys++[y]))) else E.nx σ H1
def d5(js:List Nat)(k:Nat)(wi:TI)(g:TG)(tc:TT)(te:TE):TE:=λσ H Q=>wi σ H λJ H1=>∀D,H1 D=none->
 ∃W:Nat->Nat->St->Hp->Prop,(∃m,W 0 m (vd js k σ) (aP H1 D (.lst [])))/\∀i m σ H,W i m σ H->
  (J.stop i H/\Q (.ref D) H)\/(J.go i H/\∃N:St->Hp->Prop,(∀σ' H',N σ' H'->∃m',m'<m/\W (i+1) m' σ' H')/\∀x H',J.yld i H x H'->g x σ H' λσ2 H2=>jI D tc te {nx:=N,rt:=λ_ _=>False,ct:=N,bk:=λ_ H'=>Q (.ref D) H'} σ2 H2)
section
variable{X:Cx}{pins:List (Addr×Obj)}{σ:St}{H2:Hp}{s₂:Shared}{N NY:List Str}{sc scope:Scope}{cl:List (Str×Addr)}{C:Addr}{fp:List Addr}{js:List Nat}{k:Nat}
theorem GQ(I2:bx X pins σ H2 s₂)(hf:∀b∈fp,nQ X pins H2 b)(hfl:∀b∈fp,∃o,s₂.heap.get? b=some o)(hkind:scope.kind=.function)(hcell:∀y∈scope.names,y.2≠NameKind.cell)
  (hcl1:∀n c,cl.lookup n=some c->X.env.cells.lookup n=some c) (hcl2:∀x∈scope.names,x.2=NameKind.free->(cl.lookup x.1).isSome=true) (hC:s₂.heap.objs.size<=C) :
  (cN X NY scope cl C s₂ H2 fp).Ok where
 mod:=I2.ok.mod
 kind:=hkind
 glob:=I2.ok.glob
 blt:=I2.ok.blt
 above:=hC
 inj:=λx y c h1 h2=>I2.ok.inj x y c (hcl1 x c h1) (hcl1 y c h2)
 has:=λx hx=>by
  have e:scope.names.lookup x=some .free:=FJ (env:=X.env) hcell hx
  exact c8.mp (hcl2 (x,.free) (b9 e) rfl)
 cab:=λ_ _ h _=>nomatch h
 hd:=I2.ok.hd
 frames:=I2.ok.frames
 stk:=.inl rfl
 exf:=λb hb=>by
  obtain⟨o,ho⟩:=hfl b hb
  exact⟨aL (a7 (aD ho) hC),λx c h=>(hf b hb).2.2.2.2.1 x c (hcl1 x c h)⟩
 bs:=I2.bs
 bsz:=a8 I2.ok.bsz I2.sz
 noex:=λb o e hb=>by
  rcases(hf b hb).2.2.2.1 with z|z
  ·exact I2.ok.noex b o e z
  ·exact absurd (a7 (aD e) (a8 I2.ok.bsz z)) (cT _)
 exfs:=λb hb z=>by
  rcases aN.mp (I2.stkSub b z) with e|e
  ·exact(hf b hb).2.1 e
  ·exact(hf b hb).2.2.1 e
 funs:=I2.stack
 frf:=I2.stkFree
variable{elt iter target:Expr}{ifs:List Expr}{pos:Pos}{it:Addr}{tn:Nat->Heap->Prop}{J:It}{g:TG}{tc:TT}{te:TE}{Q:VK}{RR:Value->Addr->Result->Shared->Prop}{E:Value->Shared->Prop}
theorem so(ok:nO sc N scope NY js)(hsc:X.env.scope=sc)(hN:X.N=N)(hk:NY.length=N.length+k)(hc:X.calm=true)(I2:bx X pins σ H2 s₂)(T:qW X.prog X.w X.K target J fp it tn)(st2:tn 0 s₂.heap)(f2:∀b∈fp,nQ X pins H2 b)
  (hcl1:∀n c,cl.lookup n=some c->X.env.cells.lookup n=some c) (hcl2:∀x∈scope.names,x.2=NameKind.free->(cl.lookup x.1).isSome=true)
  (hg:∀cl C s₀ H₀ fp,PG (cN X NY scope cl C s₀ H₀ fp) target g) (hi:∀cl C s₀ H₀ fp,CB (cN X NY scope cl C s₀ H₀ fp) ifs tc) (he:∀cl C s₀ H₀ fp,PE (cN X NY scope cl C s₀ H₀ fp) elt te)
  (loop:∀D,H2 D=none->
   ∃W:Nat->Nat->St->Hp->Prop,(∃m,W 0 m (vd js k σ) (aP H2 D (.lst [])))/\∀i m σ H,W i m σ H->
    (J.stop i H/\Q (.ref D) H)\/(J.go i H/\∃N:St->Hp->Prop,(∀σ' H',N σ' H'->∃m',m'<m/\W (i+1) m' σ' H')/\∀x H',J.yld i H x H'->g x σ H' λσ2 H2=>jI D tc te {nx:=N,rt:=λ_ _=>False,ct:=N,bk:=λ_ H'=>Q (.ref D) H'} σ2 H2))
  (hRR:∀D C H' s' m,s'.heap.Ns C m->bx X pins σ H' s'->H' C=none->C≠X.env.locals->X.s₀.heap.objs.size<=C->(∀x c,X.env.cells.lookup x=some c->c≠C)->(∀p∈X.pn++pins,p.1≠C)->D≠C->Q (.ref D) H'->RR (.ref D) C (.ok .next) s') :
  wpAny (model X.prog X.w) X.A (newList []) (λacc s₃=>wpAny (model X.prog X.w) X.A (newFunctionEnv scope X.env.globals cl [] X.env.qual none .none (some X.env)) (λcenv s₄=>
   codeAny (model X.prog X.w) X.A (.compStart (.ListComp elt [⟨target,iter,ifs,0⟩] scope pos) 0 (.ref it) acc {cenv with scope:=relabel scope X.env}) (RR acc cenv.locals) s₄) E s₃) E s₂:=by
 refine wpAny_newObj_type (wpAny_newFunctionEnv ok.cell (by intro y hy;simp at hy) (λh₁ hns₁ hsb₁=>?_) ok.kind)
 dsimp only at hns₁ hsb₁ ⊢
 generalize hG:s₂.heap.push {cls:=.type "list",dict:=none,data:=.seq ([]:List Value).toArray}=G at hns₁ hsb₁ ⊢
 have hC:G.objs.size=s₂.heap.objs.size+1:=by rw[<-hG,bC]
 have hDC:s₂.heap.objs.size≠G.objs.size:=by rw[hC];exact aL (cP _)
 have hCle:s₂.heap.objs.size<=G.objs.size:=by rw[hC];exact dW _
 have below:∀b,b<s₂.heap.objs.size->b≠G.objs.size:=λb hb=>by rw[hC];exact aL (cX hb)
 have old:∀b o,s₂.heap.get? b=some o->h₁.get? b=some o:=λb o e=>hsb₁.extBut b o (below b (aD e)) (ag _ (hG ▸ ag _ e))
 have hacc:h₁.get? s₂.heap.objs.size=some {cls:=.type "list",dict:=none,data:=.seq ([]:List Value).toArray}:=hsb₁.extBut _ _ hDC (ag _ (hG ▸ ax _ rfl))
 have hfl:∀b∈fp,∃o,s₂.heap.get? b=some o:=λb hb=>let⟨o,ho,_⟩:=T.obj 0 _ st2 b hb;⟨o,ho⟩
 have fD:H2 s₂.heap.objs.size=none:=I2.hok.fresh (au _)
 have fC:H2 G.objs.size=none:=I2.hok.fresh hCle
 have I4:bx (cN X NY scope cl G.objs.size s₂ H2 fp) [] (vd js k σ) (aP H2 s₂.heap.objs.size (.lst [])) {s₂ with heap:=h₁,toks:=s₂.toks+([]:List (Str×Value)).length}:=by
  refine⟨GQ I2 f2 hfl ok.kind ok.cell hcl1 hcl2 hCle,rfl,I2.bare,Un.laid old (au _) fD,⟨_,hns₁,λi y v h1 h2 h3=>?_⟩,λx c h=>?_,?_,λx c h=>?_,λp hp=>absurd (show p∈([]:List (Addr×Obj)) from hp) (by simp),I2.hok.laid old (au _) ⟨bt _,[],0,.nil,hacc⟩,?_⟩
  ·obtain⟨e1,e2⟩:=GW h2
   have hi:i<N.length:=by
    have:=(ae.mp e1).1
    rw[I2.len,hN] at this;exact this
   have hy:N[i]?=some y:=by
    rw[<-ok.pre,List.getElem?_take_of_lt hi];exact h1
   have hz:(y,i)∈N.zipIdx:=by
    rw[List.mem_zipIdx_iff_getElem?];exact hy
   have nn:scope.names.lookup y≠none:=Ik (env:=X.env) (x:=y) (by
    rcases h3 with z|z|z
    ·intro q;rw[show(relabel scope X.env).names.lookup y=_ from z] at q;cases q
    ·intro q;rw[show(relabel scope X.env).names.lookup y=_ from z] at q;cases q
    ·intro q;rw[show(relabel scope X.env).names.lookup y=_ from z] at q;cases q)
   have hfr:scope.names.lookup y=some .free:=by
    rcases ok.cap (y,i) hz with z|z|z
    ·rw[e2] at z;cases z
    ·exact absurd z nn
    ·exact z
   have hX:=ok.free (y,.free) (b9 hfr) rfl
   rw[<-hsc] at hX
   obtain⟨m,hn,hl⟩:=I2.loc
   obtain⟨u,ru,lk⟩:=hl i y v (by rw[hN];exact hy) e1 (by
    rcases hX with z|z
    ·exact .inr (.inl z)
    ·exact .inr (.inr z))
   refine⟨u,ru,?_⟩
   rcases lk with⟨lk,_⟩|⟨_,c,hc1,hc2⟩
   ·have lk:X.env.scope.names.lookup y=some .local:=lk
    rcases hX with z|z<;>· rw[z] at lk;cases lk
   ·have hs:=hcl2 (y,.free) (b9 hfr) rfl
    obtain⟨c',hc'⟩:=c8.mp hs
    have e3:=hcl1 y c' hc'
    rw[hc1] at e3;cases e3
    refine .inr ⟨?_,c,hc',hc2.keeps old⟩
    show(relabel scope X.env).names.lookup y=some .cell\/(relabel scope X.env).names.lookup y=some .free
    have e:(relabel scope X.env).names.lookup y=_:=gj (env:=X.env) (x:=y) scope.names
    rw[e,hfr,iB]
    split
    ·exact .inl rfl
    ·exact .inr rfl
  ·obtain⟨v,q⟩:=I2.cell x c (hcl1 x c h)
   exact⟨v,q.keeps old⟩
  ·show aP H2 s₂.heap.objs.size (.lst []) G.objs.size=none
   rw[az (Ne.symm hDC)];exact fC
  ·have q:=I2.freeC x c (hcl1 x c h)
   obtain⟨v,o,ho,_⟩:=I2.cell x c (hcl1 x c h)
   show aP H2 s₂.heap.objs.size (.lst []) c=none
   rw[az (aL (aD ho))];exact q
  ·show(vd js k σ).length=NY.length
   rw[GX,I2.len,hN,hk]
 have st4:tn 0 h₁:=T.keep _ _ _ st2 λb _ o e=>old b o e
 obtain⟨W,⟨m0,w0⟩,turn⟩:=loop s₂.heap.objs.size fD
 have stat:∀{H':Hp},(∀b∈fp,H' b=none)->∀b∈fp,nQ (cN X NY scope cl G.objs.size s₂ H2 fp) [] H' b:=λhn b hb=>by
  obtain⟨o,ho⟩:=hfl b hb
  refine⟨hn b hb,below b (aD ho),λz=>?_,.inl hb,λx c h=>(f2 b hb).2.2.2.2.1 x c (hcl1 x c h),λp hp=>absurd (show p∈([]:List (Addr×Obj)) from hp) (by simp)⟩
  rcases aN.mp (I2.stkSub b z) with e|e
  ·exact(f2 b hb).2.1 e
  ·exact(f2 b hb).2.2.1 e
 have go:∀s₄:Shared,s₄={s₂ with heap:=h₁,toks:=s₂.toks+([]:List (Str×Value)).length}->
   codeAny (model X.prog X.w) X.A (.compLoop (.ListComp elt [⟨target,iter,ifs,0⟩] scope pos) 0 (.ref it) (.ref s₂.heap.objs.size) (compEnvC scope cl G.objs.size X.env)) (RR (.ref s₂.heap.objs.size) G.objs.size) s₄:=by
  rintro s₄ rfl
  refine wD (λn s'=>∃i σ' H',bx (cN X NY scope cl G.objs.size s₂ H2 fp) [] σ' H' s'/\tn i s'.heap/\(∀b∈fp,H' b=none)/\W i n σ' H') ?_ m0
   ⟨0,_,_,I4,st4,λb hb=>by
    obtain⟨o,ho⟩:=hfl b hb
    rw[az (aL (aD ho))];exact(f2 b hb).1,w0⟩
  rintro n s3 ⟨i,σ3,H3,I3,st3,fr3,w3⟩
  rcases turn i n σ3 H3 w3 with⟨stop,qn⟩|⟨go,Nx,hNx,step⟩
  ·refine eF (T.done (cN X NY scope cl G.objs.size s₂ H2 fp) rfl rfl rfl hc i [] s3 σ3 H3 _ I3 (stat fr3) st3 stop) λr s5 ⟨hr,I5⟩=>?_
   subst hr
   have IX:bx X pins σ H3 s5:=I2.call' (ch:=fp) I5.os I5.base I5.hok I5.bare λb hb=>⟨(f2 b hb).2.2.2.1,(f2 b hb).2.1,(f2 b hb).2.2.2.2.1,(f2 b hb).2.2.2.2.2⟩
   obtain⟨m,hm,_⟩:=I5.loc
   refine hRR _ _ H3 s5 m hm IX I5.free (λz=>?_) (a8 I2.sz hCle) (λx c h z=>?_) (λp hp z=>?_) hDC qn
   ·have:=I2.lt;rw[<-z] at this;exact cT _ (a7 this hCle)
   ·obtain⟨v,o,ho,_⟩:=I2.cell x c h
    have:=aD ho;rw[z] at this;exact cT _ (a7 this hCle)
   ·have:=aD (I2.pin p hp).1;rw[z] at this;exact cT _ (a7 this hCle)
  ·refine eF (T.item (cN X NY scope cl G.objs.size s₂ H2 fp) rfl rfl rfl hc i [] s3 σ3 H3 _ I3 (stat fr3) st3 go) λr s5 ⟨u,hr,h5⟩=>?_
   subst hr
   refine eF h5 λ_ s6 ⟨x,H6,I6,r6,y6,st6,fr6⟩=>?_
   have I6':=I6.pinned (stat fr6) (T.obj _ _ st6)
   have again:∀{σ7:St} {H7:Hp} {s7:Shared},bx (cN X NY scope cl G.objs.size s₂ H2 fp) ([]++sM fp s6.heap) σ7 H7 s7->Nx σ7 H7->∃m,m<n/\∃i σ' H',bx (cN X NY scope cl G.objs.size s₂ H2 fp) [] σ' H' s7/\tn i s7.heap/\(∀b∈fp,H' b=none)/\W i m σ' H':=λ{σ7 H7 s7} I7 n7=>by
    obtain⟨m',hm,w7⟩:=hNx σ7 H7 n7
    refine⟨m',hm,i+1,σ7,H7,I7.unpinned,T.keep _ _ _ st6 λb hb o e=>(I7.pin (b,o) (aX _ (aX _ (ka hb e)))).1,λb hb=>?_,w7⟩
    obtain⟨o,e,d⟩:=T.obj _ _ st6 b hb
    exact(I7.pin (b,o) (aX _ (aX _ (ka hb e)))).2.1
   refine eF (hg cl G.objs.size s₂ H2 fp _ s6 σ3 H6 x u _ I6' r6 (step x H6 y6)) λ_ s7 ⟨σ7,H7,I7,q7⟩=>?_
   refine eF (hi cl G.objs.size s₂ H2 fp _ s7 σ7 H7 _ I7 q7) λok s8 ⟨H8,I8,q8⟩=>?_
   cases ok with
   |false=>
    rw[if_neg Bool.false_ne_true] at q8 ⊢
    exact again I8 q8
   |true=>
    rw[if_pos rfl] at q8 ⊢
    refine eF (he cl G.objs.size s₂ H2 fp _ s8 σ7 H8 _ I8 q8) λy s9 ⟨z,H9,I9,r9,ys,hD,hz,n9⟩=>?_
    refine eF (vq (X:=cN X NY scope cl G.objs.size s₂ H2 fp) _ s9 σ7 H9 (.ref s₂.heap.objs.size) [z] (.ref s₂.heap.objs.size) [y] (λ_ H'=>H'=aP H9 s₂.heap.objs.size (.lst (ys++[z]))) I9 rfl (.cons r9 .nil) ⟨_,ys,z,rfl,rfl,hD,hz,rfl⟩) λ_ s10 ⟨_,H10,I10,_,q10⟩=>?_
    subst q10
    exact again I10 n9
 exact codeAny_compStart_list (go _ rfl) (T.self _ 0 _ _ _ st4 (go _ rfl))
theorem Hu{wi:TI}(ok:nO sc N scope NY js)(hsc:X.env.scope=sc)(hN:X.N=N)(hk:NY.length=N.length+k)(hc:X.calm=true)(hit:PI X target iter wi)
  (hg:∀cl C s₀ H₀ fp,PG (cN X NY scope cl C s₀ H₀ fp) target g) (hi:∀cl C s₀ H₀ fp,CB (cN X NY scope cl C s₀ H₀ fp) ifs tc) (he:∀cl C s₀ H₀ fp,PE (cN X NY scope cl C s₀ H₀ fp) elt te)
  (hs:∀x,foldedSetIterable iter X.env x=pure x:=by intro _;rfl):PE X (.ListComp elt [⟨target,iter,ifs,0⟩] scope pos) (d5 js k wi g tc te):=by
 intro pins s σ H Q I h
 obtain⟨cl,hclos,hcl1,hcl2⟩:=sk (scope:=scope) (env:=X.env) λx hx hf=>I.ok.has x.1 (by
  have:=ok.free x hx hf
  rw[<-hsc] at this
  exact this)
 rw[eval_ListComp]
 refine wpAny_comprehension_free (use:=none) rfl hs hclos ok.kind ok.names (eF (hit pins s σ H _ I h) λxv s₁ h₁=>eF h₁ λitv s₂ h₂=>?_)
 obtain⟨it,fp,tn,J,H2,rfl,I2,T,st2,f2,loop⟩:=h₂
 refine so (RR:=λacc C=>compPost (model X.prog X.w) X.A X.xe none (EP X pins σ Q) acc C) (Q:=Q) ok hsc hN hk hc I2 T st2 f2 hcl1 hcl2 hg hi he loop ?_
 intro D C H' s' m hm IX fC c1 c2 c3 c4 _ q
 exact⟨m,hm,λh' hs'=>⟨.ref D,H',IX.turned (t':=s'.toks) (λb o hb e=>(hs'.2 b hb).trans e) fC c1 (.inr c2) c3 c4,rfl,q⟩⟩
theorem HK{wi:TI}{i:Nat}{y:Str}{py spos:Pos}(ok:nO sc N scope NY js)(hsc:X.env.scope=sc)(hN:X.N=N)(hk:NY.length=N.length+k)(hc:X.calm=true)(hit:PI X target iter wi)
  (hg:∀cl C s₀ H₀ fp,PG (cN X NY scope cl C s₀ H₀ fp) target g) (hi:∀cl C s₀ H₀ fp,CB (cN X NY scope cl C s₀ H₀ fp) ifs tc) (he:∀cl C s₀ H₀ fp,PE (cN X NY scope cl C s₀ H₀ fp) elt te)
  (nd:X.N.Nodup) (hy:X.N[i]?=some y) (hl:DX X.env.scope y) (hsw:swapsWith (.ListComp elt [⟨target,iter,ifs,0⟩] scope pos) (some (.Name y py)) spos.line X.env=pure true)
  (hs:∀x,foldedSetIterable iter X.env x=pure x:=by intro _;rfl) (hf:X.fn y=true\/X.env.scope.names.lookup y=some .local:=by first|exact .inl rfl|exact .inr rfl|assumption) :
  PS X (.Assign [.Name y py] (.ListComp elt [⟨target,iter,ifs,0⟩] scope pos) spos) (bU (d5 js k wi g tc te) (aQ i)):=by
 intro pins s σ H D I h
 obtain⟨cl,hclos,hcl1,hcl2⟩:=sk (scope:=scope) (env:=X.env) λx hx hf=>I.ok.has x.1 (by
  have:=ok.free x hx hf
  rw[<-hsc] at this
  exact this)
 rw[exec_Assign_Name_used _ _ _ _ hsw]
 refine wpAny_bind (wpAny_standAt (wpAny_bind ?_))
 show wpAny _ X.A (do let _ <-comprehension (.ListComp elt [⟨target,iter,ifs,0⟩] scope pos) scope X.env _ (newList []) false (eval iter X.env) (some (assign (.Name y py) X.env))) _ _ s
 refine wpAny_bind (wpAny_mono (wpAny_comprehension_free (use:=some (assign (.Name y py) X.env)) (Q:=λ_ s'=>SP X pins D .next s') rfl hs hclos ok.kind ok.names
  (eF (hit pins s σ H _ I h) λxv s₁ h₁=>eF h₁ λitv s₂ h₂=>?_)) (λ_ s' hq=>wpAny_pure (wpAny_pure hq)) λ_ _ e=>e)
 obtain⟨it,fp,tn,J,H2,rfl,I2,T,st2,f2,loop⟩:=h₂
 refine so (RR:=λacc C=>compPost (model X.prog X.w) X.A X.xe (some (assign (.Name y py) X.env)) (λ_ s'=>SP X pins D .next s') acc C) (Q:=λx H1=>aQ i x σ H1 D.nx) ok hsc hN hk hc I2 T st2 f2 hcl1 hcl2 hg hi he loop ?_
 intro Da C H' s' m hm IX fC c1 c2 c3 c4 _ q
 show wpAny _ X.A (assign (.Name y py) X.env (.ref Da)) _ _ _
 refine wpAny_assign_Name (vK IX nd hy hl (v:=.ref Da) rfl (λs2 IY ⟨a,sb,ha⟩=>?_) hf)
 have hne:C≠a:=by
  rcases ha with rfl|ha
  ·exact c1
  ·exact λz=>c3 y a ha z.symm
 exact⟨m,hm.sameBut sb hne,λh' hs'=>⟨_,H',IY.turned (t':=s2.toks) (λb o hb e=>(hs'.2 b hb).trans e) fC c1 (.inr c2) c3 c4,q⟩⟩
end
section
variable{X:Cx}{pins:List (Addr×Obj)}{σ:St}{H:Hp}{s:Shared}{h':Heap}
theorem bx.turnedL{t':Nat}{ch:List Addr}(I:bx X pins σ H s)(k:∀b o,b∉ch->s.heap.get? b=some o->h'.get? b=some o)(hf:∀b∈ch,nQ X pins H b) :
  bx X pins σ H {s with heap:=h',toks:=t'}:=by
 have nit:∀b u,H b=some u->b∉ch:=λb u e z=>by rw[(hf b z).1] at e;cases e
 refine I.step (g':=s.gens) (d':=s.drawn) (ch:=ch) (λb hb=>⟨(hf b hb).2.2.2.1,(hf b hb).2.1,(hf b hb).2.2.2.2.1,(hf b hb).2.2.2.2.2⟩) (λb o _ _ hc e _=>k b o hc e) (λb o _ _ hc e _=>⟨o.slots,k b o hc e⟩) (λ_ _ _ _ n=>n)
  (λb o hc e=>⟨o,k b o hc e⟩) (λ_ _ e=>e) (λ_ _ _ e=>e) (λb ps e=>⟨#[],by rw[e];simp⟩) (λm hm=>?_) (λb u e=>?_) I.bare
 ·obtain⟨o,es,ep,ho,r⟩:=hm
  exact⟨o,es,ep,k _ o (λz=>(hf _ z).2.1 rfl) ho,r⟩
 ·refine(I.hok b u e).stay (λc v hc q=>k c v ?_ q) (λ_ q=>q) λ_ _ q=>q
  rcases hc with z|z
  ·rw[z];exact nit b u e
  ·exact nit c _ z
theorem bx.adopt{T:Addr}{o:HO}(I:bx X pins σ H s)(hf:nQ X pins H T)(new:d8 X.prog X.w (aP H T o) s.heap T o):bx X pins σ (aP H T o) s:=by
 have nT:∀b u,H b=some u->b≠T:=λb u e z=>by rw[z,hf.1] at e;cases e
 refine I.step (h':=s.heap) (H':=aP H T o) (g':=s.gens) (d':=s.drawn) (t':=s.toks) (ch:=[T]) (λb hb=>?_) (λb _ _ _ _ e _=>e) (λb ob _ _ _ e _=>⟨ob.slots,e⟩) (λb ob hb _ n=>?_)
  (λb ob _ e=>⟨ob,e⟩) (λb xs e=>?_) (λb ob u e=>?_) (λb ps e=>⟨#[],?_⟩) (λm hm=>hm) (λb u e=>?_) I.bare
 ·have e:b=T:=by simpa using hb
  subst e
  exact⟨hf.2.2.2.1,hf.2.1,hf.2.2.2.2.1,hf.2.2.2.2.2⟩
 ·rw[az (λz=>hb (by simp[z]))];exact n
 ·rw[az (nT b _ e)];exact e
 ·rw[az (nT b _ e)];exact e
 ·rw[az (nT b _ e),e];simp
 ·by_cases hb:b=T
  ·subst hb;rw[aj] at e;cases e;exact new
  ·rw[az hb] at e
   exact(I.hok b u e).stay (λc v _ q=>q) (λc q=>by rw[az (nT c _ q)];exact q) λc xs q=>by rw[az (nT c _ q)];exact q
end
def KG(K:Fg)(a:Addr):It:=
 ⟨λi H=>∃xs x,cq K H a xs/\xs[i]?=some x,λi H x H'=>∃p v,H p=none/\x=.ref p/\H'=aP H p (.tup [.int (i:Nat),v])/\∀xs,cq K H a xs->xs[i]?=some v,λi H=>∃xs,cq K H a xs/\xs.length<=i⟩
theorem rG{X:Cx}{H:Hp}{h:Heap}{T:Addr}{x y:V}{u v:Value}{n:Nat}(e:h.get? T=some {cls:=.type "tuple",data:=.seq #[u,v] n})(r1:cA x u)(r2:cA y v):d8 X.prog X.w H h T (.tup [x,y]):=
 ⟨show 2<=sizeLine by decide,[u,v],.cons r1 (.cons r2 .nil),⟨_,e,⟨rfl,rfl⟩,_,rfl⟩⟩
theorem Hi{h:Heap}{it a:Addr}{i:Nat}{l:Addr}{items:Array Value}(p:h.IsList a items)(q:h.IsListIter it l i):a≠it:=by
 intro e;subst e
 obtain⟨o,e1,c1,_⟩:=p
 obtain⟨o',e2,c2,_⟩:=q
 rw[e1] at e2;cases e2;rw[c1] at c2
 injection c2 with c3
 exact absurd c3 (by decide)
theorem DB{P:Program}{w:World}{K:Fg}{elts:List Expr}{k:Nat}{pos:Pos}(a e it:Addr)(hne:e≠it) :
  qW P w K (.Tuple elts k pos) (KG K a) [e,it] e (λi h=>(∃old,IsEnum h e it (i:Nat) old)/\h.IsListIter it a i) where
 mem:=by simp
 obj:=λi h st b hb=>by
  obtain⟨⟨old,he⟩,⟨o,ho,c,d⟩⟩:=st
  rcases aN.mp hb with rfl|hb
  ·exact⟨_,he,λv z=>by have z':Data.fields _=Data.cell v:=z;cases z'⟩
  ·rw[ak.mp hb]
   exact⟨o,ho,λv z=>by rw[d] at z;cases z⟩
 keep:=λi h h' st k=>⟨let⟨old,he⟩:=st.1;⟨old,k e (by simp) _ he⟩,st.2.at λo q=>k it (by simp) o q⟩
 item:=by
  intro X hP hw hK hc i pins s σ H E I hf st hg
  subst hP hw hK
  obtain⟨⟨old,he⟩,hit⟩:=st
  obtain⟨xs,x,hq,hx⟩:=hg
  obtain⟨its,rv,p,hz⟩:=I.list hq
  obtain⟨u,hu,ru⟩:=rv.get hx
  have hlt:i<its.toArray.size:=by have:=(ae.mp hu).1;simpa using this
  have na:a≠it:=Hi p.isList hit
  have nb:e≠a:=by
   intro z;subst z
   obtain⟨o,n,e1,c1,_⟩:=p
   rw[he] at e1;cases e1
   injection c1 with c3
   exact absurd c3 (by decide)
  have Dw:=Draws.list (prog:=X.prog) (w:=X.w) (A:=X.A.in1) (show X.A.in1.handled=none from I.ok.hd hc) it a na its.toArray
  refine wpAny_pyNext_enum_itemD Dw he ⟨hit,p.isList⟩ hlt hne (by simp[hne,nb]) λy h1 tk hP ho st1 hT hsz hk=>?_
  have ey:y=u:=by
   have h1:its.toArray[i]?=some y:=hP
   have h2:its[i]?=some y:=by simpa using h1
   rw[hu] at h2;exact(Option.some.inj h2).symm
  subst ey
  refine⟨_,rfl,?_⟩
  have fT:nQ X pins H s.heap.objs.size:=I.fpOk (au _) (I.hok.fresh (au _))
  refine wpAny_letOwnedTupleGo_enum ho λh2 he2 hs2=>?_
  have helt:e<s.heap.objs.size:=aD he
  have I1:bx X pins σ H {s with heap:=h2,toks:=tk+1}:=I.turnedL (t':=tk+1) (ch:=[e,it]) (λb o hb q=>by
   have b1:b≠e:=λz=>hb (by simp[z])
   have b2:b≠it:=λz=>hb (by simp[z])
   exact(hs2.2 b b1).trans (hk b o b1 b2 q)) hf
  have gT:h2.get? s.heap.objs.size=some {cls:=.type "tuple",data:=.seq #[.int i tk,y]}:=(hs2.2 _ (cJ helt)).trans hT
  have I2:=I1.adopt (T:=s.heap.objs.size) (o:=.tup [.int (i:Nat),x]) fT (rG (X:=X) gT ⟨tk,rfl⟩ ru)
  refine⟨.ref s.heap.objs.size,_,I2,rfl,⟨s.heap.objs.size,x,fT.1,rfl,rfl,λys hy=>by rw[I.list_inj hy hq];exact hx⟩,⟨⟨y,?_⟩,?_⟩,λb hb=>?_⟩
  ·have e2:(((i+1:Nat):Nat):Int)=(i:Int)+1:=by lia
   show IsEnum h2 e it (((i+1:Nat):Nat):Int) y
   rw[e2];exact he2
  ·obtain⟨o,q1,q2⟩:=st1.1
   exact⟨o,(hs2.2 it (Ne.symm hne)).trans q1,q2⟩
  ·have nT:b≠s.heap.objs.size:=by
    rcases aN.mp hb with rfl|hb
    ·exact aL helt
    ·rw[ak.mp hb]
     obtain⟨o,ho,_⟩:=hit
     exact aL (aD ho)
   rw[az nT];exact(hf b hb).1
 done:=by
  intro X hP hw hK hc i pins s σ H E I hf st hg
  subst hP hw hK
  obtain⟨⟨old,he⟩,hit⟩:=st
  obtain⟨xs,hq,hx⟩:=hg
  obtain⟨its,rv,p,hz⟩:=I.list hq
  have hl:=rv.length
  have hT:s.TypeIs (.ref e) "enumerate":=⟨_,he,rfl⟩
  unfold pyNext
  refine wpAny_bind (wpAny_attempt (wpAny_callSpecial?_slot (name:=Str.ofString "__next__") hT F.slot_enumerate_next
   (wpAny_call_entry F.slot_enumerate_next hT F.entry_enumerate_next ?_ (F.args_enumerate_next_1 _))))
  show wpAny _ _ (field (.ref e) 2 >>= _) _ _ _
  refine wpAny_bind (wpAny_field he rfl (x:=.ref it) rfl ?_)
  refine wpAny_bind (wpAny_nextOf_list_end (show X.A.in1.handled=none from I.ok.hd hc) hit p.isList (by simp;lia) λh1 x1 eb hx1=>?_)
  obtain⟨o,ho,hcl⟩:=hx1
  refine wpAny_bind (wpAny_isInstance (T:="StopIteration") (b:=true) ⟨o,ho,hcl⟩ isSubtype_stop ?_)
  exact wpAny_pure ⟨rfl,I.turnedL (t':=s.toks) (ch:=[e,it]) (λb ob hb q=>eb b ob (λz=>hb (by simp[z])) q) hf⟩
 self:=λ_ _ _ _ _ st h=>let⟨_,he⟩:=st.1;wpAny_pyIter_enum he h
section
variable{X:Cx}{elts:List Expr}{k:Nat}{tpos:Pos}
def EJ(K:Fg)(tl:TA):TI:=λσ H R=>tl σ H λvs H1=>∃a,vs=[.ref a]/\(∃xs,cq K H1 a xs)/\R (KG K a) H1
theorem HA{a:Expr}{ta:TA}{p pos:Pos}(hg:Gl X "enumerate")(hm:X.mg "enumerate"=none)(ha:PA X [a] ta)(hs:starEach [a] X.env=[(false,eval a X.env)]:=by rfl) :
  PI X (.Tuple elts k tpos) (.Call (.Name "enumerate" p) [a] [] pos) (EJ X.K ta):=by
 intro pins s σ H R I h
 refine Call_ (iF I hg hm boot_enumerate (bo (eF (ha pos pins s σ H _ I h) λus s1 ⟨vs,H1,I1,r1,q1⟩=>?_) hs rfl))
 obtain⟨l,e,⟨xs,hq⟩,q⟩:=q1
 subst e
 cases r1 with
 |cons r rr=>
  cases rr
  cases r
  obtain⟨its,rv,pl,hz⟩:=I1.list hq
  refine call_enumerate_list pl.isList λh1 he hit hsz hk=>?_
  refine wpAny_pyIter_enum he ?_
  have I2:bx X pins σ H1 {s1 with heap:=h1}:=I1.kept (t':=s1.toks) hk
  refine⟨s1.heap.objs.size+1,[s1.heap.objs.size+1,s1.heap.objs.size],_,_,H1,rfl,I2,DB l _ _ (Nat.succ_ne_self _),⟨⟨.none,he⟩,hit⟩,λb hb=>?_,q⟩
  have hb':s1.heap.objs.size<=b:=by
   rcases aN.mp hb with rfl|hb
   ·lia
   ·rw[ak.mp hb];exact au _
  exact I1.fpOk hb' (I1.hok.fresh hb')
end
section
variable{X:Cx}{elts:List Expr}{k:Nat}{tpos:Pos}
end
theorem EA{K:Fg}{a:Addr}{xs:List V}{g:TG}{tb:TS}{D:kU}{σ:St}{H:Hp}(Pv:Nat->St->Hp->Prop)(h0:Pv 0 σ H)(hl:∀i σ H,i<=xs.length->Pv i σ H->cq K H a xs)
  (hs:∀i x σ H p,xs[i]?=some x->H p=none->Pv i σ H->g (.ref p) σ (aP H p (.tup [.int (i:Nat),x])) λσ2 H2=>tb {D with nx:=Pv (i+1),ct:=Pv (i+1),bk:=D.nx} σ2 H2) (hd:∀σ H,Pv xs.length σ H->D.nx σ H) :
  ∃W:Nat->Nat->St->Hp->Prop,(∃m,W 0 m σ H)/\∀i m σ H,W i m σ H->
   ((KG K a).stop i H/\D.nx σ H)\/((KG K a).go i H/\∃N:St->Hp->Prop,(∀σ' H',N σ' H'->∃m',m'<m/\W (i+1) m' σ' H')/\∀x H',(KG K a).yld i H x H'->g x σ H' λσ2 H2=>tb {D with nx:=N,ct:=N,bk:=D.nx} σ2 H2):=by
 refine⟨λi m σ H=>m=xs.length-i/\i<=xs.length/\Pv i σ H,⟨xs.length,by simp,bt _,h0⟩,?_⟩
 rintro i m σ H ⟨rfl,hi,p⟩
 have q:=hl i σ H hi p
 by_cases hlt:i<xs.length
 ·refine .inr ⟨⟨xs,xs[i],q,by simp[hlt]⟩,Pv (i+1),λσ' H' p'=>⟨xs.length-(i+1),by lia,rfl,hlt,p'⟩,λx H' y=>?_⟩
  obtain⟨pp,v,e1,rfl,rfl,y⟩:=y
  exact hs i v σ H pp (y xs q) e1 p
 ·have e:i=xs.length:=by lia
  subst e
  exact .inl ⟨⟨xs,q,au _⟩,hd σ H p⟩
end L2
namespace PySem
open Sem (wp)
open Builtin MeetsSeq MeetsSeq2 MeetsSeq3
theorem qd:fillsNumberSlot (.type "tuple") "mul"=pure false:=
 fillsNumberSlot_seq (id:="tuple.__mul__") (r:=some (.builtin "tuple.__rmul__")) F.slot_tuple_mul.lookup (by decide +kernel) F.slot_tuple_rmul.lookup (by decide +kernel)
theorem xh:seqRepeat? (.type "tuple")=pure (some (.builtin "tuple.__mul__")):=by
 unfold seqRepeat?
 rw[seqSlot_of (T:="tuple") (name:="__mul__") (id:="tuple.__mul__") F.slot_tuple_mul.lookup (by decide +kernel),seqSlot_of (T:="tuple") (name:="__rmul__") (id:="tuple.__rmul__") F.slot_tuple_rmul.lookup (by decide +kernel)]
 rfl
theorem sE(a:Int)(t:Tok)(l:Addr)(items:Array Value)(n:Nat)(dd:Option Addr)(sl:Array (Option Value)) :
  Meets (Builtin.«int.__rmul__» ⟨[.int a t,.ref l],[]⟩) (λ_ R s=>s.heap.get? l=some {cls:=.type "tuple",dict:=dd,data:=.seq items n,slots:=sl}/\R (.ok (.ret Value.notImplemented)) s):=
 .of_wp λprog w A R s h=>by obtain⟨hp,g,d,tk,os⟩:=s;obtain⟨hl,h⟩:=h;wp_walk;exact⟨_,rfl,h⟩
theorem uf(l:Addr)(items:Array Value)(n:Nat)(dd:Option Addr)(sl:Array (Option Value))(x:Int)(u:Tok)(hlo:-(2 ^ 63)<=x)(hhi:x<2 ^ 63)(he:items.isEmpty=false)(h1:¬x=1)(hp:0<x)(hsz:items.size*x.toNat<=sizeLine) :
  Meets (Builtin.«tuple.__mul__» ⟨[.ref l,.int x u],[]⟩) (λ_ R s=>s.heap.get? l=some {cls:=.type "tuple",dict:=dd,data:=.seq items n,slots:=sl}/\
   R (.ok (.ret (Value.ref s.heap.objs.size))) {s with heap:=s.heap.push {cls:=Value.type "tuple",data:=Data.seq (rH (λx1 x2=>x1++x2) #[] (aV x.toNat items))},toks:=s.toks}):=
 .of_wp λprog w A R s h=>by
  obtain⟨hp,g,d,tk,os⟩:=s;obtain⟨hl,h⟩:=h
  have z1:(decide (x < -(2 ^ 63)) || decide (x >= 2 ^ 63))=false:=by simp;lia
  have z2:(items.isEmpty || x==1)=false:=by simp[he,h1]
  have z3:(decide (x<=0) || items.isEmpty)=false:=by simp[he];lia
  have ex:(items.size:Int)*x=((items.size*x.toNat:Nat):Int):=by
   rw[Int.natCast_mul];congr 1;lia
  have z4:¬((items.size:Int)*x>(2 ^ 63-1) / 8):=by
   rw[ex]
   have:(sizeLine:Nat)<=(2 ^ 63-1) / 8:=by decide
   lia
  have z5:Tuple.tupleTooMany ((items.size:Int)*x)=false:=by
   unfold Tuple.tupleTooMany
   rw[ex]
   exact decide_eq_false (by lia)
  have z6:(rH (λ(x1 x2:Array Value)=>x1++x2) #[] (aV x.toNat items)).size<=sizeLine:=by
   have e:=AutoListH.size_joined items x.toNat #[]
   rw[e,oC]
   simpa using hsz
  wp_walk
  refine wpAny_ite_false (by rw[z1];rfl) ?_
  wp_walk using AutoSeq1.wpAny_loadPart' hl
  refine wpAny_ite_false (decide_eq_false z4) ?_
  wp_walk
  refine wpAny_ite_false (by rw[z5];rfl) ?_
  wp_walk
  exact⟨_,rfl,h⟩
theorem uY(l:Addr)(items:Array Value)(n:Nat)(dd:Option Addr)(sl:Array (Option Value))(u:Tok) :
  Meets (Builtin.«tuple.__mul__» ⟨[.ref l,.int 1 u],[]⟩) (λ_ R s=>s.heap.get? l=some {cls:=.type "tuple",dict:=dd,data:=.seq items n,slots:=sl}/\R (.ok (.ret (Value.ref l))) s):=
 .of_wp λprog w A R s h=>by
  obtain⟨hp,g,d,tk,os⟩:=s;obtain⟨hl,h⟩:=h
  have z2:(items.isEmpty || (1:Int)==1)=true:=by simp
  wp_walk using AutoSeq1.wpAny_loadPart' hl
  first|exact⟨_,rfl,h⟩|trace_state
theorem ug(l:Addr)(items:Array Value)(n:Nat)(dd:Option Addr)(sl:Array (Option Value))(u:Tok)(he:items.isEmpty=false) :
  Meets (Builtin.«tuple.__mul__» ⟨[.ref l,.int 0 u],[]⟩) (λ_ R s=>s.heap.get? l=some {cls:=.type "tuple",dict:=dd,data:=.seq items n,slots:=sl}/\
   R (.ok (.ret (Value.ref s.heap.objs.size))) {s with heap:=s.heap.push {cls:=Value.type "tuple",data:=Data.seq #[]},toks:=s.toks}):=
 .of_wp λprog w A R s h=>by
  obtain⟨hp,g,d,tk,os⟩:=s;obtain⟨hl,h⟩:=h
  have z2:(items.isEmpty || (0:Int)==1)=false:=by simp[he]
  have z3:(decide ((0:Int)<=0) || items.isEmpty)=true:=by simp
  wp_walk using AutoSeq1.wpAny_loadPart' hl
  first|exact⟨_,rfl,h⟩|trace_state
end PySem
namespace L2
open PySem PySem.Spec PyProof.Rows
section
variable{X:Cx}
def IS(K:Fg):R2:=λx y H Q=>∃(l:Addr) (k:Nat) (xs:List V),x=.ref l/\y=.int (k:Nat)/\cE K H l xs/\xs≠[]/\xs.length*k<=sizeLine/\(k=1->Q (.ref l) H)/\
 (k≠1->∀p,H p=none->Q (.ref p) (aP H p (.tup (aV k xs).flatten)))
theorem Hq:jc X (binaryOp .Mult) (IS X.K):=by
 intro pins s σ H x y v u Q I rx ry h
 obtain⟨l,k,xs,rfl,rfl,hq,hne,hz,q1,q2⟩:=h
 cases rx
 obtain⟨t,rfl⟩:=ry
 obtain⟨its,r,⟨⟨cls,dd,data,sl⟩,e,hc,n,hd⟩,hl⟩:=I.tuple hq
 simp only at hc hd
 subst hc hd
 have hlen:=r.length
 have he:its.toArray.isEmpty=false:=by
  cases its with
  |nil=>simp at hlen;exact absurd hlen hne
  |cons a r'=>rfl
 have hs:its.toArray.size*k<=sizeLine:=by rw[ay,<-hlen];exact hz
 have road:wpAny (model X.prog X.w) X.A (call (.builtin "tuple.__mul__") [.ref l,.int (k:Nat) t]) (EP X pins σ Q) X.xe s->wpAny (model X.prog X.w) X.A (binaryOp .Mult (.ref l) (.int (k:Nat) t)) (EP X pins σ Q) X.xe s:=λhcall=>
  wpAny_binaryOp_repeat_ref (T:="tuple") (U:="int") (by decide) ⟨_,e,rfl⟩ (λs'=>typeIs_int s' k t) qd F.fills_int_mul F.slot_int_rmul xh F.slot_int_index.lookup
   (call_meets F.slot_int_rmul (typeIs_int s k t) F.entry_int_rmul (F.args_int_rmul_2 _ _) (sE k t l its.toArray n dd sl) ⟨e,rfl,⟨_,e,rfl⟩,hcall⟩)
 refine road ?_
 by_cases h1:k=1
 ·subst h1
  exact call_meets F.slot_tuple_mul ⟨_,e,rfl⟩ F.entry_tuple_mul (F.args_tuple_mul_2 _ _) (uY l its.toArray n dd sl t) ⟨e,⟨.ref l,H,I,rfl,q1 rfl⟩⟩
 ·have hn:H s.heap.objs.size=none:=I.hok.fresh (au _)
  by_cases h0:k=0
  ·subst h0
   refine call_meets F.slot_tuple_mul ⟨_,e,rfl⟩ F.entry_tuple_mul (F.args_tuple_mul_2 _ _) (ug l its.toArray n dd sl t he) ⟨e,⟨.ref s.heap.objs.size,_,?_,rfl,q2 h1 _ hn⟩⟩
   exact I.laid (t':=s.toks) (λb o e=>ag _ e) (au _) ⟨bt _,[],.nil,⟨_,ax _ rfl,⟨rfl,rfl⟩,_,rfl⟩⟩
  ·have hk64:(k:Int)<2 ^ 63:=by
    have h3:1<=its.toArray.size:=by
     cases its with
     |nil=>simp at he
     |cons a r'=>simp
    have h4:k<=its.toArray.size*k:=Nat.le_mul_of_pos_left k h3
    have h5:(sizeLine:Nat)<2 ^ 63:=by decide
    lia
   refine call_meets F.slot_tuple_mul ⟨_,e,rfl⟩ F.entry_tuple_mul (F.args_tuple_mul_2 _ _) (uf l its.toArray n dd sl k t (by lia) hk64 he (by lia) (by lia) (by simpa using hs)) ⟨e,?_⟩
   have f0:=vh its k []
   rw[eM] at f0
   have ek:((k:Nat):Int).toNat=k:=by simp
   rw[ek,f0]
   refine⟨.ref s.heap.objs.size,_,?_,rfl,q2 h1 _ hn⟩
   refine I.laid (t':=s.toks) (λb o e=>ag _ e) (au _) ⟨?_,(aV k its).flatten,r.rep k,⟨_,ax _ rfl,⟨rfl,rfl⟩,_,rfl⟩⟩
   rw[G8,oC];exact hz
theorem wB:ip X (.builtin "divmod") (λxs H Q=>∃i j,xs=[.int i,.int j]/\(0<j/\j<2 ^ 64)/\∀p,H p=none->Q (.ref p) (aP H p (.tup [.int (i / j),.int (i % j)]))):=by
 intro pins s σ H xs us Q I r h
 obtain⟨i,j,rfl,⟨h1,h2⟩,q⟩:=h
 obtain⟨u,w',rfl,⟨t,rfl⟩,⟨t',rfl⟩⟩:=Gi r
 have hb:j.natAbs.log2<9000:=by
  have h3:j.natAbs.log2<64:=(Nat.log2_lt (by lia)).mpr (by lia)
  lia
 refine divmod_int (by lia) ?_ (.inl (PyProof.noPylong_of_log2 hb))
 rw[Int.fdiv_eq_ediv_of_nonneg i (by lia),Int.fmod_eq_emod_of_nonneg i (by lia)]
 have hn:H s.heap.objs.size=none:=I.hok.fresh (au _)
 refine⟨.ref s.heap.objs.size,_,?_,rfl,q _ hn⟩
 refine I.laid (λb o e=>ag _ e) (au _) ⟨by simp only[bD,fK];rw[sizeLine_eq];decide,[.int (i / j) s.toks,.int (i % j) (s.toks+1)],.cons ⟨_,rfl⟩ (.cons ⟨_,rfl⟩ .nil),?_⟩
 exact⟨_,ax s.heap rfl,⟨rfl,rfl⟩,0,rfl⟩
theorem Jj(bs:List Bool):(cc bs.length).all (λi=>(bs[i]?).getD false)=bs.all id:=by
 rw[Bool.eq_iff_iff,dH,dH]
 constructor
 ·intro h b hb
  obtain⟨i,hi,e⟩:=aT.mp hb
  have:=h i (gb.mpr hi)
  rw[aa hi,fj,e] at this
  exact this
 ·intro h i hi
  have hi:=gb.mp hi
  rw[aa hi,fj]
  exact h _ (bY hi)
theorem jr(hc:X.calm=true):ip X (.builtin "all") (λxs H Q=>∃(p:Addr) (bs:List Bool),xs=[.ref p]/\cq X.K H p (bs.map V.bl)/\Q (.bl (bs.all id)) H):=by
 intro pins s σ H xs us Q I r h
 obtain⟨p,bs,rfl,hq,q⟩:=h
 obtain⟨u,rfl,rx⟩:=jZ r
 cases rx
 obtain⟨its,rv,pl,hz⟩:=I.list hq
 have hlen:=rv.length
 rw[af] at hlen
 have hlt:p<s.heap.objs.size:=by obtain⟨o,e,_⟩:=pl.isList;exact aD e
 refine call_all_walk (wpAny_pyIter_list pl.isList ?_)
 refine⟨_,_,_,_,_,_,λi=>(bs[i]?).getD false,rfl,Walks.list (A:=X.A.in1) (show X.A.in1.handled=none from I.ok.hd hc) s.heap.objs.size p (aL hlt) its.toArray,⟨⟨_,ax _ rfl,rfl,rfl⟩,pl.isList.push _⟩,?_,λh' tk hk=>?_⟩
 ·intro i v s' Q' E' hP hQ
  have hP':its[i]?=some v:=by
   have:its.toArray[i]?=some v:=hP
   simpa using this
  have hi:i<bs.length:=by rw[hlen];exact(ae.mp hP').1
  obtain⟨u,hu,ru⟩:=rv.get (i:=i) (x:=V.bl bs[i]) (by rw[aH,aa hi];rfl)
  rw[hP'] at hu
  cases hu
  cases ru
  have hQ':Q' ((bs[i]?).getD false) s':=hQ
  rw[aa hi,fj] at hQ'
  exact wpAny_truthy_bool hQ'
 ·have e:its.toArray.size=bs.length:=by rw[ay,hlen]
  rw[e,Jj]
  refine⟨.bl _,H,?_,rfl,q⟩
  refine I.kept (t':=tk) λb o eb=>?_
  refine hk b o (λz=>?_) (ag _ eb)
  have e2:b=s.heap.objs.size:=by simpa using z
  have h2:=aD eb
  rw[e2] at h2
  exact cT _ h2
end
section
variable{X:Cx}
theorem pB:∀{ys:List Str} {us:List Value},bV (ys.map V.str) us->StrsAre us ys
 |[],_,r=>by cases r;exact .nil
 |y::ys,_,r=>by
  cases r with
  |cons r rr=>
   obtain⟨t,rfl⟩:=r
   exact .cons _ _ (pB rr)
def Fx(K:Fg):V->List V->Hp->VK->Prop:=λx vs H Q=>∃(sep:Str) (p:Addr) (ys:List Str),x=.str sep/\vs=[.ref p]/\cq K H p (ys.map V.str)/\(ys.map (·.length)).sum+ys.length*sep.length<=16777216/\Q (.str (Txt.join sep ys)) H
theorem G9:KI X "str.join" (Fx X.K):=by
 intro pins s σ H x vs v us Q I rx rv h
 obtain⟨sep,p,ys,rfl,rfl,hq,hz,q⟩:=h
 obtain⟨t,rfl⟩:=rx
 obtain⟨u,rfl,ru⟩:=rv.one
 cases ru
 obtain⟨its,r,pl,_⟩:=I.list hq
 exact join_list pl.isList (by simpa using pB r) hz λt' k=>⟨.str _,H,I.tok k,⟨t',rfl⟩,q⟩
end
section
variable{X:Cx}
def mD(xs ys:List V):Bool:=(cc (min xs.length ys.length)).all (λj=>yt ((xs[j]?).getD .non) ((ys[j]?).getD .non))&&xs.length==ys.length
def Ib(K:Fg)(neg:Bool):R2:=λx y H Q=>∃p q xs ys,x=.ref p/\y=.ref q/\cE K H p xs/\cE K H q ys/\xs.all ir=true/\ys.all ir=true/\Q (.bl (if neg then !mD xs ys else mD xs ys)) H
theorem BA{A:Around}{s:Shared}{xs ys:List V}{us vs:List Value}(r1:bV xs us)(r2:bV ys vs)(f1:xs.all ir=true)(f2:ys.all ir=true) :
  ∀j (h1:j<us.toArray.size) (h2:j<vs.toArray.size),SeqAt.EqAt A s us.toArray[j] vs.toArray[j] (yt ((xs[j]?).getD .non) ((ys[j]?).getD .non)):=by
 intro j h1 h2
 have l1:=r1.length
 have l2:=r2.length
 rw[ay] at h1 h2
 have j1:j<xs.length:=by lia
 have j2:j<ys.length:=by lia
 obtain⟨u,hu,ru⟩:=r1.get (aa j1)
 obtain⟨v,hv,rv⟩:=r2.get (aa j2)
 have eu:us.toArray[j]=u:=by
  have:=aa h1
  rw[hu] at this
  simpa using(Option.some.inj this).symm
 have ev:vs.toArray[j]=v:=by
  have:=aa h2
  rw[hv] at this
  simpa using(Option.some.inj this).symm
 rw[eu,ev,aa j1,aa j2,fj,fj]
 exact Et ru rv (dH.mp f1 _ (bY j1)) (dH.mp f2 _ (bY j2))
theorem JN(hu:X.A.units<cLine):jc X (compareOp .Eq) (Ib X.K false):=by
 intro pins s σ H x y v u Q I rx ry h
 obtain⟨p,q,xs,ys,rfl,rfl,h1,h2,f1,f2,qq⟩:=h
 cases rx
 cases ry
 obtain⟨us,r1,t1,_⟩:=I.tuple h1
 obtain⟨vs,r2,t2,_⟩:=I.tuple h2
 refine SeqAt.eq_tupleAt (show s.heap.IsTuple p us.toArray from t1) (show s.heap.IsTuple q vs.toArray from t2) hu (BA r1 r2 f1 f2) ⟨.bl (mD xs ys),H,I,?_,qq⟩
 show Value.bool _=Value.bool _
 unfold mD
 rw[ay,ay,r1.length,r2.length]
def IP(K:Fg):R2:=λx y H Q=>∃p xs z,x=.ref p/\y=.str z/\cE K H p xs/\Q (.bl false) H
theorem Ho(hu:X.A.units<cLine):jc X (compareOp .Eq) (IP X.K):=by
 intro pins s σ H x y v u Q I rx ry h
 obtain⟨p,xs,z,rfl,rfl,h1,qq⟩:=h
 cases rx
 obtain⟨t,rfl⟩:=ry
 obtain⟨us,r1,t1,_⟩:=I.tuple h1
 exact SeqAt.RcAt.tuple_str z t (show s.heap.IsTuple p us.toArray from t1) hu X.prog X.w X.xe _ ⟨.bl false,H,I,rfl,qq⟩
theorem JS(hu:X.A.units<cLine):jc X (compareOp .NotEq) (Ib X.K true):=by
 intro pins s σ H x y v u Q I rx ry h
 obtain⟨p,q,xs,ys,rfl,rfl,h1,h2,f1,f2,qq⟩:=h
 cases rx
 cases ry
 obtain⟨us,r1,t1,_⟩:=I.tuple h1
 obtain⟨vs,r2,t2,_⟩:=I.tuple h2
 refine SeqAt.RcNeAt.tuples (show s.heap.IsTuple p us.toArray from t1) (show s.heap.IsTuple q vs.toArray from t2) hu (BA r1 r2 f1 f2) X.prog X.w X.xe _ ⟨.bl (!mD xs ys),H,I,?_,qq⟩
 show Value.bool _=Value.bool _
 unfold mD
 rw[ay,ay,r1.length,r2.length]
end
section
variable{X:Cx}
def Ia(K:Fg)(neg:Bool):R2:=λx y H Q=>∃p q xs ys,x=.ref p/\y=.ref q/\cq K H p xs/\cq K H q ys/\xs.all ir=true/\ys.all ir=true/\Q (.bl (if neg then !mD xs ys else mD xs ys)) H
theorem yu{xs ys:List V}(h:xs.length=ys.length):mD xs ys=(cc xs.length).all (λj=>yt ((xs[j]?).getD .non) ((ys[j]?).getD .non)):=by
 unfold mD;rw[<-h,Nat.min_self];simp
theorem BH{xs ys:List V}(h:¬xs.length=ys.length):mD xs ys=false:=by
 unfold mD;rw[Bool.and_eq_false_iff];right;simpa using h
theorem JM(hu:X.A.units<cLine):jc X (compareOp .Eq) (Ia X.K false):=by
 intro pins s σ H x y v u Q I rx ry h
 obtain⟨p,q,xs,ys,rfl,rfl,h1,h2,f1,f2,qq⟩:=h
 cases rx
 cases ry
 obtain⟨us,r1,t1,_⟩:=I.list h1
 obtain⟨vs,r2,t2,_⟩:=I.list h2
 have l1:=r1.length
 have l2:=r2.length
 by_cases c:xs.length=ys.length
 ·refine SeqAt.eq_listAt t1.isList t2.isList (by rw[ay,ay];lia) hu (BA r1 r2 f1 f2) ⟨.bl (mD xs ys),H,I,?_,qq⟩
  show Value.bool _=Value.bool _
  rw[yu c,ay,l1]
 ·refine SeqAt.eq_list_lengthsAt t1.isList t2.isList (by rw[ay,ay];simp;lia) hu ⟨.bl (mD xs ys),H,I,?_,qq⟩
  show Value.bool _=Value.bool _
  rw[BH c]
theorem JR(hu:X.A.units<cLine):jc X (compareOp .NotEq) (Ia X.K true):=by
 intro pins s σ H x y v u Q I rx ry h
 obtain⟨p,q,xs,ys,rfl,rfl,h1,h2,f1,f2,qq⟩:=h
 cases rx
 cases ry
 obtain⟨us,r1,t1,_⟩:=I.list h1
 obtain⟨vs,r2,t2,_⟩:=I.list h2
 have l1:=r1.length
 have l2:=r2.length
 by_cases c:xs.length=ys.length
 ·refine SeqAt.RcNeAt.lists t1.isList t2.isList (by rw[ay,ay];lia) hu (BA r1 r2 f1 f2) X.prog X.w X.xe _ ⟨.bl (!mD xs ys),H,I,?_,qq⟩
  show Value.bool _=Value.bool _
  rw[yu c,ay,l1]
 ·refine SeqAt.RcNeAt.lists_lengths t1.isList t2.isList (by rw[ay,ay];simp;lia) hu X.prog X.w X.xe _ ⟨.bl (!mD xs ys),H,I,?_,qq⟩
  show Value.bool _=Value.bool _
  rw[BH c];rfl
end
section
variable{prog:Program}{w:World}{A:Around}{E:Value->Shared->Prop}
theorem su{it t:Addr}{items:Array Value}(hne:t≠it):∀(n i:Nat) (s:Shared) (Q:List Value->Shared->Prop),s.heap.IsListIter it t i->s.heap.IsList t items->i+n<=items.size->
  (∀h':Heap,h'.IsListIter it t (i+n)->Heap.SameBut it s.heap h'->Q ((items.toList.drop i).take n) {s with heap:=h'})->wpAny (model prog w) A (draw (.ref it) n) Q E s
 |0,i,s,Q,hit,_,_,hQ=>by
  show wpAny _ _ (pure []) Q E s
  exact wpAny_pure (by simpa using hQ s.heap hit (Heap.SameBut.refl ..))
 |n+1,i,s,Q,hit,ht,hle,hQ=>by
  have hlt:i<items.size:=by lia
  show wpAny _ _ (pyNext (.ref it) >>= _) Q E s
  refine wpAny_bind (wpAny_pyNext_list_item hit ht (x:=items[i]) (by simp[hlt]) λh₁ hit₁ hs₁=>?_)
  refine wpAny_bind (wpAny_holding (su hne n (i+1) _ _ hit₁ (ht.extBut hs₁.extBut hne) (by lia) λh₂ hit₂ hs₂=>wpAny_pure ?_))
  have hd:items.toList.drop i=items[i]::items.toList.drop (i+1):=by simp[bM,hlt]
  have:=hQ h₂ (by rw[show i+(n+1)=i+1+n by lia];exact hit₂) (hs₁.trans hs₂)
  rw[hd,List.take_succ_cons] at this
  exact this
theorem pU{s:Shared}{t:Addr}{items:Array Value}{Q:List Value->Shared->Prop}(hh:A.handled=none)(ht:s.heap.IsList t items)
  (hQ:∀h':Heap,Heap.ExtBut s.heap.objs.size s.heap h'->Q items.toList {s with heap:=h'}):wpAny (model prog w) A (unpackItems (.ref t) items.size none) Q E s:=by
 have hlt:t≠s.heap.objs.size:=by obtain⟨o,ho,_⟩:=ht;exact aL (aD ho)
 unfold unpackItems
 refine wpAny_bind ?_
 ·unfold notIterableAtAll
  refine wpAny_bind (wpAny_specialOf ht.typeIs slot_list_iter.lookup ?_)
  refine wpAny_pure ?_
  simp only[Bool.false_eq_true,if_false]
  refine wpAny_bind (wpAny_holding (wpAny_pyIter_list ht ?_))
  refine wpAny_bind (wpAny_holding (su hlt items.size 0 _ _ ⟨_,ax _ rfl,rfl,rfl⟩ (ht.push _) (by lia) λh₁ hit₁ hs₁=>?_))
  have hall:List.take items.size (List.drop 0 items.toList)=items.toList:=by
   rw[f7];exact cW (by simp)
  rw[hall]
  rw[if_neg (by simp)]
  have ht₁:h₁.IsList t items:=(ht.push _).extBut hs₁.extBut hlt
  refine wpAny_bind (wpAny_holding (wpAny_pyNext_list_end hh hit₁ ht₁ (by simp) λh₂ he₂=>?_))
  simp only[Option.isSome_none,Bool.false_eq_true,if_false]
  refine wpAny_pure (hQ h₂ λb o hb e=>he₂ b o hb (hs₁.extBut b o hb (ag _ e)))
end
section
variable{X:Cx}{pos:Pos}
def EE(K:Fg)(n:Nat)(t:CJ):TG:=λv σ H Q=>∃a xs,v=.ref a/\cq K H a xs/\xs.length=n/\t xs σ H Q
theorem Hx{es:List Expr}{k:Nat}{t:CJ}{n:Nat}(hc:X.calm=true)(h:Ky X es t)
  (hn:(assignEach es X.env).length=n:=by rfl) (hst:(assignEach es X.env).findIdx? (·.1)=none:=by rfl):PG X (.Tuple es k pos) (EE X.K n t):=by
 intro pins s σ H v u Q I r hw
 obtain⟨a,xs,e1,hq,hl,hw⟩:=hw
 subst e1
 cases r
 obtain⟨its,rv,ht,hz⟩:=I.list hq
 rw[assign_Tuple]
 refine wpAny_bind (wpAny_standAt ?_)
 unfold unpack
 have e:(assignEach es X.env).length=its.toArray.size:=by simp[hn,<-hl,rv.length]
 rw[e,hst]
 refine wpAny_bind (wpAny_holding (pU (I.ok.hd hc) ht.isList λh' hx=>?_))
 have I1:bx X pins σ H {s with heap:=h'}:=I.kept (t':=s.toks) λb o e=>hx b o (aL (aD e)) e
 exact h pins _ σ H xs _ Q I1 (by simpa using rv) hw
end
def Ly:R2:=λx y H Q=>∃i j,x=.str i/\y=.str j/\i.length+j.length<=sizeLine/\Q (.str (i++j)) H
def c7(K:Fg):R2:=λx y H Q=>DJ (λi j=>.int (i+j)) x y H Q\/(Ly x y H Q\/(Lp x y H Q\/IL K x y H Q))
def qH:R2:=DJ λi j=>.int (i-j)
def i8(K:Fg):R2:=λx y H Q=>rI Gv (λi j=>.int (i*j)) x y H Q\/IS K x y H Q
def jV:R2:=rI (λ_ j=>0<j) λi j=>.int (i % j)
def Fv:R2:=rI KB λi j=>.int (i / j)
def wY(K:Fg):R2:=λx y H Q=>Mb x y H Q\/(Ib K false x y H Q\/(IP K x y H Q\/Ia K false x y H Q))
def FB(K:Fg):R2:=λx y H Q=>Mc x y H Q\/(Ib K true x y H Q\/Ia K true x y H Q)
def AY:R2:=DJ λi j=>.bl (decide (i<j))
def LZ:R2:=DJ λi j=>.bl (decide (i<=j))
def uK:R2:=DJ λi j=>.bl (decide (j<i))
def Dd:R2:=λx y H Q=>y=.non/\Q (.bl (decide (x=.non))) H
def sT:R2:=λx y H Q=>y=.non/\Q (.bl (!decide (x=.non))) H
def ph:V->Hp->VK->Prop:=rU λi=>.int (-i)
def Ic(K:Fg):V->Option Int->Option Int->Hp->VK->Prop:=λx lo hi H Q=>Lw K x lo hi H Q\/Lx K x lo hi H Q
def fQ(K:Fg):List V->Hp->VK->Prop:=λxs H Q=>∃x n,xs=[x]/\KH K x H n/\Q (.int n) H
def HZ:List V->Hp->VK->Prop:=λxs H Q=>∃i j,xs=[.int i,.int j]/\(0<j/\j<2 ^ 64)/\∀p,H p=none->Q (.ref p) (aP H p (.tup [.int (i / j),.int (i % j)]))
def Fy:List V->Hp->VK->Prop:=λxs H Q=>∃i j,xs=[.int i,.int j]/\Q (.int (if j<i then j else i)) H
def Ft(K:Fg):List V->Hp->VK->Prop:=λxs H Q=>∃(p:Addr) (bs:List Bool),xs=[.ref p]/\cq K H p (bs.map V.bl)/\Q (.bl (bs.all id)) H
def IQ:List V->Hp->VK->Prop:=λxs H Q=>(∃i,xs=[.int i]/\Q (.int i) H)\/∃k,xs=[.bl k]/\Q (.int (if k then 1 else 0)) H
def xa(K:Fg):List V->Hp->VK->Prop:=λxs H Q=>∃p ys,xs=[.ref p]/\(cq K H p ys\/cE K H p ys)/\∀l,H l=none->Q (.ref l) (aP H l (.lst ys))
def dB(K:Fg):List V->Hp->VK->Prop:=λxs H Q=>∃p ys,xs=[.ref p]/\((cq K H p ys/\∀l,H l=none->Q (.ref l) (aP H l (.tup ys)))\/(cE K H p ys/\Q (.ref p) H))
def je(K:Fg)(tl:TE):TI:=λσ H R=>IG K tl σ H R\/K1 K tl σ H R
section
variable{X:Cx}
theorem bT:jc X (binaryOp .Add) (c7 X.K):=JK.or (AR.or (JL.or Hm))
theorem fH:jc X (binaryOp .Mult) (i8 X.K):=JQ.or Hq
theorem lG(hu:X.A.units<cLine):jc X (compareOp .Eq) (wY X.K):=K9.or ((JN hu).or ((Ho hu).or (JM hu)))
theorem wW(hu:X.A.units<cLine):jc X (compareOp .NotEq) (FB X.K):=Lb.or ((JS hu).or (JR hu))
theorem ou:D7 X (Ic X.K):=Ir.or Ks
theorem J4{tg l:Expr}{tl:TE}(hl:PE X l tl):PI X tg l (je X.K tl):=by
 intro pins s σ H R I h
 rcases h with h|h
 ·exact HB hl pins s σ H R I h
 ·exact J5 hl pins s σ H R I h
end
structure b7(P:Program)(w:World)(K:Fg)(mg:Str->Option Value)(base:Heap)(x:Str)(ps:List Str)(k:Nat)(sp:Sp):Prop where
 ex:∃(f:Addr) (fd:FuncData),mg x=some (.ref f)/\e6 K (.ref f)=true/\uZ K fd ps []/\uk P w K mg base Gr k f fd ps sp
theorem Lf{X:Cx}{x:Str}{ps:List Str}{k:Nat}{sp:Sp}{e:Expr}{es:List Expr}{t:TA}{p pos:Pos}(c:b7 X.prog X.w X.K X.mg X.base x ps k sp)(hr:gN k X.A)(hg:Gl X x)(ha:PA X (e::es) t)
  (hdb:(x==("__debug__":Str))=false:=by decide) (he:starEach (e::es) X.env=(false,eval e X.env)::starEach es X.env:=by rfl) (hpl:(backTo pos (starEach es X.env)).any (·.1)=false:=by rfl) :
  PE X (.Call (.Name x p) (e::es) [] pos) (br sp [] E0 t):=by
 obtain⟨f,fd,hm,hk,hb,F⟩:=c.ex
 exact Hs F hr hg hm hk hb .nil Lc ha hdb he hpl
structure kT(mg:Str->Option Value):Prop where
 len_:mg "len"=none
 range_:mg "range"=none
 divmod_:mg "divmod"=none
 max_:mg "max"=none
 min_:mg "min"=none
 sum_:mg "sum"=none
 all_:mg "all"=none
 isinstance_:mg "isinstance"=none
 int_:mg "int"=none
 bool_:mg "bool"=none
 list_:mg "list"=none
 tuple_:mg "tuple"=none
 enumerate_:mg "enumerate"=none
 zip_:mg "zip"=none
 sorted_:mg "sorted"=none
 set_:mg "set"=none
 dict_:mg "dict"=none
 str_:mg "str"=none
 any_:mg "any"=none
 reversed_:mg "reversed"=none
 abs_:mg "abs"=none
def iz(a:Addr)(H H':Hp):Prop:=∀b o,b≠a->H b=some o->H' b=some o
theorem iz.refl(a:Addr)(H:Hp):iz a H H:=λ_ _ _ h=>h
theorem iz.trans{a:Addr}{H H1 H2:Hp}(x:iz a H H1)(y:iz a H1 H2):iz a H H2:=λc o n h=>y c o n (x c o n h)
theorem iz.upd_at{a:Addr}{H:Hp}{o:HO}:iz a H (aP H a o):=λb u n h=>by rw[az n];exact h
theorem iz.new{a p:Addr}{H H1:Hp}{o:HO}(x:iz a H H1)(hp:H1 p=none):iz a H (aP H1 p o):=λb u n h=>by
 rw[az (aJ (x b u n h) hp)];exact x b u n h
theorem aM.new{p:Addr}{H H1:Hp}{o:HO}(x:aM H H1)(hp:H1 p=none):aM H (aP H1 p o):=λb u h=>by
 rw[az (aJ (x b u h) hp)];exact x b u h
theorem iz.free{a p:Addr}{H H':Hp}(x:iz a H H')(n:p≠a)(h:H' p=none):H p=none:=by
 cases q:H p with
 |none=>rfl
 |some o=>rw[x p o n q] at h;cases h
theorem nY{js:List Nat}{k:Nat}{lo:Int}{n:Nat}{g:TG}{tc:TT}{te:TE}{R:Hp->Prop}{σ:St}{H:Hp}{D:Addr}(Pv:Nat->St->Hp->Prop)(h0:Pv 0 (vd js k σ) (aP H D (.lst [])))
  (hs:∀i σ H,i<n->Pv i σ H->g (.int (lo+i)) σ H λσ2 H2=>jI D tc te {nx:=Pv (i+1),rt:=λ_ _=>False,ct:=Pv (i+1),bk:=λ_ H'=>R H'} σ2 H2) (hd:∀σ H,Pv n σ H->R H) :
  ∃W:Nat->Nat->St->Hp->Prop,(∃m,W 0 m (vd js k σ) (aP H D (.lst [])))/\∀i m σ H,W i m σ H->
   ((Gy lo n).stop i H/\R H)\/((Gy lo n).go i H/\∃N:St->Hp->Prop,(∀σ' H',N σ' H'->∃m',m'<m/\W (i+1) m' σ' H')/\∀x H',(Gy lo n).yld i H x H'->g x σ H' λσ2 H2=>jI D tc te {nx:=N,rt:=λ_ _=>False,ct:=N,bk:=λ_ H'=>R H'} σ2 H2):=
 gP (D:={nx:=λ_ H'=>R H',rt:=λ_ _=>False}) Pv h0 hs hd
theorem jQ{js:List Nat}{k:Nat}{K:Fg}{a:Addr}{xs:List V}{g:TG}{tc:TT}{te:TE}{R:Hp->Prop}{σ:St}{H:Hp}{D:Addr}(Pv:Nat->St->Hp->Prop)(h0:Pv 0 (vd js k σ) (aP H D (.lst [])))(hl:∀i σ H,i<=xs.length->Pv i σ H->cq K H a xs)
  (hs:∀i x σ H,xs[i]?=some x->Pv i σ H->g x σ H λσ2 H2=>jI D tc te {nx:=Pv (i+1),rt:=λ_ _=>False,ct:=Pv (i+1),bk:=λ_ H'=>R H'} σ2 H2) (hd:∀σ H,Pv xs.length σ H->R H) :
  ∃W:Nat->Nat->St->Hp->Prop,(∃m,W 0 m (vd js k σ) (aP H D (.lst [])))/\∀i m σ H,W i m σ H->
   ((ID K a).stop i H/\R H)\/((ID K a).go i H/\∃N:St->Hp->Prop,(∀σ' H',N σ' H'->∃m',m'<m/\W (i+1) m' σ' H')/\∀x H',(ID K a).yld i H x H'->g x σ H' λσ2 H2=>jI D tc te {nx:=N,rt:=λ_ _=>False,ct:=N,bk:=λ_ H'=>R H'} σ2 H2):=
 sy (D:={nx:=λ_ H'=>R H',rt:=λ_ _=>False}) Pv h0 hl hs hd
theorem i6{js:List Nat}{k:Nat}{K:Fg}{a:Addr}{xs:List V}{g:TG}{tc:TT}{te:TE}{R:Hp->Prop}{σ:St}{H:Hp}{D:Addr}(Pv:Nat->St->Hp->Prop)(h0:Pv 0 (vd js k σ) (aP H D (.lst [])))(hl:∀i σ H,i<=xs.length->Pv i σ H->cE K H a xs)
  (hs:∀i x σ H,xs[i]?=some x->Pv i σ H->g x σ H λσ2 H2=>jI D tc te {nx:=Pv (i+1),rt:=λ_ _=>False,ct:=Pv (i+1),bk:=λ_ H'=>R H'} σ2 H2) (hd:∀σ H,Pv xs.length σ H->R H) :
  ∃W:Nat->Nat->St->Hp->Prop,(∃m,W 0 m (vd js k σ) (aP H D (.lst [])))/\∀i m σ H,W i m σ H->
   ((IE K a).stop i H/\R H)\/((IE K a).go i H/\∃N:St->Hp->Prop,(∀σ' H',N σ' H'->∃m',m'<m/\W (i+1) m' σ' H')/\∀x H',(IE K a).yld i H x H'->g x σ H' λσ2 H2=>jI D tc te {nx:=N,rt:=λ_ _=>False,ct:=N,bk:=λ_ H'=>R H'} σ2 H2):=
 rk (D:={nx:=λ_ H'=>R H',rt:=λ_ _=>False}) Pv h0 hl hs hd
theorem iz.through{a l:Addr}{H H1 H2:Hp}{o:HO}(x:iz a H H1)(hl:H1 l=none)(y:iz l (aP H1 l o) H2):iz a H H2:=λb u n h=>by
 have h1:=x b u n h
 have nl:b≠l:=aJ h1 hl
 exact y b u nl (by rw[az nl];exact h1)
structure QE(X:Cx)(e:Expr)(t:TE):Prop where
 up:PE X e t
structure QT(X:Cx)(e:Expr)(t:TT):Prop where
 up:PT X e t
structure QW(X:Cx)(e:Expr)(t:TT):Prop where
 up:PW X e t
structure QA(X:Cx)(e:List Expr)(t:TA):Prop where
 up:PA X e t
structure QS(X:Cx)(e:Stmt)(t:TS):Prop where
 up:PS X e t
structure GJ(X:Cx)(e:List Stmt)(t:TS):Prop where
 up:Ag X e t
structure QG(X:Cx)(e:Expr)(t:TG):Prop where
 up:PG X e t
structure KN(X:Cx)(e:List Expr)(t:CJ):Prop where
 up:Ky X e t
structure QI(X:Cx)(a b:Expr)(t:TI):Prop where
 up:PI X a b t
structure QO(X:Cx)(e:Option Expr)(t:TO):Prop where
 up:PO X e t
structure CH(X:Cx)(e:List Expr)(t:TT):Prop where
 up:CB X e t
theorem qv(i:Nat){x:Str}{pos:Pos}(hN:X.N[i]?=some x:=by rfl)(hv:LL X.env.scope x:=by first|exact Or.inl rfl|exact Or.inr (Or.inl rfl)|exact Or.inr (Or.inr rfl))(hd:(x==("__debug__":Str))=false:=by decide)(hcd:(x==("__classdict__":Str))=false:=by decide):QE X (.Name x pos) (av i):=
 ⟨pv i hN hv hd hcd⟩
theorem aK{i j pos}:QE X (.Constant (.int i) j pos) (tC (.int i)):=
 ⟨JV ⟩
theorem BX{b j pos}:QE X (.Constant (.bool b) j pos) (tC (.bl b)):=
 ⟨Ld ⟩
theorem dG{j pos}:QE X (.Constant .none j pos) (tC .non):=
 ⟨JX ⟩
theorem gW{x j pos}:QE X (.Constant (.str x) j pos) (tC (.str x)):=
 ⟨JZ ⟩
theorem bE{op:Operator}{r:R2}(ho:jc X (binaryOp op) r)(ha:QE X a ta)(hb:QE X b tb):QE X (.BinOp a op b pos) (bN r ta tb):=
 ⟨Lh ho ha.up hb.up⟩
theorem jT{op:UnaryOp}{r:V->Hp->VK->Prop}(ho:LK X (unaryOp op) r)(ha:QE X a ta):QE X (.UnaryOp op a pos) (zU r ta):=
 ⟨Lj ho ha.up⟩
theorem iQ{op:CmpOp}{r:R2}(ho:jc X (compareOp op) r)(ha:QE X a ta)(hb:QE X b tb)(hm:behindInMarks op b=false):QE X (.Compare a [op] [b] pos) (bN r ta tb):=
 ⟨Ht ho ha.up hb.up hm⟩
theorem Lo{rest:List Expr}(ha:QE X a ta)(hb:QE X (.BoolOp .Or (b::rest) pos) tb):QE X (.BoolOp .Or (a::b::rest) pos) (Ku ta tb):=
 ⟨Li ha.up hb.up⟩
theorem Kg{op}{t:TE}(h:QE X a t):QE X (.BoolOp op [a] pos) t:=
 ⟨JY h.up⟩
theorem yX{c:Expr}(hc:QT X c tA)(ha:QE X a ta)(hb:QE X b tb):QE X (.IfExp c a b pos) (LM tA ta tb):=
 ⟨Fd hc.up ha.up hb.up⟩
theorem gm{lo hi:Option Expr}{r:V->Option Int->Option Int->Hp->VK->Prop}(hr:D7 X r)(he:QE X e te)(hl:QO X lo tl)(hu:QO X hi th):QE X (.Subscript e (.Slice lo hi none p2) pos) (FY r te tl th):=
 ⟨Fe hr he.up hl.up hu.up⟩
theorem Ln{r:R2}(hr:Gs X r)(ha:QE X a ta)(hb:QE X b tb)(hs:wx b):QE X (.Subscript a b pos) (bN r ta tb):=
 ⟨Lg hr ha.up hb.up hs⟩
theorem fP{x1}(h:QA X es t):QE X (.Tuple es x1 pos) (kz t):=
 ⟨J0 h.up⟩
theorem dz(h:QA X es t):QE X (.List es pos) (gA t):=
 ⟨JW h.up⟩
theorem vD{id:String}(pa:PlainAttrs T)(slot:Slot T name id)(hty:typeOf (.builtin id)=pure (.type "method_descriptor"))(hm:KI X id r)(ho:QE X o to)(ha:QA X (e::es) t)(hbase:attributeBase o name X.env (eval o X.env)=eval o X.env:=by rfl)(hfew:((backTo cpos (starEach (e::es) X.env)).all (λx=>!x.1)&&(backToKw cpos (keywordEach [] X.env)).all (λx=>x.1.isSome)
   && decide ((e::es).length+([]:List Keyword).length+(if([]:List Keyword).isEmpty then 0 else 1)<30))=true:=by rfl) (hline:(apos.endLine==cpos.line)=true:=by rfl) (hs:starEach (e::es) X.env=(false,eval e X.env)::starEach es X.env:=by rfl) (hplain:(backTo cpos (starEach es X.env)).any (·.1)=false:=by rfl):QE X (.Call (.Attribute o name apos) (e::es) [] cpos) (rE X.K T r to t):=
 ⟨Le pa slot hty hm ho.up ha.up hbase hfew hline hs hplain⟩
theorem Kf{id:String}(pa:PlainAttrs T)(slot:Slot T name id)(hty:typeOf (.builtin id)=pure (.type "method_descriptor"))(hm:KI X id r)(ho:QE X o to)(hbase:attributeBase o name X.env (eval o X.env)=eval o X.env:=by rfl)(hline:(apos.endLine==cpos.line)=true:=by rfl):QE X (.Call (.Attribute o name apos) [] [] cpos) (Kt X.K T r to):=
 ⟨JU pa slot hty hm ho.up hbase hline⟩
theorem eE{id:String}(hc:ip X (.builtin id) r)(hg:Gl X x)(hm:X.mg x=none)(hv:bootBuiltins x=some (.builtin id))(ha:QA X (e::es) t)(hn:x≠"__name__":=by decide)(hdb:(x==("__debug__":Str))=false:=by decide)(he:starEach (e::es) X.env=(false,eval e X.env)::starEach es X.env:=by rfl)(hpl:(backTo pos (starEach es X.env)).any (·.1)=false:=by rfl):QE X (.Call (.Name x p) (e::es) [] pos) (ff r t):=
 ⟨E6 hc hg hm hv ha.up hn hdb he hpl⟩
theorem bZ(hc:ip X (.type T) r)(hg:Gl X x)(hm:X.mg x=none)(hv:bootBuiltins x=some (.type T))(ha:QA X (e::es) t)(hn:x≠"__name__":=by decide)(hdb:(x==("__debug__":Str))=false:=by decide)(he:starEach (e::es) X.env=(false,eval e X.env)::starEach es X.env:=by rfl)(hpl:(backTo pos (starEach es X.env)).any (·.1)=false:=by rfl):QE X (.Call (.Name x p) (e::es) [] pos) (ff r t):=
 ⟨C5 hc hg hm hv ha.up hn hdb he hpl⟩
theorem Lm{X:Cx}{x:Str}{ps:List Str}{k:Nat}{sp:Sp}{e:Expr}{es:List Expr}{t:TA}{p pos:Pos}(c:b7 X.prog X.w X.K X.mg X.base x ps k sp)(hr:gN k X.A)(hg:Gl X x)(ha:QA X (e::es) t)(hdb:(x==("__debug__":Str))=false:=by decide)(he:starEach (e::es) X.env=(false,eval e X.env)::starEach es X.env:=by rfl)(hpl:(backTo pos (starEach es X.env)).any (·.1)=false:=by rfl):QE X (.Call (.Name x p) (e::es) [] pos) (br sp [] E0 t):=
 ⟨Lf c hr hg ha.up hdb he hpl⟩
theorem HR{wi:TI}(ok:nO sc N scope NY js)(hsc:X.env.scope=sc)(hN:X.N=N)(hk:NY.length=N.length+k)(hc:X.calm=true)(hit:QI X target iter wi)(hg:∀cl C s₀ H₀ fp,QG (cN X NY scope cl C s₀ H₀ fp) target g)(hi:∀cl C s₀ H₀ fp,CH (cN X NY scope cl C s₀ H₀ fp) ifs tc)(he:∀cl C s₀ H₀ fp,QE (cN X NY scope cl C s₀ H₀ fp) elt te)(hs:∀x,foldedSetIterable iter X.env x=pure x:=by intro _;rfl):QE X (.ListComp elt [⟨target,iter,ifs,0⟩] scope pos) (d5 js k wi g tc te):=
 ⟨Hu ok hsc hN hk hc hit.up (λcl C s₀ H₀ fp=>(hg cl C s₀ H₀ fp).up) (λcl C s₀ H₀ fp=>(hi cl C s₀ H₀ fp).up) (λcl C s₀ H₀ fp=>(he cl C s₀ H₀ fp).up) hs⟩
theorem HY{wi:TI}{i:Nat}{y:Str}{py spos:Pos}(ok:nO sc N scope NY js)(hsc:X.env.scope=sc)(hN:X.N=N)(hk:NY.length=N.length+k)(hc:X.calm=true)(hit:QI X target iter wi)(hg:∀cl C s₀ H₀ fp,QG (cN X NY scope cl C s₀ H₀ fp) target g)(hi:∀cl C s₀ H₀ fp,CH (cN X NY scope cl C s₀ H₀ fp) ifs tc)(he:∀cl C s₀ H₀ fp,QE (cN X NY scope cl C s₀ H₀ fp) elt te)(nd:X.N.Nodup)(hy:X.N[i]?=some y)(hl:DX X.env.scope y)(hsw:swapsWith (.ListComp elt [⟨target,iter,ifs,0⟩] scope pos) (some (.Name y py)) spos.line X.env=pure true)(hs:∀x,foldedSetIterable iter X.env x=pure x:=by intro _;rfl)(hf:X.fn y=true\/X.env.scope.names.lookup y=some .local:=by first|exact .inl rfl|exact .inr rfl|assumption):QS X (.Assign [.Name y py] (.ListComp elt [⟨target,iter,ifs,0⟩] scope pos) spos) (bU (d5 js k wi g tc te) (aQ i)):=
 ⟨HK ok hsc hN hk hc hit.up (λcl C s₀ H₀ fp=>(hg cl C s₀ H₀ fp).up) (λcl C s₀ H₀ fp=>(hi cl C s₀ H₀ fp).up) (λcl C s₀ H₀ fp=>(he cl C s₀ H₀ fp).up) nd hy hl hsw hs hf⟩
theorem iR :QO X none gu:=
 ⟨HI ⟩
theorem iS(h:QE X e te):QO X (some e) (lS te):=
 ⟨HJ h.up⟩
theorem gU :QA X [] aO:=
 ⟨JT ⟩
theorem aB(ha:QE X e te)(hr:QA X es t)(hs:starEach (e::es) X.env=(false,eval e X.env)::starEach es X.env:=by rfl):QA X (e::es) (aq te t):=
 ⟨Hr ha.up hr.up hs⟩
theorem bA{op:CmpOp}{r:R2}(ho:jc X (compareOp op) r)(ha:QE X a ta)(hb:QE X b tb)(hm:behindInMarks op b=false):QT X (.Compare a [op] [b] pos) (cg (bN r ta tb)):=
 ⟨HP ho ha.up hb.up hm⟩
theorem Fq(ha:QT X a tA):QT X (.UnaryOp .Not a pos) (Iw tA):=
 ⟨Ka ha.up⟩
theorem qi{rest:List Expr}(ha:QT X a tA)(hb:QW X (.BoolOp .And (b::rest) pos) tB'):QW X (.BoolOp .And (a::b::rest) pos) (zi tA tB'):=
 ⟨Kd ha.up hb.up⟩
theorem ml(ha:QT X a tA):QW X (.BoolOp .And [a] pos) tA:=
 ⟨HQ ha.up⟩
theorem Fs{rest:List Expr}(ha:QT X a tA)(hb:QW X (.BoolOp .Or (b::rest) pos) tB'):QW X (.BoolOp .Or (a::b::rest) pos) (LA tA tB'):=
 ⟨Ll ha.up hb.up⟩
theorem AX(ha:QT X a tA):QW X (.BoolOp .Or [a] pos) tA:=
 ⟨Ke ha.up⟩
theorem QW.pt{X:Cx}{e:Expr}{t:TT}(h:QW X e t):QT X e t:=
 ⟨PW.pt h.up⟩
theorem sR{e:Expr}{t:TE}(h:QE X e t)(he:∀whole,isTrue e X.env whole=(do let v <-whole;standAt e.pos;holding [v] (truthy v)):=by intro _;rfl):QT X e (tB t):=
 ⟨Kb h.up he⟩
theorem fq{a:Expr}{ta:TA}{p pos:Pos}(hg:Gl X "range")(hm:X.mg "range"=none)(ha:QA X [a] ta)(hs:starEach [a] X.env=[(false,eval a X.env)]:=by rfl):QI X tg (.Call (.Name "range" p) [a] [] pos) (lB ta):=
 ⟨C6 hg hm ha.up hs⟩
theorem HV{a:Expr}{ta:TA}{p pos:Pos}(hg:Gl X "enumerate")(hm:X.mg "enumerate"=none)(ha:QA X [a] ta)(hs:starEach [a] X.env=[(false,eval a X.env)]:=by rfl):QI X (.Tuple elts k tpos) (.Call (.Name "enumerate" p) [a] [] pos) (EJ X.K ta):=
 ⟨HA hg hm ha.up hs⟩
theorem eR{tg l:Expr}{tl:TE}(hl:QE X l tl):QI X tg l (je X.K tl):=
 ⟨J4 hl.up⟩
theorem HS{i:Nat}{x:Str}(hN:X.N.Nodup)(hi:X.N[i]?=some x)(hx:DX X.env.scope x)(hf:X.fn x=true\/X.env.scope.names.lookup x=some .local:=by first|exact .inl rfl|exact .inr rfl|assumption):QG X (.Name x pos) (aQ i):=
 ⟨Hw hN hi hx hf⟩
theorem kg{es:List Expr}{k:Nat}{t:CJ}{n:Nat}(hc:X.calm=true)(h:KN X es t)(hn:(assignEach es X.env).length=n:=by rfl)(hst:(assignEach es X.env).findIdx? (·.1)=none:=by rfl):QG X (.Tuple es k pos) (sA X.K n t):=
 ⟨J3 hc h.up hn hst⟩
theorem HU{es:List Expr}{k:Nat}{t:CJ}{n:Nat}(hc:X.calm=true)(h:KN X es t)(hn:(assignEach es X.env).length=n:=by rfl)(hst:(assignEach es X.env).findIdx? (·.1)=none:=by rfl):QG X (.Tuple es k pos) (EE X.K n t):=
 ⟨Hx hc h.up hn hst⟩
theorem hU :KN X [] qY:=
 ⟨Hy ⟩
theorem cR{e:Expr}{es:List Expr}{t:TG}{u:CJ}(h1:QG X e t)(h2:KN X es u)(hs:(assignEach (e::es) X.env).map (·.2)=assign e X.env::(assignEach es X.env).map (·.2):=by rfl):KN X (e::es) (fE t u):=
 ⟨Ff h1.up h2.up hs⟩
theorem qh{o i:Expr}{to ti:TE}{t:GK}(ho:QE X o to)(hi:QE X i ti)(hs:GI X t)(ha:∀v,assign (.Subscript o i pos) X.env v=(do
   let ov <-holding [v] (eval o X.env)
   let iv <-holding [v,ov] (eval i X.env)
   standAt pos
   holding [v,ov,iv] (setItem ov iv v)
   release [v,ov,iv] []):=by intro _;rfl):QG X (.Subscript o i pos) (yw to ti t):=
 ⟨J2 ho.up hi.up hs ha⟩
theorem Kh{i:Nat}{x:Str}{e:Expr}{te:TE}{pos':Pos}(hN:X.N.Nodup)(hi:X.N[i]?=some x)(hx:DX X.env.scope x)(he:QE X e te)(hs:swapsWith e (some (.Name x pos')) pos.line X.env=pure false:=by rfl)(hf:X.fn x=true\/X.env.scope.names.lookup x=some .local:=by first|exact .inl rfl|exact .inr rfl|assumption):QS X (.Assign [.Name x pos'] e pos) (bU te (aQ i)):=
 ⟨J9 hN hi hx he.up hs hf⟩
theorem oj{tg e:Expr}{te:TE}{g:TG}(he:QE X e te)(hg:QG X tg g)(hs:swapsWithSole [tg] e pos.line X.env=pure false:=by rfl)(hw:swappedStores [tg] e X.env=pure none:=by rfl)(h1:(assignEach [tg] X.env).map (·.2)=[assign tg X.env]:=by rfl):QS X (.Assign [tg] e pos) (bU te g):=
 ⟨J6 he.up hg.up hs hw h1⟩
theorem eh(he:QE X e te)(hs:swapsWith e none pos.line X.env=pure false:=by rfl):QS X (.Expr e pos) (gq te):=
 ⟨HL he.up hs⟩
theorem bK(he:QE X e te):QS X (.Return (some e) pos) (c9 te):=
 ⟨J8 he.up⟩
theorem qG{c:Expr}{a b:List Stmt}{tc:TT}(hc:QT X c tc)(ha:GJ X a t)(hb:GJ X b u):QS X (.If c a b pos) (fZ tc t u):=
 ⟨Lk hc.up ha.up hb.up⟩
theorem jU{c:Expr}{body:List Stmt}{tc:TT}{tb:TS}(hp:PassesOwn (model X.prog X.w) X.A X.env X.xe)(hc:QT X c tc)(hb:GJ X body tb):QS X (.While c body [] pos) (lT tc tb):=
 ⟨Fj hp hc.up hb.up⟩
theorem eJ{iter:Expr}{body:List Stmt}{wi:TI}{g:TG}{tb:TS}{pos:Pos}(hp:PassesOwn (model X.prog X.w) X.A X.env X.xe)(hc:X.calm=true)(hi:QI X tg iter wi)(hg:QG X tg g)(hb:GJ X body tb)(hs:∀x,foldedSetIterable iter X.env x=pure x:=by intro _;rfl):QS X (.For tg iter body [] pos) (jM wi g tb):=
 ⟨J7 hp hc hi.up hg.up hb.up hs⟩
theorem aF{st:Stmt}{rest:List Stmt}(h1:QS X st t)(h2:GJ X rest u):GJ X (st::rest) (bB t u):=
 ⟨Fk h1.up h2.up⟩
theorem aU{st:Stmt}(h1:QS X st t):GJ X [st] t:=
 ⟨HN h1.up⟩
theorem kj :GJ X [] d6:=
 ⟨HM ⟩
theorem eT{X:Cx}:CH X [] jN:=
 ⟨HG ⟩
theorem kh{X:Cx}{c:Expr}{t:TT}(h:QT X c t):CH X [c] t:=
 ⟨HH h.up⟩
section
variable{κ:Type}[DecidableEq κ]
def de(kvs:List (κ×V))(k:κ):Option V:=(kvs.find? λkv=>decide (kv.1=k)).map (·.2)
def jf(kvs:List (κ×V))(k:κ)(v:V):List (κ×V):=
 if(kvs.any λkv=>decide (kv.1=k))=true then kvs.map (λkv=>if kv.1=k then(kv.1,v) else kv) else kvs++[(k,v)]
def jt(kvs:List (κ×V))(k:κ):List (κ×V):=kvs.filter λkv=>decide (kv.1≠k)
theorem gy{p:κ×V}{r:List (κ×V)}{k:κ}(e:p.1=k):de (p::r) k=some p.2:=by simp[de,dw,e]
theorem gx{p:κ×V}{r:List (κ×V)}{k:κ}(e:¬p.1=k):de (p::r) k=de r k:=by simp[de,dw,e]
theorem mf(k:κ):∀kvs:List (κ×V),(kvs.any λkv=>decide (kv.1=k))=(de kvs k).isSome
 |[]=>rfl
 |p::r=>by
  rw[gZ]
  by_cases e:p.1=k
  ·simp only[gy e,decide_eq_true e,Bool.true_or,Option.isSome_some]
  ·rw[gx e,decide_eq_false e,Bool.false_or];exact mf k r
theorem vY(k j:κ)(y:V):∀kvs:List (κ×V),de kvs k=none->de (kvs++[(k,y)]) j=if j=k then some y else de kvs j
 |[],_=>by
  by_cases e:k=j
  ·rw[if_pos e.symm];exact gy (p:=(k,y)) e
  ·rw[if_neg (λz=>e z.symm)];exact gx (p:=(k,y)) e
 |p::r,hn=>by
  rw[List.cons_append]
  have hk:¬p.1=k:=λz=>by rw[gy z] at hn;cases hn
  rw[gx hk] at hn
  have ih:=vY k j y r hn
  by_cases e:p.1=j
  ·rw[gy e,gy e,if_neg (λz=>hk (e.trans z))]
  ·rw[gx e,gx e,ih]
theorem iu(kvs:List (κ×V))(k:κ)(v:V):(jf kvs k v).length<=kvs.length+1:=by
 unfold jf
 split
 ·rw[af];lia
 ·rw[ai,bD,fK];lia
theorem oY{kvs:List (κ×V)}{k:κ}(v:V)(h:de kvs k=none):jf kvs k v=kvs++[(k,v)]:=by
 unfold jf
 rw[mf,h]
 exact if_neg (by decide)
theorem pY.isSome_eq{o:Option V}{u:Option Value}(r:pY o u):o.isSome=u.isSome:=by
 cases o with
 |none=>cases u with
  |none=>rfl
  |some _=>exact(show False from r).elim
 |some _=>cases u with
  |none=>exact(show False from r).elim
  |some _=>rfl
theorem pY.getD{o:Option V}{u:Option Value}{d:V}{d':Value}(r:pY o u)(rd:cA d d'):cA (o.getD d) (u.getD d'):=by
 cases o with
 |none=>cases u with
  |none=>exact rd
  |some _=>exact(show False from r).elim
 |some _=>cases u with
  |none=>exact(show False from r).elim
  |some _=>exact r
theorem KV.val{kvs:List (κ×V)}{vs:List (κ×Value)}(r:KV kvs vs)(k:κ):pY (de kvs k) (valueAt vs k):=by
 unfold KV at r
 induction r with
 |nil=>exact True.intro
 |@cons p q ps qs h t ih=>
  obtain⟨h1,h2⟩:=h
  by_cases e:p.1=k
  ·have e':q.1=k:=h1.symm.trans e
   have b:valueAt (q::qs) k=some q.2:=by simp[valueAt,dw,e']
   rw[gy e,b];exact h2
  ·have e':¬q.1=k:=λz=>e (h1.trans z)
   have b:valueAt (q::qs) k=valueAt qs k:=by simp[valueAt,dw,e']
   rw[gx e,b];exact ih
theorem KV.any{kvs:List (κ×V)}{vs:List (κ×Value)}(r:KV kvs vs)(k:κ):(kvs.any λkv=>decide (kv.1=k))=vs.any λkv=>decide (kv.1=k):=by
 unfold KV at r
 induction r with
 |nil=>rfl
 |cons h t ih=>rw[gZ,gZ,ih,h.1]
theorem KV.repl{kvs:List (κ×V)}{vs:List (κ×Value)}(r:KV kvs vs)(k:κ){y:V}{u:Value}(ry:cA y u) :
  KV (kvs.map λkv=>if kv.1=k then(kv.1,y) else kv) (vs.map λkv=>if kv.1=k then(kv.1,u) else kv):=by
 unfold KV at r ⊢
 induction r with
 |nil=>exact .nil
 |@cons p q ps qs h t ih=>
  rw[bJ,bJ]
  refine .cons ?_ ih
  obtain⟨h1,h2⟩:=h
  by_cases e:p.1=k
  ·rw[if_pos e,if_pos (h1.symm.trans e)];exact⟨h1,ry⟩
  ·rw[if_neg e,if_neg (λz=>e (h1.trans z))];exact⟨h1,h2⟩
theorem KV.put{kvs:List (κ×V)}{vs:List (κ×Value)}(r:KV kvs vs)(k:κ){y:V}{u:Value}(ry:cA y u):KV (jf kvs k y) (stored vs k u):=by
 unfold jf stored
 rw[r.any k]
 by_cases e:(vs.any λkv=>decide (kv.1=k))=true
 ·rw[if_pos e,if_pos e];exact r.repl k ry
 ·rw[if_neg e,if_neg e];exact Paired.snoc r ⟨rfl,ry⟩
theorem KV.drop{kvs:List (κ×V)}{vs:List (κ×Value)}(r:KV kvs vs)(k:κ):KV (jt kvs k) (without vs k):=by
 unfold KV at r ⊢
 unfold jt without
 induction r with
 |nil=>exact .nil
 |@cons p q ps qs h t ih=>
  obtain⟨h1,h2⟩:=h
  rw[cO,cO]
  by_cases e:p.1=k
  ·have a:¬decide (p.1≠k)=true:=by simp[e]
   have b:¬decide (q.1≠k)=true:=by simp[h1.symm.trans e]
   rw[if_neg a,if_neg b];exact ih
  ·have e':¬q.1=k:=λz=>e (h1.trans z)
   have a:decide (p.1≠k)=true:=by simp[e]
   have b:decide (q.1≠k)=true:=by simp[e']
   rw[if_pos a,if_pos b];exact .cons ⟨h1,h2⟩ ih
theorem KV.length{kvs:List (κ×V)}{vs:List (κ×Value)}(r:KV kvs vs):kvs.length=vs.length:=Paired.length r
theorem Er(kvs:List (κ×V))(k:κ):(jt kvs k).length<=kvs.length:=bq _ _
end
theorem qD{P:Program}{w:World}{k:kY}{u:Value}(r:cA (kV k) u):(dY P w).is k u=true:=by
 cases k with
 |inl i=>obtain⟨t,e⟩:=(show ∃t,u=Value.int i t from r);subst e;exact yN P w i t
 |inr x=>obtain⟨t,e⟩:=(show ∃t,u=Value.str x t from r);subst e;exact yO P w x t
theorem K3{P:Program}{w:World}{k:cf}{u:Value}(r:cA (kN k) u):(dF P w).is k u=true:=by
 cases k with
 |none=>obtain rfl:u=Value.none:=r;rfl
 |some k=>exact qD (P:=P) (w:=w) (k:=k) r
theorem vm{P:Program}{w:World}:∀{ks:List cf} {us:List Value},bV (ks.map kN) us->ItemsAre (dF P w) ks us
 |[],_,r=>by rw[List.map_nil] at r;cases r;exact .nil
 |k::ks,_,r=>by
  rw[bJ] at r
  cases r with
  |cons h t=>exact .cons (K3 h) (vm t)
abbrev KT(H:Hp):List (List cf×V)->List (List cf×Addr×Value)->Prop:=Paired λp q=>p.1=q.1/\H q.2.1=some (.tup (p.1.map kN))/\cA p.2 q.2.2
theorem KT.val{H:Hp}{kvs:List (List cf×V)}{xs:List (List cf×Addr×Value)}(r:KT H kvs xs)(k:List cf):pY (de kvs k) ((atKey xs k).map (·.2)):=by
 induction r with
 |nil=>exact True.intro
 |@cons p q ps qs h t ih=>
  obtain⟨h1,_,h2⟩:=h
  by_cases e:p.1=k
  ·have e':q.1=k:=h1.symm.trans e
   have b:atKey (q::qs) k=some q.2:=by simp[atKey,dw,e']
   rw[gy e,b];exact h2
  ·have e':¬q.1=k:=λz=>e (h1.trans z)
   have b:atKey (q::qs) k=atKey qs k:=by simp[atKey,dw,e']
   rw[gx e,b];exact ih
theorem KT.repl{H:Hp}{kvs:List (List cf×V)}{xs:List (List cf×Addr×Value)}(r:KT H kvs xs)(k:List cf){y:V}{u:Value}(ry:cA y u) :
  KT H (kvs.map λkv=>if kv.1=k then(kv.1,y) else kv) (xs.map (putAt k u)):=by
 induction r with
 |nil=>exact .nil
 |@cons p q ps qs h t ih=>
  rw[bJ,bJ]
  refine .cons ?_ ih
  obtain⟨h1,h2,h3⟩:=h
  unfold putAt
  by_cases e:p.1=k
  ·rw[if_pos e,if_pos (h1.symm.trans e)];exact⟨h1,h2,ry⟩
  ·rw[if_neg e,if_neg (λz=>e (h1.trans z))];exact⟨h1,h2,h3⟩
theorem KT.put{H:Hp}{kvs:List (List cf×V)}{xs:List (List cf×Addr×Value)}(r:KT H kvs xs)(k:List cf){b:Addr}{y:V}{u:Value}(hb:H b=some (.tup (k.map kN)))(ry:cA y u) :
  KT H (jf kvs k y) (storedH xs k b u):=by
 have e:(kvs.any λkv=>decide (kv.1=k))=(atKey xs k).isSome:=by
  rw[mf,(r.val k).isSome_eq,jk]
 unfold jf storedH
 rw[e]
 by_cases q:(atKey xs k).isSome=true
 ·rw[if_pos q,if_pos q];exact r.repl k ry
 ·rw[if_neg q,if_neg q];exact Paired.snoc r ⟨rfl,hb,ry⟩
theorem KT.keeps{H H':Hp}{kvs:List (List cf×V)}{xs:List (List cf×Addr×Value)}(r:KT H kvs xs)(ht:∀b ys,H b=some (.tup ys)->H' b=some (.tup ys)):KT H' kvs xs:=
 Paired.mapP r λ_ _ z=>⟨z.1,ht _ _ z.2.1,z.2.2⟩
section
variable{P:Program}{w:World}{H:Hp}{h:Heap}{a:Addr}
theorem IV{u:HO}(ok:oG P w H h)(e:Rd H a u):d8 P w H h a u:=e.ok ok
theorem oP{kvs:List (kY×V)}(ok:oG P w H h)(e:Rd H a (.dK kvs)):kvs.length<=sizeLine/\(a==sysModules)=false/\∃vs,KV kvs vs/\h.DictOf (dY P w) a vs:=
 show d8 P w H h a (.dK kvs) from IV ok e
theorem Ep{kvs:List (kY×V)}(ok:oG P w H h)(e:H a=some (.dK kvs)):kvs.length<=sizeLine/\(a==sysModules)=false/\∃vs,KV kvs vs/\h.DictOf (dY P w) a vs:=oP ok (.inl e)
theorem oi{ks:List cf}(ok:oG P w H h)(e:H a=some (.tup (ks.map kN))):(tupleKind (dF P w)).is h ks a:=by
 obtain⟨_,its,r,o,h1,h2,n,h3⟩:=(show d8 P w H h a (.tup (ks.map kN)) from ok a _ e)
 exact⟨o,its.toArray,n,h1,h2.1,h3,by simpa using vm r⟩
theorem sv{kvs:List (List cf×V)}(ok:oG P w H h)(e:Rd H a (.dT kvs)):kvs.length<=sizeLine/\(a==sysModules)=false/\
  ∃xs,KT H kvs xs/\h.DictOfH (tupleKind (dF P w)) a xs:=by
 obtain⟨z,y,xs,r,o,es,ep,h1,h2,h3,h4,h5⟩:=(show d8 P w H h a (.dT kvs) from IV ok e)
 refine⟨z,y,xs,r,o,es,ep,h1,h2,h3,h4,λx hx=>?_,h5⟩
 have all:∀{l:List (List cf×V)} {m:List (List cf×Addr×Value)},KT H l m->∀x∈m,(tupleKind (dF P w)).is h x.1 x.2.1:=by
  intro l m q
  induction q with
  |nil=>intro x hx;exact nomatch hx
  |@cons p q ps qs hq t ih=>
   intro x hx
   rcases aN.mp hx with e|hx
   ·subst e
    exact oi ok (by rw[<-hq.1];exact hq.2.1)
   ·exact ih x hx
 exact all r x hx
theorem KY{kvs:List (List cf×V)}(ok:oG P w H h)(e:H a=some (.dT kvs)):kvs.length<=sizeLine/\(a==sysModules)=false/\
  ∃xs,KT H kvs xs/\h.DictOfH (tupleKind (dF P w)) a xs:=sv ok (.inl e)
end
def pV(H:Hp)(a:Addr)(y:V)(r:Option V):Prop:=
 (∃kvs k,Rd H a (.dK kvs)/\y=kV k/\r=de kvs k)\/∃kvs k b,Rd H a (.dT kvs)/\y=.ref b/\H b=some (.tup (k.map kN))/\r=de kvs k
def zV(H:Hp)(a:Addr)(y v:V)(H':Hp):Prop:=
 (∃kvs k,H a=some (.dK kvs)/\y=kV k/\kvs.length<sizeLine/\H'=aP H a (.dK (jf kvs k v)))\/
 ∃kvs k b,H a=some (.dT kvs)/\y=.ref b/\H b=some (.tup (k.map kN))/\kvs.length<sizeLine/\H'=aP H a (.dT (jf kvs k v))
theorem pV.t{H:Hp}{a b:Addr}{kvs:List (List cf×V)}{k:List cf}(e:H a=some (.dT kvs))(eb:H b=some (.tup (k.map kN))):pV H a (.ref b) (de kvs k):=.inr ⟨kvs,k,b,.inl e,rfl,eb,rfl⟩
theorem zV.t{H:Hp}{a b:Addr}{kvs:List (List cf×V)}{k:List cf}{v:V}(e:H a=some (.dT kvs))(eb:H b=some (.tup (k.map kN)))(hl:kvs.length<sizeLine) :
  zV H a (.ref b) v (aP H a (.dT (jf kvs k v))):=.inr ⟨kvs,k,b,e,rfl,eb,hl,rfl⟩
section
variable{X:Cx}{pins:List (Addr×Obj)}{σ:St}{H:Hp}{s:Shared}{a:Addr}{y v:V}{u r:Value}{o:Option V}{A:Around}{E:Value->Shared->Prop}
theorem bx.big(I:bx X pins σ H s):sysModules<s.heap.objs.size:=by
 have h:mainGlobals<s.heap.objs.size:=(I.mod.glob.keeps I.bk).lt
 exact iO (by decide) h
theorem CS{Q:Value->Shared->Prop}(hu:A.units+1<cLine)(I:bx X pins σ H s)(g:pV H a y (some v))(ry:cA y u)(h:∀w' s',bx X pins σ H s'->cA v w'->Q w' s') :
  wpAny (model X.prog X.w) A (getItem (.ref a) u) Q E s:=by
 rcases g with⟨kvs,k,e,ey,l⟩|⟨kvs,k,b,e,ey,eb,l⟩
 ·subst ey
  obtain⟨z,hd,vs,rel,dd⟩:=oP I.hok e
  obtain⟨w',hw,rw'⟩:=pY.some_of (v:=v) (o:=valueAt vs k) (by rw[l];exact rel.val k)
  exact wpAny_getItem_of (qD ry) dd.mapOf hw (h w' _ (I.tok _) rw')
 ·subst ey
  cases(show u=Value.ref b from ry)
  obtain⟨z,hd,xs,rel,dd⟩:=sv I.hok e
  obtain⟨w',hw,rw'⟩:=pY.some_of (v:=v) (o:=(atKey xs k).map (·.2)) (by rw[l];exact rel.val k)
  obtain⟨p,hp,hp2⟩:=Option.map_eq_some_iff.mp hw
  refine wpAny_getItem_heap (tupleKind_room_in1 hu) (oi I.hok eb) dd hp ?_
  rw[hp2]
  exact h w' _ (I.tok _) rw'
theorem LV{Q:Value->Shared->Prop}(hu:A.units+1<cLine)(I:bx X pins σ H s)(g:pV H a y o)(ry:cA y u)(h:∀s',bx X pins σ H s'->Q (.bool o.isSome) s') :
  wpAny (model X.prog X.w) A (compareOp .In u (.ref a)) Q E s:=by
 rcases g with⟨kvs,k,e,ey,l⟩|⟨kvs,k,b,e,ey,eb,l⟩
 ·subst ey
  obtain⟨z,hd,vs,rel,dd⟩:=oP I.hok e
  refine wpAny_in_of (qD ry) hd dd.mapOf ?_
  rw[<-(rel.val k).isSome_eq,<-l]
  exact h _ (I.tok _)
 ·subst ey
  cases(show u=Value.ref b from ry)
  obtain⟨z,hd,xs,rel,dd⟩:=sv I.hok e
  refine wpAny_in_heap (tupleKind_room_in1 hu) (oi I.hok eb) hd dd ?_
  have q:=(rel.val k).isSome_eq
  rw[jk] at q
  rw[<-q,<-l]
  exact h _ (I.tok _)
theorem GT{Q:Value->Shared->Prop}(hu:A.units+1<cLine)(I:bx X pins σ H s)(g:pV H a y o)(ry:cA y u)(h:∀s',bx X pins σ H s'->Q (.bool (!o.isSome)) s') :
  wpAny (model X.prog X.w) A (compareOp .NotIn u (.ref a)) Q E s:=by
 rcases g with⟨kvs,k,e,ey,l⟩|⟨kvs,k,b,e,ey,eb,l⟩
 ·subst ey
  obtain⟨z,hd,vs,rel,dd⟩:=oP I.hok e
  refine wpAny_notIn_of (qD ry) hd dd.mapOf ?_
  rw[<-(rel.val k).isSome_eq,<-l]
  exact h _ (I.tok _)
 ·subst ey
  cases(show u=Value.ref b from ry)
  obtain⟨z,hd,xs,rel,dd⟩:=sv I.hok e
  refine wpAny_notIn_heap (tupleKind_room_in1 hu) (oi I.hok eb) hd dd ?_
  have q:=(rel.val k).isSome_eq
  rw[jk] at q
  rw[<-q,<-l]
  exact h _ (I.tok _)
theorem rj{h':Heap}{t':Nat}{ob:HO}(I:bx X pins σ H s)(mu:KL (H a))(hs:Heap.SameBut a s.heap h')(he:∃q,h'.get? a=some q)(new:d8 X.prog X.w (aP H a ob) h' a ob) :
  bx X pins σ (aP H a ob) {s with heap:=h',toks:=t'}:=
 I.write (x:=a) (e:=a) mu (.inl rfl) (λb q hb z=>(hs.2 b hb).trans z) he new
theorem AA{P:Program}{w:World}{H':Hp}{h':Heap}{kvs:List (kY×V)}{vs:List (kY×Value)}(z:kvs.length<=sizeLine)(hd:(a==sysModules)=false)(rel:KV kvs vs)(dd:h'.DictOf (dY P w) a vs) :
  d8 P w H' h' a (.dK kvs):=⟨z,hd,vs,rel,dd⟩
theorem CT{H':Hp}{Q:Unit->Shared->Prop}(hu:A.units+1<cLine)(I:bx X pins σ H s)(g:zV H a y v H')(ry:cA y u)(rv:cA v r)(h:∀s',bx X pins σ H' s'->Q () s') :
  wpAny (model X.prog X.w) A (setItem (.ref a) u r) Q E s:=by
 rcases g with⟨kvs,k,e,ey,l,eH⟩|⟨kvs,k,b,e,ey,eb,l,eH⟩
 ·subst ey eH
  obtain⟨z,hd,vs,rel,dd⟩:=Ep I.hok e
  have hz:vs.length<=sizeLine:=by rw[<-rel.length];exact z
  have hl:(jf kvs k v).length<=sizeLine:=by have:=iu kvs k v;lia
  refine wpAny_setItem_pairs (hsz:=hz) (qD ry) dd λh' dd' hs=>h _ ?_
  have he:∃q,h'.get? a=some q:=let⟨q,_,_,hq,_⟩:=dd';⟨q,hq⟩
  exact rj I (by rw[e];exact True.intro) hs he (AA hl hd (rel.put k rv) dd')
 ·subst ey eH
  cases(show u=Value.ref b from ry)
  obtain⟨z,hd,xs,rel,dd⟩:=KY I.hok e
  have hz:xs.length<=sizeLine:=by rw[<-Paired.length rel];exact z
  have hl:(jf kvs k v).length<=sizeLine:=by have:=iu kvs k v;lia
  refine wpAny_setItem_heap (hsz:=hz) (tupleKind_room_in1 hu) (oi I.hok eb) dd λh' dd' hs=>h _ ?_
  obtain⟨q,es,ep,hq,h2,h3,h4,_,h5⟩:=dd'
  refine rj I (by rw[e];exact True.intro) hs ⟨q,hq⟩ ⟨hl,hd,_,(rel.put k eb rv).keeps λc ys ec=>?_,q,es,ep,hq,h2,h3,h4,h5⟩
  rw[az (BQ ec e (λz=>nomatch z))]
  exact ec
end
section
variable{X:Cx}{pins:List (Addr×Obj)}{σ:St}{H:Hp}{s:Shared}{a:Addr}{kvs:List (kY×V)}{k:kY}{u:Value}{A:Around}{E:Value->Shared->Prop}
theorem KW{v:V}{more:List Value}{Q:Value->Shared->Prop}(I:bx X pins σ H s)(e:H a=some (.dK kvs))(ry:cA (kV k) u)(l:de kvs k=some v)(hm:more=[]\/∃x,more=[x])
  (h:∀w' s',bx X pins σ (aP H a (.dK (jt kvs k))) s'->cA v w'->Q w' s'):wpAny (model X.prog X.w) A (call (.builtin "dict.pop") (.ref a::u::more)) Q E s:=by
 obtain⟨z,hd,vs,rel,dd⟩:=Ep I.hok e
 obtain⟨w',hw,rw'⟩:=pY.some_of (v:=v) (o:=valueAt vs k) (by rw[<-l];exact rel.val k)
 have hp:(keyPart u).isSome=true:=by
  cases k with
  |inl i=>obtain⟨t,q⟩:=(show ∃t,u=Value.int i t from ry);subst q;rfl
  |inr x=>obtain⟨t,q⟩:=(show ∃t,u=Value.str x t from ry);subst q;rfl
 have ha:argsOk "dict.pop" ⟨.ref a::u::more,[]⟩:=by
  rcases hm with q|⟨x,q⟩
  ·subst q;exact PySem.F.args_dict_pop_2 _ _
  ·subst q;exact PySem.F.args_dict_pop_3 _ _ _
 refine call_meetsIn PySem.F.slot_dict_pop dd.typeIs PySem.F.entry_dict_pop ha (meets_dict_pop_there (dY X.prog X.w) a (qD ry) more hm hp)
  ⟨vs,w',dd,by rw[<-rel.length];exact z,hw,λh' dd' hs=>h w' _ ?_ rw'⟩
 have he:∃q,h'.get? a=some q:=let⟨q,_,_,hq,_⟩:=dd';⟨q,hq⟩
 exact rj I (by rw[e];exact True.intro) hs he (AA (a8 (Er kvs k) z) hd (rel.drop k) dd')
theorem KU{Q:Value->Shared->Prop}(I:bx X pins σ H s)(e:Rd H a (.dK kvs))(h:∀t s',bx X pins σ H s'->Q (.int kvs.length t) s'):wpAny (model X.prog X.w) A (call (.builtin "len") [.ref a]) Q E s:=by
 obtain⟨z,hd,vs,rel,dd⟩:=oP I.hok e
 refine call_len_dict hd dd (by rw[<-rel.length];rw[sizeLine_eq] at z;lia) ?_
 rw[<-rel.length]
 exact h _ _ (I.tok _)
end
def Jh(i:Expr):Prop:=∀ov iv,subscripted i false ov iv=operate [ov,iv] (getItem ov iv)
theorem Iv{prog:Program}{w:World}{A:Around}{E:Value->Shared->Prop}{s:Shared}{env:Env}{value slice:Expr}{pos:Pos}{T id:String}{Q:Value->Shared->Prop}
  (hl:typeLookup (.type T) "__getitem__"=pure (some (.builtin id))) (hs:Jh slice)
  (h:wpAny (model prog w) A (eval value env) (λo s₁=>wpAny (model prog w) A (eval slice env) (λi s₂=>s₂.TypeIs o T/\wpAny (model prog w) A (getItem o i) Q E s₂) E s₁) E s) :
  wpAny (model prog w) A (eval (.Subscript value slice pos) env) Q E s:=by
 refine Subscript_ (wpAny_mono h (λo s₁ h₁=>wpAny_mono h₁ (λi s₂ h₂=>?_) λ_ _ x=>x) λ_ _ x=>x)
 obtain⟨hT,h₂⟩:=h₂
 unfold subscriptTail
 refine wpAny_bind ?_
 rw[getitemInPython_of_ne hT.not_modules]
 refine wpAny_bind (wpAny_specialOf hT hl ?_)
 have fin:wpAny (model prog w) A (subscripted slice false o i) (λr s₃=>wpAny (model prog w) A (letTemporaryGo value o r >>= λ_=>pure r) Q E s₃) E s₂:=by
  rw[hs o i]
  exact wpAny_operating (wpAny_mono h₂ (λr s₃ h₃=>wpAny_bind (wpAny_letTemporaryGo (wpAny_pure h₃))) λ_ _ x=>x)
 first
  |exact wpAny_pure (wpAny_bind fin)
  |exact wpAny_bind (wpAny_pure (wpAny_bind fin))
  |exact wpAny_bind fin
theorem yr{X:Cx}{pins:List (Addr×Obj)}{σ:St}{H:Hp}{s:Shared}{a:Addr}{y:V}{o:Option V}(I:bx X pins σ H s)(g:pV H a y o):s.TypeIs (.ref a) "dict":=by
 rcases g with⟨kvs,k,e,_,_⟩|⟨kvs,k,b,e,_,_,_⟩
 ·obtain⟨_,_,vs,_,dd⟩:=oP I.hok e
  exact dd.typeIs
 ·obtain⟨_,_,xs,_,dd⟩:=sv I.hok e
  exact dd.typeIs
def mX(td ty:TE):TE:=λσ H Q=>td σ H λx H1=>ty σ H1 λy H2=>∃a v,x=.ref a/\pV H2 a y (some v)/\Q v H2
section
variable{X:Cx}{o i e value:Expr}{pos pos' tpos:Pos}{td ty tv:TE}
theorem Hv(hu:X.A.units+1<cLine)(ho:PE X o td)(hi:PE X i ty)(hs:Jh i):PE X (.Subscript o i pos) (mX td ty):=by
 intro pins s σ H Q I h
 refine Iv PySem.F.slot_dict_getitem.lookup hs (eF (ho pins s σ H _ I h) λu s1 ⟨x,H1,I1,rx,q1⟩=>eF (hi pins s1 σ H1 _ I1 q1) λiv s2 ⟨y,H2,I2,ry,a,v,ex,g,q2⟩=>?_)
 subst ex
 obtain rfl:u=Value.ref a:=rx
 exact⟨yr I2 g,CS hu I2 g ry λw' s3 I3 rw'=>⟨v,H2,I3,rw',q2⟩⟩
end
theorem Eo{P:Program}{w:World}{H:Hp}(h:Heap)(hb:sysModules<h.objs.size):d8 P w H (h.push {cls:=.type "dict",data:=.dict #[]}) h.objs.size (.dK []):=
 ⟨bt _,beq_eq_false_iff_ne.mpr (Ne.symm (aL hb)),[],.nil,Heap.DictOf.new h⟩
theorem Es{P:Program}{w:World}{H:Hp}(h:Heap)(hb:sysModules<h.objs.size):d8 P w H (h.push {cls:=.type "dict",data:=.dict #[]}) h.objs.size (.dT []):=
 ⟨bt _,beq_eq_false_iff_ne.mpr (Ne.symm (aL hb)),[],.nil,_,#[],0,ax _ rfl,⟨rfl,rfl,rfl⟩,rfl,rfl,dh⟩
def Be:TE:=λ_ H Q=>∀p,H p=none->Q (.ref p) (aP H p (.dK []))
def tL:TE:=λ_ H Q=>∀p,H p=none->Q (.ref p) (aP H p (.dT []))
section
variable{X:Cx}{pos:Pos}
theorem E8:PE X (.Dict [] [] pos) Be:=λpins s σ H Q I h=>
 wpAny_Dict_empty ⟨.ref s.heap.objs.size,_,I.laid (a:=s.heap.objs.size) (o:=.dK []) (t':=s.toks) (λ_ _ q=>ag _ q) (au _) (Eo s.heap I.big),rfl,h _ (I.hok.fresh (au _))⟩
theorem E9:PE X (.Dict [] [] pos) tL:=λpins s σ H Q I h=>
 wpAny_Dict_empty ⟨.ref s.heap.objs.size,_,I.laid (a:=s.heap.objs.size) (o:=.dT []) (t':=s.toks) (λ_ _ q=>ag _ q) (au _) (Es s.heap I.big),rfl,h _ (I.hok.fresh (au _))⟩
end
structure M1(X:Cx)(o:Expr)(m:Str)(apos:Pos)(e:Expr)(cpos:Pos):Prop where
 base:attributeBase o m X.env (eval o X.env)=eval o X.env
 few:((backTo cpos (starEach [e] X.env)).all (λx=>!x.1)&&(backToKw cpos (keywordEach [] X.env)).all (λx=>x.1.isSome)
  && decide (([e]:List Expr).length+([]:List Keyword).length+(if([]:List Keyword).isEmpty then 0 else 1)<30))=true
 line:(apos.endLine==cpos.line)=true
 trees:backTo cpos (starEach [e] X.env)=[(false,eval e X.env)]
structure M2(X:Cx)(o:Expr)(m:Str)(apos:Pos)(e f:Expr)(cpos:Pos):Prop where
 base:attributeBase o m X.env (eval o X.env)=eval o X.env
 few:((backTo cpos (starEach [e,f] X.env)).all (λx=>!x.1)&&(backToKw cpos (keywordEach [] X.env)).all (λx=>x.1.isSome)
  && decide (([e,f]:List Expr).length+([]:List Keyword).length+(if([]:List Keyword).isEmpty then 0 else 1)<30))=true
 line:(apos.endLine==cpos.line)=true
 trees:backTo cpos (starEach [e,f] X.env)=[(false,eval e X.env),(false,eval f X.env)]
def LH(H:Hp)(a:Addr):Prop:=(∃kvs,Rd H a (.dK kvs))\/∃kvs,Rd H a (.dT kvs)
theorem wK{X:Cx}{pins:List (Addr×Obj)}{σ:St}{H:Hp}{s:Shared}{a:Addr}(I:bx X pins σ H s)(d:LH H a) :
  s.TypeIs (.ref a) "dict"/\(∀b,Value.ref a=.ref b->∃ob,s.heap.get? b=some ob/\ob.dict=none)/\(a==sysModules)=false:=by
 rcases d with⟨kvs,e⟩|⟨kvs,e⟩
 ·obtain⟨_,hd,vs,_,dd⟩:=oP I.hok e
  refine⟨dd.typeIs,λb q=>?_,hd⟩
  cases q
  obtain⟨ob,_,_,h1,h2,_⟩:=dd
  exact⟨ob,h1,h2.2.1⟩
 ·obtain⟨_,hd,xs,_,dd⟩:=sv I.hok e
  refine⟨dd.typeIs,λb q=>?_,hd⟩
  cases q
  obtain⟨ob,_,_,h1,h2,_⟩:=dd
  exact⟨ob,h1,h2.2.1⟩
section
variable{X:Cx}{pins:List (Addr×Obj)}{σ:St}{H:Hp}{s:Shared}{a:Addr}{y d:V}{u r:Value}{o:Option V}{A:Around}{E:Value->Shared->Prop}
theorem Jn{Q:Value->Shared->Prop}(hu:A.units+1<cLine)(I:bx X pins σ H s)(g:pV H a y o)(ry:cA y u)(h:∀w' s',bx X pins σ H s'->cA (o.getD .non) w'->Q w' s') :
  wpAny (model X.prog X.w) A (call (.builtin "dict.get") [.ref a,u]) Q E s:=by
 rcases g with⟨kvs,k,e,ey,l⟩|⟨kvs,k,b,e,ey,eb,l⟩
 ·subst ey
  obtain⟨z,hd,vs,rel,dd⟩:=oP I.hok e
  refine call_meetsIn gE dd.typeIs PySem.F.entry_dict_get (PySem.F.args_dict_get_2 _ _) (meets_dict_get (dY X.prog X.w) a (qD ry) hd) ⟨_,dd.mapOf,h _ _ (I.tok _) ?_⟩
  rw[l]
  exact(rel.val k).getD rfl
 ·subst ey
  cases(show u=Value.ref b from ry)
  obtain⟨z,hd,xs,rel,dd⟩:=sv I.hok e
  refine call_meetsIn gE dd.typeIs PySem.F.entry_dict_get (PySem.F.args_dict_get_2 _ _) (meetsH_dict_get (tupleKind (dF X.prog X.w)) a b hd) ⟨tupleKind_room_in1 hu,k,xs,oi I.hok eb,dd,h _ _ (I.tok _) ?_⟩
  rw[l]
  exact(rel.val k).getD rfl
end
def Bd(td ty:TE):TE:=λσ H Q=>td σ H λx H1=>∃a,x=.ref a/\LH H1 a/\ty σ H1 λy H2=>∃o,pV H2 a y o/\Q (o.getD .non) H2
def Bf(td ty:TE):TE:=λσ H Q=>td σ H λx H1=>∃a,x=.ref a/\LH H1 a/\ty σ H1 λy H2=>∃kvs k v,H2 a=some (.dK kvs)/\y=kV k/\de kvs k=some v/\Q v (aP H2 a (.dK (jt kvs k)))
section
variable{X:Cx}{o e f:Expr}{apos cpos:Pos}{td ty tx:TE}
theorem E7(hu:X.A.units+1<cLine)(ho:PE X o td)(he:PE X e ty)(m:M1 X o "get" apos e cpos):PE X (.Call (.Attribute o "get" apos) [e] [] cpos) (Bd td ty):=by
 intro pins s σ H Q I h
 refine wpAny_Call_method m.base m.few m.line eC gE PySem.F.type_dict_get (eF (ho pins s σ H _ I h) λu s1 ⟨x,H1,I1,rx,a,ex,d,q1⟩=>?_)
 subst ex
 obtain rfl:u=Value.ref a:=rx
 obtain⟨t1,t2,_⟩:=wK I1 d
 refine⟨t1,t2,?_⟩
 rw[m.trees]
 refine Calls.callWith_builtin rfl (Calls.evalArgs_plain (Calls.spliced_cons (eF (he pins s1 σ H1 _ I1 q1) λiv s2 ⟨y,H2,I2,ry,ov,g,q2⟩=>Calls.spliced_nil ?_)))
 exact Jn hu I2 g ry λw' s3 I3 rw'=>⟨_,H2,I3,rw',q2⟩
theorem Fb(ho:PE X o td)(he:PE X e ty)(m:M1 X o "pop" apos e cpos):PE X (.Call (.Attribute o "pop" apos) [e] [] cpos) (Bf td ty):=by
 intro pins s σ H Q I h
 refine wpAny_Call_method m.base m.few m.line eC PySem.F.slot_dict_pop PySem.F.type_dict_pop (eF (ho pins s σ H _ I h) λu s1 ⟨x,H1,I1,rx,a,ex,d,q1⟩=>?_)
 subst ex
 obtain rfl:u=Value.ref a:=rx
 obtain⟨t1,t2,_⟩:=wK I1 d
 refine⟨t1,t2,?_⟩
 rw[m.trees]
 refine Calls.callWith_builtin rfl (Calls.evalArgs_plain (Calls.spliced_cons (eF (he pins s1 σ H1 _ I1 q1) λiv s2 ⟨y,H2,I2,ry,kvs,k,v,ea,ey,l,q2⟩=>Calls.spliced_nil ?_)))
 subst ey
 exact KW I2 ea ry l (.inl rfl) λw' s3 I3 rw'=>⟨v,_,I3,rw',q2⟩
end
section
variable{X:Cx}{pins:List (Addr×Obj)}{σ:St}{H:Hp}{s:Shared}{a:Addr}{kvs:List (kY×V)}{A:Around}{E:Value->Shared->Prop}
end
section
variable{X:Cx}{pins:List (Addr×Obj)}{σ:St}{H:Hp}{s:Shared}{a:Addr}{y:V}{u:Value}{A:Around}{E:Value->Shared->Prop}
end
section
variable{X:Cx}
theorem CN:ip X (.builtin "len") (λxs H Q=>∃a kvs,xs=[V.ref a]/\H a=some (.dK kvs)/\Q (.int kvs.length) H):=by
 intro pins s σ H xs us Q I r h
 obtain⟨a,kvs,rfl,ha,q⟩:=h
 obtain⟨u,rfl,ru⟩:=jZ r
 cases ru
 exact KU I (.inl ha) λt s' I'=>⟨.int kvs.length,H,I',⟨t,rfl⟩,q⟩
end
section
variable{κ:Type}[DecidableEq κ]
theorem Gg{kvs:List (κ×V)}{k:κ}(h:de kvs k=none):¬k∈kvs.map (·.1):=by
 intro m
 obtain⟨p,hp,e⟩:=aE.mp m
 have q:(kvs.any λkv=>decide (kv.1=k))=true:=fh.mpr ⟨p,hp,decide_eq_true e⟩
 rw[mf,h] at q
 exact absurd q (by simp)
theorem Cv{kvs:List (κ×V)}{k:κ}{v:V}(h:de kvs k=some v):k∈kvs.map (·.1):=by
 have q:(kvs.any λkv=>decide (kv.1=k))=true:=by
  rw[mf,h]
  all_goals rfl
 obtain⟨p,hp,e⟩:=fh.mp q
 exact aE.mpr ⟨p,hp,of_decide_eq_true e⟩
end
def Fw(neg:Bool):R2:=λx y H Q=>∃a o,y=.ref a/\pV H a x o/\Q (.bl (if neg then !o.isSome else o.isSome)) H
def BY:V->V->V->Hp->(Hp->Prop)->Prop:=λo i v H Q=>∃a H',o=.ref a/\zV H a i v H'/\Q H'
section
variable{X:Cx}
theorem JP(hu:X.A.units+1<cLine):jc X (compareOp .In) (Fw false):=by
 intro pins s σ H x y v u Q I rx ry h
 obtain⟨a,o,rfl,g,q⟩:=h
 cases ry
 exact LV hu I g rx λs' I'=>⟨.bl o.isSome,H,I',rfl,q⟩
theorem vz(hu:X.A.units+1<cLine):jc X (compareOp .NotIn) (Fw true):=by
 intro pins s σ H x y v u Q I rx ry h
 obtain⟨a,o,rfl,g,q⟩:=h
 cases ry
 exact GT hu I g rx λs' I'=>⟨.bl (!o.isSome),H,I',rfl,q⟩
theorem tD(hu:X.A.units+1<cLine):GI X BY:=by
 intro pins s σ H o i v ov iv u Q I ro ri rv h
 obtain⟨a,H',rfl,g,q⟩:=h
 cases ro
 exact CT hu I g ri rv λs' I'=>⟨H',I',q⟩
end
section
variable{P:Program}{w:World}{K:Fg}{mg:Str->Option Value}{base:Heap}
end
theorem Fn{X:Cx}{pos:Pos}:QE X (.Dict [] [] pos) Be:=⟨E8⟩
end L2
end
section
namespace PySem.W
open PySem PySem.Calls PyProof.Rows PyProof.V PySem.Spec
theorem AM:typeLookup (.type "list_reverseiterator") "__len__"=pure none:=by rw[typeLookup_type,builtinLookup_eq_fast];kernel_rfl
theorem EZ:typeLookup (.type "list_reverseiterator") "__length_hint__"=pure (some (.builtin "list_reverseiterator.__length_hint__")):=by rw[typeLookup_type,builtinLookup_eq_fast];kernel_rfl
section
variable{prog:Program}{w:World}{A:Around}{E:Value->Shared->Prop}{s:Shared}{r l:Addr}
theorem EH{Q:Bool->Shared->Prop}(hT:s.TypeIs (.ref r) "list_reverseiterator")(h:Q false s):wpAny (model prog w) A (Builtin.List.listLengthHint (.ref r)) Q E s:=by
 unfold Builtin.List.listLengthHint
 refine wpAny_bind (wpAny_specialOf hT AM ?_)
 refine wpAny_ite_split (λhab=>absurd hab (by decide)) (λ_=>?_)
 refine wpAny_ite_split (λhab=>absurd hab (by decide)) (λ_=>?_)
 refine wpAny_bind (wpAny_specialOf hT EZ ?_)
 generalize hid:("list_reverseiterator.__length_hint__":String)=id0
 wp_delta
 rw[show splitId id0=some ("list_reverseiterator","__length_hint__") from by subst hid;decide +kernel]
 subst hid
 refine wpAny_bind (wpAny_isInstance (T:="list_reverseiterator") (b:=true) hT (by rw[isSubtype_type];kernel_rfl) ?_)
 refine wpAny_ite_split (λhab=>absurd hab (by decide)) (λ_=>?_)
 refine wpAny_ite_split (λ_=>?_) (λhab=>absurd (by decide +kernel) hab)
 refine wpAny_ite_split (λhab=>absurd hab (by decide +kernel)) (λ_=>?_)
 exact wpAny_pure h
theorem A6{items:Array Value}{R:Result->Shared->Prop}(hh:A.handled=none)(hl:s.heap.IsList l items)(hit:s.heap.IsRevIter r l ((items.size:Int)-1))(hne:l≠r)(S:Addr)(hSr:S≠r)(hSl:S≠l)(res:Value)(c₀:Nat)(hS:s.heap.get? S=some {cls:=.type "list",data:=.seq #[] c₀})
  (hR:∀h' tk acc' c',(∀b o,b≠S->b≠r->s.heap.get? b=some o->h'.get? b=some o)->h'.get? S=some {cls:=.type "list",dict:=none,data:=.seq acc' c',slots:=#[]}->ItemsOf (λi v=>items[items.size-1-i]?=some v) acc' items.size->R (.ok (.ret res)) {s with heap:=h',toks:=tk}) (hn:items.size<=sizeLine) :
  wpAny (model prog w) A.in1 (Builtin.List.listExtendWith (.ref S) (.ref r) res)
   (λfin s'=>match fin with|.done f=>R (.ok f) s'|.again c'=>c'.quiet=true/\codeAny (model prog w) A c' R s') (λe s'=>R (.error e) s') s:=by
 have hSf:S∉[r,l]:=by simp only[aN,b8,or_false,not_or];exact⟨hSr,hSl⟩
 have W:=Walks.listRev (prog:=prog) (w:=w) (A:=A.in1) hh r l hne items
 have key:∀(h:Heap) (c₁ tk:Nat),(0<=items.size/\h.IsRevIter r l ((items.size:Int)-1-((0:Nat):Int))/\h.IsList l items)->(∀b o,b≠S->s.heap.get? b=some o->h.get? b=some o)->
   h.get? S=some {cls:=.type "list",data:=.seq #[] c₁}->codeAny (model prog w) A (.builtin "list.extend.loop" ⟨[.ref S,.ref r,res],[]⟩) R {s with heap:=h,toks:=tk}:=by
  intro h c₁ tk hst hk hS₁
  refine codeAny_extend_loopS W.toS hn S hSf res items.size 0 _ #[] c₁ rfl (bt _) hst hS₁ (ItemsOf.nil _) λs' acc' c' hm hS' hacc=>?_
  rw[Moved.eq_with hm]
  refine hR s'.heap s'.toks acc' c' (λb o hb hbr e=>hm.heap b o (λhmem=>?_) (hk b o hb e)) hS' hacc
  rcases aN.mp hmem with e'|hmem
  ·exact hb e'
  ·exact hbr (ak.mp hmem)
 have st0:0<=items.size/\s.heap.IsRevIter r l ((items.size:Int)-1-((0:Nat):Int))/\s.heap.IsList l items:=⟨bt _,(by have e:(items.size:Int)-1-((0:Nat):Int)=(items.size:Int)-1:=(by omega);rw[e];exact hit),hl⟩
 unfold Builtin.List.listExtendWith
 refine wpAny_bind (wpAny_typeOf (T:="list_reverseiterator") hit.typeIs ?_)
 have h1:Builtin.List.listSameRef (.ref S) (.ref r)=false:=by simp[Builtin.List.listSameRef,hSr]
 have h2:(Value.type "list_reverseiterator"==Value.type "list")=false:=by decide
 have h3:(Value.type "list_reverseiterator"==Value.type "tuple")=false:=by decide
 simp only[h1,h2,h3,Bool.or_false,Bool.false_eq_true,if_false]
 refine wpAny_bind (wpAny_pyIter_revIter hit ?_)
 refine wpAny_bind (wpAny_holding (EH hit.typeIs ?_))
 refine wpAny_ite_split (λ_=>?_) (λ_=>wpAny_pure ⟨plainId_quiet dQ _,key _ c₀ _ st0 (λb o _ e=>e) hS⟩)
 refine wpAny_bind (wpAny_rule ?_)
 refine wpAny_bind ?_
 show wpAny _ _ (updateSeq S (·.push .none) >>= λ_=>updateSeq S (·.pop)) _ _ _
 refine wpAny_bind (wpAny_updateSeq hS rfl ?_)
 have hS₂:=bW (Obj.mapSeq (·.push Value.none)) hS rfl
 refine wpAny_updateSeq (hz:=by seq_fits) hS₂ rfl ?_
 have hS₃:=bW (Obj.mapSeq (·.pop)) hS₂ rfl
 refine wpAny_pure ⟨plainId_quiet dQ _,key _ _ _ ?_ (λb o hb e=>?_) hS₃⟩
 ·refine W.frame 0 _ _ st0 λb hb o e=>?_
  have hbS:b≠S:=λh=>hSf (h ▸ hb)
  exact(bG _ _ (Ne.symm hbS)).trans ((bG _ _ (Ne.symm hbS)).trans e)
 ·exact(bG _ _ (Ne.symm hb)).trans ((bG _ _ (Ne.symm hb)).trans e)
theorem FN{items:Array Value}{R:Result->Shared->Prop}(hh:A.handled=none)(hl:s.heap.IsList l items)(hit:s.heap.IsRevIter r l ((items.size:Int)-1))(hne:l≠r)(S:Addr)(hSr:S≠r)(hSl:S≠l)(hS:s.heap.get? S=some {cls:=.type "list",data:=.seq #[]})
  (hR:∀h' tk acc' c',(∀b o,b≠S->b≠r->s.heap.get? b=some o->h'.get? b=some o)->h'.get? S=some {cls:=.type "list",dict:=none,data:=.seq acc' c',slots:=#[]}->ItemsOf (λi v=>items[items.size-1-i]?=some v) acc' items.size->R (.ok (.ret .none)) {s with heap:=h',toks:=tk}) (hn:items.size<=sizeLine) :
  wpAny (model prog w) A.in1 (Builtin.«list.__init__» ⟨[.ref S,.ref r],[]⟩)
   (λfin s'=>match fin with|.done f=>R (.ok f) s'|.again c'=>c'.quiet=true/\codeAny (model prog w) A c' R s') (λe s'=>R (.error e) s') s:=by
 show wpAny _ _ (do let old <-Builtin.List.listItems (.ref S);Builtin.List.listUpdate (.ref S) (λ_=>#[]);letGo old.toList.reverse;Builtin.List.listExtendWith (.ref S) (.ref r) .none) _ _ s
 refine wpAny_bind ?_
 unfold Builtin.List.listItems
 refine wpAny_bind (wpAny_seqItems hS rfl (wpAny_pure ?_))
 show wpAny _ _ (updateSeq S (λ_=>#[]) >>= λ_=>letGo (#[]:Array Value).toList.reverse >>= λ_=>Builtin.List.listExtendWith (.ref S) (.ref r) .none) _ _ s
 refine wpAny_bind (wpAny_updateSeq hS rfl ?_)
 have hS₂:=bW (Obj.mapSeq (λ_=>(#[]:Array Value))) hS rfl
 have oth:∀b o,b≠S->s.heap.get? b=some o->(s.heap.update S (Obj.mapSeq (λ_=>(#[]:Array Value)))).get? b=some o:=
  λb o hb e=>(bG _ _ (Ne.symm hb)).trans e
 refine wpAny_bind (wpAny_letGo ?_)
 refine A6 (items:=items) hh (hl.at λo e=>oth l o hSl.symm e) (hit.at λo e=>oth r o hSr.symm e) hne S hSr hSl .none _ hS₂ (λh' tk acc' c' hk hS' hacc=>?_) hn
 exact hR h' tk acc' c' (λb o hb hbr e=>hk b o hb hbr (oth b o hb e)) hS' hacc
theorem call_list_rev{items:Array Value}{Q:Value->Shared->Prop}(hh:A.handled=none)(hl:s.heap.IsList l items)(hit:s.heap.IsRevIter r l ((items.size:Int)-1))(hne:l≠r)(hn:items.size<=sizeLine)
  (hQ:∀h' tk acc' c',(∀b o,b≠r->s.heap.get? b=some o->h'.get? b=some o)->h'.get? s.heap.objs.size=some {cls:=.type "list",dict:=none,data:=.seq acc' c',slots:=#[]}->ItemsOf (λi v=>items[items.size-1-i]?=some v) acc' items.size->Q (.ref s.heap.objs.size) {s with heap:=h',toks:=tk}) :
  wpAny (model prog w) A (call (.type "list") [.ref r]) Q E s:=by
 refine callType_codes (Q₁:=λobj s₁=>obj=.ref s.heap.objs.size/\s₁={s with heap:=s.heap.push {cls:=.type "list",data:=.seq #[]}}) PySem.F.called_list (PySem.F.typeCall_list_1 _) PySem.F.entry_list_init
  (code_list_new _ ⟨rfl,rfl⟩) λobj s₁ h₁=>?_
 obtain⟨rfl,rfl⟩:=h₁
 have hS:(s.heap.push {cls:=.type "list",data:=.seq #[]}).get? s.heap.objs.size=some {cls:=.type "list",data:=.seq #[]}:=ax _ rfl
 have lr:r<s.heap.objs.size:=let⟨_,ho,_⟩:=hit;aD ho
 have ll:l<s.heap.objs.size:=let⟨_,ho,_⟩:=hl;aD ho
 refine⟨⟨_,hS,rfl⟩,PySem.F.args_list_init_2 _ _,FN (A:=A.in1) (items:=items) hh (hl.at λo e=>ag _ e) (hit.at λo e=>ag _ e) hne _ (cJ lr) (cJ ll) hS (λh' tk acc' c' hk hS' hacc=>?_) hn⟩
 exact⟨rfl,hQ h' tk acc' c' (λb o hb e=>hk b o (aL (aD e)) hb (ag _ e)) hS' hacc⟩
end
end PySem.W
namespace L2
open PySem PySem.Spec PyProof.Rows
def pC(K:Fg)(t:TA):TE:=λσ H Q=>t σ H λvs H1=>∃p ys,vs=[.ref p]/\cq K H1 p ys/\∀l,H1 l=none->Q (.ref l) (aP H1 l (.lst ys.reverse))
section
variable{X:Cx}
theorem FO{ys:List V}{its:List Value}{acc:Array Value}(r:bV ys its)(h:ItemsOf (λi v=>its.toArray[its.toArray.size-1-i]?=some v) acc its.toArray.size):bV ys.reverse acc.toList:=by
 have e:acc.toList=its.reverse:=by
  apply dR
  intro i
  by_cases hi:i<its.length
  ·have hs:acc.size=its.length:=by have:=h.1;simpa using this
   have h1:acc[i]?=some acc[i]:=a6 (by omega)
   have h2:=h.2 i _ h1
   rw[bI,h1,bQ hi]
   simpa using h2.symm
  ·have hs:acc.size=its.length:=by have:=h.1;simpa using this
   rw[aW (by rw[bF];omega),aW (by rw[bO];omega)]
 rw[e]
 exact r.reverse
theorem AS{a:Expr}{ta:TA}{p1 p2 pos pos2:Pos}(hg:Gl X "list")(hg2:Gl X "reversed")(hm:X.mg "list"=none)(hm2:X.mg "reversed"=none)(hc:X.calm=true)(ha:PA X [a] ta)
  (hs2:starEach [a] X.env=[(false,eval a X.env)]:=by rfl) (hs:starEach [.Call (.Name "reversed" p2) [a] [] pos2] X.env=[(false,eval (.Call (.Name "reversed" p2) [a] [] pos2) X.env)]:=by rfl) :
  PE X (.Call (.Name "list" p1) [.Call (.Name "reversed" p2) [a] [] pos2] [] pos) (pC X.K ta):=by
 intro pins s σ H Q I h
 refine wpAny_Call_Name_kw (iF I hg hm boot_list ?_)
 refine bo ?_ hs rfl
 rw[hs]
 show wpAny _ _ (spliced ((false,eval (.Call (.Name "reversed" p2) [a] [] pos2) X.env)::backTo pos [])) _ _ s
 refine Calls.spliced_cons ?_
 refine wpAny_Call_Name_kw (iF I hg2 hm2 boot_reversed ?_)
 refine bo (eF (ha pos2 pins s σ H _ I h) λus s1 ⟨vs,H1,I1,r1,q1⟩=>?_) hs2 rfl
 obtain⟨l,ys,rfl,hq,q⟩:=q1
 obtain⟨u,rfl,rx⟩:=jZ r1
 cases rx
 obtain⟨its,rv,pl,hz⟩:=I1.list hq
 have ll:l<s1.heap.objs.size:=let⟨_,ho,_⟩:=pl.isList;aD ho
 refine call_reversed_list pl.isList (Calls.spliced_nil ?_)
 have hlen:=rv.length
 refine PySem.W.call_list_rev (items:=its.toArray) (I1.ok.hd hc) (pl.isList.push _) ⟨_,ax _ rfl,rfl,rfl⟩ (aL ll) (by rw[ay,<-hlen];exact hz) λh' tk acc c' hk hS hacc=>?_
 have sz:(s1.heap.push (revObj l ((its.toArray.size:Int)-1))).objs.size=s1.heap.objs.size+1:=size_push' ..
 have kp:∀b o,s1.heap.get? b=some o->h'.get? b=some o:=λb o e=>hk b o (aL (aD e)) (ag _ e)
 refine⟨.ref (s1.heap.push (revObj l ((its.toArray.size:Int)-1))).objs.size,_,I1.laid (t':=tk) kp (by rw[sz];exact dW _) (show d8 X.prog X.w _ h' _ (.lst ys.reverse) from⟨by rw[bO];exact hz,acc.toList,c',FO rv hacc,?_⟩),rfl,q _ (I1.hok.fresh (by rw[sz];exact dW _))⟩
 rw[ia];exact hS
theorem sP{a:Expr}{ta:TA}{p1 p2 pos pos2:Pos}(hg:Gl X "list")(hg2:Gl X "reversed")(hm:X.mg "list"=none)(hm2:X.mg "reversed"=none)(hc:X.calm=true)(ha:QA X [a] ta)
  (hs2:starEach [a] X.env=[(false,eval a X.env)]:=by rfl) (hs:starEach [.Call (.Name "reversed" p2) [a] [] pos2] X.env=[(false,eval (.Call (.Name "reversed" p2) [a] [] pos2) X.env)]:=by rfl) :
  QE X (.Call (.Name "list" p1) [.Call (.Name "reversed" p2) [a] [] pos2] [] pos) (pC X.K ta):=⟨AS hg hg2 hm hm2 hc ha.up hs2 hs⟩
end
end L2
end
section
namespace HT
open PySem PyProof.Rows
section
variable{prog:Program}{w:World}{A:Around}{E:Value->Shared->Prop}{s:Shared}
theorem cat_tup0{t b:Addr}{vs ws:List Value}{Q:Value->Shared->Prop}(ht:IsTup s.heap t vs.toArray)(hb:IsTup s.heap b ws.toArray)(hv:vs=[])(h:Q (.ref b) s):wpAny (model prog w) A (binaryOp .Add (.ref t) (.ref b)) Q E s:=by
 obtain⟨⟨cls,dd,data,sl⟩,ho,hc,n,hd⟩:=id ht
 obtain⟨⟨cls2,dd2,data2,sl2⟩,ho2,hc2,n2,hd2⟩:=id hb
 simp only at hc hd hc2 hd2
 subst hc hd hc2 hd2
 exact concat_meets ⟨_,ho,rfl⟩ ⟨_,ho2,rfl⟩ noFill_tuple_add seq_tuple_add gf fU (fG _ _)
   (tuple_addW0 t b vs.toArray ws.toArray n n2 dd dd2 sl sl2 (by simp[hv])) ⟨ho,ho2,h⟩
theorem getItem_tuple_all{t sl:Addr}{items:Array Value}{vl vu:Value}{lo hi:Option Int}{Q:Value->Shared->Prop}(ht:IsTup s.heap t items)(hs:s.heap.IsSliceOf sl vl vu .none)(pl:IsPart vl lo)(pu:IsPart vu hi)
  (hw:sIx items.size 0 lo=0/\sIx items.size items.size hi=items.size) (h:Q (.ref t) s):wpAny (model prog w) A (getItem (.ref t) (.ref sl)) Q E s:=by
 obtain⟨os,hos,hcs,hds⟩:=id hs
 have hTs:s.TypeIs (.ref sl) "slice":=⟨os,hos,hcs⟩
 unfold getItem
 try with_reducible refine wpAny_holding ?_
 first|refine wpAny_bind (wpAny_pure ?_)|skip
 refine wpAny_bind (wpAny_sequenceKey ht.typeIs (by decide) ?_)
 refine wpAny_bind (wpAny_callSpecial?_slot (name:=Str.ofString "__getitem__") ht.typeIs c6
  (wpAny_call_entry c6 ht.typeIs entry_tuple_getitem ?_ (args_tuple_getitem _ _)))
 show wpAny _ _ (Builtin.Tuple.tupleItemsOf (.ref t) >>= _) _ _ s
 refine wpAny_bind (tupleItemsOf_ ht ?_)
 refine wpAny_bind (wpAny_typeOf hTs ?_)
 rw[if_pos (by decide)]
 refine wpAny_bind (jX hs pl pu ?_)
 have hyes:(((sIx items.size 0 lo:Nat):Int)==0&&(1:Int)==1&&(sIx items.size items.size hi-sIx items.size 0 lo)==items.size)=true:=by
  rw[hw.1,hw.2];simp
 show wpAny _ _ (if(((sIx items.size 0 lo:Nat):Int)==0&&(1:Int)==1&&(sIx items.size items.size hi-sIx items.size 0 lo)==items.size)=true then _ else _) _ _ s
 rw[if_pos hyes]
 refine wpAny_bind (m:=Builtin.Tuple.tupleIsExact (.ref t)) ?_
 unfold Builtin.Tuple.tupleIsExact
 refine wpAny_bind (wpAny_typeOf ht.typeIs (wpAny_pure ?_))
 rw[if_pos (by decide)]
 exact wpAny_bind (wpAny_rule (wpAny_pure ⟨_,rfl,wpAny_pure h⟩))
end
end HT
namespace L2
open PySem PySem.Spec PyProof.Rows
section
variable{X:Cx}
def Fu(K:Fg):R2:=λx y H Q=>∃a b ys,x=.ref a/\y=.ref b/\cE K H a []/\cE K H b ys/\Q (.ref b) H
theorem E5:jc X (binaryOp .Add) (Fu X.K):=by
 intro pins s σ H x y v u Q I rx ry h
 obtain⟨a,b,ys,rfl,rfl,ha,hb,q⟩:=h
 cases rx
 cases ry
 obtain⟨its,r1,p1,_⟩:=I.tuple ha
 obtain⟨its2,r2,p2,_⟩:=I.tuple hb
 exact HT.cat_tup0 p1 p2 (r1.nil_iff.mpr rfl) ⟨.ref b,H,I,rfl,q⟩
def ko(K:Fg):R2:=λx y H Q=>Fu K x y H Q\/c7 K x y H Q
theorem i7:jc X (binaryOp .Add) (ko X.K):=E5.or bT
def IT(K:Fg):V->Option Int->Option Int->Hp->VK->Prop:=λx lo hi H Q=>∃a xs,x=.ref a/\cE K H a xs/\(HT.sIx xs.length 0 lo=0/\HT.sIx xs.length xs.length hi=xs.length)/\Q (.ref a) H
theorem Iu:D7 X (IT X.K):=by
 intro pins s σ H x v vl vu lo hi sl Q I rx hs pl pu h
 obtain⟨a,xs,rfl,hx,hw,q⟩:=h
 cases rx
 obtain⟨its,r,ht,hz⟩:=I.tuple hx
 have hlen:its.toArray.size=xs.length:=by rw[ay];exact r.length.symm
 refine⟨"tuple",_,c6.lookup,ht.typeIs,?_⟩
 exact HT.getItem_tuple_all ht hs pl pu (by rw[hlen];exact hw) ⟨.ref a,H,I,rfl,q⟩
def De(K:Fg):V->Option Int->Option Int->Hp->VK->Prop:=λx lo hi H Q=>IT K x lo hi H Q\/Ic K x lo hi H Q
theorem xq:D7 X (De X.K):=Iu.or ou
def IM(K:Fg):R2:=λx y H Q=>∃p q xs,x=.ref p/\y=.ref q/\cE K H p xs/\cE K H q []/\Q (.bl (decide (xs=[]))) H
theorem Hn(hu:X.A.units<cLine):jc X (compareOp .Eq) (IM X.K):=by
 intro pins s σ H x y v u Q I rx ry h
 obtain⟨p,q,xs,rfl,rfl,h1,h2,qq⟩:=h
 cases rx
 cases ry
 obtain⟨us,r1,t1,_⟩:=I.tuple h1
 obtain⟨vs,r2,t2,_⟩:=I.tuple h2
 have ev:vs=[]:=r2.nil_iff.mpr rfl
 subst ev
 refine SeqAt.eq_tupleAt (e:=λ_=>true) (show s.heap.IsTuple p us.toArray from t1) (show s.heap.IsTuple q ([]:List Value).toArray from t2) hu (λj h1 h2=>absurd h2 (by simp)) ⟨.bl (decide (xs=[])),H,I,?_,qq⟩
 show Value.bool _=Value.bool _
 congr 1
 rw[ay,<-r1.length]
 cases xs<;>simp
def Lq(K:Fg):R2:=λx y H Q=>IM K x y H Q\/wY K x y H Q
theorem JO(hu:X.A.units<cLine):jc X (compareOp .Eq) (Lq X.K):=(Hn hu).or (lG hu)
end
end L2
end
section
namespace PySem
open Sem (wp)
theorem wR:typeLookup (.type "list") "keys"=pure none:=by rw[typeLookup_type,builtinLookup_eq_fast];kernel_rfl
theorem C3{prog:Program}{w:World}{A:Around}{E:Value->Shared->Prop}{s:Shared}{a:Addr}{xs:Array Value}{k:Nat}{Q:Option Value->Shared->Prop}{sl:Array (Option Value)}
  (hx:s.heap.get? a=some {cls:=.type "list",dict:=none,data:=.seq xs k,slots:=sl}) (hA:A.handled=none)
  (h:∀h' tk,(∀b u,s.heap.get? b=some u->h'.get? b=some u)->Q none {s with heap:=h',toks:=tk}):wpAny (model prog w) A (getAttr? (.ref a) "keys") Q E s:=by
 obtain⟨hp,g,d,tk,os⟩:=s
 have hT:∀tk',(⟨hp,g,d,tk',os⟩:Shared).TypeIs (.ref a) "list":=λ_=>⟨_,hx,rfl⟩
 have f1:=sub_AttributeError
 have f3:=F.slot_list_getattribute.lookup
 have f4:=F.slot_list_getattribute.bind (.ref a)
 have f5:=am_list_getattr_none
 unfold getAttr? getAttrBy? getAttrBy
 repeat (any_goals (first|assumption|exact hT _|((with_reducible show wpAny _ _ (call (Value.builtin "list.__getattribute__") _ _) _ _ _);refine call_meets F.slot_list_getattribute (hT _) am_entry_list_getattribute (F.args_list_getattribute_2 _ _) (meets_getattribute_miss_list a xs k sl "keys" _ wR (by decide +kernel) (by decide +kernel)) ⟨hx,hA,λh' tk' e hx'=>?_⟩)|wp_step))
 obtain⟨t',u',he⟩:=hx'.there
 show wpAny _ _ (getattributeRaised _ _ _ _ _ _ _) _ _ _
 unfold getattributeRaised
 repeat (any_goals (first|assumption|wp_step))
 exact h _ _ hx'.keeps
namespace F
theorem entry_dict_update_loop:entryFor table "dict.update.loop"=some Builtin.«dict.update.loop»:=entryFor_of_tree (by kernel_rfl)
theorem plain_dict_update_loop:plainId "dict.update.loop"=true:=by decide +kernel
end F
def d7(tp:Bool)(h:Heap)(i l:Addr)(k:Nat):Prop:=match tp with
 |true=>h.IsTupleIter i l k
 |false=>h.IsListIter i l k
def eO(tp:Bool)(h:Heap)(l:Addr)(xs:Array Value):Prop:=match tp with
 |true=>h.IsTuple l xs
 |false=>h.IsList l xs
theorem d7.at{tp:Bool}{h h':Heap}{i l:Addr}{k:Nat}(x:d7 tp h i l k)(e:∀o,h.get? i=some o->h'.get? i=some o):d7 tp h' i l k:=by
 cases tp with
 |true=>exact Heap.IsTupleIter.at (show h.IsTupleIter i l k from x) e
 |false=>exact Heap.IsListIter.at (show h.IsListIter i l k from x) e
theorem eO.at{tp:Bool}{h h':Heap}{l:Addr}{xs:Array Value}(x:eO tp h l xs)(e:∀o,h.get? l=some o->h'.get? l=some o):eO tp h' l xs:=by
 cases tp with
 |true=>obtain⟨o,ho,r⟩:=(show h.IsTuple l xs from x);exact⟨o,e o ho,r⟩
 |false=>exact Heap.IsList.at (show h.IsList l xs from x) e
theorem d7.extBut{tp:Bool}{h h':Heap}{i l b:Addr}{k:Nat}(x:d7 tp h i l k)(hs:Heap.ExtBut b h h')(n:i≠b):d7 tp h' i l k:=x.at λo e=>hs i o n e
theorem eO.extBut{tp:Bool}{h h':Heap}{l b:Addr}{xs:Array Value}(x:eO tp h l xs)(hs:Heap.ExtBut b h h')(n:l≠b):eO tp h' l xs:=x.at λo e=>hs l o n e
theorem d7.lt{tp:Bool}{h:Heap}{i l:Addr}{k:Nat}(x:d7 tp h i l k):i<h.objs.size:=by
 cases tp with
 |true=>obtain⟨o,ho,_⟩:=(show h.IsTupleIter i l k from x);exact aD ho
 |false=>obtain⟨o,ho,_⟩:=(show h.IsListIter i l k from x);exact aD ho
theorem eO.lt{tp:Bool}{h:Heap}{l:Addr}{xs:Array Value}(x:eO tp h l xs):l<h.objs.size:=by
 cases tp with
 |true=>obtain⟨o,ho,_⟩:=(show h.IsTuple l xs from x);exact aD ho
 |false=>obtain⟨o,ho,_⟩:=(show h.IsList l xs from x);exact aD ho
def vk(tp:Bool)(l:Addr):Obj:={cls:=.type (if tp then "tuple_iterator" else "list_iterator"),data:=.fields #[.ref l,.int 0 0]}
section
variable{prog:Program}{w:World}{A:Around}{E:Value->Shared->Prop}{s:Shared}
theorem sN{tp:Bool}{l:Addr}{xs:Array Value}{Q:Value->Shared->Prop}(hl:eO tp s.heap l xs)(hQ:Q (.ref s.heap.objs.size) {s with heap:=s.heap.push (vk tp l)}):wpAny (model prog w) A (pyIter (.ref l)) Q E s:=by
 cases tp with
 |true=>exact wpAny_pyIter_tuple (show s.heap.IsTuple l xs from hl) hQ
 |false=>exact wpAny_pyIter_list (show s.heap.IsList l xs from hl) hQ
theorem yB{tp:Bool}{l:Addr}(h:Heap):d7 tp (h.push (vk tp l)) h.objs.size l 0:=by
 cases tp with
 |true=>exact⟨_,ax _ rfl,rfl,rfl⟩
 |false=>exact⟨_,ax _ rfl,rfl,rfl⟩
theorem oS{it t:Addr}{i:Nat}{items}{x:Value}{Q:Value->Shared->Prop}(hit:s.heap.IsTupleIter it t i)
  (ht:s.heap.IsTuple t items) (hx:items[i]?=some x)
  (hQ:∀h',h'.IsTupleIter it t (i+1)->Heap.SameBut it s.heap h'->Q x {s with heap:=h'}) :
  wpAny (model prog w) A (Builtin.SmallTypes.nextOf (.ref it)) Q E s:=by
 obtain⟨o,ho,hc,hd⟩:=id hit
 obtain⟨ol,hol,_,nl,hdl⟩:=ht
 unfold Builtin.SmallTypes.nextOf
 refine wpAny_bind (wpAny_callSpecial?_slot (name:=Str.ofString "__next__") hit.typeIs F.slot_tuple_iterator_next
  (wpAny_call_entry F.slot_tuple_iterator_next hit.typeIs F.entry_tuple_iterator_next ?_ (F.args_tuple_iterator_next_1 _)))
 show wpAny _ _ (field (.ref it) 0 >>= _) _ _ s
 refine wpAny_bind (wpAny_field ho hd (x:=.ref t) rfl ?_)
 show wpAny _ _ (if(Value.ref t==Value.none)=true then _ else _) _ _ s
 rw[if_neg (show ¬((Value.ref t==Value.none)=true) from Bool.false_ne_true)]
 show wpAny _ _ (field (.ref it) 1 >>= _) _ _ s
 refine wpAny_bind (wpAny_field ho hd (x:=.int i 0) rfl ?_)
 show wpAny _ _ (seqItems? (.ref t) >>= _) _ _ s
 refine wpAny_bind (wpAny_seqItems hol hdl ?_)
 simp only[aZ,hx]
 refine wpAny_bind (wpAny_setField ho hd (by simp) (wpAny_pure ⟨x,rfl,wpAny_pure (hQ _ ?_ (Heap.SameBut.update ..))⟩))
 exact⟨_,bW _ ho (Obj.isFreed_of_fields (Obj.data_mapFields hd _)),(Obj.cls_mapFields ..).trans hc,by
  rw[Obj.data_mapFields hd];simp[rawInt]⟩
theorem qc{it t:Addr}{i:Nat}{items}{Q:Value->Shared->Prop}(hh:A.handled=none)
  (hit:s.heap.IsTupleIter it t i) (ht:s.heap.IsTuple t items) (hx:items[i]?=none)
  (hE:∀h' e,Heap.ExtBut it s.heap h'->(∃o,h'.get? e=some o/\o.cls=.type "StopIteration")->E (.ref e) {s with heap:=h'}):wpAny (model prog w) A (Builtin.SmallTypes.nextOf (.ref it)) Q E s:=by
 obtain⟨o,ho,hc,hd⟩:=id hit
 obtain⟨ol,hol,_,nl,hdl⟩:=ht
 unfold Builtin.SmallTypes.nextOf
 refine wpAny_bind (wpAny_callSpecial?_slot (name:=Str.ofString "__next__") hit.typeIs F.slot_tuple_iterator_next
  (wpAny_call_entry F.slot_tuple_iterator_next hit.typeIs F.entry_tuple_iterator_next ?_ (F.args_tuple_iterator_next_1 _)))
 show wpAny _ _ (field (.ref it) 0 >>= _) _ _ s
 refine wpAny_bind (wpAny_field ho hd (x:=.ref t) rfl ?_)
 show wpAny _ _ (if(Value.ref t==Value.none)=true then _ else _) _ _ s
 rw[if_neg (show ¬((Value.ref t==Value.none)=true) from Bool.false_ne_true)]
 show wpAny _ _ (field (.ref it) 1 >>= _) _ _ s
 refine wpAny_bind (wpAny_field ho hd (x:=.int i 0) rfl ?_)
 show wpAny _ _ (seqItems? (.ref t) >>= _) _ _ s
 refine wpAny_bind (wpAny_seqItems hol hdl ?_)
 simp only[aZ,hx]
 refine wpAny_bind (wpAny_rule (wpAny_bind (wpAny_setField ho hd (by simp) ?_)))
 show wpAny _ _ (newExc (.type "StopIteration") [] >>= _) _ _ _
 refine wpAny_bind ?_
 simp only[newExc,newTuple]
 refine wpAny_bind (wpAny_newObj_type ?_ (by size_fits))
 refine wpAny_bind (m:=firstArgMember _ _) (wpAny_of_eq (a:=Value.none) (by first|rfl|(simp only[firstArgMember];rfl)) ?_)
 refine wpAny_newObj_type ?_ (by size_fits)
 simp only[raiseNew]
 refine wpAny_bind (wpAny_handled ?_)
 first|rw[show A.in1.handled=none from hh]|rw[hh]
 refine wpAny_bind (wpAny_pure (wpAny_throw ?_))
 exact hE _ _ (((Heap.SameBut.update ..).extBut.push _).push _) ⟨_,ax _ rfl,rfl⟩
theorem qE{tp:Bool}{it l:Addr}{i:Nat}{xs:Array Value}{x:Value}{Q:Value->Shared->Prop}(hit:d7 tp s.heap it l i)(hl:eO tp s.heap l xs)(hx:xs[i]?=some x)
  (hQ:∀h',d7 tp h' it l (i+1)->Heap.SameBut it s.heap h'->Q x {s with heap:=h'}):wpAny (model prog w) A (Builtin.SmallTypes.nextOf (.ref it)) Q E s:=by
 cases tp with
 |true=>exact oS hit hl hx hQ
 |false=>exact wpAny_nextOf_list_item hit hl hx hQ
theorem sI{tp:Bool}{it l:Addr}{i:Nat}{xs:Array Value}{Q:Value->Shared->Prop}(hh:A.handled=none)(hit:d7 tp s.heap it l i)(hl:eO tp s.heap l xs)(hx:xs[i]?=none)
  (hE:∀h' e,Heap.ExtBut it s.heap h'->(∃o,h'.get? e=some o/\o.cls=.type "StopIteration")->E (.ref e) {s with heap:=h'}):wpAny (model prog w) A (Builtin.SmallTypes.nextOf (.ref it)) Q E s:=by
 cases tp with
 |true=>exact qc hh hit hl hx hE
 |false=>exact wpAny_nextOf_list_end hh hit hl hx hE
end
abbrev v3(h:Heap)(z TI TO T0:Addr)(b:Bool):Prop:=
 h.get? z=some {cls:=.type "zip",dict:=none,data:=.fields #[rawInt T0,.bool b,.bool false,.ref TI,.ref TO],slots:=#[]}
section
variable{prog:Program}{w:World}{A:Around}{E:Value->Shared->Prop}{s:Shared}{t1 t2:Bool}
theorem DH{a:Addr}{Q:Option Obj->Shared->Prop}(h:Q (s.heap.get? a) s):wpAny (model prog w) A (loadIfAlive a) Q E s:=λΓ p hin=>by
 show wp _ Γ (Sem.loadIfAlive a Sem.pure) _ _ p s
 rw[Sem.wp_loadIfAlive]
 exact wpAny_pure (M:=model prog w) (A:=A) (E:=E) h Γ p hin
theorem Gp{z TI TO T0 i1 i2 l1 l2:Addr}{k1 k2:Nat}{xs ys:Array Value}{b:Bool}{oT:Obj}{Q:Fin->Shared->Prop}(hh:A.handled=none)(D:ZipApart z TI TO i1 i2 l1 l2)
  (hz:v3 s.heap z TI TO T0 b) (hTI:IsPair s.heap TI (.ref i1) (.ref i2)) (hT0:s.heap.get? T0=some oT)
  (h1:d7 t1 s.heap i1 l1 k1) (h2:d7 t2 s.heap i2 l2 k2) (hl1:eO t1 s.heap l1 xs) (hl2:eO t2 s.heap l2 ys) (hend:xs[k1]?=none)
  (hE:∀h' e,(∀c o,c≠z->c≠i1->c≠i2->s.heap.get? c=some o->h'.get? c=some o)->(∃o,h'.get? e=some o/\o.cls=.type "StopIteration")->E (.ref e) {s with heap:=h'}) :
  wpAny (model prog w) A (Builtin.«zip.__next__» ⟨[.ref z],[]⟩) Q E s:=by
 show wpAny _ _ (field (.ref z) 2 >>= _) _ _ _
 refine wpAny_bind (wpAny_field hz rfl (x:=.bool false) rfl ?_)
 show wpAny _ _ (field (.ref z) 3 >>= _) _ _ _
 refine wpAny_bind (wpAny_field hz rfl (x:=.ref TI) rfl ?_)
 refine wpAny_bind (wpAny_seqItems hTI rfl ?_)
 show wpAny _ _ (Builtin.SmallTypes.ownedTupleIsFree (.ref z) >>= _) _ _ _
 refine wpAny_bind ?_
 unfold Builtin.SmallTypes.ownedTupleIsFree
 refine wpAny_bind (wpAny_field hz rfl (x:=rawInt T0) rfl ?_)
 show wpAny _ _ (loadIfAlive (T0:Int).toNat >>= _) _ _ _
 have hn:(T0:Int).toNat=T0:=by lia
 rw[hn]
 refine wpAny_bind (DH ?_)
 rw[hT0]
 show wpAny _ _ (field (.ref z) 1 >>= _) _ _ _
 refine wpAny_bind (wpAny_field hz rfl (x:=.bool b) rfl ?_)
 have key:∀(h₁:Heap) (Q':Value->Shared->Prop),Heap.SameBut z s.heap h₁->wpAny (model prog w) A (Builtin.SmallTypes.nextOf (.ref i1)) Q' E {s with heap:=h₁}:=by
  intro h₁ Q' hs₁
  refine sI hh (h1.extBut hs₁.extBut D.i1z) (hl1.extBut hs₁.extBut D.l1z) hend λh₂ e hs₂ he=>?_
  exact hE h₂ e (λc o c1 c2 _ x=>hs₂ _ _ c2 (hs₁.extBut _ _ c1 x)) he
 cases b with
 |true=>
  rw[if_neg (by decide)]
  refine wpAny_pure ?_
  rw[if_neg (by decide)]
  simp only[List.forIn_toArray,fJ,iX]
  refine wpAny_bind (wpAny_bind (wpAny_bind (wpAny_holding ?_)))
  show wpAny _ _ (Builtin.SmallTypes.nextOf (.ref i1) >>= _) _ _ _
  exact wpAny_bind (key s.heap _ (Heap.SameBut.refl ..))
 |false=>
  rw[if_pos (by decide)]
  refine wpAny_bind (wpAny_setField_rec hz (by simp) λh₁ hz₁ hs₁=>?_)
  refine wpAny_pure ?_
  rw[if_neg (by decide)]
  simp only[List.forIn_toArray,fJ,iX]
  refine wpAny_bind (wpAny_bind (wpAny_bind (wpAny_holding ?_)))
  show wpAny _ _ (Builtin.SmallTypes.nextOf (.ref i1) >>= _) _ _ _
  exact wpAny_bind (key h₁ _ hs₁)
end
structure Jg(z TI TO:Addr)(f:Value)(b:Bool)(h h':Heap):Prop where
 at_:h'.get? z=some {cls:=.type "zip",dict:=none,data:=.fields #[f,.bool b,.bool false,.ref TI,.ref TO],slots:=#[]}
 sm:Heap.SameBut z h h'
section
variable{prog:Program}{w:World}{A:Around}{E:Value->Shared->Prop}{s:Shared}{t1 t2:Bool}
theorem BP{z TI TO:Addr}{f f':Value}{b:Bool}{Q:Unit->Shared->Prop}(hz:s.heap.get? z=some {cls:=.type "zip",dict:=none,data:=.fields #[f,.bool b,.bool false,.ref TI,.ref TO],slots:=#[]})
  (k:∀h',Jg z TI TO f' b s.heap h'->Q () {s with heap:=h'}):wpAny (model prog w) A (setField (.ref z) 0 f') Q E s:=
 wpAny_setField_rec hz (by simp) λh' a e=>k h' ⟨a,e⟩
theorem DI{z TI TO i1 i2 l1 l2:Addr}{k1 k2:Nat}{xs ys:Array Value}{x y a b:Value}{Q:Value->Shared->Prop}(D:ZipApart z TI TO i1 i2 l1 l2)
  (hz:IsZip s.heap z TI TO .none) (hTI:IsPair s.heap TI (.ref i1) (.ref i2)) (hTO:IsPair s.heap TO a b)
  (h1:d7 t1 s.heap i1 l1 k1) (h2:d7 t2 s.heap i2 l2 k2) (hl1:eO t1 s.heap l1 xs) (hl2:eO t2 s.heap l2 ys) (hx:xs[k1]?=some x) (hy:ys[k2]?=some y)
  (k:∀h',v3 h' z TI TO s.heap.objs.size false->d7 t1 h' i1 l1 (k1+1)->d7 t2 h' i2 l2 (k2+1)->IsPair h' s.heap.objs.size x y->IsPair h' TO x y->
   (∀c o,c≠z->c≠TO->c≠i1->c≠i2->s.heap.get? c=some o->h'.get? c=some o)->Q (.ref s.heap.objs.size) {s with heap:=h'}) :
  wpAny (model prog w) A (Builtin.«zip.__next__» ⟨[.ref z],[]⟩) (λfin s'=>∃v,fin=.done (.ret v)/\Q v s') E s:=by
 refine wpAny_bind (m:=field (.ref z) 2) (wpAny_field hz rfl (x:=.bool false) rfl ?_)
 refine wpAny_bind (m:=field (.ref z) 3) (wpAny_field hz rfl (x:=.ref TI) rfl (wpAny_bind (wpAny_seqItems hTI rfl ?_)))
 refine wpAny_bind (m:=Builtin.SmallTypes.ownedTupleIsFree (.ref z)) (wpAny_bind (wpAny_field hz rfl (x:=.none) rfl (wpAny_pure ?_)))
 refine wpAny_bind (wpAny_rule (wpAny_bind (wpAny_field hz rfl (x:=.ref TO) rfl (wpAny_bind (BP hz λg1 m1=>?_)))))
 simp only[List.zipIdx_cons,List.zipIdx_nil,fJ,iX]
 have e1:=m1.sm.extBut
 refine wpAny_bind (wpAny_bind (wpAny_bind (wpAny_onRaise (wpAny_bind (m:=Builtin.SmallTypes.nextOf (.ref i1)) (qE (h1.extBut e1 D.i1z) (hl1.extBut e1 D.l1z) hx λg2 i1' s2=>wpAny_pure ?_)))))
 have e2:=s2.extBut
 have o2:IsPair g2 TO a b:=e2 _ _ D.TOi1 (e1 _ _ D.TOz hTO)
 refine wpAny_bind (wpAny_seqItems o2 rfl (wpAny_bind (wpAny_updateSeq_pair o2 λg3 o3 s3=>wpAny_bind (wpAny_letGo (wpAny_pure ?_)))))
 have e3:=s3.extBut
 replace o3:IsPair g3 TO x b:=o3
 refine wpAny_bind (wpAny_bind (wpAny_onRaise (wpAny_bind (m:=Builtin.SmallTypes.nextOf (.ref i2)) (qE (((h2.extBut e1 D.i2z).extBut e2 D.i12.symm).extBut e3 D.TOi2.symm) (((hl2.extBut e1 D.l2z).extBut e2 D.l2i1).extBut e3 D.l2TO) hy λg4 i2' s4=>wpAny_pure ?_))))
 have e4:=s4.extBut
 have o4:IsPair g4 TO x b:=e4 _ _ D.TOi2 o3
 refine wpAny_bind (wpAny_seqItems o4 rfl (wpAny_bind (wpAny_updateSeq_pair o4 λg5 o5 s5=>wpAny_bind (wpAny_letGo (wpAny_pure (wpAny_pure ?_))))))
 have e5:=s5.extBut
 replace o5:IsPair g5 TO x y:=o5
 refine wpAny_bind (wpAny_seqItems o5 rfl (wpAny_bind (wpAny_newTuple ?_)))
 have size:g5.objs.size=s.heap.objs.size:=(s5.1.trans (s4.1.trans (s3.1.trans (s2.1.trans m1.sm.1))))
 have z5:=ag {cls:=.type "tuple",data:=.seq #[x,y]} (e5 _ _ D.TOz.symm (e4 _ _ D.i2z.symm (e3 _ _ D.TOz.symm (e2 _ _ D.i1z.symm m1.at_))))
 have zl:z≠g5.objs.size:=by rw[size];exact aL (aD hz)
 refine wpAny_bind (m:=Builtin.SmallTypes.ownedTupleHandOut (.ref z) (.ref g5.objs.size)) (wpAny_bind (BP z5 λg6 m6=>wpAny_setField_rec m6.at_ (by simp) λg7 z7 s7=>wpAny_pure ⟨_,rfl,?_⟩))
 have up:∀c o,c≠z->g5.get? c=some o->g7.get? c=some o:=λc o n e=>s7.extBut _ _ n (m6.sm.extBut _ _ n (ag _ e))
 have pr:IsPair g7 g5.objs.size x y:=s7.extBut _ _ (Ne.symm zl) (m6.sm.extBut _ _ (Ne.symm zl) (ax _ rfl))
 rw[size] at pr
 show Q (.ref g5.objs.size) _
 have z7':v3 g7 z TI TO g5.objs.size false:=z7
 rw[size] at z7' ⊢
 refine k g7 z7' ?_ ?_ pr (up _ _ D.TOz o5) λc o c1 c2 c3 c4 e=>up c o c1 (e5 _ _ c2 (e4 _ _ c4 (e3 _ _ c2 (e2 _ _ c3 (e1 _ _ c1 e)))))
 ·exact(((i1'.extBut e3 D.TOi1.symm).extBut e4 D.i12).extBut e5 D.TOi1.symm).at λo e=>up _ o D.i1z e
 ·exact(i2'.extBut e5 D.TOi2.symm).at λo e=>up _ o D.i2z e
theorem Gn{z TI TO i1 i2 l1 l2:Addr}{k1 k2:Nat}{xs ys:Array Value}{Q:Fin->Shared->Prop}(hh:A.handled=none)(D:ZipApart z TI TO i1 i2 l1 l2)
  (hz:IsZip s.heap z TI TO .none) (hTI:IsPair s.heap TI (.ref i1) (.ref i2)) (h1:d7 t1 s.heap i1 l1 k1) (hl1:eO t1 s.heap l1 xs) (hx:xs[k1]?=none)
  (k:∀h' e,(∀c o,c≠z->c≠i1->c≠i2->s.heap.get? c=some o->h'.get? c=some o)->(∃o,h'.get? e=some o/\o.cls=.type "StopIteration")->E (.ref e) {s with heap:=h'}) :
  wpAny (model prog w) A (Builtin.«zip.__next__» ⟨[.ref z],[]⟩) Q E s:=by
 refine wpAny_bind (m:=field (.ref z) 2) (wpAny_field hz rfl (x:=.bool false) rfl ?_)
 refine wpAny_bind (m:=field (.ref z) 3) (wpAny_field hz rfl (x:=.ref TI) rfl (wpAny_bind (wpAny_seqItems hTI rfl ?_)))
 refine wpAny_bind (m:=Builtin.SmallTypes.ownedTupleIsFree (.ref z)) (wpAny_bind (wpAny_field hz rfl (x:=.none) rfl (wpAny_pure ?_)))
 refine wpAny_bind (wpAny_rule (wpAny_bind (wpAny_field hz rfl (x:=.ref TO) rfl (wpAny_bind (BP hz λg1 m1=>?_)))))
 simp only[List.zipIdx_cons,List.zipIdx_nil,fJ,iX]
 have e1:=m1.sm.extBut
 refine wpAny_bind (wpAny_bind (wpAny_bind (wpAny_onRaise (wpAny_bind (m:=Builtin.SmallTypes.nextOf (.ref i1)) (sI hh (h1.extBut e1 D.i1z) (hl1.extBut e1 D.l1z) hx λg2 e x2 ⟨oe,he,ce⟩=>?_)))))
 have z2:=x2 _ _ D.i1z.symm m1.at_
 have ne:e≠z:=λq=>by subst q;rw[z2] at he;cases he;simp at ce
 exact BP z2 λg3 m3=>k g3 e (λc o c1 c2 _ q=>m3.sm.extBut _ _ c1 (x2 _ _ c2 (e1 _ _ c1 q))) ⟨oe,m3.sm.extBut _ _ ne he,ce⟩
end
abbrev Kz(t1:Bool)(h:Heap)(l1:Addr):Heap:=h.push (vk t1 l1)
abbrev LB(t1 t2:Bool)(h:Heap)(l1 l2:Addr):Heap:=(Kz t1 h l1).push (vk t2 l2)
abbrev LC(t1 t2:Bool)(h:Heap)(l1 l2:Addr):Heap:=(LB t1 t2 h l1 l2).push {cls:=.type "tuple",data:=.seq #[.ref h.objs.size,.ref (Kz t1 h l1).objs.size]}
abbrev LD(t1 t2:Bool)(h:Heap)(l1 l2:Addr):Heap:=(LC t1 t2 h l1 l2).push {cls:=.type "tuple",data:=.seq #[.none,.none]}
abbrev KA(t1 t2:Bool)(h:Heap)(l1 l2:Addr):Heap:=(LD t1 t2 h l1 l2).push {cls:=.type "zip",data:=.fields #[.none,.bool false,.bool false,.ref (LB t1 t2 h l1 l2).objs.size,.ref (LC t1 t2 h l1 l2).objs.size]}
theorem uJ{t1 t2:Bool}(l1 l2:Addr)(xs ys:Array Value) :
  Meets (Builtin.«zip.__new__» ⟨[.type "zip",.ref l1,.ref l2],[]⟩) (λ_ R s=>eO t1 s.heap l1 xs/\eO t2 s.heap l2 ys/\
   R (.ok (.ret (.ref (LD t1 t2 s.heap l1 l2).objs.size))) {s with heap:=KA t1 t2 s.heap l1 l2}):=
 .of_wp λprog w A R s h=>by
  obtain⟨hp,g,d,tk,os⟩:=s
  obtain⟨a1,a2,h⟩:=h
  have hsub:=sub_zip
  have b1:eO t1 (Shared.heap ⟨hp,g,d,tk,os⟩) l1 xs:=a1
  have b2:eO t2 (Shared.heap ⟨hp.push (vk t1 l1),g,d,tk,os⟩) l2 ys:=a2.at λo e=>ag _ e
  wp_walk using sN b1,sN b2
  exact⟨_,rfl,h⟩
section
variable{prog:Program}{w:World}{A:Around}{R:Result->Shared->Prop}{t1 t2:Bool}{K:Type}[DecidableEq K]{knd:KeyKind prog w K}
structure Ea(t1 t2:Bool)(z TI TO i1 i2 l1 l2:Addr)(xs ys:Array Value)(i:Nat)(h:Heap):Prop where
 ti:IsPair h TI (.ref i1) (.ref i2)
 a1:d7 t1 h i1 l1 i
 a2:d7 t2 h i2 l2 i
 s1:eO t1 h l1 xs
 s2:eO t2 h l2 ys
 st:(IsZip h z TI TO .none/\∃a b,IsPair h TO a b)\/∃T0 b o,v3 h z TI TO T0 b/\h.get? T0=some o/\o.cls=.type "tuple"
theorem Ea.typeIs{z TI TO i1 i2 l1 l2:Addr}{xs ys:Array Value}{i:Nat}{s:Shared}(st:Ea t1 t2 z TI TO i1 i2 l1 l2 xs ys i s.heap):s.TypeIs (.ref z) "zip":=by
 rcases st.st with⟨h,_⟩|⟨_,_,_,h,_⟩<;>exact⟨_,h,rfl⟩
theorem Gq{E:Value->Shared->Prop}{z TI TO i1 i2 l1 l2:Addr}{xs ys:Array Value}{i:Nat}{s:Shared}{Q:Option Value->Shared->Prop}(hh:A.handled=none)(D:ZipApart z TI TO i1 i2 l1 l2)(st:Ea t1 t2 z TI TO i1 i2 l1 l2 xs ys i s.heap)(hx:xs[i]?=none)
  (k:∀h',(∀c o,c≠z->c≠i1->c≠i2->s.heap.get? c=some o->h'.get? c=some o)->Q none {s with heap:=h'}):wpAny (model prog w) A (pyNext (.ref z)) Q E s:=by
 have hT:=st.typeIs
 have fin:∀(h':Heap) (e:Addr),(∀c o,c≠z->c≠i1->c≠i2->s.heap.get? c=some o->h'.get? c=some o)->(∃o,h'.get? e=some o/\o.cls=.type "StopIteration")->
   wpAny (model prog w) A (isInstance (.ref e) (.type "StopIteration")) (λa s'=>a=true/\Q none s') E {s with heap:=h'}:=λh' e kp ⟨o,ho,hc⟩=>wpAny_isInstance (T:="StopIteration") (b:=true) ⟨o,ho,hc⟩ isSubtype_stop ⟨rfl,k h' kp⟩
 unfold pyNext
 refine wpAny_bind (wpAny_attempt (wpAny_callSpecial?_slot (name:=Str.ofString "__next__") hT F.slot_zip_next (wpAny_call_entry F.slot_zip_next hT F.entry_zip_next ?_ (F.args_zip_next_1 _))))
 rcases st.st with⟨hz,a,b,ho⟩|⟨T0,b,o,hz,h0,hc⟩
 ·refine Gn (ys:=ys) (k2:=0) hh D hz st.ti st.a1 st.s1 hx λh' e kp he=>wpAny_bind (wpAny_mono (fin h' e kp he) (λa s' q=>?_) λ_ _ z=>z)
  obtain⟨rfl,q⟩:=q
  exact wpAny_pure q
 ·refine Gp hh D hz st.ti h0 st.a1 st.a2 st.s1 st.s2 hx λh' e kp he=>wpAny_bind (wpAny_mono (fin h' e kp he) (λa s' q=>?_) λ_ _ z=>z)
  obtain⟨rfl,q⟩:=q
  exact wpAny_pure q
end
section
variable{prog:Program}{w:World}{A:Around}{E:Value->Shared->Prop}{s:Shared}{t1 t2:Bool}{K:Type}[DecidableEq K]{knd:KeyKind prog w K}
theorem wC{l1 l2:Addr}{xs ys:Array Value}{Q:Value->Shared->Prop}(a1:eO t1 s.heap l1 xs)(a2:eO t2 s.heap l2 ys)
  (h:∀h' z TI TO i1 i2,s.heap.objs.size<=TI->ZipApart z TI TO i1 i2 l1 l2->s.heap.objs.size<=z->s.heap.objs.size<=TO->s.heap.objs.size<=i1->s.heap.objs.size<=i2->IsZip h' z TI TO .none->IsPair h' TO .none .none->IsPair h' TI (.ref i1) (.ref i2)->d7 t1 h' i1 l1 0->d7 t2 h' i2 l2 0->
   (∀c o,s.heap.get? c=some o->h'.get? c=some o)->Q (.ref z) {s with heap:=h'}) :
  wpAny (model prog w) A (call (.type "zip") [.ref l1,.ref l2]) Q E s:=by
 refine callType_new F.called_zip (by decide) (F.typeCall_zip_2 _ _) (F.newCall_zip_2 _ _) (λobj=>F.args_object_init_3 obj _ _) F.entry_zip_new (uJ (t1:=t1) (t2:=t2) l1 l2 xs ys) ⟨a1,a2,?_⟩
 have zA:(Kz t1 s.heap l1).objs.size=s.heap.objs.size+1:=bC ..
 have zB:(LB t1 t2 s.heap l1 l2).objs.size=s.heap.objs.size+2:=(bC ..).trans (by rw[zA])
 have zC:(LC t1 t2 s.heap l1 l2).objs.size=s.heap.objs.size+3:=(bC ..).trans (by rw[zB])
 have zD:(LD t1 t2 s.heap l1 l2).objs.size=s.heap.objs.size+4:=(bC ..).trans (by rw[zC])
 have q1:=a1.lt
 have q2:=a2.lt
 have pz:(KA t1 t2 s.heap l1 l2).get? (LD t1 t2 s.heap l1 l2).objs.size=some _:=ax _ rfl
 have po:(KA t1 t2 s.heap l1 l2).get? (LC t1 t2 s.heap l1 l2).objs.size=some _:=ag _ (ax _ rfl)
 have pi:(KA t1 t2 s.heap l1 l2).get? (LB t1 t2 s.heap l1 l2).objs.size=some _:=ag _ (ag _ (ax _ rfl))
 have b2:d7 t2 (KA t1 t2 s.heap l1 l2) (Kz t1 s.heap l1).objs.size l2 0:=(yB (Kz t1 s.heap l1)).at λo e=>ag _ (ag _ (ag _ e))
 have b1:d7 t1 (KA t1 t2 s.heap l1 l2) s.heap.objs.size l1 0:=(yB s.heap).at λo e=>ag _ (ag _ (ag _ (ag _ e)))
 refine⟨⟨_,pz,rfl⟩,h _ (LD t1 t2 s.heap l1 l2).objs.size (LB t1 t2 s.heap l1 l2).objs.size (LC t1 t2 s.heap l1 l2).objs.size s.heap.objs.size (Kz t1 s.heap l1).objs.size (by lia) ?_ (by lia) (by lia) (by lia) (by lia) pz po pi b1 b2 λc o e=>
  ag _ (ag _ (ag _ (ag _ (ag _ e))))⟩
 rw[zD,zB,zC,zA]
 exact PyProof.Rows.zipApart_new q1 q2
end
end PySem
namespace L2
open PySem PySem.Spec PyProof.Rows
section
variable{X:Cx}
end
section
variable{X:Cx}{C:Addr}{m x:Str}{ps:List Str}{k:Nat}{sp:Sp}{e o:Expr}{es:List Expr}{ta:TE}{t:TA}{p pos apos:Pos}
theorem ju{d i:Expr}{td ty:TE}(hu:X.A.units+1<cLine)(ho:QE X d td)(hi:QE X i ty)(hs:Jh i):QE X (.Subscript d i pos) (mX td ty):=⟨Hv hu ho.up hi.up hs⟩
end
section
variable{X:Cx}
end
section
variable{X:Cx}
end
section
variable{X:Cx}{pins:List (Addr×Obj)}{σ:St}{H:Hp}{s:Shared}{d:Addr}{kvs:List (kY×V)}{u u':HO}
theorem bx.retell(I:bx X pins σ H s)(e:H d=some u)(new:d8 X.prog X.w (aP H d u') s.heap d u')(ht:∀xs,u≠.tup xs)(ho:∀x,u≠.own x)(hb:∀ps,u≠.tbl ps)(hf:∀o v,X.H₀ d≠some (.frz o v)):bx X pins σ (aP H d u') s:=by
 have ne:∀b,H b=none->b≠d:=λb q z=>by rw[z,e] at q;cases q
 refine⟨I.ok,I.os,I.bare,⟨I.base.keep,I.base.slot,λb o q n x=>?_,I.base.there,λb xs q=>?_,λb o v q=>?_,λb ps q=>?_⟩,I.loc,I.cell,?_,λx c q=>?_,λp hp=>?_,λb v q=>?_,I.len⟩
 ·have z:=I.base.free b o q n x
  rw[az (ne b z)];exact z
 ·have z:=I.base.tups b xs q
  rw[az (λc=>by rw[c,e] at z;exact ht xs (Option.some.inj z))];exact z
 ·have z:=I.base.frzs b o v q
  rw[az (λc=>hf o v (by rw[<-c];exact q))];exact z
 ·obtain⟨more,z⟩:=I.base.tbls b ps q
  exact⟨more,by rw[az (λc=>by rw[c,e] at z;exact hb _ (Option.some.inj z))];exact z⟩
 ·rw[az (ne _ I.free)];exact I.free
 ·rw[az (ne _ (I.freeC x c q))];exact I.freeC x c q
 ·obtain⟨h1,h2,h3⟩:=I.pin p hp
  exact⟨h1,by rw[az (ne _ h2)];exact h2,h3⟩
 ·by_cases c:b=d
  ·subst c
   rw[aj] at q;cases q
   exact new
  ·rw[az c] at q
   refine(I.hok b v q).stay (λ_ _ _ z=>z) (λa z=>?_) λa xs z=>?_
   ·rw[az (λc'=>by rw[c',e] at z;exact ho _ (Option.some.inj z))];exact z
   ·rw[az (λc'=>by rw[c',e] at z;exact ht _ (Option.some.inj z))];exact z
end
section
variable{X:Cx}{tg:Expr}
end
end L2
end
section
namespace PySem
open Sem (wp)
section
variable{prog:Program}{w:World}{A:Around}{R:Result->Shared->Prop}{K:Type}[DecidableEq K]{knd:KeyKind prog w K}
end
section
variable{prog:Program}{w:World}{A:Around}{E:Value->Shared->Prop}{s:Shared}{K:Type}[DecidableEq K]{knd:KeyKind prog w K}
end
end PySem
end
section
namespace L2
open PySem PySem.Spec PyProof.Rows
section
variable{X:Cx}
end
section
variable{X:Cx}
theorem qr:∀{us:List Value} {ss:List Str},StrsAre us ss->bV (ss.map V.str) us
 |_,_,.nil=>.nil
 |_,_,.cons x t r=>.cons ⟨t,rfl⟩ (qr r)
def BZ(K:Fg):List V->Hp->VK->Prop:=λxs H Q=>∃(p:Addr) (ss:List Str),xs=[.ref p]/\cq K H p (ss.map V.str)/\ss.length<64/\∀(l:Addr) (ss':List Str),H l=none->ss'.Perm ss->sortedS ss'=true->Q (.ref l) (aP H l (.lst (ss'.map V.str)))
theorem yc:ip X (.builtin "sorted") (BZ X.K):=by
 intro pins s σ H xs us Q I r h
 obtain⟨p,ss,rfl,hq,h64,q⟩:=h
 obtain⟨u,rfl,rx⟩:=jZ r
 cases rx
 obtain⟨its,r',pl,hz⟩:=I.list hq
 have hl:=r'.length
 rw[af] at hl
 refine sorted_strs pl.isList (pB r') (by rw[<-hl];exact h64) λout ss' a1 a2 a3=>?_
 obtain⟨e,he⟩:=sortedAll_at s.heap its out
 have hn:=qr a1
 have hlen:ss'.length=ss.length:=a2.length_eq
 refine⟨.ref (s.heap.objs.size+1),_,I.laid (t':=s.toks) (λb u q=>sortedAll_old q) (dW _) (show d8 X.prog X.w _ _ _ (.lst (ss'.map V.str)) from⟨?_,out.toList,e,hn,?_⟩),rfl,q _ _ (I.hok.fresh (dW _)) a2 a3⟩
 ·rw[af,hlen];exact a8 (bR h64) (by decide)
 ·rw[ia];exact he
def tN(td ty tx:TE):TE:=λσ H Q=>td σ H λx H1=>∃a,x=.ref a/\LH H1 a/\ty σ H1 λy H2=>tx σ H2 λz H3=>∃kvs k,H3 a=some (.dK kvs)/\y=kV k/\kvs.length<sizeLine/\(∀v,de kvs k=some v->Q v H3)/\(de kvs k=none->Q z (aP H3 a (.dK (jf kvs k z))))
theorem Fc{o e f:Expr}{apos cpos:Pos}{td ty tx:TE}(ho:PE X o td)(he:PE X e ty)(hf:PE X f tx)(m:M2 X o "setdefault" apos e f cpos):PE X (.Call (.Attribute o "setdefault" apos) [e,f] [] cpos) (tN td ty tx):=by
 intro pins s σ H Q I h
 refine wpAny_Call_method m.base m.few m.line eC PySem.F.slot_dict_setdefault PySem.F.type_dict_setdefault (eF (ho pins s σ H _ I h) λu s1 ⟨x,H1,I1,rx,a,ex,d,q1⟩=>?_)
 subst ex
 obtain rfl:u=Value.ref a:=rx
 obtain⟨t1,t2,_⟩:=wK I1 d
 refine⟨t1,t2,?_⟩
 rw[m.trees]
 refine Calls.callWith_builtin rfl (Calls.evalArgs_plain (Calls.spliced_cons (eF (he pins s1 σ H1 _ I1 q1) λiv s2 ⟨y,H2,I2,ry,q2⟩=>
  Calls.spliced_cons (eF (hf pins s2 σ H2 _ I2 q2) λfv s3 ⟨z,H3,I3,rz,kvs,k,e3,ey,hl,qs,qn⟩=>Calls.spliced_nil ?_))))
 subst ey
 obtain⟨z1,l1,vs,rel,dd⟩:=Ep I3.hok e3
 refine call_meetsIn PySem.F.slot_dict_setdefault dd.typeIs PySem.F.entry_dict_setdefault (PySem.F.args_dict_setdefault_3 _ _ _) (kt_meets_setdefault (dY X.prog X.w) a (qD ry) l1 fv) ⟨vs,dd,by rw[<-rel.length];exact z1,λv hv=>?_,λhv h' d' hs=>?_⟩
 ·have:=rel.val k
  rw[hv] at this
  cases ev:de kvs k with
  |none=>rw[ev] at this;exact(show False from this).elim
  |some v'=>
   rw[ev] at this
   exact⟨v',H3,I3.tok _,this,qs v' ev⟩
 ·have:=rel.val k
  rw[hv] at this
  cases ev:de kvs k with
  |some v'=>rw[ev] at this;exact(show False from this).elim
  |none=>
   have hlen:(jf kvs k z).length<=sizeLine:=by have:=iu kvs k z;lia
   refine⟨z,_,rj (t':=s3.toks+1) (ob:=.dK (jf kvs k z)) I3 (by rw[e3];exact True.intro) hs (let⟨ob,_,_,h1,_⟩:=d';⟨ob,h1⟩) (AA hlen l1 (rel.put k rz) d'),rz,qn ev⟩
end
end L2
end
section
namespace L2
open PySem PyProof.Rows
def Ac(a b:Str):Prop:=¬(b.cps.toList<a.cps.toList)
theorem Ac.trans{a b c:Str}(h:Ac a b)(k:Ac b c):Ac a c:=λz=>by
 have h1:=jj.mp h
 have h2:=jj.mp k
 exact jj.mpr (List.le_trans h1 h2) z
theorem Ac.anti{a b:Str}(h:Ac a b)(k:Ac b a):a=b:=by
 have:=List.le_antisymm (jj.mp h) (jj.mp k)
 cases a;cases b
 simp only[Str.mk.injEq]
 exact Array.toList_inj.mp this
theorem vF:∀(r:List Str) (p:Str),risingS p r=true->(p::r).Pairwise Ac
 |[],p,_=>fS _ _
 |x::r,p,h=>by
  have h':(!PySem.Spec.ltCps x.cps.toList p.cps.toList&&risingS x r)=true:=h
  rw[Bool.and_eq_true,ltCps_eq] at h'
  have hx:Ac p x:=by simpa[Ac] using h'.1
  have ih:=vF r x h'.2
  refine eI.mpr ⟨λy hy=>?_,ih⟩
  rcases aN.mp hy with rfl|hy
  ·exact hx
  ·exact hx.trans ((eI.mp ih).1 y hy)
theorem qm:∀{l:List Str},sortedS l=true->l.Pairwise Ac
 |[],_=>List.Pairwise.nil
 |x::r,h=>vF r x h
theorem Fl:∀{l m:List Str},l.Pairwise Ac->m.Pairwise Ac->l.Nodup->m.Nodup->(∀x,x∈l↔x∈m)->l=m
 |[],[],_,_,_,_,_=>rfl
 |[],y::m,_,_,_,_,h=>absurd ((h y).mpr bg) (by simp)
 |x::l,[],_,_,_,_,h=>absurd ((h x).mp bg) (by simp)
 |x::l,y::m,hl,hm,nl,nm,h=>by
  have hl':=eI.mp hl
  have hm':=eI.mp hm
  have nl':=bX.mp nl
  have nm':=bX.mp nm
  have e:x=y:=by
   rcases aN.mp ((h x).mp bg) with e|hx
   ·exact e
   ·rcases aN.mp ((h y).mpr bg) with e|hy
    ·exact e.symm
    ·exact Ac.anti (hl'.1 y hy) (hm'.1 x hx)
  subst e
  have:l=m:=Fl hl'.2 hm'.2 nl'.2 nm'.2 λz=>by
   constructor
   ·intro hz
    rcases aN.mp ((h z).mp (bh _ hz)) with rfl|q
    ·exact absurd hz nl'.1
    ·exact q
   ·intro hz
    rcases aN.mp ((h z).mpr (bh _ hz)) with rfl|q
    ·exact absurd hz nm'.1
    ·exact q
  rw[this]
end L2
end
section
namespace Bg
open PySem L2
def Tp(H H':Hp):Prop:=∀p xs,H p=some (.tup xs)->H' p=some (.tup xs)
theorem Tp.refl(H:Hp):Tp H H:=λ_ _ h=>h
theorem Tp.trans{H H1 H2:Hp}(x:Tp H H1)(y:Tp H1 H2):Tp H H2:=λp xs h=>y p xs (x p xs h)
theorem Tp.of_same{H H':Hp}(x:aM H H'):Tp H H':=λp xs h=>x p _ h
theorem Tp.lst{p:Addr}{H H1:Hp}{ys:List V}{o:HO}(x:Tp H H1)(hp:H1 p=some (.lst ys)):Tp H (aP H1 p o):=λb xs h=>by
 have h1:=x b xs h
 rw[az (by rintro rfl;rw[h1] at hp;cases hp)];exact h1
structure bj{α:Type}(R:V->α->Prop)(vs:List V)(rs:List α):Prop where
 len:vs.length=rs.length
 at_:∀(i:Nat) v r,vs[i]?=some v->rs[i]?=some r->R v r
theorem bj.nil{α:Type}{R:V->α->Prop}:bj R [] []:=⟨rfl,λi v r h=>by simp at h⟩
theorem bj.imp{α:Type}{R R':V->α->Prop}{vs:List V}{rs:List α}(h:bj R vs rs)(f:∀v r,R v r->R' v r):bj R' vs rs:=⟨h.len,λi v r a b=>f v r (h.at_ i v r a b)⟩
theorem bj.snoc{α:Type}{R:V->α->Prop}{vs:List V}{rs:List α}{v:V}{r:α}(h:bj R vs rs)(q:R v r):bj R (vs++[v]) (rs++[r]):=by
 refine⟨by simp[h.len],λi w t a b=>?_⟩
 by_cases hi:i<vs.length
 ·rw[ar hi] at a
  rw[ar (by rw[<-h.len];exact hi)] at b
  exact h.at_ i w t a b
 ·rw[ao (by omega)] at a
  rw[ao (by rw[<-h.len];omega)] at b
  have e:i-vs.length=0:=by
   have:=(ae.mp a).1
   simp at this;omega
  rw[e] at a
  rw[<-h.len,e] at b
  simp at a b
  rw[<-a,<-b];exact q
theorem bj.get{α:Type}{R:V->α->Prop}{vs:List V}{rs:List α}(h:bj R vs rs){i:Nat}(hi:i<rs.length):∃v r,vs[i]?=some v/\rs[i]?=some r/\R v r:=by
 have h1:i<vs.length:=by rw[h.len];exact hi
 exact⟨vs[i],rs[i],aa h1,aa hi,h.at_ i _ _ (aa h1) (aa hi)⟩
theorem bj.of_v{α:Type}{R:V->α->Prop}{vs:List V}{rs:List α}(h:bj R vs rs){i:Nat}{v:V}(e:vs[i]?=some v):∃r,rs[i]?=some r/\R v r:=by
 have h1:=(ae.mp e).1
 obtain⟨v',r,e1,e2,q⟩:=h.get (i:=i) (by rw[<-h.len];exact h1)
 rw[e] at e1;cases e1
 exact⟨r,e2,q⟩
def jq(K:Fg)(H:Hp)(a:Addr)(ns:List Int):Prop:=
 (∃o,H a=some (.frz o (.lst (ns.map V.int))))\/∃(o:Obj) (its:Array Value) (n:Nat),K.lookup a=some o/\o.cls=.type "list"/\o.dict=none/\o.data=.seq its n/\its.size<=sizeLine/\bV (ns.map V.int) its.toList
theorem jq.sq{K:Fg}{H:Hp}{a:Addr}{ns:List Int}(h:jq K H a ns):cq K H a (ns.map V.int):=by
 rcases h with⟨o,h⟩|h
 ·exact .inl (.inr ⟨o,h⟩)
 ·exact .inr h
def Fz(H H':Hp):Prop:=∀p o u,H p=some (.frz o u)->H' p=some (.frz o u)
theorem Fz.of_but{a:Addr}{ys:List V}{H H':Hp}(x:iz a H H')(ha:H a=some (.lst ys)):Fz H H':=λp o u h=>x p _ (by rintro rfl;rw[h] at ha;cases ha) h
theorem Fz.of_same{H H':Hp}(x:aM H H'):Fz H H':=λp o u h=>x p _ h
theorem jq.mono{K:Fg}{H H':Hp}{a:Addr}{ns:List Int}(h:jq K H a ns)(f:Fz H H'):jq K H' a ns:=by
 rcases h with⟨o,h⟩|h
 ·exact .inl ⟨o,f _ _ _ h⟩
 ·exact .inr h
def k8(K:Fg)(H:Hp)(st:Addr)(k:Nat):Prop:=∃scr ns c,H st=some (.lst [.ref scr,.int (k:Nat),.int c])/\jq K H scr ns/\ns.length<=63
theorem k8.lst{K:Fg}{H:Hp}{st:Addr}{k:Nat}(h:k8 K H st k):∃ys,H st=some (.lst ys):=by
 obtain⟨scr,ns,c,e,_⟩:=h;exact⟨_,e⟩
theorem k8.mono{K:Fg}{H H':Hp}{a st:Addr}{k:Nat}{ys:List V}(h:k8 K H st k)(x:iz a H H')(ha:H a=some (.lst ys))(n:st≠a):k8 K H' st k:=by
 obtain⟨scr,ns,c,e,q,l⟩:=h
 exact⟨scr,ns,c,x _ _ n e,q.mono (.of_but x ha),l⟩
theorem k8.same{K:Fg}{H H':Hp}{st:Addr}{k:Nat}(h:k8 K H st k)(x:aM H H'):k8 K H' st k:=by
 obtain⟨scr,ns,c,e,q,l⟩:=h
 exact⟨scr,ns,c,x _ _ e,q.mono (.of_same x),l⟩
theorem k8.new{K:Fg}{H:Hp}{st p:Addr}{o:HO}{k:Nat}(h:k8 K H st k)(hp:H p=none):k8 K (aP H p o) st k:=h.same ((aM.refl H).new hp)
def eB(K:Fg):Sp:=λvs H Q _=>∃(st:Addr) (m:Int) (k:Nat),vs=[.ref st,.int m]/\k8 K H st k/\k<=1000000/\0<m/\m<2 ^ 64/\
 ∀(d:Int) (H':Hp),0<=d->d<m->k8 K H' st (k+1)->iz st H H'->Q (.int d) H'
def FL:List Str:=["part","call","say","jump","test","give"]
structure Nm(y:Str):Prop where
 l1:1<=y.length
 l8:y.length<=8
 GM:∀c∈y.cps.toList,97<=c/\c<=122
 no:y∉FL
def tI(K:Fg):Sp:=λvs H Q _=>∃(st:Addr) (n k:Nat),vs=[.ref st,.int (n:Nat)]/\k8 K H st k/\k<=900000/\n<=20/\
 ∀(l:Addr) (ys:List Str) (k':Nat) (H':Hp),H l=none->ys.length=n->ys.Nodup->(∀y∈ys,Nm y)->H' l=some (.lst (ys.map V.str))->k8 K H' st k'->k'<=k+11->iz st H H'->Q (.ref l) H'
def xu(K:Fg):Sp:=λvs H Q _=>∃(scr:Addr) (ns:List Int),vs=[.ref scr]/\jq K H scr ns/\ns.length<=63/\∀H',Q (.bl true) H'
abbrev Jv:Nat:=0
abbrev Jd:Nat:=1
abbrev G2:Nat:=1
abbrev GA:Nat:=2
theorem di{c:Prop}[Decidable c]{A B:Prop}(h1:c->A)(h2:¬c->B):if decide c=true then A else B:=by
 by_cases h:c
 ·rw[decide_eq_true h];exact qa (h1 h)
 ·rw[decide_eq_false h];exact iE (h2 h)
theorem og{c:Prop}[Decidable c]{A B:Prop}(h1:¬c->A)(h2:c->B):if(!decide c)=true then A else B:=by
 by_cases h:c
 ·rw[decide_eq_true h];exact iE (h2 h)
 ·rw[decide_eq_false h];exact qa (h1 h)
theorem K2{b:Bool}{A B:Prop}(h1:b=true->A)(h2:b=false->B):if b=true then A else B:=by
 cases b with
 |true=>exact qa (h1 rfl)
 |false=>exact iE (h2 rfl)
theorem wA{α:Type}{xs:List α}{i:Int}{v:α}(h0:0<=i)(e:xs[i.toNat]?=some v):GO xs i=some v:=by
 have h1:=(ae.mp e).1
 unfold GO GZ
 rw[if_pos h0,if_pos (by lia)]
 exact e
theorem mP{K:Fg}{p:Addr}{xs:List V}{i:Int}{v:V}{H:Hp}{Q:VK}(h:cq K H p xs)(h0:0<=i)(e:xs[i.toNat]?=some v)(q:Q v H):eU K (.ref p) (.int i) H Q:=
 .inl ⟨p,xs,i,v,rfl,rfl,h,wA h0 e,q⟩
theorem uj{K:Fg}{p:Addr}{xs:List V}{i:Int}{v:V}{H:Hp}{Q:VK}(h:H p=some (.tup xs))(h0:0<=i)(e:xs[i.toNat]?=some v)(q:Q v H):eU K (.ref p) (.int i) H Q:=
 .inr (.inl ⟨p,xs,i,v,rfl,rfl,cE.of h,wA h0 e,q⟩)
theorem L7{K:Fg}{z:Str}{i:Int}{c:Nat}{H:Hp}{Q:VK}(hz:z.length<=sizeLine)(h0:0<=i)(e:z.cps.toList[i.toNat]?=some c)(q:Q (.str ⟨#[c]⟩) H):eU K (.str z) (.int i) H Q:=
 .inr (.inr ⟨z,i,c,rfl,rfl,hz,wA h0 e,q⟩)
theorem Kq{p:Addr}{xs:List V}{i:Int}{v:V}{H:Hp}{Q:Hp->Prop}(h:H p=some (.lst xs))(h0:0<=i)(h1:i.toNat<xs.length)(q:Q (aP H p (.lst (xs.set i.toNat v)))):yY (.ref p) (.int i) v H Q:=by
 refine⟨p,xs,i,i.toNat,rfl,rfl,h,?_,q⟩
 unfold GZ
 rw[if_pos h0,if_pos (by lia)]
theorem bH{n:Nat}(h:n<=100000):n<sizeLine:=cM h (by decide)
theorem fm{D:Addr}{te:TE}{E:kU}{σ:St}{H:Hp}(h:te σ H λy H2=>∃ys,H2 D=some (.lst ys)/\ys.length<sizeLine/\E.nx σ (aP H2 D (.lst (ys++[y])))):jI D jN te E σ H:=by
 unfold jI jN
 dsimp only
 rw[if_pos rfl]
 exact h
theorem sr(xs:List V)(c:Nat):mB xs none (some (c:Int))=xs.take c:=by
 unfold mB
 rw[HT.sIx_none,HT.sIx_nat,f7,Nat.sub_zero,<-List.take_eq_take_min]
theorem yi(xs:List V)(c:Nat):mB xs (some (c:Int)) none=xs.drop c:=by
 unfold mB
 rw[HT.sIx_none,HT.sIx_nat]
 by_cases h:c<=xs.length
 ·rw[Nat.min_eq_left h];exact cW (by rw[cz];lia)
 ·rw[Nat.min_eq_right (by lia),fi,f6 (by lia),List.take_nil]
theorem vg(ys:List Str):(ys.map V.str).all ir=true:=by
 rw[dH]
 intro v hv
 obtain⟨y,_,rfl⟩:=aE.mp hv
 rfl
theorem yy(y:Str)(ls:List Str):AF (.str y) (ls.map V.str)=decide (y∈ls):=by
 unfold AF
 rw[List.any_map,Bool.eq_iff_iff,fh,decide_eq_true_eq]
 constructor
 ·rintro⟨z,hz,e⟩
  have e':(z==y)=true:=e
  have:z=y:=by simpa using e'
  rw[<-this];exact hz
 ·intro h
  exact⟨y,h,by show(y==y)=true;simp⟩
structure Wk where
 ins:List Str
 out:Option Str
def fX:Option Str->V
 |none=>.non
 |some y=>.str y
def D9(H:Hp)(v:V)(w:Wk):Prop:=∃p t,v=.ref p/\H p=some (.tup [.ref t,fX w.out])/\H t=some (.tup (w.ins.map V.str))
theorem D9.tp{H H':Hp}{v:V}{w:Wk}(h:D9 H v w)(x:∀b xs,H b=some (.tup xs)->H' b=some (.tup xs)):D9 H' v w:=by
 obtain⟨p,t,e,a,b⟩:=h
 exact⟨p,t,e,x _ _ a,x _ _ b⟩
def wn(last:List Str):List Wk->Str->Bool
 |[],y=>decide (y∈last)
 |w::r,y=>decide (y∈w.ins) || (!decide (w.out=some y)&&wn last r y)
def GL(H:Hp)(v:V)(ss:List Str):Prop:=∃p,v=.ref p/\H p=some (.tup (ss.map V.str))
structure Ai(last:List Str)(ws:List Wk)(k:Nat)(ss:List Str):Prop where
 srt:ss.Pairwise Ac
 nd:ss.Nodup
 mem:∀y,y∈ss↔wn last (ws.drop k) y=true
structure kZ(last:List Str)(ws:List Wk)(pss:List (List Str)):Prop where
 len:pss.length=ws.length+1
 at_:∀(k:Nat) ss,pss[k]?=some ss->Ai last ws k ss
theorem kZ.one{last:List Str}{ws:List Wk}{pss qss:List (List Str)}(h:kZ last ws pss)(h':kZ last ws qss):pss=qss:=by
 refine dR λk=>?_
 rcases b6 k (ws.length+1) with lt|ge
 ·obtain⟨a,ea⟩:∃a,pss[k]?=some a:=⟨_,aa (by rw[h.len];exact lt)⟩
  obtain⟨b,eb⟩:∃b,qss[k]?=some b:=⟨_,aa (by rw[h'.len];exact lt)⟩
  have A:=h.at_ k a ea
  have B:=h'.at_ k b eb
  rw[ea,eb,Fl A.srt B.srt A.nd B.nd λx=>by rw[A.mem,B.mem]]
 ·rw[aW (by rw[h.len];exact ge),aW (by rw[h'.len];exact ge)]
structure Bx(dd last:List Str)(ws:List Wk):Prop where
 d64:dd.length<64
 w100:ws.length<=100
 l100:last.length<=100
 ins:∀w∈ws,w.ins.length<=100/\∀y∈w.ins,y∈dd
 lst:∀y∈last,y∈dd
def jd(H:Hp)(wp lt:Addr)(ws:List Wk)(last:List Str):Prop:=(∃wvs,H wp=some (.tup wvs)/\bj (D9 H) wvs ws)/\H lt=some (.tup (last.map V.str))
def iU(_:Fg):Sp:=λvs H Q _=>∃(t:Addr) (m:Option Str) (ss:List Str),vs=[.ref t,fX m]/\H t=some (.tup (ss.map V.str))/\ss.length<=1000/\
 ∀(p:Addr) (H':Hp),H' p=some (.tup ((ss.filter λy=>!decide (m=some y)).map V.str))->aM H H'->Q (.ref p) H'
def fc(_:Fg):Sp:=λvs H Q _=>∃(wp lt:Addr) (ws:List Wk) (last dd:List Str),vs=[.ref wp,.ref lt]/\jd H wp lt ws last/\Bx dd last ws/\
 ∀(l:Addr) (tvs:List V) (pss:List (List Str)) (H':Hp),H l=none->H' l=some (.lst tvs)->bj (GL H') tvs pss->kZ last ws pss->aM H H'->Q (.ref l) H'
def uz(pl:Int)(ws:List Wk)(pss:List (List Str)):Nat->Nat->Option (Str×Nat×List Str)
 |0,_=>none
 |f+1,k=>
  if pl<((pss.getD k []).length:Int) then some ("ahead",k,pss.getD k []) else
  match(ws[k]?).bind (·.out) with
  |some y=>if pl-1<(((pss.getD (k+1) []).filter λz=>!decide (some y=some z)).length:Int) then some ("behind",k,(pss.getD (k+1) []).filter λz=>!decide (some y=some z)) else uz pl ws pss f (k+1)
  |none=>uz pl ws pss f (k+1)
def KC(H:Hp)(v:V):Option (Str×Nat×List Str)->Prop
 |none=>v=.non
 |some (wd,k,ss)=>∃p t,v=.ref p/\H p=some (.tup [.str wd,.int (k:Nat),.ref t])/\H t=some (.tup (ss.map V.str))
def iT(_:Fg):Sp:=λvs H Q _=>∃(pl:Int) (wp lt:Addr) (ws:List Wk) (last dd:List Str) (pss:List (List Str)),vs=[.int pl,.ref wp,.ref lt]/\jd H wp lt ws last/\Bx dd last ws/\kZ last ws pss/\
 ∀(v:V) (H':Hp),KC H' v (uz pl ws pss (ws.length+1) 0)->aM H H'->Q v H'
def kr(_:Fg):Sp:=λvs H Q _=>∃(pl:Int) (wp l:Addr) (wvs tvs:List V) (ws:List Wk) (pss:List (List Str)),vs=[.int pl,.ref wp,.ref l]/\H wp=some (.tup wvs)/\bj (D9 H) wvs ws/\H l=some (.lst tvs)/\bj (GL H) tvs pss/\
 pss.length=ws.length+1/\ws.length<=100/\(∀ss∈pss,ss.length<=1000)/\∀(v:V) (H':Hp),KC H' v (uz pl ws pss (ws.length+1) 0)->aM H H'->Q v H'
def lR(K:Fg):Sp:=λvs H Q _=>∃(st nm:Addr) (k:Nat) (ys:List Str),vs=[.ref st,.ref nm]/\k8 K H st k/\k<=900000/\nm≠st/\H nm=some (.lst (ys.map V.str))/\ys.length<=20/\
 ∀(m:Option Str) (H':Hp),(∀y,m=some y->y∈ys)->k8 K H' st (k+1)->iz st H H'->Q (fX m) H'
def tJ(K:Fg):Sp:=λvs H Q _=>∃(st nm:Addr) (m k:Nat) (ys:List Str),vs=[.ref st,.ref nm,.int (m:Nat)]/\k8 K H st k/\k<=500000/\nm≠st/\H nm=some (.lst (ys.map V.str))/\1<=ys.length/\ys.length<=20/\m<=100/\
 ∀(wp:Addr) (wvs:List V) (ws:List Wk) (k':Nat) (H':Hp),H' wp=some (.tup wvs)->bj (D9 H') wvs ws->ws.length<=m->(∀w∈ws,w.ins.length<=8/\(∀y∈w.ins,y∈ys))->k8 K H' st k'->k'<=k+2000->iz st H H'->Q (.ref wp) H'
def ku(_:Fg):Sp:=λvs H Q _=>∃(wp lt:Addr) (k:Nat) (y:Str) (ws:List Wk) (last:List Str),vs=[.ref wp,.ref lt,.int (k:Nat),.str y]/\jd H wp lt ws last/\k<=ws.length/\
 ∀(H':Hp),aM H H'->Q (.bl (wn last (ws.drop k) y)) H'
def jY(_:Fg):Sp:=λvs H Q _=>∃(wp lt nm:Addr) (ws:List Wk) (last ys:List Str),vs=[.ref wp,.ref lt,.ref nm]/\jd H wp lt ws last/\Bx ys last ws/\H nm=some (.lst (ys.map V.str))/\ys.Nodup/\
 ∀(l:Addr) (tvs:List V) (pss:List (List Str)) (H':Hp),H l=none->H' l=some (.lst tvs)->bj (GL H') tvs pss->kZ last ws pss->aM H H'->Q (.ref l) H'
def xt(K:Fg):Sp:=λvs H Q _=>∃(st nm:Addr) (m k:Nat) (ys:List Str),vs=[.ref st,.ref nm,.int (m:Nat)]/\k8 K H st k/\k<=500000/\nm≠st/\H nm=some (.lst (ys.map V.str))/\ys.length<=20/\m<=100/\
 ∀(lt:Addr) (last:List Str) (k':Nat) (H':Hp),H' lt=some (.tup (last.map V.str))->last.length<=20->last.length<=m->(∀y∈last,y∈ys)->k8 K H' st k'->k'<=k+100->iz st H H'->Q (.ref lt) H'
abbrev yL:Nat:=0
abbrev xP:Nat:=1
abbrev uI:Nat:=1
abbrev uv:Nat:=2
abbrev yJ:Nat:=2
abbrev xN:Nat:=3
abbrev G3:Nat:=1
abbrev GB:Nat:=2
abbrev G4:Nat:=2
abbrev GC:Nat:=3
abbrev yH:Nat:=0
abbrev xK:Nat:=1
abbrev EU:Nat:=1
abbrev DW:Nat:=2
abbrev CZ:Nat:=0
abbrev Cz:Nat:=1
abbrev Jw:Nat:=1
abbrev Je:Nat:=2
def BW(b:List V)(x:V):List V:=(x::b).take b.length
def lP(_:Fg):Sp:=λvs H Q _=>∃(b:Addr) (x:V) (xs:List V),vs=[.ref b,x]/\H b=some (.tup xs)/\xs≠[]/\xs.length<=1000/\
 ∀(p:Addr) (H':Hp),H' p=some (.tup (BW xs x))->aM H H'->Q (.ref p) H'
abbrev AH:Nat:=0
abbrev zY:Nat:=1
section
variable(f:Nat->Nat)(p:Nat->Bool)
variable{f p}
end
def oV:Option Str->V
 |none=>.non
 |some y=>.str y
def cL(os:List (Option Str)):List V:=os.map oV
theorem wU(o:Option Str):ir (oV o)=true:=by cases o<;>rfl
theorem sL(os:List (Option Str)):(cL os).all ir=true:=by
 rw[dH]
 intro v hv
 obtain⟨y,_,rfl⟩:=aE.mp hv
 exact wU y
theorem cK(os:List (Option Str)):(cL os).length=os.length:=af ..
theorem rq{os:List (Option Str)}{i:Nat}{o:Option Str}(h:os[i]?=some o):(cL os)[i]?=some (oV o):=by
 unfold cL;rw[aH,h];rfl
theorem qe{os:List (Option Str)}{i:Nat}{v:V}(h:(cL os)[i]?=some v):∃o,os[i]?=some o/\v=oV o:=by
 unfold cL at h
 rw[aH] at h
 cases e:os[i]? with
 |none=>rw[e] at h;cases h
 |some o=>rw[e] at h;exact⟨o,rfl,(Option.some.inj h).symm⟩
theorem BG(a b:Option Str):yt (oV a) (oV b)=decide (a=b):=by
 cases a with
 |none=>cases b with
  |none=>rfl
  |some y=>rfl
 |some x=>cases b with
  |none=>rfl
  |some y=>
   show(x==y)=decide (some x=some y)
   rw[Bool.eq_iff_iff,beq_iff_eq,decide_eq_true_eq]
   exact⟨λh=>by rw[h],λh=>Option.some.inj h⟩
theorem wV{a b:Option Str}(h:oV a=oV b):a=b:=by
 cases a with
 |none=>cases b with
  |none=>rfl
  |some y=>cases h
 |some x=>cases b with
  |none=>cases h
  |some y=>injection h with h;rw[h]
theorem E3{a:Option Str}:oV a=.non↔a=none:=⟨λh=>wV (b:=none) h,λh=>by rw[h];rfl⟩
def mT(os:List (Option Str))(x:Option Str):List (Option Str):=(x::os).take os.length
theorem Kc(os:List (Option Str))(x:Option Str):BW (cL os) (oV x)=cL (mT os x):=by
 unfold BW mT cL
 rw[af,mH,bJ]
def blank(x:Str)(o:Option Str):Option Str:=if o=some x then none else o
def iD(os:List (Option Str))(x:Str):List (Option Str):=mT (os.map (blank x)) (some x)
def Ja(p:Option Str×Option Str):Bool:=decide (p.1=none) || decide (p.1=p.2)
def zO(as bs:List (Option Str)):Bool:=((as.zip bs).map Ja).all id
def lQ(_:Fg):Sp:=λvs H Q _=>∃(a b:Addr) (as bs:List (Option Str)),vs=[.ref a,.ref b]/\H a=some (.tup (cL as))/\H b=some (.tup (cL bs))/\as.length=bs.length/\as.length<=1000/\
 ∀H',aM H H'->Q (.bl (zO as bs)) H'
def hV(_:Fg):Sp:=λvs H Q _=>∃(a:Addr) (os:List (Option Str)) (x:Str),vs=[.ref a,.str x]/\H a=some (.tup (cL os))/\os≠[]/\os.length<=1000/\
 ∀(p:Addr) (H':Hp),H' p=some (.tup (cL (iD os x)))->aM H H'->Q (.ref p) H'
abbrev AK:Nat:=0
abbrev z9:Nat:=1
abbrev wO:Nat:=1
abbrev v7:Nat:=2
def cC(ns:List Str)(acc:List (Option Str))(o:Option Str):List (Option Str):=acc++[if o∈ns.map some/\o∉acc then o else none]
def b5(os:List (Option Str))(ns:List Str):List (Option Str):=os.foldl (cC ns) []
def iV(_:Fg):Sp:=λvs H Q _=>∃(b n:Addr) (os:List (Option Str)) (ns:List Str),vs=[.ref b,.ref n]/\H b=some (.tup (cL os))/\H n=some (.tup (ns.map V.str))/\os.length<=1000/\
 ∀(p:Addr) (H':Hp),H' p=some (.tup (cL (b5 os ns)))->aM H H'->Q (.ref p) H'
abbrev ES:Nat:=0
abbrev DU:Nat:=1
theorem lO(ns:List Str):∀(os acc:List (Option Str)),(os.foldl (cC ns) acc).length=acc.length+os.length
 |[],acc=>by simp
 |o::r,acc=>by
  rw[fI,lO ns r]
  unfold cC
  rw[ai,aI,bD]
  omega
theorem eP(os:List (Option Str))(ns:List Str):(b5 os ns).length=os.length:=by unfold b5;rw[lO];simp
def qz(os:List (Option Str))(k:Nat):Prop:=∀j,j<k->os[j]?≠os[k]?
def Ji(os:List (Option Str))(ns:List Str)(k:Nat)(o w:Option Str):Prop:=((o∈ns.map some/\qz os k)->w=o)/\(¬(o∈ns.map some/\qz os k)->w=none)
theorem vI(os:List (Option Str))(ns:List Str):∀i,i<=os.length->(((os.take i).foldl (cC ns) []).length=i/\∀k o,k<i->os[k]?=some o->∃w,((os.take i).foldl (cC ns) [])[k]?=some w/\Ji os ns k o w)
 |0,_=>⟨by simp,λk o h=>absurd h (dy _)⟩
 |i+1,hi=>by
  obtain⟨hl,ih⟩:=vI os ns i (by omega)
  have hx:os[i]?=some os[i]:=aa (by omega)
  have et:os.take (i+1)=os.take i++[os[i]]:=by rw[gd,hx];rfl
  rw[et,dU]
  generalize hacc:(os.take i).foldl (cC ns) []=acc at hl ih
  show(cC ns acc os[i]).length=i+1/\∀k o,k<i+1->os[k]?=some o->∃w,(cC ns acc os[i])[k]?=some w/\Ji os ns k o w
  unfold cC
  refine⟨by rw[ai,hl];rfl,λk o hk ho=>?_⟩
  by_cases hki:k<i
  ·rw[ar (by omega)]
   exact ih k o hki ho
  ·have:k=i:=by omega
   subst this
   rw[ao (by omega),hl,a9]
   rw[hx] at ho
   cases ho
   refine⟨_,rfl,?_⟩
   have key:os[k]∈ns.map some->(os[k]∈acc↔¬qz os k):=λhm=>by
    constructor
    ·intro hin hf
     obtain⟨j,hj,e⟩:=aT.mp hin
     have hj':j<k:=by omega
     obtain⟨w,hw,pk⟩:=ih j os[j] hj' (aa (by omega))
     rw[aa hj] at hw
     have hw':acc[j]=w:=Option.some.inj hw
     by_cases c:os[j]∈ns.map some/\qz os j
     ·have:=pk.1 c
      refine hf j hj' ?_
      rw[hx,aa (show j<os.length by omega),<-this,<-hw',e]
     ·have:=pk.2 c
      rw[<-e,hw',this] at hm
      simp at hm
    ·intro hf
     have hex:∃j,j<k/\os[j]?=os[k]?:=by
      apply Classical.byContradiction
      intro hn
      exact hf λj hj e=>hn ⟨j,hj,e⟩
     have least:∀m:Nat,(∃j:Nat,j<m/\os[j]?=os[k]?)->∃j:Nat,os[j]?=os[k]?/\j<m/\∀j',j'<j->os[j']?≠os[k]?:=by
      intro m
      induction m with
      |zero=>rintro⟨j,hj,_⟩;exact absurd hj (dy _)
      |succ m ihm=>
       rintro⟨j,hj,e⟩
       by_cases c:∃j,j<m/\os[j]?=os[k]?
       ·obtain⟨j2,e2,l2,n2⟩:=ihm c
        exact⟨j2,e2,by omega,n2⟩
       ·have:j=m:=by
         apply Classical.byContradiction
         intro z
         exact c ⟨j,by omega,e⟩
        subst this
        exact⟨j,e,by omega,λj' h' e'=>c ⟨j',h',e'⟩⟩
     obtain⟨j,e,hj,hn⟩:=least k hex
     have hj0:os[j]?=some os[k]:=by rw[e,hx]
     obtain⟨w,hw,pk⟩:=ih j os[k] hj hj0
     have:=pk.1 ⟨hm,λj' h' z=>hn j' h' (z.trans e)⟩
     rw[this] at hw
     exact aG hw
   constructor
   ·rintro⟨h1,h2⟩
    rw[if_pos ⟨h1,λz=>(key h1).mp z h2⟩]
   ·intro h
    rw[if_neg λz=>h ⟨z.1,Classical.byContradiction λy=>z.2 ((key z.1).mpr y)⟩]
theorem xo{os:List (Option Str)}{ns:List Str}{k:Nat}{o:Option Str}(h:os[k]?=some o):∃w,(b5 os ns)[k]?=some w/\Ji os ns k o w:=by
 have hk:=(ae.mp h).1
 have:=(vI os ns os.length (au _)).2 k o hk h
 rw[bf] at this
 exact this
theorem II(o:Option Str)(os:List (Option Str)):AF (oV o) (cL os)=decide (o∈os):=by
 unfold AF cL
 rw[List.any_map,Bool.eq_iff_iff,fh,decide_eq_true_eq]
 constructor
 ·rintro⟨z,hz,e⟩
  have e':yt (oV z) (oV o)=true:=e
  rw[BG,decide_eq_true_eq] at e'
  rw[<-e'];exact hz
 ·intro h
  exact⟨o,h,by show yt (oV o) (oV o)=true;rw[BG];exact decide_eq_true rfl⟩
theorem FW(ns:List Str):ns.map V.str=cL (ns.map some):=by unfold cL;rw[cU];rfl
end Bg
end
section
namespace L2
open PySem PySem.Spec PyProof.Rows
theorem JG{kvs:List (kY×V)}{vs:List (kY×Value)}(r:KV kvs vs):∀{i:Nat} {p:kY×V} {q:kY×Value},kvs[i]?=some p->vs[i]?=some q->p.1=q.1/\cA p.2 q.2:=by
 induction r with
 |nil=>intro i p q e _;simp at e
 |@cons a b as bs h _ ih=>
  intro i p q e1 e2
  match i with
  |0=>cases e1;cases e2;exact h
  |i+1=>exact ih e1 e2
section
variable{X:Cx}{tg:Expr}
structure M0(X:Cx)(o:Expr)(m:Str)(apos cpos:Pos):Prop where
 base:attributeBase o m X.env (eval o X.env)=eval o X.env
 line:(apos.endLine==cpos.line)=true
end
section
variable{X:Cx}{tg l o e f:Expr}{tl td ty tx:TE}{apos cpos:Pos}
theorem yW(ho:QE X o td)(he:QE X e ty)(hf:QE X f tx)(m:M2 X o "setdefault" apos e f cpos):QE X (.Call (.Attribute o "setdefault" apos) [e,f] [] cpos) (tN td ty tx):=⟨Fc ho.up he.up hf.up m⟩
theorem EI{A:Around}{k:Nat}(hr:gN k A):A.units+5<cLine:=cM (Nat.add_le_add_left (by decide:5<=64) _) hr.units
end
def xZ(h:Heap)(d:Addr)(es:Array DictEntry)(ep:Nat):Prop:=∃o,h.get? d=some o/\o.ExactDict/\o.data=.dict es ep
section
variable{prog:Program}{w:World}{A:Around}{E:Value->Shared->Prop}{s:Shared}{it d:Addr}{i ep:Nat}{es:Array DictEntry}
theorem FH{Q:Value->Shared->Prop}(lo:(d==sysModules)=false)(x:xZ s.heap d es ep)
  (q:Q (.ref s.heap.objs.size) {s with heap:=s.heap.push {cls:=.type "dict_keyiterator",data:=.fields #[.ref d,.int 0 0,.int es.size 0,.int ep 0]}}):wpAny (model prog w) A (pyIter (.ref d)) Q E s:=by
 obtain⟨o,ho,hc,hd⟩:=x
 have hT:s.TypeIs (.ref d) "dict":=⟨o,ho,hc.1⟩
 refine wpAny_pyIter_slot hT F.slot_dict_iter (wpAny_call_entry F.slot_dict_iter hT F.entry_dict_iter ?_ (F.args_dict_iter_1 _))
 unfold Builtin.«dict.__iter__» Builtin.Dict.dictSlotNone
 refine wpAny_bind (wpAny_bind (wpAny_notOrdered_dict hT ?_))
 refine wpAny_pure (?_:wpAny _ _ (Builtin.Dict.showsAll d >>= _) _ _ s)
 unfold Builtin.Dict.showsAll
 rw[if_neg (by rw[lo];exact Bool.false_ne_true)]
 refine wpAny_bind (wpAny_pure (wpAny_bind (wpAny_dictEntries ho hd (wpAny_bind (wpAny_dictEpoch ho hd ?_)))))
 refine wpAny_bind (wpAny_newObj_type (wpAny_pure ⟨_,rfl,"dict_keyiterator",_,⟨_,ax _ rfl,rfl⟩,F.slot_dict_keyiterator_next.lookup,?_⟩))
 simpa[rawInt] using q
theorem FI{Q:Option Value->Shared->Prop}(hit:s.heap.IsKeyIter it d i es.size ep)(x:xZ s.heap d es ep)(hi:i<es.size)
  (q:∀h',h'.IsKeyIter it d (i+1) es.size ep->Heap.SameBut it s.heap h'->Q (some es[i].key) {s with heap:=h'}):wpAny (model prog w) A (pyNext (.ref it)) Q E s:=by
 obtain⟨o,ho,hc,hd⟩:=id hit
 obtain⟨od,hod,_,hdd⟩:=x
 unfold pyNext
 refine wpAny_bind (wpAny_attempt (wpAny_callSpecial?_slot (name:=Str.ofString "__next__") hit.typeIs F.slot_dict_keyiterator_next (wpAny_call_entry F.slot_dict_keyiterator_next hit.typeIs F.entry_dict_keyiterator_next ?_ (F.args_dict_keyiterator_next_1 _))))
 refine wpAny_bind (wpAny_pure (wpAny_bind (wpAny_bind ?_)))
 first|refine wpAny_bind (wpAny_typeNameOfWhole_keyiter hit.typeIs (wpAny_pure ?_))|refine wpAny_bind (wpAny_typeNameOf_keyiter hit.typeIs (wpAny_pure ?_))
 refine wpAny_bind (wpAny_fieldsOf ho hd ?_)
 simp only[show Builtin.Dict_items.ownsTuple "dict_keyiterator"=false by decide,Bool.false_eq_true,if_false]
 show wpAny _ _ (if(Value.ref d==Value.none)=true then _ else _) _ _ s
 rw[if_neg (show ¬((Value.ref d==Value.none)=true) from Bool.false_ne_true)]
 refine wpAny_bind (wpAny_pure (wpAny_bind (wpAny_dictEntries hod hdd ?_)))
 rw[if_neg (by simp)]
 refine wpAny_bind (wpAny_pure (wpAny_bind (wpAny_dictEpoch hod hdd ?_)))
 rw[if_neg (by simp)]
 refine wpAny_pure ?_
 simp only[show ¬((i:Int)<0) from by omega,if_false,aZ,a6 hi]
 refine wpAny_bind ?_
 first|refine wpAny_bind (wpAny_typeNameOfWhole_keyiter hit.typeIs (wpAny_pure ?_))|refine wpAny_bind (wpAny_typeNameOf_keyiter hit.typeIs (wpAny_pure ?_))
 refine wpAny_bind (wpAny_isOneOf_keyiter hit.typeIs ?_)
 show wpAny _ _ (setField (.ref it) 1 (rawInt ((i:Int)+1)) >>= _) _ _ s
 refine wpAny_bind (wpAny_setField ho hd (by simp) ?_)
 have hit':(s.heap.update it (Obj.mapFields (·.setIfInBounds 1 (rawInt ((i:Int)+1))))).IsKeyIter it d (i+1) es.size ep:=
  ⟨_,bW _ ho (Obj.isFreed_of_fields (Obj.data_mapFields hd _)),(Obj.cls_mapFields ..).trans hc,by rw[Obj.data_mapFields hd];simp[rawInt]⟩
 refine wpAny_bind (wpAny_holding (wpAny_bind (wpAny_isOneOf_keyiter (s:={s with heap:=s.heap.update it (Obj.mapFields (·.setIfInBounds 1 (rawInt ((i:Int)+1))))}) hit'.typeIs ?_)))
 show wpAny _ _ (pure es[i].key) _ _ _
 exact wpAny_pure (wpAny_pure ⟨_,rfl,wpAny_pure (q _ hit' (Heap.SameBut.update ..))⟩)
theorem Ij{Q:Option Value->Shared->Prop}(hh:A.handled=none)(hit:s.heap.IsKeyIter it d i es.size ep)(x:xZ s.heap d es ep)(hi:es.size<=i)
  (q:∀h',Heap.ExtBut it s.heap h'->Q none {s with heap:=h'}):wpAny (model prog w) A (pyNext (.ref it)) Q E s:=by
 obtain⟨o,ho,hc,hd⟩:=id hit
 obtain⟨od,hod,_,hdd⟩:=x
 unfold pyNext
 refine wpAny_bind (wpAny_attempt (wpAny_callSpecial?_slot (name:=Str.ofString "__next__") hit.typeIs F.slot_dict_keyiterator_next (wpAny_call_entry F.slot_dict_keyiterator_next hit.typeIs F.entry_dict_keyiterator_next ?_ (F.args_dict_keyiterator_next_1 _))))
 refine wpAny_bind (wpAny_pure (wpAny_bind (wpAny_bind ?_)))
 first|refine wpAny_bind (wpAny_typeNameOfWhole_keyiter hit.typeIs (wpAny_pure ?_))|refine wpAny_bind (wpAny_typeNameOf_keyiter hit.typeIs (wpAny_pure ?_))
 refine wpAny_bind (wpAny_fieldsOf ho hd ?_)
 simp only[show Builtin.Dict_items.ownsTuple "dict_keyiterator"=false by decide,Bool.false_eq_true,if_false]
 show wpAny _ _ (if(Value.ref d==Value.none)=true then _ else _) _ _ s
 rw[if_neg (show ¬((Value.ref d==Value.none)=true) from Bool.false_ne_true)]
 refine wpAny_bind (wpAny_pure (wpAny_bind (wpAny_dictEntries hod hdd ?_)))
 rw[if_neg (by simp)]
 refine wpAny_bind (wpAny_pure (wpAny_bind (wpAny_dictEpoch hod hdd ?_)))
 rw[if_neg (by simp)]
 refine wpAny_pure ?_
 simp only[show ¬((i:Int)<0) from by omega,if_false,aZ,dD hi]
 refine wpAny_bind ?_
 first|refine wpAny_bind (wpAny_typeNameOfWhole_keyiter hit.typeIs (wpAny_pure ?_))|refine wpAny_bind (wpAny_typeNameOf_keyiter hit.typeIs (wpAny_pure ?_))
 show wpAny _ _ (setField (.ref it) 0 .none >>= _) _ _ s
 refine wpAny_bind (wpAny_setField ho hd (by simp) ?_)
 show wpAny _ _ (newExc (.type "StopIteration") [] >>= _) _ _ _
 refine wpAny_bind ?_
 simp only[newExc,newTuple]
 refine wpAny_bind (wpAny_newObj_type ?_ (by size_fits))
 refine wpAny_bind (m:=firstArgMember _ _) (wpAny_of_eq (a:=Value.none) (by first|rfl|(simp only[firstArgMember];rfl)) (wpAny_newObj_type ?_ (by size_fits)))
 simp only[raiseNew]
 refine wpAny_bind (wpAny_handled ?_)
 rw[show A.in1.handled=none from hh]
 refine wpAny_bind (wpAny_pure (wpAny_throw ?_))
 refine wpAny_bind (wpAny_isInstance (T:="StopIteration") (b:=true) ⟨_,ax _ rfl,rfl⟩ isSubtype_stop ?_)
 exact wpAny_pure (q _ (((Heap.SameBut.update ..).extBut.push _).push _))
end
section
variable{prog:Program}{w:World}{A:Around}{E:Value->Shared->Prop}{s:Shared}{it d:Addr}{i ep:Nat}{es:Array DictEntry}
theorem Dh(d:Addr)(lo:(d==sysModules)=false):MeetsIn prog w (Builtin.«dict.items» ⟨[.ref d],[]⟩) (λ_ R s=>(∃es ep,xZ s.heap d es ep)/\R (.ok (.ret (.ref s.heap.objs.size))) {s with heap:=s.heap.push {cls:=.type "dict_items",data:=.fields #[.ref d]}}):=
 .of_wp λA R s ⟨⟨es,ep,o,ho,hc,_⟩,h⟩=>by
  unfold Builtin.«dict.items» Builtin.Dict.noArgs
  refine wpAny_bind (wpAny_bind (wpAny_notOrdered_dict ⟨o,ho,hc.1⟩ ?_))
  refine wpAny_pure (?_:wpAny _ _ (Builtin.Dict.showsAll d >>= _) _ _ s)
  unfold Builtin.Dict.showsAll
  rw[if_neg (by rw[lo];exact Bool.false_ne_true)]
  exact wpAny_bind (wpAny_pure (wpAny_bind (wpAny_newObj_type (wpAny_pure ⟨_,rfl,h⟩))))
theorem sU{v:Addr}{Q:Value->Shared->Prop}(hv:s.heap.IsItemsView v d)(x:xZ s.heap d es ep)
  (q:Q (.ref s.heap.objs.size) {s with heap:=s.heap.push {cls:=.type "dict_itemiterator",data:=.fields #[.none,.bool false,.ref d,.int 0 0,.int es.size 0,.int ep 0,.none,.none]}}):wpAny (model prog w) A (pyIter (.ref v)) Q E s:=by
 obtain⟨ov,hov,hcv,hdv⟩:=id hv
 obtain⟨o,ho,_,hd⟩:=x
 refine wpAny_pyIter_slot hv.typeIs F.slot_dict_items_iter (wpAny_call_entry F.slot_dict_items_iter hv.typeIs F.entry_dict_items_iter ?_ (F.args_dict_items_iter_1 _))
 unfold Builtin.«dict_items.__iter__»
 refine wpAny_bind (wpAny_pure (wpAny_bind ?_))
 unfold Builtin.Dict_items.dictOf
 refine wpAny_bind (wpAny_field hov hdv (x:=.ref d) rfl (wpAny_pure (wpAny_bind ?_)))
 unfold Builtin.Dict_items.newIterator
 refine wpAny_bind (wpAny_dictEntries ho hd (wpAny_bind (wpAny_dictEpoch ho hd ?_)))
 simp only[show Builtin.Dict_items.ownsTuple "dict_itemiterator"=true by decide,if_true]
 refine wpAny_newObj_type (wpAny_pure ⟨_,rfl,"dict_itemiterator",_,⟨_,ax _ rfl,rfl⟩,F.slot_dict_itemiterator_next.lookup,?_⟩)
  (by simp only[sizeOk,Builtin.Dict_items.ownedTupleFields,ay,ai,bD,fK,sizeLine_eq];omega)
 simpa[rawInt,Builtin.Dict_items.ownedTupleFields] using q
theorem sV{ok ov:Value}{Q:Option Value->Shared->Prop}(hit:IsItemIter s.heap it d i es.size ep ok ov)(x:xZ s.heap d es ep)(hi:i<es.size)
  (q:∀h',IsItemIterOut h' it d (i+1) es.size ep es[i].key es[i].val s.heap.objs.size->h'.get? s.heap.objs.size=some {cls:=.type "tuple",data:=.seq #[es[i].key,es[i].val]}->h'.objs.size=s.heap.objs.size+1->
   (∀b o,b≠it->s.heap.get? b=some o->h'.get? b=some o)->Q (some (.ref s.heap.objs.size)) {s with heap:=h'}):wpAny (model prog w) A (pyNext (.ref it)) Q E s:=by
 obtain⟨hp,g,dr,tk,os⟩:=s
 obtain⟨od,hod,_,hdd⟩:=x
 have hT:Shared.TypeIs ⟨hp,g,dr,tk,os⟩ (.ref it) "dict_itemiterator":=⟨_,hit,rfl⟩
 unfold pyNext
 refine wpAny_bind (wpAny_attempt (wpAny_callSpecial?_slot (name:=Str.ofString "__next__") hT F.slot_dict_itemiterator_next (wpAny_call_entry F.slot_dict_itemiterator_next hT F.entry_dict_itemiterator_next ?_ (F.args_dict_itemiterator_next_1 _))))
 refine wpAny_bind (wpAny_pure (wpAny_bind (wpAny_bind ?_)))
 first|refine wpAny_bind (wpAny_typeNameOfWhole_itemiter hT (wpAny_pure ?_))|refine wpAny_bind (wpAny_typeNameOf_itemiter hT (wpAny_pure ?_))
 refine wpAny_bind (wpAny_fieldsOf hit rfl ?_)
 simp only[show Builtin.Dict_items.ownsTuple "dict_itemiterator"=true by decide,if_true]
 show wpAny _ _ (if(Value.ref d==Value.none)=true then _ else _) _ _ _
 rw[if_neg (show ¬((Value.ref d==Value.none)=true) from Bool.false_ne_true)]
 refine wpAny_bind (wpAny_pure (wpAny_bind (wpAny_dictEntries hod hdd ?_)))
 rw[if_neg (by simp)]
 refine wpAny_bind (wpAny_pure (wpAny_bind (wpAny_dictEpoch hod hdd ?_)))
 rw[if_neg (by simp)]
 refine wpAny_pure ?_
 simp only[show ¬((i:Int)<0) from by omega,if_false,aZ,a6 hi]
 refine wpAny_bind ?_
 first|refine wpAny_bind (wpAny_typeNameOfWhole_itemiter hT (wpAny_pure ?_))|refine wpAny_bind (wpAny_typeNameOf_itemiter hT (wpAny_pure ?_))
 refine wpAny_bind (wpAny_isOneOf_itemiter hT ?_)
 show wpAny _ _ (setField (.ref it) 3 (rawInt ((i:Int)+1)) >>= _) _ _ ⟨hp,g,dr,tk,os⟩
 refine wpAny_bind (wpAny_setField_rec hit (by simp) λh₁ he₁ hs₁=>?_)
 replace hs₁:Heap.SameBut it hp h₁:=hs₁
 replace he₁:IsItemIter h₁ it d (i+1) es.size ep ok ov:=by
  have e:((i+1:Nat):Int)=(i:Int)+1:=by omega
  unfold IsItemIter;rw[e];simpa[rawInt] using he₁
 have hT₁:Shared.TypeIs ⟨h₁,g,dr,tk,os⟩ (.ref it) "dict_itemiterator":=⟨_,he₁,rfl⟩
 refine wpAny_bind (wpAny_holding (wpAny_bind (wpAny_isOneOf_itemiter hT₁ ?_)))
 refine wpAny_bind (wpAny_isOneOf_itemiter hT₁ ?_)
 show wpAny _ _ (Builtin.Dict_items.pairFromOwner (.ref it) 6 es[i].key es[i].val) _ _ ⟨h₁,g,dr,tk,os⟩
 generalize es[i].key=kk at q ⊢
 generalize es[i].val=vv at q ⊢
 unfold Builtin.Dict_items.pairFromOwner
 refine wpAny_bind (wpAny_newTuple ?_)
 have he₂:IsItemIter (h₁.push {cls:=.type "tuple",data:=.seq #[kk,vv]}) it d (i+1) es.size ep ok ov:=ag _ he₁
 generalize hh₂:h₁.push {cls:=.type "tuple",data:=.seq #[kk,vv]}=h₂ at he₂
 have hz₁:h₁.objs.size=hp.objs.size:=hs₁.1
 have hil:it<hp.objs.size:=aD hit
 have ht₂:h₂.get? hp.objs.size=some {cls:=.type "tuple",data:=.seq #[kk,vv]}:=by rw[<-hh₂,<-hz₁];exact ax _ rfl
 have hz₂:h₂.objs.size=hp.objs.size+1:=by rw[<-hh₂,bC,hz₁]
 have hk₂:∀b o,b≠it->hp.get? b=some o->h₂.get? b=some o:=λb o hb e=>by rw[<-hh₂];exact ag _ (hs₁.extBut b o hb e)
 show wpAny _ _ (Builtin.Dict_items.ownedTupleIsFree (.ref it) >>= _) _ _ ⟨h₂,g,dr,tk,os⟩
 rw[hz₁]
 clear hh₂ he₁ hs₁ hT₁ hz₁ h₁
 refine wpAny_bind ?_
 unfold Builtin.Dict_items.ownedTupleIsFree
 refine wpAny_bind (wpAny_field he₂ rfl (x:=.none) rfl (wpAny_pure ?_))
 simp only[if_true]
 refine wpAny_bind (wpAny_field he₂ rfl (x:=ok) rfl (wpAny_bind (wpAny_field he₂ rfl (x:=ov) rfl ?_)))
 refine wpAny_bind (wpAny_setField_rec he₂ (by simp) λh₃ he₃ hs₃=>?_)
 replace hs₃:Heap.SameBut it h₂ h₃:=hs₃
 replace he₃:IsItemIter h₃ it d (i+1) es.size ep kk ov:=he₃
 refine wpAny_bind (wpAny_setField_rec he₃ (by simp) λh₄ he₄ hs₄=>?_)
 replace hs₄:Heap.SameBut it h₃ h₄:=hs₄
 replace he₄:IsItemIter h₄ it d (i+1) es.size ep kk vv:=he₄
 refine wpAny_bind (wpAny_setField_rec he₄ (by simp) λh₅ he₅ hs₅=>?_)
 replace hs₅:Heap.SameBut it h₄ h₅:=hs₅
 replace he₅:IsItemIterOut h₅ it d (i+1) es.size ep kk vv hp.objs.size:=he₅
 refine wpAny_bind (wpAny_setField_rec he₅ (by simp) λh₆ he₆ hs₆=>?_)
 replace hs₆:Heap.SameBut it h₅ h₆:=hs₆
 replace he₆:IsItemIterOut h₆ it d (i+1) es.size ep kk vv hp.objs.size:=he₆
 have up:∀b o,b≠it->h₂.get? b=some o->h₆.get? b=some o:=λb o n e=>hs₆.extBut b o n (hs₅.extBut b o n (hs₄.extBut b o n (hs₃.extBut b o n e)))
 refine wpAny_bind (wpAny_letGo (wpAny_pure (wpAny_pure ⟨_,rfl,wpAny_pure (q h₆ he₆ (up _ _ (cJ hil) ht₂) ?_ λb o hb e=>up b o hb (hk₂ b o hb e))⟩)))
 show h₆.objs.size=hp.objs.size+1
 rw[hs₆.1,hs₅.1,hs₄.1,hs₃.1,hz₂]
theorem uP{ok ov:Value}{Q:Option Value->Shared->Prop}(hh:A.handled=none)(hit:IsItemIter s.heap it d i es.size ep ok ov)(x:xZ s.heap d es ep)(hi:es.size<=i)
  (q:∀h',Heap.ExtBut it s.heap h'->Q none {s with heap:=h'}):wpAny (model prog w) A (pyNext (.ref it)) Q E s:=by
 obtain⟨od,hod,_,hdd⟩:=x
 have hT:s.TypeIs (.ref it) "dict_itemiterator":=⟨_,hit,rfl⟩
 unfold pyNext
 refine wpAny_bind (wpAny_attempt (wpAny_callSpecial?_slot (name:=Str.ofString "__next__") hT F.slot_dict_itemiterator_next (wpAny_call_entry F.slot_dict_itemiterator_next hT F.entry_dict_itemiterator_next ?_ (F.args_dict_itemiterator_next_1 _))))
 refine wpAny_bind (wpAny_pure (wpAny_bind (wpAny_bind ?_)))
 first|refine wpAny_bind (wpAny_typeNameOfWhole_itemiter hT (wpAny_pure ?_))|refine wpAny_bind (wpAny_typeNameOf_itemiter hT (wpAny_pure ?_))
 refine wpAny_bind (wpAny_fieldsOf hit rfl ?_)
 simp only[show Builtin.Dict_items.ownsTuple "dict_itemiterator"=true by decide,if_true]
 show wpAny _ _ (if(Value.ref d==Value.none)=true then _ else _) _ _ s
 rw[if_neg (show ¬((Value.ref d==Value.none)=true) from Bool.false_ne_true)]
 refine wpAny_bind (wpAny_pure (wpAny_bind (wpAny_dictEntries hod hdd ?_)))
 rw[if_neg (by simp)]
 refine wpAny_bind (wpAny_pure (wpAny_bind (wpAny_dictEpoch hod hdd ?_)))
 rw[if_neg (by simp)]
 refine wpAny_pure ?_
 simp only[show ¬((i:Int)<0) from by omega,if_false,aZ,dD hi]
 refine wpAny_bind ?_
 first|refine wpAny_bind (wpAny_typeNameOfWhole_itemiter hT (wpAny_pure ?_))|refine wpAny_bind (wpAny_typeNameOf_itemiter hT (wpAny_pure ?_))
 show wpAny _ _ (setField (.ref it) 2 .none >>= _) _ _ s
 refine wpAny_bind (wpAny_setField hit rfl (by simp) ?_)
 show wpAny _ _ (newExc (.type "StopIteration") [] >>= _) _ _ _
 refine wpAny_bind ?_
 simp only[newExc,newTuple]
 refine wpAny_bind (wpAny_newObj_type ?_ (by size_fits))
 refine wpAny_bind (m:=firstArgMember _ _) (wpAny_of_eq (a:=Value.none) (by first|rfl|(simp only[firstArgMember];rfl)) (wpAny_newObj_type ?_ (by size_fits)))
 simp only[raiseNew]
 refine wpAny_bind (wpAny_handled ?_)
 rw[show A.in1.handled=none from hh]
 refine wpAny_bind (wpAny_pure (wpAny_throw ?_))
 refine wpAny_bind (wpAny_isInstance (T:="StopIteration") (b:=true) ⟨_,ax _ rfl,rfl⟩ isSubtype_stop ?_)
 exact wpAny_pure (q _ (((Heap.SameBut.update ..).extBut.push _).push _))
end
section
variable{X:Cx}{pins:List (Addr×Obj)}{σ:St}{H:Hp}{s:Shared}{d:Addr}{kvs:List (List cf×V)}{o:Obj}
theorem bx.unfrzT(I:bx X pins σ H s)(e:H d=some (.dT kvs)):∀o v,X.H₀ d≠some (.frz o v):=λo v q=>by
 have:=I.base.frzs d o v q
 rw[e] at this;cases this
theorem bx.freezeT(I:bx X pins σ H s)(e:H d=some (.dT kvs)):∃o es ep,o.data=.dict es ep/\bx X pins σ (aP H d (.frz o (.dT kvs))) s:=by
 have k:=I.hok d _ e
 obtain⟨z,lo,xs,r,o,es,ep,h1,h2,h3,h4⟩:=id k
 refine⟨o,es,ep,h3,I.retell e ⟨h1,z,lo,xs,Paired.mapP r λp q z=>⟨z.1,?_,z.2.2⟩,o,es,ep,h1,h2,h3,h4⟩ (λ_ q=>by cases q) (λ_ q=>by cases q) (λ_ q=>by cases q) (I.unfrzT e)⟩
 rw[az (λc=>by have:=z.2.1;rw[c,e] at this;cases this)];exact z.2.1
theorem bx.thawT(I:bx X pins σ H s)(e:H d=some (.frz o (.dT kvs)))(hf:∀o v,X.H₀ d≠some (.frz o v)):bx X pins σ (aP H d (.dT kvs)) s:=by
 have k:=I.hok d _ e
 exact I.retell e (k.2.stay (λ_ _ _ z=>z) (λa z=>by rw[az (λc'=>by rw[c',e] at z;cases z)];exact z) λa xs z=>by rw[az (λc'=>by rw[c',e] at z;cases z)];exact z) (λ_ q=>by cases q) (λ_ q=>by cases q) (λ_ q=>by cases q) hf
theorem mi{es:Array DictEntry}{ep:Nat}(I:bx X pins σ H s)(e:H d=some (.frz o (.dT kvs)))(hep:o.data=.dict es ep):(d==sysModules)=false/\xZ s.heap d es ep/\es.size=kvs.length/\
  ∀(i:Nat) (hi:i<es.size) k v,kvs[i]?=some (k,v)->∃b,es[i].key=.ref b/\H b=some (.tup (k.map kN))/\cA v es[i].val:=by
 obtain⟨ho,z,lo,xs,r,o',es',ep',h1,h2,h3,h4,h5⟩:=I.hok d _ e
 rw[ho] at h1;cases h1
 rw[hep] at h3;cases h3
 have sz:es.size=xs.length:=size_of_entries h4
 refine⟨lo,⟨o,ho,h2,hep⟩,sz.trans (Paired.length r).symm,λi hi k v hk=>?_⟩
 have hx:xs[i]?=some (xs[i]'(by rw[<-sz];exact hi)):=aa _
 generalize xs[i]'(by rw[<-sz];exact hi)=x at hx
 have get:∀{l:List (List cf×V)} {m:List (List cf×Addr×Value)},KT H l m->∀{i:Nat} {p q},l[i]?=some p->m[i]?=some q->p.1=q.1/\H q.2.1=some (.tup (p.1.map kN))/\cA p.2 q.2.2:=by
  intro l m q
  induction q with
  |nil=>intro i p q h;simp at h
  |cons hq t ih=>
   intro i p q h1 h2
   cases i with
   |zero=>simp at h1 h2;rw[<-h1,<-h2];exact hq
   |succ i=>exact ih (by simpa using h1) (by simpa using h2)
 obtain⟨e1,e2,e3⟩:=get r hk hx
 have ent:=entry_at h4 i
 rw[hx,a6 hi] at ent
 have ent:es[i]=entryOfKey (tupleKind (dF X.prog X.w)) x:=Option.some.inj ent
 exact⟨x.2.1,by rw[ent];rfl,e2,by rw[ent];exact e3⟩
def xI(d:Addr)(kvs:List (List cf×V))(o:Obj):It:=⟨λi H=>H d=some (.frz o (.dT kvs))/\i<kvs.length,λi H x H'=>H'=H/\∃k v b,kvs[i]?=some (k,v)/\x=.ref b/\H b=some (.tup (k.map kN)),λi H=>H d=some (.frz o (.dT kvs))/\kvs.length<=i⟩
theorem Bo{P:Program}{w:World}{K:Fg}{tg:Expr}(d it:Addr)(kvs:List (List cf×V))(o:Obj)(es:Array DictEntry)(ep:Nat)(hep:o.data=.dict es ep):qW P w K tg (xI d kvs o) [it] it (λi h=>h.IsKeyIter it d i es.size ep) where
 mem:=by simp
 obj:=λi h st b hb=>by
  have e:b=it:=by simpa using hb
  subst e
  obtain⟨o,e,c,d⟩:=st
  exact⟨o,e,λv z=>by rw[d] at z;cases z⟩
 keep:=λi h h' st k=>st.at λo e=>k it (by simp) o e
 item:=by
  intro X hP hw hK hc i pins s σ H E I hf st hg
  subst hP hw hK
  obtain⟨e,hi⟩:=hg
  obtain⟨lo,rd,sz,at_⟩:=mi I e hep
  obtain⟨f0,f1,f2,f3,f4,f5⟩:=hf it (by simp)
  have hi':i<es.size:=by lia
  obtain⟨b,ek,hb,_⟩:=at_ i hi' kvs[i].1 kvs[i].2 (aa hi)
  refine FI st rd hi' λh' st' sb=>?_
  have I1:bx X pins σ H {s with heap:=h'}:=I.turned (t':=s.toks) (λb o hb e=>(sb.2 b hb).trans e) f0 f1 f3 f4 f5
  obtain⟨o',e',c',d'⟩:=id st'
  exact⟨es[i].key,rfl,vj (s:={s with heap:=h'}) e' c' d' (by decide) ⟨.ref b,H,I1,ek,⟨rfl,_,_,b,aa hi,rfl,hb⟩,st',λb hb=>(hf b hb).1⟩⟩
 done:=by
  intro X hP hw hK hc i pins s σ H E I hf st hg
  subst hP hw hK
  obtain⟨e,hi⟩:=hg
  obtain⟨lo,rd,sz,_⟩:=mi I e hep
  obtain⟨f0,f1,f2,f3,f4,f5⟩:=hf it (by simp)
  exact Ij (I.ok.hd hc) st rd (by lia) λh' eb=>⟨rfl,I.turned (t':=s.toks) (λb o hb e=>eb b o hb e) f0 f1 f3 f4 f5⟩
 self:=λ_ _ _ _ _ st h=>wpAny_pyIter_keyiter st h
def DQ(d:Addr)(kvs:List (List cf×V))(o:Obj):It:=⟨λi H=>H d=some (.frz o (.dT kvs))/\i<kvs.length,λi H x H'=>∃p k v b,H p=none/\x=.ref p/\H'=aP H p (.tup [.ref b,v])/\kvs[i]?=some (k,v)/\H b=some (.tup (k.map kN)),λi H=>H d=some (.frz o (.dT kvs))/\kvs.length<=i⟩
theorem zN{P:Program}{w:World}{K:Fg}{elts:List Expr}{k:Nat}{pos:Pos}(d it:Addr)(kvs:List (List cf×V))(o:Obj)(es:Array DictEntry)(ep:Nat)(hep:o.data=.dict es ep):qW P w K (.Tuple elts k pos) (DQ d kvs o) [it] it (λi h=>∃ok ov,IsItemIter h it d i es.size ep ok ov) where
 mem:=by simp
 obj:=λi h st b hb=>by
  have e:b=it:=by simpa using hb
  subst e
  obtain⟨ok,ov,e⟩:=st
  exact⟨_,e,λv z=>by have z':Data.fields _=Data.cell v:=z;cases z'⟩
 keep:=λi h h' st k=>let⟨ok,ov,e⟩:=st;⟨ok,ov,k it (by simp) _ e⟩
 item:=by
  intro X hP hw hK hc i pins s σ H E I hf st hg
  subst hP hw hK
  obtain⟨ok,ov,st⟩:=st
  obtain⟨e,hi⟩:=hg
  obtain⟨lo,rd,sz,at_⟩:=mi I e hep
  have hi':i<es.size:=by lia
  obtain⟨bk,ek,hbk,rv⟩:=at_ i hi' kvs[i].1 kvs[i].2 (aa hi)
  refine sV st rd hi' λh1 ho hT hsz hkp=>?_
  refine⟨_,rfl,?_⟩
  have fT:nQ X pins H s.heap.objs.size:=I.fpOk (au _) (I.hok.fresh (au _))
  have itlt:it<s.heap.objs.size:=aD st
  refine wpAny_letOwnedTupleGo_items (s:={s with heap:=h1}) ho λh2 he2 hs2=>?_
  have I1:bx X pins σ H {s with heap:=h2,toks:=s.toks}:=I.turnedL (t':=s.toks) (ch:=[it]) (λb o hb q=>by
   have b1:b≠it:=λz=>hb (by simp[z])
   exact(hs2.2 b b1).trans (hkp b o b1 q)) hf
  have gT:h2.get? s.heap.objs.size=some {cls:=.type "tuple",data:=.seq #[es[i].key,es[i].val]}:=(hs2.2 _ (cJ itlt)).trans hT
  have I2:=I1.adopt (T:=s.heap.objs.size) (o:=.tup [.ref bk,kvs[i].2]) fT (rG (X:=X) gT (show cA (.ref bk) _ from ek) rv)
  refine⟨.ref s.heap.objs.size,_,I2,rfl,⟨s.heap.objs.size,kvs[i].1,kvs[i].2,bk,fT.1,rfl,rfl,aa hi,hbk⟩,⟨es[i].key,es[i].val,he2⟩,λb hb=>?_⟩
  have nT:b≠s.heap.objs.size:=by rw[ak.mp hb];exact aL itlt
  rw[az nT];exact(hf b hb).1
 done:=by
  intro X hP hw hK hc i pins s σ H E I hf st hg
  subst hP hw hK
  obtain⟨ok,ov,st⟩:=st
  obtain⟨e,hi⟩:=hg
  obtain⟨lo,rd,sz,_⟩:=mi I e hep
  obtain⟨f0,f1,f2,f3,f4,f5⟩:=hf it (by simp)
  exact uP (I.ok.hd hc) st rd (by lia) λh' eb=>⟨rfl,I.turned (t':=s.toks) (λb o hb e=>eb b o hb e) f0 f1 f3 f4 f5⟩
 self:=λ_ _ _ _ _ st h=>by
  obtain⟨ok,ov,st⟩:=st
  exact PySem.W.kcp_self st h
end
section
variable{X:Cx}{tg:Expr}
def sD(te:TE):TI:=λσ H R=>te σ H λx H1=>∃d kvs,x=.ref d/\H1 d=some (.dT kvs)/\∀o,R (xI d kvs o) (aP H1 d (.frz o (.dT kvs)))
theorem pe{l:Expr}{tl:TE}(hl:QE X l tl):QI X tg l (sD tl):=⟨by
 intro pins s σ H R I h
 refine eF (hl.up pins s σ H _ I h) λv s1 ⟨x,H1,I1,r1,q1⟩=>?_
 obtain⟨d,kvs,rfl,e,q⟩:=q1
 cases r1
 obtain⟨o,es,ep,hep,I2⟩:=I1.freezeT e
 obtain⟨lo,rd,sz,_⟩:=mi I2 aj hep
 refine FH lo rd ?_
 refine⟨s1.heap.objs.size,[s1.heap.objs.size],_,_,_,rfl,I2.kept (t':=s1.toks) λb o e=>ag _ e,Bo d _ kvs o es ep hep,⟨_,ax _ rfl,rfl,rfl⟩,λb hb=>?_,q o⟩
 have e:b=s1.heap.objs.size:=by simpa using hb
 subst e
 exact I2.fpOk (au _) (I2.hok.fresh (au _))⟩
def wJ(te:TE):TI:=λσ H R=>te σ H λx H1=>∃d kvs,x=.ref d/\H1 d=some (.dT kvs)/\∀o,R (DQ d kvs o) (aP H1 d (.frz o (.dT kvs)))
theorem vE{l:Expr}{tl:TE}{apos cpos:Pos}{elts:List Expr}{k:Nat}{pos:Pos}(hl:QE X l tl)(m:M0 X l "items" apos cpos):QI X (.Tuple elts k pos) (.Call (.Attribute l "items" apos) [] [] cpos) (wJ tl):=⟨by
 intro pins s σ H R I h
 refine wpAny_Call_method (T:="dict") (id:="dict.items") m.base rfl m.line eC PySem.F.slot_dict_items PySem.F.type_dict_items (eF (hl.up pins s σ H _ I h) λv s1 ⟨x,H1,I1,r1,q1⟩=>?_)
 obtain⟨d,kvs,rfl,e,q⟩:=q1
 cases r1
 obtain⟨t1,t2,_⟩:=wK I1 (.inr ⟨kvs,.inl e⟩)
 refine⟨t1,t2,?_⟩
 obtain⟨z,lo,xs0,r0,o0,es0,ep0,h1,h2,h3,_⟩:=I1.hok d _ e
 show wpAny _ _ (callWith cpos (.builtin "dict.items") [.ref d] [] []) _ _ s1
 refine method_meetsIn PySem.F.slot_dict_items PySem.F.entry_dict_items rfl (PySem.evalArgs_none ⟨rfl,⟨o0,h1,h2.1⟩,PySem.F.args_dict_items_1 _,_,Dh d lo,⟨es0,ep0,o0,h1,h2,h3⟩,?_⟩)
 have I1':bx X pins σ H1 {s1 with heap:=s1.heap.push {cls:=.type "dict_items",data:=.fields #[.ref d]}}:=I1.kept (t':=s1.toks) λb o e=>ag _ e
 obtain⟨o,es,ep,hep,I2⟩:=I1'.freezeT e
 obtain⟨_,rd,sz,_⟩:=mi I2 aj hep
 refine sU (s:={s1 with heap:=s1.heap.push {cls:=.type "dict_items",data:=.fields #[.ref d]}}) ⟨_,ax _ rfl,rfl,rfl⟩ rd ?_
 refine⟨_,[_],_,_,_,rfl,I2.kept (t':=s1.toks) λb o e=>ag _ e,zN d _ kvs o es ep hep,⟨.none,.none,ax _ rfl⟩,λb hb=>?_,q o⟩
 have e:b=(s1.heap.push {cls:=.type "dict_items",data:=.fields #[.ref d]}).objs.size:=by simpa using hb
 subst e
 exact I2.fpOk (au _) (I2.hok.fresh (au _))⟩
def KO(H H':Hp)(R:Hp->Prop):Prop:=R H'\/∃d kvs kvs' o,H d=some (.dT kvs)/\H' d=some (.frz o (.dT kvs'))/\R (aP H' d (.dT kvs'))
def FZ(te:TE):TE:=λσ H Q=>te σ H λv H'=>KO H H' (Q v)
theorem Fp{e:Expr}{te:TE}(h:QE X e te):QE X e (FZ te):=⟨by
 intro pins s σ H Q I q
 refine eF (h.up pins s σ H _ I q) λv s1 ⟨x,H1,I1,r1,q1⟩=>?_
 rcases q1 with q1|⟨d,kvs,kvs',o,e1,e2,q1⟩
 ·exact⟨x,H1,I1,r1,q1⟩
 ·exact⟨x,_,I1.thawT e2 (I.unfrzT e1),r1,q1⟩⟩
def qp(ts:TS):TS:=λD σ H=>ts {D with nx:=λσ' H'=>KO H H' (D.nx σ')} σ H
theorem lJ{st:Stmt}{ts:TS}(h:QS X st ts):QS X st (qp ts):=⟨by
 intro pins s σ H D I q
 refine eF (h.up pins s σ H _ I q) λf s1 h1=>?_
 cases f with
 |next=>
  obtain⟨σ',H1,I1,q1⟩:=h1
  rcases q1 with q1|⟨d,kvs,kvs',o,e1,e2,q1⟩
  ·exact⟨σ',H1,I1,q1⟩
  ·exact⟨σ',_,I1.thawT e2 (I.unfrzT e1),q1⟩
 |ret u=>exact h1
 |brk=>exact h1
 |cont=>exact h1⟩
end
theorem mq{prog:Program}{w:World}{h h':Heap}{k:List cf}{a:Addr}(x:(tupleKind (dF prog w)).is h k a)(f:∀o,o.cls=.type "tuple"->h.get? a=some o->h'.get? a=some o):(tupleKind (dF prog w)).is h' k a:=by
 obtain⟨o,its,n,h1,h2,r⟩:=x
 exact⟨o,its,n,f o h2 h1,h2,r⟩
def kb(kvs more:List (List cf×V)):List (List cf×V):=more.foldl (λacc kv=>jf acc kv.1 kv.2) kvs
theorem mR:∀(more kvs:List (List cf×V)),(kb kvs more).length<=kvs.length+more.length
 |[],kvs=>au _
 |p::r,kvs=>by
  have h1:=mR r (jf kvs p.1 p.2)
  have h2:=iu kvs p.1 p.2
  show(kb (jf kvs p.1 p.2) r).length<=kvs.length+(r.length+1)
  lia
section
variable{prog:Program}{w:World}{A:Around}{R:Result->Shared->Prop}
def KM(prog:Program)(w:World)(H:Hp)(h:Heap)(xs:Array Value)(kvs:List (List cf×V)):Prop:=∀(j:Nat) k v x,kvs[j]?=some (k,v)->xs[j]?=some x->∃t a u,x=.ref t/\h.IsTuple t #[.ref a,u]/\(tupleKind (dF prog w)).is h k a/\H a=some (.tup (k.map kN))/\cA v u
theorem KM.keep{H:Hp}{h h':Heap}{xs:Array Value}{kvs:List (List cf×V)}(p:KM prog w H h xs kvs)(f:∀c o,o.cls=.type "tuple"->h.get? c=some o->h'.get? c=some o):KM prog w H h' xs kvs:=λj k v x e1 e2=>by
 obtain⟨t,a,u,e,⟨o,ho,hc,r⟩,i,z⟩:=p j k v x e1 e2
 exact⟨t,a,u,e,⟨o,f t o hc ho,hc,r⟩,mq i (f a),z⟩
theorem DE{H:Hp}{d it l:Addr}{xs:Array Value}{more:List (List cf×V)}{res:Value}(hh:A.handled=none)(hu:A.units+2<cLine)(n1:d≠it)(n2:d≠l)(n3:it≠l)(hk:more.length=xs.size)(hz:xs.size<=100000) :
  ∀(m i:Nat) (s:Shared) (kvs:List (List cf×V)) (ys:List (List cf×Addr×Value)),xs.size-i=m->i<=xs.size->s.heap.IsListIter it l i->s.heap.IsList l xs->KM prog w H s.heap xs more->KT H kvs ys->s.heap.DictOfH (tupleKind (dF prog w)) d ys->ys.length<=i->
   (∀h' tk ys',KT H (kb kvs (more.drop i)) ys'->h'.DictOfH (tupleKind (dF prog w)) d ys'->(∀c o,c≠d->c≠it->s.heap.get? c=some o->h'.get? c=some o)->R (.ok (.ret res)) {s with heap:=h',toks:=tk})->
   codeAny (model prog w) A (.builtin "dict.update.loop" ⟨[.ref d,.ref it,rawInt i,res],[]⟩) R s:=by
 intro m
 induction m with
 |zero=>
  intro i s kvs ys hm hi hit hl P kt dd hlen hR
  have ei:i=xs.size:=by lia
  refine codeAny_builtin F.entry_dict_update_loop ?_
  rw[Around.under_plainId F.plain_dict_update_loop _]
  show wpAny _ A.in1 (pyNext (.ref it) >>= _) _ _ s
  refine wpAny_bind (wpAny_pyNext_list_end (A:=A.in1) hh hit hl (by rw[ei];simp) λh' eb=>?_)
  rw[show more.drop i=[] from f6 (by lia)] at hR
  obtain⟨o,es,ep,ho,hc,hd,he,his,hn⟩:=dd
  refine wpAny_bind (wpAny_pure (wpAny_pure (hR h' s.toks ys kt ⟨o,es,ep,eb d o n1 ho,hc,hd,he,λx hx=>mq (his x hx) λo' hc' e=>eb _ o' (λz=>?_) e,hn⟩ λc o _ c2 e=>eb c o c2 e)))
  obtain⟨o2,ho2,hc2,_⟩:=hit
  rw[z,ho2] at e;cases e
  rw[hc2] at hc'
  injection hc' with hc'
  exact absurd hc' (by decide)
 |succ m ih=>
  intro i s kvs ys hm hi hit hl P kt dd hlen hR
  refine codeAny_builtin F.entry_dict_update_loop ?_
  rw[Around.under_plainId F.plain_dict_update_loop _]
  show wpAny _ A.in1 (pyNext (.ref it) >>= _) _ _ s
  have il:i<xs.size:=by lia
  have hx:xs[i]?=some xs[i]:=a6 il
  have kl:i<more.length:=by lia
  obtain⟨t,a,u,et,⟨ot,hot,hct,nt,hdt⟩,his,ha,ru⟩:=P i more[i].1 more[i].2 _ (aa kl) hx
  refine wpAny_bind (wpAny_pyNext_list_item hit hl (x:=.ref t) (by rw[hx,et]) λh' hit' sb=>?_)
  have kp:∀c o,c≠it->s.heap.get? c=some o->h'.get? c=some o:=λc o n e=>(sb.2 c n).trans e
  have nit:∀c o,o.cls=.type "tuple"->s.heap.get? c=some o->c≠it:=λc o hc e z=>by
   obtain⟨o',ho',hc',_⟩:=hit
   rw[z,ho'] at e;cases e
   rw[hc'] at hc
   injection hc with hc
   exact absurd hc (by decide)
  have hot':=kp t ot (nit t ot hct hot) hot
  refine wpAny_bind (wpAny_holding (wpAny_bind (wpAny_tryCatch ?_)))
  unfold Builtin.Dict.pairItems
  refine wpAny_bind (wpAny_typeOf (T:="tuple") ⟨_,hot',hct⟩ ?_)
  rw[if_pos (by decide)]
  refine wpAny_bind (wpAny_seqItems hot' hdt (wpAny_pure ?_))
  have dd':h'.DictOfH (tupleKind (dF prog w)) d ys:=by
   obtain⟨o,es,ep,ho,hc,hd,he,hi2,hn⟩:=dd
   exact⟨o,es,ep,kp d o n1 ho,hc,hd,he,λx hx=>mq (hi2 x hx) λo' hc' e=>kp _ o' (nit _ o' hc' e) e,hn⟩
  refine wpAny_holding (wpAny_dictSet_heap (s:={s with heap:=h'}) (show(tupleKind (dF prog w)).room A.in1 from(by show A.units+1<cLine;lia)) (mq his λo' hc' e=>kp _ o' (nit _ o' hc' e) e) dd' (λh2 d2 s2=>?_) (hsz:=bR (cM (a8 hlen (a8 hi hz)) (by decide))))
  have e1:(i:Int)+1=((i+1:Nat):Int):=by lia
  refine wpAny_pure ⟨plainId_quiet F.plain_dict_update_loop _,?_⟩
  rw[e1]
  rw[bM kl] at hR
  have nd:∀c o,o.cls=.type "tuple"->h'.get? c=some o->c≠d:=λc o hc e z=>by
   obtain⟨o',_,_,e',x,_⟩:=dd'
   rw[z,e'] at e;cases e
   rw[x.1] at hc
   injection hc with hc
   exact absurd hc (by decide)
  have kt2:=kt.put more[i].1 (b:=a) ha ru
  refine ih (i+1) _ (jf kvs more[i].1 more[i].2) (storedH ys more[i].1 a u) (by lia) (by lia) (hit'.at λo e=>s2.extBut it o (Ne.symm n1) e) ((hl.at λo e=>kp l o (Ne.symm n3) e).at λo e=>s2.extBut l o (Ne.symm n2) e) (P.keep λc o hc e=>s2.extBut c o (nd c o hc (kp c o (nit c o hc e) e)) (kp c o (nit c o hc e) e)) kt2 d2 ?_ λh3 tk3 ys3 kt3 d3 kp3=>?_
  ·have h1:=Paired.length kt2
   have h2:=Paired.length kt
   have h3:=iu kvs more[i].1 more[i].2
   lia
  ·exact hR h3 tk3 ys3 kt3 d3 λc o c1 c2 e=>kp3 c o c1 c2 (s2.extBut c o c1 (kp c o c2 e))
end
section
variable{prog:Program}{w:World}{A:Around}{E:Value->Shared->Prop}{s:Shared}
theorem Az{H:Hp}{l:Addr}{xs:Array Value}{n:Nat}{more:List (List cf×V)}{Q:Value->Shared->Prop}(hh:A.handled=none)(hu:A.units+5<cLine)(hl:s.heap.get? l=some {cls:=.type "list",dict:=none,data:=.seq xs n,slots:=#[]})(hk:more.length=xs.size)(hz:xs.size<=100000)(P:KM prog w H s.heap xs more)
  (hQ:∀h' tk ys',KT H (kb [] more) ys'->h'.DictOfH (tupleKind (dF prog w)) s.heap.objs.size ys'->(∀c o,s.heap.get? c=some o->h'.get? c=some o)->Q (.ref s.heap.objs.size) {s with heap:=h',toks:=tk}) :
  wpAny (model prog w) A (call (.type "dict") [.ref l]) Q E s:=by
 refine callType_codes (Q₁:=λobj s₁=>obj=.ref s.heap.objs.size/\s₁={s with heap:=s.heap.push {cls:=.type "dict",data:=.dict #[]}}) F.kt_called_dict (F.kt_typeCall_dict_1 _) F.entry_dict_init (kt_code_dict_new _ ⟨rfl,rfl⟩) ?_
 rintro obj s₁ ⟨rfl,rfl⟩
 have dn:(s.heap.push {cls:=.type "dict",data:=.dict #[]}).DictOfH (tupleKind (dF prog w)) s.heap.objs.size []:=Heap.DictOfH.new s.heap
 have up:∀c o,s.heap.get? c=some o->(s.heap.push {cls:=.type "dict",data:=.dict #[]}).get? c=some o:=λc o e=>ag _ e
 refine⟨dn.typeIs,F.args_dict_init_2 _ _,?_⟩
 refine wpAny_bind (m:=Builtin.Dict.selfAndRest _ _) (wpAny_bind (wpAny_notOrdered_dict dn.typeIs (wpAny_pure ?_)))
 show wpAny _ _ (Builtin.Dict.updateFrom "dict.__init__" s.heap.objs.size (.ref l) [] .none) _ _ _
 refine wpAny_bind (wpAny_typeOf (T:="list") ⟨_,up _ _ hl,rfl⟩ ?_)
 rw[if_pos (by decide)]
 refine wpAny_bind (C3 (up _ _ hl) hh λh1 tk1 k1=>?_)
 have k2:∀c o,s.heap.get? c=some o->h1.get? c=some o:=λc o e=>k1 c o (up c o e)
 rw[if_pos (show(none:Option Value).isNone=true from rfl)]
 have hl1:h1.IsList l xs:=⟨_,k2 _ _ hl,rfl,n,rfl⟩
 refine wpAny_bind (wpAny_rule (wpAny_bind (wpAny_pyIter_list (s:={s with heap:=h1,toks:=tk1}) hl1 (wpAny_pure ⟨plainId_quiet F.plain_dict_update_loop _,?_⟩))))
 have dn1:∀{h2:Heap},(∀c o,h1.get? c=some o->h2.get? c=some o)->h2.DictOfH (tupleKind (dF prog w)) s.heap.objs.size []:=λf=>by
  obtain⟨o,es,ep,ho,hc,hd,he,_,hn⟩:=dn
  exact⟨o,es,ep,f _ _ (k1 _ _ ho),hc,hd,he,λx hx=>(nomatch hx),hn⟩
 have up2:∀c o,h1.get? c=some o->(h1.push (vk false l)).get? c=some o:=λc o e=>ag _ e
 have llt:l<s.heap.objs.size:=aD hl
 have dlt:s.heap.objs.size<h1.objs.size:=let⟨_,_,_,e,_⟩:=dn1 (h2:=h1) λ_ _ e=>e;aD e
 refine DE (A:=A.in1) (H:=H) (more:=more) hh (by show A.units+1+2<cLine;lia) (it:=h1.objs.size) (aL dlt) (cJ llt) (cJ (iO llt dlt)) hk hz xs.size 0 _ [] [] rfl (bt _) ⟨_,ax _ rfl,rfl,rfl⟩ (hl1.at λo e=>up2 _ o e) (P.keep λc o _ e=>up2 c o (k2 c o e)) .nil (dn1 up2) (bt _) λh' tk ys' kt d' kp=>⟨rfl,?_⟩
 exact hQ h' tk ys' kt d' λc o e=>by
  have lt:=aD e
  exact kp c o (aL lt) (aL (iO lt dlt)) (up2 c o (k2 c o e))
end
section
variable{X:Cx}
def sS(K:Fg):List V->Hp->VK->Prop:=λxs H Q=>∃(l:Addr) (ps:List V) (kvs:List (List cf×V)),xs=[.ref l]/\H l=some (.lst ps)/\ps.length=kvs.length/\kvs.length<=100000/\(∀(j:Nat) x k v,ps[j]?=some x->kvs[j]?=some (k,v)->∃t a,x=.ref t/\H t=some (.tup [.ref a,v])/\H a=some (.tup (k.map kN)))/\∀d,H d=none->Q (.ref d) (aP H d (.dT (kb [] kvs)))
theorem oN(hc:X.calm=true)(hu:X.A.units+5<cLine):ip X (.type "dict") (sS X.K):=by
 intro pins s σ H xs us Q I r h
 obtain⟨l,ps,kvs,rfl,hl,hlen,hz,hp,q⟩:=h
 obtain⟨u,rfl,rx⟩:=jZ r
 cases rx
 obtain⟨z,its,n,rv,el,e⟩:=I.lstM hl
 have l1:=rv.length
 refine Az (H:=H) (more:=kvs) (I.ok.hd hc) hu e (by rw[ay];lia) (by rw[ay];lia) (λj k v x e1 e2=>?_) λh' tk ys kt d' kp=>?_
 ·have jl:j<ps.length:=by have:=(ae.mp e1).1;lia
  obtain⟨t,a,et,ht,ha⟩:=hp j _ k v (aa jl) e1
  obtain⟨u,hu',ru⟩:=rv.get (i:=j) (x:=ps[j]) (aa jl)
  rw[eQ,hu'] at e2;cases e2
  rw[et] at ru
  cases ru
  obtain⟨its2,r2,t2,_⟩:=I.tuple (cE.of (K:=X.K) ht)
  obtain⟨a',w',rfl,ra,rw'⟩:=Gi r2
  obtain rfl:a'=Value.ref a:=ra
  exact⟨t,a,w',rfl,t2,oi I.hok ha,ha,rw'⟩
 ·have hn:H s.heap.objs.size=none:=I.hok.fresh (au _)
  have hlen2:(kb [] kvs).length<=sizeLine:=a8 (mR _ _) (a8 (show[].length+kvs.length<=100000 by rw[fK];lia) (show 100000<=sizeLine by decide))
  obtain⟨o,es,ep,ho,hc',hd,he,_,hnd⟩:=d'
  refine⟨.ref s.heap.objs.size,_,I.laid (t':=tk) (o:=.dT (kb [] kvs)) kp (au _) ⟨hlen2,beq_eq_false_iff_ne.mpr (cJ I.big),ys,Paired.mapP kt λp q z=>⟨z.1,?_,z.2.2⟩,o,es,ep,ho,hc',hd,he,hnd⟩,rfl,q _ hn⟩
  rw[az (λc=>by have:=z.2.1;rw[c,hn] at this;cases this)];exact z.2.1
end
section
variable{X:Cx}
def FA:List V->Hp->VK->Prop:=λxs H Q=>∃(d:Addr) (kvs:List (kY×V)),xs=[.ref d]/\Rd H d (.dK kvs)/\kvs≠[]/\(∀kv∈kvs,∃i,kv.1=Sum.inl i)/\
 ∀m:Int,(∃v,(Sum.inl m,v)∈kvs)->(∀i v,(Sum.inl i,v)∈kvs->m<=i)->Q (.int m) H
theorem Aq(hc:X.calm=true):ip X (.builtin "min") FA:=by
 intro pins s σ H xs us Q I r h
 obtain⟨d,kvs,rfl,hd,ne,ik,q⟩:=h
 obtain⟨u,rfl,rx⟩:=jZ r
 cases rx
 obtain⟨z,lo,vs,rel,dd⟩:=oP I.hok hd
 obtain⟨o,es,ep,ho,hx,hdat,r2⟩:=dd
 have da:s.heap.DictAt (dY X.prog X.w) d vs ep:=⟨o,es,ho,hx,hdat,r2⟩
 have kl:=rel.length
 have pos:0<vs.length:=by rw[<-kl];exact dA.mpr ne
 have hh:X.A.in1.handled=none:=I.ok.hd hc
 have nd:d≠s.heap.objs.size:=aL (aD ho)
 have num:∀i,i<kvs.length->∃n:Int,∃v,kvs[i]?=some (Sum.inl n,v):=λi hi=>by
  obtain⟨n,e⟩:=ik kvs[i] (bY hi)
  exact⟨n,kvs[i].2,by rw[aa hi,<-e]⟩
 let val:Nat->Int:=λi=>match kvs[i]? with
  |some (Sum.inl n,_)=>n
  |_=>0
 have vis:∀i n v,kvs[i]?=some (Sum.inl n,v)->val i=n:=λi n v e=>by show(match kvs[i]? with|some (Sum.inl n,_)=>n|_=>0)=n;rw[e]
 have hv:∀i v,(∃k x,vs[i]?=some (k,x)/\(dY X.prog X.w).is k v=true)->∃t,v=.int (val i) t:=λi v ⟨k,x,e,hk⟩=>by
  have il:i<kvs.length:=by have:=(ae.mp e).1;lia
  obtain⟨n,v',en⟩:=num i il
  have:=(JG rel en e).1
  have ek:k=Sum.inl n:=this.symm
  subst ek
  obtain⟨t,rfl⟩:=Value.isInt_shape (k:=n) (v:=v) hk
  exact⟨t,by rw[vis i n v' en]⟩
 refine call_min_walk (wpAny_pyIter_dict lo da ⟨_,_,_,_,_,_,_,rfl,Walks.dictKeys (A:=X.A.in1) hh s.heap.objs.size d nd vs ep,⟨⟨_,ax _ rfl,rfl,rfl⟩,da.push _⟩,λb hb=>?_,pos,CmpOf.ints_lt val hv,λv h' tk p k=>?_⟩)
 ·rw[bC]
  simp only[aN,b8,or_false] at hb
  rcases hb with rfl|rfl
  ·exact cP _
  ·exact cX (aD ho)
 ·obtain⟨t,rfl⟩:=hv _ _ p
  obtain⟨b1,b2⟩:=argBest_lt val (vs.length-1)
  generalize argBest (λi j=>decide (val i<val j)) (vs.length-1)=j at b1 b2 p
  have jl:j<kvs.length:=by lia
  obtain⟨n,v',en⟩:=num j jl
  have I1:bx X pins σ H {s with heap:=h',toks:=tk}:=I.kept (t':=tk) λb o e=>k b o (λz=>by
   have:=ak.mp z
   have:=aD e
   lia) (ag _ e)
  refine⟨.int (val j),H,I1,⟨t,rfl⟩,?_⟩
  rw[vis j n v' en] at b2 ⊢
  refine q n ⟨v',aG en⟩ λi v hm=>?_
  obtain⟨m,hm',e⟩:=aT.mp hm
  have:=b2 m (by lia)
  rw[vis m i v (by rw[aa hm',e])] at this
  exact this
end
section
variable{X:Cx}{o e:Expr}{td ty:TE}{pos apos cpos:Pos}
def IR:List V->Hp->VK->Prop:=λxs H Q=>∃a kvs,xs=[V.ref a]/\H a=some (.dK kvs)/\Q (.int kvs.length) H
theorem Ap:ip X (.builtin "len") IR:=CN
theorem sO:QE X (.Dict [] [] pos) tL:=⟨E9⟩
theorem Fo(ho:QE X o td)(he:QE X e ty)(m:M1 X o "pop" apos e cpos):QE X (.Call (.Attribute o "pop" apos) [e] [] cpos) (Bf td ty):=⟨Fb ho.up he.up m⟩
theorem Fm(hu:X.A.units+1<cLine)(ho:QE X o td)(he:QE X e ty)(m:M1 X o "get" apos e cpos):QE X (.Call (.Attribute o "get" apos) [e] [] cpos) (Bd td ty):=⟨E7 hu ho.up he.up m⟩
end
end L2
end
section
namespace Bg
open PySem L2
abbrev Bt:=List (Option Str)
def cB(b:Bt):List cf:=b.map λo=>o.map Sum.inr
theorem eD(b:Bt):(cB b).map kN=cL b:=by
 unfold cB cL
 rw[cU]
 exact cZ λo _=>by cases o<;>rfl
theorem oR{a b:Bt}(h:cB a=cB b):a=b:=by
 unfold cB at h
 refine(List.map_inj_right (f:=λo:Option Str=>o.map (Sum.inr:Str->kY)) λx y e=>?_).mp h
 cases x with
 |none=>cases y with
  |none=>rfl
  |some y=>cases e
 |some x=>cases y with
  |none=>cases e
  |some y=>injection e with e;injection e with e;rw[e]
def ig(H:Hp)(v:V)(b:Bt):Prop:=∃p,v=.ref p/\H p=some (.tup (cL b))
def k9(b:Bt):List Nat:=match b.getLast? with
 |some (some _)=>[b.length-1]
 |_=>(cc b.length).filter λi=>((b[i]?).getD none).isSome
def j8(b:Bt)(i:Nat):Bt:=match(b[i]?).getD none with
 |some x=>iD b x
 |none=>b
def kts(b:Bt):List Bt:=(k9 b).map (j8 b)
def jg(b:Bt)(x:Option Str)(ns:List Str):Bt:=b5 (match x with
 |none=>b
 |some y=>iD b y) ns
def oa(b:Bt)(ns:List Str):Bool:=ns.all λy=>decide (some y∈b)
structure mr(n:Nat)(ns:List Str)(b:Bt):Prop where
 len:b.length=n
 mem:∀x,some x∈b->x∈ns
structure Gw(n:Nat)(ns:List Str):Prop where
 pos:1<=n
 n5:n<=5
 s5:ns.length<=5
def LI(H:Hp)(v:V)(bs:List Bt):Prop:=∃l us,v=.ref l/\H l=some (.lst us)/\bj (ig H) us bs
def i5(H:Hp)(v:V)(ks:List Bt):Prop:=∃D kvs,v=.ref D/\H D=some (.dT kvs)/\kvs.map (·.1)=ks.map cB/\∀(i:Nat) k u b,kvs[i]?=some (k,u)->ks[i]?=some b->LI H u (kts b)
structure ly(n:Nat)(ns:List Str)(ebs ks:List Bt):Prop where
 nd:ks.Nodup
 few:ks.length<=7776
 inn:∀b∈ks,mr n ns b
 ent:∀b∈ebs,b∈ks
 cl:∀b∈ks,∀c∈kts b,c∈ks
 ind:∀P:Bt->Prop,(∀b∈ebs,P b)->(∀b,P b->∀c∈kts b,P c)->∀b∈ks,P b
def oI(H:Hp)(v:V)(t:List (Bt×Nat)):Prop:=∃D,v=.ref D/\H D=some (.dT (t.map λp=>(cB p.1,V.int (p.2:Nat))))
structure jH(ks:List Bt)(t0 t:List (Bt×Nat)):Prop where
 nd:(t.map (·.1)).Nodup
 sub:∀b n,(b,n)∈t->b∈ks
 s1:∀b n,(b,n)∈t0->∃m,m<=n/\(b,m)∈t
 s2:∀b∈ks,∀c∈kts b,∀n,(c,n)∈t->∃m,m<=n+1/\(b,m)∈t
 s3:∀b n,(b,n)∈t->(b,n)∈t0\/∃c∈kts b,∃m,(c,m)∈t/\n=m+1
structure Cm(n:Nat)(b0:Bt)(ws:List Wk)(pss:List (List Str))(kss:List (List Bt)):Prop where
 len:kss.length=ws.length+1
 dim:∀ss∈pss,Gw n ss
 fst:∀ks ss,kss[0]?=some ks->pss[0]?=some ss->ly n ss [b5 b0 ss] ks
 nxt:∀(k:Nat) ks ks' w ss,kss[k]?=some ks->kss[k+1]?=some ks'->ws[k]?=some w->pss[k+1]?=some ss->ly n ss ((ks.map λb=>jg b w.out ss).filter λb=>oa b ss) ks'
structure pZ(n:Nat)(b0:Bt)(ws:List Wk)(pss:List (List Str))(ord:Bt)(kss:List (List Bt))(ts:List (List (Bt×Nat))):Prop where
 cm:Cm n b0 ws pss kss
 len:ts.length=ws.length+1
 fin:∀ks t,kss[ws.length]?=some ks->ts[ws.length]?=some t->∃t0,jH ks t0 t/\∀b m,(b,m)∈t0↔b∈ks/\zO ord b=true/\m=0
 mid:∀(k:Nat) ks t t' w ss,kss[k]?=some ks->ts[k]?=some t->ts[k+1]?=some t'->ws[k]?=some w->pss[k+1]?=some ss->∃t0,jH ks t0 t/\∀b m,(b,m)∈t0↔b∈ks/\(jg b w.out ss,m)∈t'
def dO(b:Bt):List Nat->Prop
 |[]=>True
 |p::r=>p∈k9 b/\dO (j8 b p) r
def fY(b:Bt)(ps:List Nat):Bt:=ps.foldl j8 b
structure LG(ws:List Wk)(pss:List (List Str))(kss:List (List Bt))(ord b:Bt)(gs:List (List Nat))(bs:List Bt):Prop where
 len:gs.length=ws.length+1
 ln2:bs.length=ws.length+1
 fst:bs[0]?=some b
 ok:∀(k:Nat) ps c,gs[k]?=some ps->bs[k]?=some c->dO c ps
 nxt:∀(k:Nat) ps c c' w ss,gs[k]?=some ps->bs[k]?=some c->bs[k+1]?=some c'->ws[k]?=some w->pss[k+1]?=some ss->c'=jg (fY c ps) w.out ss
 fin:∀ps c,gs[ws.length]?=some ps->bs[ws.length]?=some c->zO ord (fY c ps)=true
 mem:∀(k:Nat) c ks,bs[k]?=some c->kss[k]?=some ks->c∈ks
def dC(_:Fg):Sp:=λvs H Q _=>∃(p:Addr) (b:Bt),vs=[.ref p]/\H p=some (.tup (cL b))/\b≠[]/\b.length<=5/\∀(l:Addr) (H':Hp),H l=none->H' l=some (.lst ((k9 b).map λi=>V.int (i:Nat)))->aM H H'->Q (.ref l) H'
def fV(_:Fg):Sp:=λvs H Q _=>∃(p:Addr) (b:Bt) (i:Nat),vs=[.ref p,.int (i:Nat)]/\H p=some (.tup (cL b))/\b.length<=5/\i∈k9 b/\∀(r:Addr) (H':Hp),H' r=some (.tup (cL (j8 b i)))->aM H H'->Q (.ref r) H'
def fW(_:Fg):Sp:=λvs H Q _=>∃(p n:Addr) (v:V) (b:Bt) (w:Wk) (ss:List Str),vs=[.ref p,v,.ref n]/\H p=some (.tup (cL b))/\D9 H v w/\H n=some (.tup (ss.map V.str))/\b≠[]/\b.length<=5/\∀(r:Addr) (H':Hp),H' r=some (.tup (cL (jg b w.out ss)))->aM H H'->Q (.ref r) H'
def ky(_:Fg):Sp:=λvs H Q _=>∃(p n:Addr) (b:Bt) (ss:List Str),vs=[.ref p,.ref n]/\H p=some (.tup (cL b))/\H n=some (.tup (ss.map V.str))/\ss.length<=100/\b.length<=5/\∀(H':Hp),aM H H'->Q (.bl (oa b ss)) H'
def jy(_:Fg):Sp:=λvs H Q _=>∃(e:Addr) (us:List V) (ebs:List Bt) (n:Nat) (ss:List Str),vs=[.ref e]/\H e=some (.lst us)/\bj (ig H) us ebs/\Gw n ss/\(∀b∈ebs,mr n ss b)/\ebs.length<=7776/\
 ∀(v:V) (ks:List Bt) (H':Hp),i5 H' v ks->ly n ss ebs ks->aM H H'->Q v H'
structure CI(H:Hp)(n:Nat)(b0:Bt)(ws:List Wk)(bp wp:Addr):Prop where
 bp:H bp=some (.tup (cL b0))
 len:b0.length=n
 wks:∃wvs,H wp=some (.tup wvs)/\bj (D9 H) wvs ws
 few:ws.length<=100
def e9(_:Fg):Sp:=λvs H Q _=>∃(bp wp pt:Addr) (tvs:List V) (n:Nat) (b0:Bt) (ws:List Wk) (pss:List (List Str)),vs=[.ref bp,.ref wp,.ref pt]/\CI H n b0 ws bp wp/\H pt=some (.lst tvs)/\bj (GL H) tvs pss/\pss.length=ws.length+1/\(∀ss∈pss,Gw n ss)/\
 ∀(l:Addr) (cvs:List V) (kss:List (List Bt)) (H':Hp),H' l=some (.lst cvs)->bj (i5 H') cvs kss->Cm n b0 ws pss kss->aM H H'->Q (.ref l) H'
def iw(n:Nat)(g:Nat->Nat):Nat:=((cc n).map g).sum
def Jb(H0 H:Hp)(v:V)(ks:List Bt):Prop:=∃(D:Addr) (kvs:List (List cf×V)) (g:Nat->Nat),v=.ref D/\H D=some (.dT kvs)/\H0 D=none/\kvs.map (·.1)=ks.map cB/\iw ks.length g<=40000/\∀(i:Nat) k u c,kvs[i]?=some (k,u)->ks[i]?=some c->∃l us bs,u=.ref l/\H l=some (.lst us)/\H0 l=none/\bj (ig H) us bs/\bs.length=g i/\∀b,b∈bs↔b∈ks/\c∈kts b
def gX(_:Fg):Sp:=λvs H Q _=>∃(v:V) (ks:List Bt) (n:Nat),vs=[v]/\i5 H v ks/\ks.Nodup/\ks.length<=7776/\(∀b∈ks,b.length=n)/\1<=n/\n<=5/\(∀b∈ks,∀c∈kts b,c∈ks)/\
 ∀(r:V) (H':Hp),Jb H H' r ks->aM H H'->Q r H'
def jx(_:Fg):Sp:=λvs H Q _=>∃(v0 v:V) (ks:List Bt) (t0:List (Bt×Nat)) (n:Nat),vs=[v0,v]/\oI H v0 t0/\i5 H v ks/\ks.Nodup/\ks.length<=7776/\(∀b∈ks,b.length=n)/\1<=n/\n<=5/\(∀b∈ks,∀c∈kts b,c∈ks)/\(∀b m,(b,m)∈t0->b∈ks)/\t0.length<=7776/\
 ∀(r:V) (t:List (Bt×Nat)) (H':Hp),oI H' r t->jH ks t0 t->aM H H'->Q r H'
def kx(_:Fg):Sp:=λvs H Q _=>∃(bp wp lt op:Addr) (n:Nat) (b0 ord:Bt) (ws:List Wk) (last dd:List Str),vs=[.ref bp,.ref wp,.ref lt,.ref op]/\CI H n b0 ws bp wp/\jd H wp lt ws last/\Bx dd last ws/\H op=some (.tup (cL ord))/\ord.length=n/\(∀pss,kZ last ws pss->∀ss∈pss,Gw n ss)/\
 ∀(l:Addr) (tvs:List V) (pss:List (List Str)) (kss:List (List Bt)) (ts:List (List (Bt×Nat))) (H':Hp),H' l=some (.lst tvs)->bj (oI H') tvs ts->kZ last ws pss->pZ n b0 ws pss ord kss ts->aM H H'->Q (.ref l) H'
def fb(_:Fg):Sp:=λvs H Q _=>∃(v:V) (p:Addr) (b:Bt) (t:List (Bt×Nat)) (m:Nat),vs=[v,.ref p]/\oI H v t/\(t.map (·.1)).Nodup/\H p=some (.tup (cL b))/\b≠[]/\b.length<=5/\(b,m+1)∈t/\(∀c∈kts b,∃k,(c,k)∈t)/\(∃c∈kts b,(c,m)∈t)/\
 ∀(i:Nat) (H':Hp),i∈k9 b->(j8 b i,m)∈t->aM H H'->Q (.int (i:Nat)) H'
def um(H:Hp)(v:V)(ps:List Nat):Prop:=∃p,v=.ref p/\H p=some (.tup (ps.map λi=>V.int (i:Nat)))
def jL(_:Fg):Sp:=λvs H Q _=>∃(bp wp lt op:Addr) (n:Nat) (b0 ord:Bt) (ws:List Wk) (last dd:List Str),vs=[.ref bp,.ref wp,.ref lt,.ref op]/\CI H n b0 ws bp wp/\jd H wp lt ws last/\Bx dd last ws/\H op=some (.tup (cL ord))/\ord.length=n/\(∀pss,kZ last ws pss->∀ss∈pss,Gw n ss)/\
 (∀pss kss ts,kZ last ws pss->pZ n b0 ws pss ord kss ts->∀(k:Nat) ks t,kss[k]?=some ks->ts[k]?=some t->∀b∈ks,∃m,(b,m)∈t)/\
 ∀(r:Addr) (gvs:List V) (gs:List (List Nat)) (bs:List Bt) (pss:List (List Str)) (kss:List (List Bt)) (ts:List (List (Bt×Nat))) (ss:List Str) (t:List (Bt×Nat)) (m:Nat) (H':Hp),H' r=some (.tup gvs)->bj (um H') gvs gs->kZ last ws pss->pZ n b0 ws pss ord kss ts->pss[0]?=some ss->ts[0]?=some t->(b5 b0 ss,m)∈t->LG ws pss kss ord (b5 b0 ss) gs bs->(gs.map (·.length)).sum=m->aM H H'->Q (.ref r) H'
def ja(_:Fg):Sp:=λvs H Q _=>∃(bp:Addr) (b0:Bt),vs=[.ref bp]/\H bp=some (.tup (cL b0))/\b0≠[]/\b0.length<=5/\∀(r:Addr) (H':Hp),H' r=some (.tup (cL (aV b0.length none)))->aM H H'->Q (.ref r) H'
def jw(_:Fg):Sp:=λvs H Q _=>∃(bp wp lt:Addr) (n:Nat) (b0:Bt) (ws:List Wk) (last dd:List Str),vs=[.ref bp,.ref wp,.ref lt]/\CI H n b0 ws bp wp/\1<=n/\n<=5/\jd H wp lt ws last/\Bx dd last ws/\(∀pss,kZ last ws pss->∀ss∈pss,Gw n ss)/\
 (∀pss kss ts,kZ last ws pss->pZ n b0 ws pss (aV n none) kss ts->∀(k:Nat) ks t,kss[k]?=some ks->ts[k]?=some t->∀b∈ks,∃m,(b,m)∈t)/\
 ∀(r:Addr) (gvs:List V) (gs:List (List Nat)) (bs:List Bt) (pss:List (List Str)) (kss:List (List Bt)) (ts:List (List (Bt×Nat))) (ss:List Str) (t:List (Bt×Nat)) (m:Nat) (H':Hp),H' r=some (.tup gvs)->bj (um H') gvs gs->kZ last ws pss->pZ n b0 ws pss (aV n none) kss ts->pss[0]?=some ss->ts[0]?=some t->(b5 b0 ss,m)∈t->LG ws pss kss (aV n none) (b5 b0 ss) gs bs->(gs.map (·.length)).sum=m->aM H H'->Q (.ref r) H'
abbrev oh:Nat:=0
abbrev nR:Nat:=1
abbrev ER:Nat:=2
abbrev DT:Nat:=3
abbrev AL:Nat:=2
abbrev Aa:Nat:=3
abbrev yK:Nat:=0
abbrev xO:Nat:=1
abbrev AJ:Nat:=3
abbrev z0:Nat:=4
abbrev mE:Nat:=4
abbrev mx:Nat:=5
abbrev q0:Nat:=0
abbrev qV:Nat:=1
abbrev AI:Nat:=1
abbrev zZ:Nat:=2
abbrev yI:Nat:=5
abbrev xM:Nat:=6
abbrev uH:Nat:=3
abbrev uu:Nat:=4
abbrev wN:Nat:=6
abbrev v5:Nat:=7
abbrev uG:Nat:=0
abbrev ur:Nat:=1
abbrev AG:Nat:=7
abbrev zX:Nat:=8
end Bg
end
section
namespace L2
open PySem PySem.Spec PyProof.Rows
def zR(K:Fg)(tp:Bool)(H:Hp)(a:Addr)(xs:List V):Prop:=match tp with
 |true=>cE K H a xs
 |false=>cq K H a xs
theorem bx.seqB{X:Cx}{pins:List (Addr×Obj)}{σ:St}{H:Hp}{s:Shared}{tp:Bool}{a:Addr}{xs:List V}(I:bx X pins σ H s)(h:zR X.K tp H a xs):∃its:List Value,bV xs its/\eO tp s.heap a its.toArray:=by
 cases tp with
 |true=>obtain⟨its,r,p,_⟩:=I.tuple h;exact⟨its,r,p⟩
 |false=>obtain⟨its,r,p,_⟩:=I.list h;exact⟨its,r,p.isList⟩
theorem bx.seqB_inj{X:Cx}{pins:List (Addr×Obj)}{σ:St}{H:Hp}{s:Shared}{tp:Bool}{a:Addr}{xs ys:List V}(I:bx X pins σ H s)(h:zR X.K tp H a xs)(h':zR X.K tp H a ys):xs=ys:=by
 cases tp with
 |true=>exact I.tuple_inj h h'
 |false=>exact I.list_inj h h'
theorem yC{tp:Bool}{h:Heap}{i l:Addr}{k:Nat}(x:d7 tp h i l k):∃o,h.get? i=some o/\∀v,o.data=.cell v->False:=by
 cases tp with
 |true=>obtain⟨o,e,c,d⟩:=(show h.IsTupleIter i l k from x);exact⟨o,e,λv q=>by rw[d] at q;cases q⟩
 |false=>obtain⟨o,e,c,d⟩:=(show h.IsListIter i l k from x);exact⟨o,e,λv q=>by rw[d] at q;cases q⟩
def xJ(K:Fg)(t1 t2:Bool)(a b:Addr):It:=
 ⟨λi H=>∃xs x ys y,zR K t1 H a xs/\xs[i]?=some x/\zR K t2 H b ys/\ys[i]?=some y,
  λi H x H'=>∃p v u,H p=none/\x=.ref p/\H'=aP H p (.tup [v,u])/\(∀xs,zR K t1 H a xs->xs[i]?=some v)/\∀ys,zR K t2 H b ys->ys[i]?=some u,
  λi H=>∃xs ys,zR K t1 H a xs/\zR K t2 H b ys/\xs.length<=i⟩
theorem DD{P:Program}{w:World}{K:Fg}{elts:List Expr}{k:Nat}{pos:Pos}(t1 t2:Bool)(z TI TO i1 i2 l1 l2:Addr)(D:ZipApart z TI TO i1 i2 l1 l2) :
  qW P w K (.Tuple elts k pos) (xJ K t1 t2 l1 l2) [z,TI,TO,i1,i2] z (λi h=>IsZip h z TI TO .none/\IsPair h TI (.ref i1) (.ref i2)/\(∃a b,IsPair h TO a b)/\d7 t1 h i1 l1 i/\d7 t2 h i2 l2 i) where
 mem:=by simp
 obj:=λi h st b hb=>by
  obtain⟨hz,hTI,⟨a',b',hTO⟩,h1,h2⟩:=st
  obtain⟨o1,e1,d1⟩:=yC h1
  obtain⟨o2,e2,d2⟩:=yC h2
  simp only[aN,b8,or_false] at hb
  rcases hb with rfl|rfl|rfl|rfl|rfl
  ·exact⟨_,hz,λv q=>by have q':Data.fields _=Data.cell v:=q;cases q'⟩
  ·exact⟨_,hTI,λv q=>by have q':Data.seq _ _=Data.cell v:=q;cases q'⟩
  ·exact⟨_,hTO,λv q=>by have q':Data.seq _ _=Data.cell v:=q;cases q'⟩
  ·exact⟨o1,e1,λv q=>d1 v q⟩
  ·exact⟨o2,e2,λv q=>d2 v q⟩
 keep:=λi h h' st k=>by
  obtain⟨hz,hTI,⟨a',b',hTO⟩,h1,h2⟩:=st
  exact⟨k z (by simp) _ hz,k TI (by simp) _ hTI,⟨a',b',k TO (by simp) _ hTO⟩,h1.at λo q=>k i1 (by simp) o q,h2.at λo q=>k i2 (by simp) o q⟩
 item:=by
  intro X hP hw hK hc i pins s σ H E I hf st hg
  subst hP hw hK
  obtain⟨hz,hTI,⟨a',b',hTO⟩,h1,h2⟩:=st
  obtain⟨xs,x,ys,y,hq1,hx,hq2,hy⟩:=hg
  obtain⟨its1,rv1,p1⟩:=I.seqB hq1
  obtain⟨its2,rv2,p2⟩:=I.seqB hq2
  obtain⟨u,hu,ru⟩:=rv1.get hx
  obtain⟨v,hv,rv⟩:=rv2.get hy
  have hT:s.TypeIs (.ref z) "zip":=⟨_,hz,rfl⟩
  unfold pyNext
  refine wpAny_bind (wpAny_attempt (wpAny_callSpecial?_slot (name:=Str.ofString "__next__") hT F.slot_zip_next (wpAny_call_entry F.slot_zip_next hT F.entry_zip_next ?_ (F.args_zip_next_1 _))))
  refine DI D hz hTI hTO h1 h2 p1 p2 (x:=u) (y:=v) (by simpa using hu) (by simpa using hv) λh3 a1 a3 a4 a5 a2 hk=>wpAny_pure ?_
  refine⟨_,rfl,?_⟩
  have fT:nQ X pins H s.heap.objs.size:=I.fpOk (au _) (I.hok.fresh (au _))
  have lt:∀{c o},s.heap.get? c=some o->c≠s.heap.objs.size:=λe=>aL (aD e)
  refine wpAny_letOwnedTupleGo_zip a1 λh4 hz4 hs4=>?_
  have I1:bx X pins σ H {s with heap:=h4,toks:=s.toks}:=I.turnedL (t':=s.toks) (ch:=[z,TI,TO,i1,i2]) (λb o hb q=>by
   have b1:b≠z:=λe=>hb (by simp[e])
   exact(hs4.2 b b1).trans (hk b o b1 (λe=>hb (by simp[e])) (λe=>hb (by simp[e])) (λe=>hb (by simp[e])) q)) hf
  have gT:h4.get? s.heap.objs.size=some {cls:=.type "tuple",data:=.seq #[u,v]}:=(hs4.2 _ (Ne.symm (lt hz))).trans a5
  have I2:=I1.adopt (T:=s.heap.objs.size) (o:=.tup [x,y]) fT (rG (X:=X) gT ru rv)
  have ext:∀c o,c≠z->h3.get? c=some o->h4.get? c=some o:=λc o hc q=>(hs4.2 c hc).trans q
  refine⟨.ref s.heap.objs.size,_,I2,rfl,⟨s.heap.objs.size,x,y,fT.1,rfl,rfl,λzs hz=>by rw[I.seqB_inj hz hq1];exact hx,λzs hz=>by rw[I.seqB_inj hz hq2];exact hy⟩,
   ⟨hz4,ext _ _ D.TIz (hk _ _ D.TIz D.TITO D.TIi1 D.TIi2 hTI),⟨_,_,ext _ _ D.TOz a2⟩,a3.at λo q=>ext _ o D.i1z q,a4.at λo q=>ext _ o D.i2z q⟩,λb hb=>?_⟩
  have nT:b≠s.heap.objs.size:=by
   simp only[aN,b8,or_false] at hb
   rcases hb with rfl|rfl|rfl|rfl|rfl
   ·exact lt hz
   ·exact lt hTI
   ·exact lt hTO
   ·exact aL h1.lt
   ·exact aL h2.lt
  rw[az nT];exact(hf b hb).1
 done:=by
  intro X hP hw hK hc i pins s σ H E I hf st hg
  subst hP hw hK
  obtain⟨hz,hTI,⟨a',b',hTO⟩,h1,h2⟩:=st
  obtain⟨xs,ys,hq1,hq2,hend⟩:=hg
  obtain⟨its1,rv1,p1⟩:=I.seqB hq1
  obtain⟨its2,rv2,p2⟩:=I.seqB hq2
  have l1':=rv1.length
  refine Gq (I.ok.hd hc) D ⟨hTI,h1,h2,p1,p2,.inl ⟨hz,a',b',hTO⟩⟩ (by simp;lia) λh3 hk=>⟨rfl,?_⟩
  exact I.turnedL (t':=s.toks) (ch:=[z,TI,TO,i1,i2]) (λb o hb q=>hk b o (λe=>hb (by simp[e])) (λe=>hb (by simp[e])) (λe=>hb (by simp[e])) q) hf
 self:=λ_ _ _ _ _ st h=>wpAny_pyIter_zip st.1 h
def EL(K:Fg)(tl:TA):TI:=λσ H R=>tl σ H λvs H1=>∃t1 t2 a b,vs=[.ref a,.ref b]/\(∃xs,zR K t1 H1 a xs)/\(∃xs,zR K t2 H1 b xs)/\R (xJ K t1 t2 a b) H1
section
variable{X:Cx}{elts:List Expr}{k:Nat}{tpos:Pos}
theorem HE{a b:Expr}{ta:TA}{p pos:Pos}(hg:Gl X "zip")(hm:X.mg "zip"=none)(ha:PA X [a,b] ta)(hs:starEach [a,b] X.env=[(false,eval a X.env),(false,eval b X.env)]:=by rfl)(hs2:starEach [b] X.env=[(false,eval b X.env)]:=by rfl) :
  PI X (.Tuple elts k tpos) (.Call (.Name "zip" p) [a,b] [] pos) (EL X.K ta):=by
 intro pins s σ H R I h
 refine Call_ (iF I hg hm boot_zip (bo (eF (ha pos pins s σ H _ I h) λus s1 ⟨vs,H1,I1,r1,q1⟩=>?_) (by rw[hs,hs2]) (by rw[hs2];rfl)))
 obtain⟨t1,t2,l1,l2,e,⟨xs,hq1⟩,⟨ys,hq2⟩,q⟩:=q1
 subst e
 cases r1 with
 |cons r rr=>
  cases rr with
  |cons r' rr=>
   cases rr
   cases r
   cases r'
   obtain⟨its1,rv1,p1⟩:=I1.seqB hq1
   obtain⟨its2,rv2,p2⟩:=I1.seqB hq2
   refine wC (t1:=t1) (t2:=t2) p1 p2 λh1 z TI TO i1 i2 gI D gz gO g1 g2 hz hTO hTI hi1 hi2 hk=>?_
   refine wpAny_pyIter_zip hz ?_
   have I2:bx X pins σ H1 {s1 with heap:=h1}:=I1.kept (t':=s1.toks) hk
   refine⟨_,_,_,_,H1,rfl,I2,DD t1 t2 z TI TO i1 i2 l1 l2 D,⟨hz,hTI,⟨_,_,hTO⟩,hi1,hi2⟩,λb hb=>?_,q⟩
   have hb':s1.heap.objs.size<=b:=by
    simp only[aN,b8,or_false] at hb
    rcases hb with rfl|rfl|rfl|rfl|rfl<;>assumption
   exact I1.fpOk hb' (I1.hok.fresh hb')
theorem HX{a b:Expr}{ta:TA}{p pos:Pos}(hg:Gl X "zip")(hm:X.mg "zip"=none)(ha:QA X [a,b] ta)(hs:starEach [a,b] X.env=[(false,eval a X.env),(false,eval b X.env)]:=by rfl)(hs2:starEach [b] X.env=[(false,eval b X.env)]:=by rfl):QI X (.Tuple elts k tpos) (.Call (.Name "zip" p) [a,b] [] pos) (EL X.K ta):=
 ⟨HE hg hm ha.up hs hs2⟩
end
theorem EB{K:Fg}{t1 t2:Bool}{a b:Addr}{xs ys:List V}{g:TG}{tb:TS}{D:kU}{σ:St}{H:Hp}(el:xs.length<=ys.length)(Pv:Nat->St->Hp->Prop)(h0:Pv 0 σ H)(hl:∀i σ H,i<=xs.length->Pv i σ H->zR K t1 H a xs/\zR K t2 H b ys)
  (hs:∀i x y σ H p,xs[i]?=some x->ys[i]?=some y->H p=none->Pv i σ H->g (.ref p) σ (aP H p (.tup [x,y])) λσ2 H2=>tb {D with nx:=Pv (i+1),ct:=Pv (i+1),bk:=D.nx} σ2 H2) (hd:∀σ H,Pv xs.length σ H->D.nx σ H) :
  ∃W:Nat->Nat->St->Hp->Prop,(∃m,W 0 m σ H)/\∀i m σ H,W i m σ H->
   ((xJ K t1 t2 a b).stop i H/\D.nx σ H)\/((xJ K t1 t2 a b).go i H/\∃N:St->Hp->Prop,(∀σ' H',N σ' H'->∃m',m'<m/\W (i+1) m' σ' H')/\∀x H',(xJ K t1 t2 a b).yld i H x H'->g x σ H' λσ2 H2=>tb {D with nx:=N,ct:=N,bk:=D.nx} σ2 H2):=by
 refine⟨λi m σ H=>m=xs.length-i/\i<=xs.length/\Pv i σ H,⟨xs.length,by simp,bt _,h0⟩,?_⟩
 rintro i m σ H ⟨rfl,hi,p⟩
 obtain⟨q1,q2⟩:=hl i σ H hi p
 by_cases hlt:i<xs.length
 ·have hlt2:i<ys.length:=by lia
  refine .inr ⟨⟨xs,xs[i],ys,ys[i],q1,by simp[hlt],q2,by simp[hlt2]⟩,Pv (i+1),λσ' H' p'=>⟨xs.length-(i+1),by lia,rfl,hlt,p'⟩,λx H' y=>?_⟩
  obtain⟨pp,v,u,e1,rfl,rfl,y1,y2⟩:=y
  exact hs i v u σ H pp (y1 xs q1) (y2 ys q2) e1 p
 ·have e:i=xs.length:=by lia
  subst e
  exact .inl ⟨⟨xs,ys,q1,q2,au _⟩,hd σ H p⟩
theorem CP{js:List Nat}{k:Nat}{K:Fg}{t1 t2:Bool}{a b:Addr}{xs ys:List V}{g:TG}{tc:TT}{te:TE}{R:Hp->Prop}{σ:St}{H:Hp}{D:Addr}(el:xs.length<=ys.length)(Pv:Nat->St->Hp->Prop)(h0:Pv 0 (vd js k σ) (aP H D (.lst [])))(hl:∀i σ H,i<=xs.length->Pv i σ H->zR K t1 H a xs/\zR K t2 H b ys)
  (hs:∀i x y σ H p,xs[i]?=some x->ys[i]?=some y->H p=none->Pv i σ H->g (.ref p) σ (aP H p (.tup [x,y])) λσ2 H2=>jI D tc te {nx:=Pv (i+1),rt:=λ_ _=>False,ct:=Pv (i+1),bk:=λ_ H'=>R H'} σ2 H2) (hd:∀σ H,Pv xs.length σ H->R H) :
  ∃W:Nat->Nat->St->Hp->Prop,(∃m,W 0 m (vd js k σ) (aP H D (.lst [])))/\∀i m σ H,W i m σ H->
   ((xJ K t1 t2 a b).stop i H/\R H)\/((xJ K t1 t2 a b).go i H/\∃N:St->Hp->Prop,(∀σ' H',N σ' H'->∃m',m'<m/\W (i+1) m' σ' H')/\∀x H',(xJ K t1 t2 a b).yld i H x H'->g x σ H' λσ2 H2=>jI D tc te {nx:=N,rt:=λ_ _=>False,ct:=N,bk:=λ_ H'=>R H'} σ2 H2):=
 EB (D:={nx:=λ_ H'=>R H',rt:=λ_ _=>False}) el Pv h0 hl hs hd
end L2
end
section
namespace PySem.SeqAt
open AutoSeq1 (wpAny_loadPart')
open MeetsSeq MeetsSeq2 MeetsSeq3 SeqRoads2
end PySem.SeqAt
namespace L2
open PySem PySem.Spec PyProof.Rows
section
variable{X:Cx}{o e:Expr}{es:List Expr}{to ta tb:TE}{t:TA}{apos cpos:Pos}
end
section
variable{X:Cx}{C:Addr}{m x:Str}{ps:List Str}{k:Nat}{sp:Sp}{e:Expr}{es:List Expr}{t:TA}{p pos apos:Pos}
end
end L2
end
section
namespace Bg
open PySem PySem.Spec PyProof.Rows L2
end Bg
end
section
namespace BgSet
open PySem
def zQ(ps:Array Nat):Prop:=ps.toList.Pairwise (·<·)
theorem zQ.at{ps:Array Nat}(hr:zQ ps){i j a b:Nat}(hij:i<j)(ha:ps[i]?=some a)(hb:ps[j]?=some b):a<b:=by
 rw[<-bI] at ha hb
 obtain⟨hi,rfl⟩:=ae.mp ha
 obtain⟨hj,rfl⟩:=ae.mp hb
 exact fA.mp hr i j hi hj hij
theorem Ee{ps:Array Nat}{j:Nat}(hr:zQ ps):∀fl lo hi,hi-lo<=fl->hi<=ps.size->lo<=hi->
  (∀i a,i<lo->ps[i]?=some a->a<j)->(∀i a,hi<=i->ps[i]?=some a->j<=a)->
  SetTable.below.go ps j fl lo hi<=ps.size/\(∀i a,i<SetTable.below.go ps j fl lo hi->ps[i]?=some a->a<j)
   /\(∀i a,SetTable.below.go ps j fl lo hi<=i->ps[i]?=some a->j<=a):=by
 intro fl
 induction fl with
 |zero=>
  intro lo hi hf hs hl h1 h2
  have:lo=hi:=by lia
  subst this
  exact⟨hs,h1,h2⟩
 |succ fl ih=>
  intro lo hi hf hs hl h1 h2
  unfold SetTable.below.go
  by_cases hlt:lo<hi
  ·rw[if_pos hlt]
   have hm:(lo+hi) / 2<ps.size:=by lia
   have hg:ps[(lo+hi) / 2]?=some (ps.getD ((lo+hi) / 2) j):=by
    simp[Array.getD,hm]
   dsimp only
   by_cases hc:ps.getD ((lo+hi) / 2) j<j
   ·rw[if_pos hc]
    refine ih _ _ (by lia) hs (by lia) (λi a hi' ha=>?_) h2
    rcases b6 i ((lo+hi) / 2) with hq|hq
    ·exact iO (hr.at hq ha hg) hc
    ·have:i=(lo+hi) / 2:=by lia
     subst this;rw[hg] at ha;cases ha;exact hc
   ·rw[if_neg hc]
    refine ih _ _ (by lia) (by lia) (by lia) h1 (λi a hi' ha=>?_)
    rcases b6 ((lo+hi) / 2) i with hq|hq
    ·exact bR (cM (nN.mp hc) (hr.at hq hg ha))
    ·have:i=(lo+hi) / 2:=by lia
     subst this;rw[hg] at ha;cases ha;exact nN.mp hc
  ·rw[if_neg hlt]
   have:lo=hi:=by lia
   subst this
   exact⟨hs,h1,h2⟩
theorem oK{ps:Array Nat}(hr:zQ ps)(j:Nat):SetTable.below ps j<=ps.size/\(∀i a,i<SetTable.below ps j->ps[i]?=some a->a<j)
  /\(∀i a,SetTable.below ps j<=i->ps[i]?=some a->j<=a):=by
 refine Ee hr ps.size 0 ps.size (au _) (au _) (bt _) (λi a h=>absurd h (dy _)) (λi a h ha=>?_)
 rw[dD h] at ha;cases ha
theorem Am{ps:Array Nat}(hr:zQ ps):SetTable.below ps 0=0:=by
 obtain⟨h1,h2,-⟩:=oK hr 0
 rcases Nat.eq_zero_or_pos (SetTable.below ps 0) with h|h
 ·exact h
 ·have hlt:0<ps.size:=by lia
  exact absurd (h2 0 ps[0] h (a6 hlt)) (dy _)
theorem Al{ps:Array Nat}(hr:zQ ps){i p:Nat}(hp:ps[i]?=some p):SetTable.below ps (p+1)=i+1:=by
 obtain⟨h1,h2,h3⟩:=oK hr (p+1)
 have hlo:i<SetTable.below ps (p+1):=by
  rcases b6 i (SetTable.below ps (p+1)) with h|h
  ·exact h
  ·exact absurd (h3 i p h hp) (by lia)
 rcases b6 (i+1) (SetTable.below ps (p+1)) with h|h
 ·have hlt:i+1<ps.size:=by lia
  have hq:=a6 hlt
  have a1:=h2 _ _ h hq
  have a2:=hr.at (cP i) hp hq
  lia
 ·lia
theorem A7{ps:Array Nat}(hr:zQ ps){j:Nat}(hn:∀i:Nat,ps[i]?≠some j):zQ (SetTable.insertAt ps (SetTable.below ps j) j):=by
 obtain⟨h1,h2,h3⟩:=oK hr j
 unfold zQ
 rw[SetTable.toList_insertAt]
 have hlow:∀a∈ps.toList.take (SetTable.below ps j),a<j:=λa ha=>by
  obtain⟨i,hi⟩:=eW ha
  rw[iZ] at hi
  split at hi
  ·rename_i hlt;exact h2 i a hlt (by rw[<-bI];exact hi)
  ·cases hi
 have hhigh:∀a∈ps.toList.drop (SetTable.below ps j),j<a:=λa ha=>by
  obtain⟨i,hi⟩:=eW ha
  rw[iY,bI] at hi
  have:=h3 _ a (Nat.le_add_right _ _) hi
  rcases Nat.lt_or_eq_of_le this with h|h
  ·exact h
  ·subst h;exact absurd hi (hn _)
 refine List.pairwise_append.mpr ⟨hr.sublist (List.take_sublist _ _),eI.mpr ⟨hhigh,hr.sublist (List.drop_sublist _ _)⟩,λa ha b hb=>?_⟩
 rcases aN.mp hb with rfl|hb
 ·exact hlow a ha
 ·exact iO (hlow a ha) (hhigh b hb)
structure oB(led:Bool)(t:SetTable):Prop where
 led:t.led=led
 dum:t.dummies=#[]
 ris:t.plain=true->zQ t.place
theorem oB.fresh(a b:Nat)(led:Bool):oB led (SetTable.fresh a b led):=⟨rfl,rfl,λ_=>List.Pairwise.nil⟩
theorem oB.standIn{led:Bool}{t:SetTable}(h:oB led t)(n:Nat):oB led (t.standIn n):=
 ⟨h.led,rfl,λhp=>by simp[SetTable.standIn] at hp⟩
theorem oB.orStandIn{led:Bool}{t:SetTable}(h:oB led t)(n:Nat):oB led (t.orStandIn n):=by
 unfold SetTable.orStandIn
 split
 ·exact h
 ·exact h.standIn n
theorem yx(j:Nat):SetTable.has #[] j=false:=by
 unfold SetTable.has;simp
theorem Bb{t:SetTable}(hd:t.dummies=#[]){j:Nat}:t.slot j≠.dummy:=by
 unfold SetTable.slot
 rw[hd,yx]
 dsimp only
 split<;>simp
theorem AW{t:SetTable}(hd:t.dummies=#[]){f:Nat->Int}{h:Int}:∀fl (p:SetTable.Probe) (j:Nat) (d:Option Nat),p.dummy=none->
  SetTable.probe.go t f h fl p=some (.empty j d)->d=none/\t.slot j=.empty:=by
 intro fl
 induction fl with
 |zero=>intro p j d hp hq;unfold SetTable.probe.go at hq;cases hq
 |succ fl ih=>
  intro p j d hp hq
  unfold SetTable.probe.go at hq
  have hadv:(t.advance p).dummy=none:=by
   unfold SetTable.advance;split<;>exact hp
  cases hs:t.slot p.j with
  |empty=>rw[hs] at hq;simp only[Option.some.injEq,SetTable.Met.empty.injEq] at hq;obtain⟨rfl,rfl⟩:=hq;exact⟨hp,hs⟩
  |dummy=>exact absurd hs (Bb hd)
  |live i=>
   rw[hs] at hq
   simp only at hq
   split at hq
   ·cases hq
   ·exact ih _ j d hadv hq
theorem CV{t:SetTable}(hd:t.dummies=#[]){h:Int}{sl:Nat}{wd:Bool}(hq:t.freeSlot h=some (sl,wd)):t.slot sl=.empty:=by
 unfold SetTable.freeSlot SetTable.probe at hq
 split at hq
 ·rename_i j d he
  obtain⟨rfl,hs⟩:=AW hd _ _ j d rfl he
  simp only[jO,Option.some.injEq,Prod.mk.injEq] at hq
  rw[<-hq.1];exact hs
 ·cases hq
theorem FV{t:SetTable}(hr:zQ t.place){j:Nat}(hs:t.slot j=.empty):∀i:Nat,t.place[i]?≠some j:=by
 intro i hi
 obtain⟨h1,h2,h3⟩:=oK hr j
 have hb:SetTable.below t.place j=i:=by
  rcases Nat.lt_trichotomy (SetTable.below t.place j) i with h|h|h
  ·have hlt:SetTable.below t.place j<t.place.size:=by
    have:=(dJ.mp hi).1;lia
   have hq:=a6 hlt
   have a1:=h3 _ _ (au _) hq
   have a2:=hr.at h hq hi
   lia
  ·exact h
  ·exact absurd (h2 i j h hi) (cT _)
 unfold SetTable.slot at hs
 rw[hb] at hs
 dsimp only at hs
 rw[hi] at hs
 simp at hs
theorem oB.put{led:Bool}{t:SetTable}(h:oB led t){sl:Nat}(hs:t.slot sl=.empty):oB led (t.put sl).1:=by
 refine⟨h.led,?_,λhp=>?_⟩
 ·show(if SetTable.has t.dummies sl=true then _ else t.dummies)=#[]
  rw[h.dum,yx];rfl
 ·exact A7 (h.ris hp) (FV (h.ris hp) hs)
theorem oB.layNew{led:Bool}{t:SetTable}(h:oB led t)(es:Array (Int×Value))(hs:Int)(x:Value):oB led (layNew t es hs x).2.1:=by
 unfold PySem.layNew
 split
 ·rename_i sl wd hq
  exact(h.put (CV h.dum hq)).orStandIn _
 ·exact h.standIn _
theorem oB.off{led:Bool}{t:SetTable}(h:oB led t):oB led {t with plain:=false}:=⟨h.led,h.dum,λhp=>by simp at hp⟩
theorem sH(g:Nat->Option Nat):∀l:List Nat,((l.filterMap λj=>(g j).map (j,·)).map (·.1)).Sublist l
 |[]=>List.Sublist.refl _
 |j::l=>by
  rw[fF]
  cases hg:g j with
  |none=>simpa using(sH g l).cons j
  |some b=>simpa using(sH g l).cons_cons j
theorem oB.relaid{led:Bool}{t t':SetTable}{hs:Array Int}{n:Nat}{o:Array Nat}(h:oB led t)(hq:t.relaid hs n=some (t',o)):oB led t':=by
 unfold SetTable.relaid SetTable.laid at hq
 cases ho:SetTable.layClean (SetTable.sizeAbove n-1) hs with
 |none=>rw[ho] at hq;simp at hq
 |some ow=>
  rw[ho] at hq
  simp only[Option.bind_eq_bind,Option.bind_some,Option.pure_def,Option.some.injEq,Prod.mk.injEq] at hq
  rw[<-hq.1]
  refine⟨h.led,rfl,λ_=>?_⟩
  unfold zQ
  rw[List.toList_toArray]
  exact(List.pairwise_lt_range).sublist (sH (λj=>ow.getD j none) _)
theorem oB.relay{led:Bool}{t:SetTable}(h:oB led t)(es:Array (Int×Value))(n:Nat):oB led (relayAll t es n).2.1:=by
 unfold relayAll
 split
 ·rename_i t' o hq
  dsimp only
  split
  ·exact h.relaid hq
  ·exact h.standIn _
 ·exact h.standIn _
theorem yT{t:SetTable}(h:t.plain=false)(es:Array (Int×Value))(n:Nat):(relayAll t es n).2.1.plain=false:=by
 unfold relayAll
 split
 ·rename_i t' o hq
  dsimp only
  split
  ·unfold SetTable.relaid SetTable.laid at hq
   cases ho:SetTable.layClean (SetTable.sizeAbove n-1) (es.map (·.1)) with
   |none=>rw[ho] at hq;simp at hq
   |some ow=>
    rw[ho] at hq
    simp only[Option.bind_eq_bind,Option.bind_some,Option.pure_def,Option.some.injEq,Prod.mk.injEq] at hq
    rw[<-hq.1];exact h
  ·rfl
 ·rfl
section
variable{prog:Program}{w:World}{K:Type}[DecidableEq K]
def rK(kd:KeyKind prog w K)(l:List (Int×Value)):Prop:=
 l.Pairwise λe e'=>∀k,kd.is k e.2=true->kd.is k e'.2=false
theorem rK.perm{kd:KeyKind prog w K}{l l':List (Int×Value)}(h:rK kd l)(p:l'.Perm l):rK kd l':=by
 refine(p.pairwise_iff (λ{x y} hxy k hk=>?_)).mpr h
 cases hx:kd.is k x.2 with
 |false=>rfl
 |true=>have:=hxy k hx;rw[hk] at this;cases this
def SetTb(kd:KeyKind prog w K)(h:Heap)(a:Addr)(S:K->Bool)(n:Nat)(led np:Bool):Prop:=
 ∃o es ep t,h.get? a=some o/\o.ExactSet/\o.data=.set es ep t/\ElemsOf kd es.toList/\(∀k,S k=true↔∃e∈es.toList,kd.is k e.2=true)
  /\es.size<scanBound/\t.fits es.size=true/\es.size=n/\oB led t/\(np=true->n≠0->t.plain=false)/\rK kd es.toList
variable{kd:KeyKind prog w K}{A:Around}{E:Value->Shared->Prop}{s:Shared}
theorem SetTb.congr{h:Heap}{a:Addr}{S S':K->Bool}{n n':Nat}{led np:Bool}(hS:SetTb kd h a S n led np)(e:∀k,S k=S' k)(en:n=n'):SetTb kd h a S' n' led np:=by
 cases(funext e:S=S');cases en;exact hS
theorem SetTb.keep{h h':Heap}{a:Addr}{S:K->Bool}{n:Nat}{led np:Bool}(hS:SetTb kd h a S n led np)(e:∀o,h.get? a=some o->h'.get? a=some o):SetTb kd h' a S n led np:=by
 obtain⟨o,es,ep,t,ho,r⟩:=hS
 exact⟨o,es,ep,t,e o ho,r⟩
theorem SetTb.fresh{h:Heap}{a:Addr}{led np:Bool}{x y:Nat}(hg:h.get? a=some {cls:=.type "set",dict:=none,data:=.set #[] 0 (.fresh x y led)}) :
  SetTb kd h a (λ_=>false) 0 led np:=
 ⟨_,#[],0,_,hg,⟨rfl,rfl,rfl⟩,rfl,λe he=>by simp at he,λk=>by simp,by decide,rfl,rfl,oB.fresh x y led,λ_ hn=>absurd rfl hn,List.Pairwise.nil⟩
structure Ab(kd:KeyKind prog w K)(S:K->Bool)(n:Nat)(led np:Bool)(es:Array (Int×Value))(t:SetTable):Prop where
 el:ElemsOf kd es.toList
 mem:∀k,S k=true↔∃e∈es.toList,kd.is k e.2=true
 few:es.size<scanBound
 fit:t.fits es.size=true
 many:es.size=n
 tab:oB led t
 off:np=true->t.plain=false
 apart:rK kd es.toList
theorem Ab.relay{S:K->Bool}{n:Nat}{led np:Bool}{es:Array (Int×Value)}{t:SetTable}(h:Ab kd S n led np es t)(wn:Nat) :
  Ab kd S n led np (relayAll t es wn).1 (relayAll t es wn).2.1:=by
 have hp:=relayAll_perm t es wn
 have hz:(relayAll t es wn).1.size=es.size:=by rw[<-bF,hp.length_eq,bF]
 exact⟨h.el.perm hp,λk=>(h.mem k).trans ⟨λ⟨e,he,q⟩=>⟨e,hp.mem_iff.mpr he,q⟩,λ⟨e,he,q⟩=>⟨e,hp.mem_iff.mp he,q⟩⟩,
  by rw[hz];exact h.few,relayAll_fits t es wn,by rw[hz];exact h.many,h.tab.relay es wn,λe=>yT (h.off e) es wn,h.apart.perm hp⟩
theorem Ab.stored{S:K->Bool}{n:Nat}{led np:Bool}{es':Array (Int×Value)}{t':SetTable}(L:Ab kd S n led np es' t')
  {h:Heap} {a:Addr} {o:Obj} {es:Array (Int×Value)} {ep:Nat} {t:SetTable} (ho:h.get? a=some o) (hex:o.ExactSet) (hd:o.data=.set es ep t) :
  (h.update a (Obj.putSet es' t')).get? a=some {o with data:=.set es' (ep+1) t'}/\SetTb kd (h.update a (Obj.putSet es' t')) a S n led np:=by
 have hg:=(SetOf_store (knd:=kd) ho hex hd L.el L.mem L.few L.fit).1
 exact⟨hg,_,es',ep+1,t',hg,hex,rfl,L.el,L.mem,L.few,L.fit,L.many,L.tab,λe _=>L.off e,L.apart⟩
theorem x6{g:Bool->Sem Unit}(hg:∀(b:Bool) (s₁:Shared) (Q':Unit->Shared->Prop),Q' () s₁->wpAny (model prog w) A (g b) Q' E s₁)
  {a:Addr} {o:Obj} {es:Array (Int×Value)} {ep:Nat} {t:SetTable} (ho:s.heap.get? a=some o) (hex:o.ExactSet) (hd:o.data=.set es ep t)
  {es1:Array (Int×Value)} {t2:SetTable} {S:K->Bool} {n:Nat} {led np:Bool} (L:Ab kd S n led np es1 t2) {wd:Bool} {R:Option Bool->Shared->Prop}
  (hR:∀h',Heap.SameBut a s.heap h'->SetTb kd h' a S n led np->R (some true) {s with heap:=h'}) :
  wpAny (model prog w) A (do
    storeSet a es1 t2
    if(!wd&&t2.tooFull)=true then do
      g (relayAll t2 es1 (SetTable.grown es1.size)).2.2
      storeSet a (relayAll t2 es1 (SetTable.grown es1.size)).1 (relayAll t2 es1 (SetTable.grown es1.size)).2.1
      pure (some true)
     else pure (some true)) R E s:=by
 refine wpAny_bind (wpAny_storeSet_of ho hd ?_ (fits_of_scanBound L.few))
 obtain⟨g1,T1⟩:=L.stored ho hex hd
 have sb:=Heap.SameBut.update s.heap a (Obj.putSet es1 t2)
 split
 ·have L2:=L.relay (SetTable.grown es1.size)
  refine wpAny_bind (hg _ _ _ ?_)
  refine wpAny_bind (wpAny_storeSet_of g1 rfl ?_ (fits_of_scanBound L2.few))
  obtain⟨-,T2⟩:=L2.stored g1 hex rfl
  exact wpAny_pure (hR _ (sb.trans (Heap.SameBut.update _ a _)) T2)
 ·exact wpAny_pure (hR _ sb T1)
theorem Iq{a:Addr}{S:K->Bool}{n:Nat}{led np:Bool}{k:K}{x:Value}{Q:Bool->Shared->Prop}(hkey:kd.is k x=true)(hsc:x.scannable=true)
  (hnp:np=true->plainKind x=false) (hS:SetTb kd s.heap a S n led np) (hroom:n+1<scanBound)
  (hQ:∀h',Heap.SameBut a s.heap h'->SetTb kd h' a (λk'=>S k' || decide (k'=k)) (if S k then n else n+1) led np->Q (!S k) {s with heap:=h'}) :
  wpAny (model prog w) A (setAddHashed a x (kd.hash k)) Q E s:=by
 obtain⟨o,es,ep,t,ho,hex,hd,hel,hmem,hb,hf,hn,htab,hoff,hap⟩:=hS
 have hb1:es.size+1<scanBound:=by rw[hn];exact hroom
 unfold setAddHashed setAddHashedIn
 refine wpAny_holding (wpAny_bind (wpAny_setState_of ho hd hf ?_))
 dsimp only
 rw[byScan_of hsc hb hel]
 simp only[↓reduceIte]
 unfold setAddByScan
 refine wpAny_bind ?_
 refine wpAny_bind (wpAny_rule ?_)
 refine wpAny_bind (wpAny_setScan_of hkey ho hd hf hel ?_)
 cases hr:List.findIdx? (λe=>kd.is k e.2) es.toList with
 |some j=>
  dsimp only
  obtain⟨hj,hpj,-⟩:=List.findIdx?_eq_some_iff_getElem.mp hr
  have hk:S k=true:=(hmem k).mpr ⟨_,bY hj,hpj⟩
  refine wpAny_pure (wpAny_pure ?_)
  have es0:s={s with heap:=s.heap}:=by cases s;rfl
  have done:=hQ s.heap (Heap.SameBut.refl a s.heap) (SetTb.congr (S:=S) (n:=n) ⟨o,es,ep,t,ho,hex,hd,hel,hmem,hb,hf,hn,htab,hoff,hap⟩
   (λk'=>by by_cases e:k'=k<;>simp[e,hk]) (by rw[hk];rfl))
  rw[hk] at done;rw[es0];exact done
 |none=>
  dsimp only
  have hall:=List.findIdx?_eq_none_iff.mp hr
  have hk:S k=false:=by
   cases hk:S k with
   |false=>rfl
   |true=>obtain⟨e,he,hp⟩:=(hmem k).mp hk;rw[hall e he] at hp;cases hp
  have hper:=layNew_perm t es (kd.hash k) x
  have hfit:=layNew_fits t es (kd.hash k) x
  have htb:=htab.layNew es (kd.hash k) x
  generalize layNew t es (kd.hash k) x=L at hper hfit htb ⊢
  obtain⟨es1,t1,wd,gv⟩:=L
  dsimp only at hper hfit htb ⊢
  rw[Array.toList_push] at hper
  have hz:es1.size=n+1:=by rw[<-bF,hper.length_eq,ai,bF,hn];rfl
  have hap1:rK kd es1.toList:=by
   refine rK.perm (List.pairwise_append.mpr ⟨hap,fS _ _,λe he e' he' k' hk'=>?_⟩) hper
   rw[ak] at he';subst he'
   cases hq:kd.is k' x with
   |false=>rfl
   |true=>cases kd.inj x k' k hq hkey;rw[hall e he] at hk';cases hk'
  have hL:∀t2:SetTable,t2.fits es1.size=true->oB led t2->(np=true->t2.plain=false)->Ab kd (λk'=>S k' || decide (k'=k)) (n+1) led np es1 t2:=
   λt2 f2 tb2 o2=>⟨(hel.push hkey hsc).perm hper,mem_push_iff hkey hmem hper,by rw[hz];exact hroom,f2,hz,tb2,o2,hap1⟩
  have hend:∀h',Heap.SameBut a s.heap h'->SetTb kd h' a (λk'=>S k' || decide (k'=k)) (n+1) led np->Q true {s with heap:=h'}:=by
   intro h' sb T;have q:=hQ h' sb;rw[hk] at q;exact q T
  have gw:∀(c:Bool) {s₁:Shared} {Q₁:Unit->Shared->Prop},Q₁ () s₁->
    wpAny (model prog w) A (match c with|true=>rule "set.scan.the-table-gave-way"|false=>pure ()) Q₁ E s₁:=λc s₁ Q₁ hq=>by
   cases c<;>first|exact wpAny_pure hq|exact wpAny_rule hq
  refine wpAny_bind (gw _ ?_)
  split
  ·refine wpAny_bind ?_
   rw[hashByValue_scannable 8 hsc]
   refine wpAny_pure ?_
   refine x6 (n:=n+1) (led:=led) (np:=np) ?_ ho hex hd (hL _ ?_ ?_ ?_) ?_
   ·exact λb s₁ Q' hq=>gw b hq
   ·split
    ·exact hfit
    ·exact SetTable.fits_plain_off hfit
   ·split
    ·exact htb
    ·exact htb.off
   ·intro e;rw[hnp e];rfl
   ·intro h' sb T;dsimp only;exact wpAny_pure (hend h' sb T)
  ·rename_i hpl
   refine wpAny_bind (wpAny_pure ?_)
   simp only[↓reduceIte]
   refine x6 (n:=n+1) (led:=led) (np:=np) ?_ ho hex hd (hL _ hfit htb (λ_=>by simpa using hpl)) ?_
   ·exact λb s₁ Q' hq=>gw b hq
   ·intro h' sb T;dsimp only;exact wpAny_pure (hend h' sb T)
end
theorem yF:Manifest.owners.lookup (String.ofList ['r','o','t','a','r','e','t','i','_','t','e','s'].reverse)=some Manifest.sig_set_iterator:=by kernel_rfl
theorem gi:Slot "set_iterator" "__next__" "set_iterator.__next__":=
 .of (owner:="set_iterator") (n:="__next__") (by rw[typeLookup_type,builtinLookup_eq_fast];kernel_rfl) (by decide +kernel) (by decide +kernel)
  (by decide +kernel) (by first|exact .inl (by decide +kernel)|exact .inr (by decide +kernel))
  (by rw[isSubtype_type];kernel_rfl)
theorem hJ:entryFor table "set_iterator.__next__"=some Builtin.«set_iterator.__next__»:=entryFor_of_tree (by kernel_rfl)
theorem iP(v:Value):argsOk "set_iterator.__next__" ⟨[v],[]⟩:=by
 unfold argsOk
 rw[signature?_of (id:="set_iterator.__next__") (n:=['_','_','t','x','e','n','_','_']) (o:=['r','o','t','a','r','e','t','i','_','t','e','s']) (by kernel_rfl) yF]
 kernel_rfl
theorem BL:Slot "set_iterator" "__iter__" "set_iterator.__iter__":=
 .of (owner:="set_iterator") (n:="__iter__") (by rw[typeLookup_type,builtinLookup_eq_fast];kernel_rfl) (by decide +kernel) (by decide +kernel)
  (by decide +kernel) (by first|exact .inl (by decide +kernel)|exact .inr (by decide +kernel))
  (by rw[isSubtype_type];kernel_rfl)
theorem uE:entryFor table "set_iterator.__iter__"=some Builtin.«dict_keyiterator.__iter__»:=
 entryFor_alias (id':="dict_keyiterator.__iter__") (by kernel_rfl) rfl (by decide +kernel) (by kernel_rfl)
theorem wL(v:Value):argsOk "set_iterator.__iter__" ⟨[v],[]⟩:=by
 unfold argsOk
 rw[signature?_of (id:="set_iterator.__iter__") (n:=['_','_','r','e','t','i','_','_']) (o:=['r','o','t','a','r','e','t','i','_','t','e','s']) (by kernel_rfl) yF]
 kernel_rfl
theorem tE:entryFor table "set.__iter__"=some Builtin.«frozenset.__iter__»:=
 entryFor_alias (id':="frozenset.__iter__") (by kernel_rfl) rfl (by decide +kernel) (by kernel_rfl)
def byText(w:World):Bool:=w.params.followText "set-order"
theorem n8{α:Type}:∀{l:List α} {i:Nat} (hi:i<l.length),(l[i]::l.eraseIdx i).Perm l
 |x::l,0,_=>List.Perm.refl _
 |x::l,i+1,hi=>by
  have hi':i<l.length:=by simpa using hi
  have h:=n8 hi'
  simp only[List.getElem_cons_succ,List.eraseIdx_cons_succ]
  exact(List.Perm.swap _ _ _).trans (h.cons x)
theorem HF{α:Type}(nx:Nat->Nat):∀(fl k:Nat) (left:List α) (out:Array α),left.length<=fl->(pickOrder.go nx fl k left out).toList.Perm (out.toList++left):=by
 intro fl
 induction fl with
 |zero=>intro k left out h;cases left with
  |nil=>simp[pickOrder.go]
  |cons x l=>simp at h
 |succ fl ih=>
  intro k left out h
  unfold pickOrder.go
  cases hl:left[nx k % left.length]? with
  |none=>
   have:left=[]:=by
    cases left with
    |nil=>rfl
    |cons x l=>rw[aa (Nat.mod_lt _ (by simp))] at hl;cases hl
   subst this;simp
  |some x=>
   obtain⟨hi,hx⟩:=ae.mp hl
   have hp:=n8 hi
   rw[hx] at hp
   refine(ih (k+1) _ _ (by rw[eY];split<;>lia)).trans ?_
   rw[Array.toList_push,eS]
   exact hp.append_left out.toList
theorem qg{α:Type}(nx:Nat->Nat)(xs:Array α):(pickOrder nx xs).toList.Perm xs.toList:=by
 have:=HF nx xs.size 0 xs.toList #[] (by simp)
 simpa[pickOrder] using this
section
variable{prog:Program}{w:World}{A:Around}{E:Value->Shared->Prop}{s:Shared}
theorem IB{src:Source}{n:Nat}{Q:Nat->Shared->Prop}(hn:n≠0)(h:∀i d,i<n->Q i {s with drawn:=d}):wpAny (model prog w) A (choose src n) Q E s:=λΓ p hΓ=>by
 show Sem.wp _ _ (Sem.choose src n Sem.pure) _ _ _ _
 rw[Sem.wp_choose]
 refine⟨hn,?_⟩
 rw[Sem.wp_pure]
 exact h _ _ (Nat.mod_lt _ (Nat.pos_of_ne_zero hn))
theorem Gk{α:Type}:∀(n:Nat) (xs:List α) {s:Shared} {Q:List α->Shared->Prop},xs.length=n->(∀ys d,ys.Perm xs->Q ys {s with drawn:=d})->wpAny (model prog w) A (drawOrder n xs) Q E s:=by
 intro n
 induction n with
 |zero=>
  intro xs s Q hl h
  have:xs=[]:=by simpa using hl
  subst this
  unfold drawOrder
  exact wpAny_pure (h [] s.drawn (List.Perm.refl _))
 |succ n ih=>
  intro xs s Q hl h
  cases xs with
  |nil=>simp at hl
  |cons x l=>
   unfold drawOrder
   refine wpAny_bind (IB (by simp) λi d hi=>?_)
   rw[aa hi]
   dsimp only
   refine wpAny_bind (ih _ (by rw[eY,if_pos hi];lia) λys d' hp=>?_)
   exact wpAny_pure (h _ d' ((hp.cons _).trans (n8 hi)))
end
def d7(h:Heap)(I:Addr)(f:Value)(i:Nat)(a:Addr)(n ep:Nat):Prop:=
 h.get? I=some {cls:=.type "set_iterator",dict:=none,data:=.fields #[f,.int (i:Int) 0,.ref a,.int (n:Int) 0,.int (ep:Int) 0],slots:=#[]}
theorem d7.type{s:Shared}{I a:Addr}{f:Value}{i n ep:Nat}(h:d7 s.heap I f i a n ep):s.TypeIs (.ref I) "set_iterator":=⟨_,h,rfl⟩
structure fB(h:Heap)(a:Addr)(es:Array (Int×Value))(ep:Nat)(t:SetTable):Prop where
 at_:∃o,h.get? a=some o/\o.cls=.type "set"/\o.data=.set es ep t
 fit:t.fits es.size=true
theorem fB.keep{h h':Heap}{a:Addr}{es:Array (Int×Value)}{ep:Nat}{t:SetTable}(x:fB h a es ep t)(k:∀o,h.get? a=some o->h'.get? a=some o):fB h' a es ep t:=by
 obtain⟨⟨o,ho,r⟩,f⟩:=x
 exact⟨⟨o,k o ho,r⟩,f⟩
section
variable{prog:Program}{w:World}{A:Around}{E:Value->Shared->Prop}{s:Shared}{I a:Addr}{i n ep:Nat}{es:Array (Int×Value)}{t:SetTable}
theorem fB.state{Q:(Array (Int×Value)×Nat×SetTable)->Shared->Prop}(x:fB s.heap a es ep t)(h:Q (es,ep,t) s):wpAny (model prog w) A (setState a) Q E s:=by
 obtain⟨⟨o,ho,-,hd⟩,f⟩:=x
 exact wpAny_setState_of ho hd f h
theorem fB.entries{Q:Array (Int×Value)->Shared->Prop}(x:fB s.heap a es ep t)(h:Q es s):wpAny (model prog w) A (setEntries a) Q E s:=by
 unfold setEntries
 exact wpAny_bind (x.state (wpAny_pure h))
theorem fB.epoch{Q:Nat->Shared->Prop}(x:fB s.heap a es ep t)(h:Q ep s):wpAny (model prog w) A (setEpoch a) Q E s:=by
 unfold setEpoch
 exact wpAny_bind (x.state (wpAny_pure h))
theorem rh{Q:Bool->Shared->Prop}(h:Q (byText w) s):wpAny (model prog w) A setsByText Q E s:=by
 unfold setsByText
 exact wpAny_bind (wpAny_askSetting (wpAny_pure h))
theorem vx{sl:Nat}{Q:Option (Value×Nat)->Shared->Prop}(hb:byText w=true)(x:fB s.heap a es ep t)
  (h:Q (((pickOrder (w.params.setOrder a ep) es)[i]?).map λe=>(e.2,sl)) s):wpAny (model prog w) A (setNext a sl i ep) Q E s:=by
 unfold setNext
 refine wpAny_bind (x.state ?_)
 dsimp only
 refine wpAny_bind (rh ?_)
 rw[hb]
 simp only[bne_self_eq_false,Bool.false_eq_true,↓reduceIte]
 refine wpAny_bind ?_
 unfold setWalk
 refine wpAny_bind (x.state ?_)
 dsimp only
 refine wpAny_bind (rh ?_)
 rw[hb]
 simp only[↓reduceIte]
 exact wpAny_bind (wpAny_askSetting (wpAny_pure (wpAny_pure h)))
theorem sJ{sl:Nat}{Q:Option (Value×Nat)->Shared->Prop}(hb:byText w=false)(x:fB s.heap a es ep t)(hl:t.led=true)(hp:t.plain=true\/es.size<=1)
  (h:Q (match es[SetTable.below t.place sl]?,t.place[SetTable.below t.place sl]? with|some (_,x),some j=>some (x,j+1)|_,_=>none) s) :
  wpAny (model prog w) A (setNext a sl i ep) Q E s:=by
 unfold setNext
 refine wpAny_bind (x.state ?_)
 dsimp only
 refine wpAny_bind (rh ?_)
 rw[hb]
 simp only[Bool.false_eq_true,↓reduceIte]
 refine wpAny_ite_split (λhd=>?_) (λ_=>?_)
 ·change (!t.plain&&decide (es.size>1))=true at hd
  rcases hp with hp|hp
  ·rw[hp] at hd;cases hd
  ·rw[Bool.and_eq_true,decide_eq_true_eq] at hd;omega
 ·refine wpAny_bind ?_
  show wpAny _ _ (if(!t.led && !es.isEmpty)=true then _ else _) _ _ _
  rw[hl]
  simp only[Bool.not_true,Bool.false_and,Bool.false_eq_true,↓reduceIte]
  exact wpAny_pure (wpAny_pure h)
theorem yE{sl nx:Nat}{x:Value}{Q:Option Value->Shared->Prop}(hI:d7 s.heap I (.int (sl:Int) 0) i a n ep)(S:fB s.heap a es ep t)(hn:es.size=n)
  (hx:∀{E':Value->Shared->Prop} {Q':Option (Value×Nat)->Shared->Prop},Q' (some (x,nx)) s->wpAny (model prog w) A.in1 (setNext a sl i ep) Q' E' s)
  (hQ:∀h',d7 h' I (.int (nx:Int) 0) (i+1) a n ep->Heap.SameBut I s.heap h'->Q (some x) {s with heap:=h'}) :
  wpAny (model prog w) A (pyNext (.ref I)) Q E s:=by
 unfold pyNext
 refine wpAny_bind (wpAny_attempt (wpAny_callSpecial?_slot (name:=Str.ofString "__next__") hI.type gi (wpAny_call_entry gi hI.type hJ ?_ (iP _))))
 unfold Builtin.«set_iterator.__next__»
 refine wpAny_bind (m:=slotArgs _ _ _) (wpAny_pure ?_)
 refine wpAny_bind (wpAny_fieldsOf hI rfl ?_)
 dsimp only
 refine wpAny_bind (S.entries ?_)
 rw[hn]
 simp only[bne_self_eq_false,Bool.false_eq_true,↓reduceIte,aZ]
 refine wpAny_bind (hx ?_)
 dsimp only
 refine wpAny_bind (cF hI (by simp) λh1 g1 sb1=>?_)
 refine wpAny_bind (cF g1 (by simp) λh2 g2 sb2=>?_)
 refine wpAny_pure ⟨_,rfl,wpAny_pure (hQ h2 ?_ (sb1.trans sb2))⟩
 unfold d7
 rw[g2]
 simp[rawInt]
theorem BM{Q:Option Value->Shared->Prop}{h1:Heap}(hh:A.handled=none)(sb:Heap.SameBut I s.heap h1)
  (hQ:∀h',Heap.ExtBut I s.heap h'->Q none {s with heap:=h'}) :
  wpAny (model prog w) A.in1 (newExc (.type "StopIteration") [] >>= λe=>(raiseNew e:Sem Fin)) (λfin s'=>∃v,fin=.done (.ret v)/\wpAny (model prog w) A (pure (some v)) Q E s')
   (λe s'=>wpAny (model prog w) A (do if <-isInstance e (.type "StopIteration") then pure none else throw e) Q E s') {s with heap:=h1}:=by
 refine wpAny_bind ?_
 simp only[newExc,newTuple]
 refine wpAny_bind (wpAny_newObj_type ?_ (by size_fits))
 refine wpAny_bind (m:=firstArgMember _ _) (wpAny_of_eq (a:=Value.none) (by first|rfl|(simp only[firstArgMember];rfl)) ?_)
 refine wpAny_newObj_type ?_ (by size_fits)
 simp only[raiseNew]
 refine wpAny_bind (wpAny_handled ?_)
 rw[show A.in1.handled=none from hh]
 refine wpAny_bind (wpAny_pure (wpAny_throw ?_))
 refine wpAny_bind (wpAny_isInstance (T:="StopIteration") (b:=true) ⟨_,ax _ rfl,rfl⟩ isSubtype_stop ?_)
 exact wpAny_pure (hQ _ ((sb.extBut.push _).push _))
theorem yD{sl:Nat}{Q:Option Value->Shared->Prop}(hh:A.handled=none)(hI:d7 s.heap I (.int (sl:Int) 0) i a n ep)(S:fB s.heap a es ep t)(hn:es.size=n)
  (hx:∀{E':Value->Shared->Prop} {Q':Option (Value×Nat)->Shared->Prop},Q' none s->wpAny (model prog w) A.in1 (setNext a sl i ep) Q' E' s)
  (hQ:∀h',Heap.ExtBut I s.heap h'->Q none {s with heap:=h'}) :
  wpAny (model prog w) A (pyNext (.ref I)) Q E s:=by
 unfold pyNext
 refine wpAny_bind (wpAny_attempt (wpAny_callSpecial?_slot (name:=Str.ofString "__next__") hI.type gi (wpAny_call_entry gi hI.type hJ ?_ (iP _))))
 unfold Builtin.«set_iterator.__next__»
 refine wpAny_bind (m:=slotArgs _ _ _) (wpAny_pure ?_)
 refine wpAny_bind (wpAny_fieldsOf hI rfl ?_)
 dsimp only
 refine wpAny_bind (S.entries ?_)
 rw[hn]
 simp only[bne_self_eq_false,Bool.false_eq_true,↓reduceIte,aZ]
 refine wpAny_bind (hx ?_)
 dsimp only
 refine wpAny_bind (cF hI (by simp) λh1 g1 sb1=>?_)
 exact BM hh sb1 hQ
theorem EO{T:Addr}{ord:List Nat}{q:Nat}{e:Int×Value}{Q:Option Value->Shared->Prop}(hI:d7 s.heap I (.ref T) i a n ep)(S:fB s.heap a es ep t)(hn:es.size=n)
  (hT:∃o c,s.heap.get? T=some o/\o.data=.seq (ord.map λ(i:Nat)=>rawInt i).toArray c) (hq:ord[i]?=some q) (he:es[q]?=some e)
  (hQ:∀h',d7 h' I (.ref T) (i+1) a n ep->Heap.SameBut I s.heap h'->Q (some e.2) {s with heap:=h'}) :
  wpAny (model prog w) A (pyNext (.ref I)) Q E s:=by
 obtain⟨oT,c,hoT,hdT⟩:=hT
 unfold pyNext
 refine wpAny_bind (wpAny_attempt (wpAny_callSpecial?_slot (name:=Str.ofString "__next__") hI.type gi (wpAny_call_entry gi hI.type hJ ?_ (iP _))))
 unfold Builtin.«set_iterator.__next__»
 refine wpAny_bind (m:=slotArgs _ _ _) (wpAny_pure ?_)
 refine wpAny_bind (wpAny_fieldsOf hI rfl ?_)
 dsimp only
 refine wpAny_bind (S.entries ?_)
 rw[hn]
 simp only[bne_self_eq_false,Bool.false_eq_true,↓reduceIte,aZ]
 refine wpAny_bind (wpAny_seqItems hoT hdT ?_)
 have hg:(ord.map λ(i:Nat)=>rawInt i).toArray[i]?=some (.int (q:Int) 0):=by
  rw[eQ,aH,hq];rfl
 dsimp only
 rw[hg]
 dsimp only
 simp only[aZ]
 refine wpAny_bind ?_
 unfold setNextDrawn
 refine wpAny_bind (S.state ?_)
 dsimp only
 simp only[bne_self_eq_false,Bool.false_eq_true,↓reduceIte]
 rw[he]
 dsimp only
 refine wpAny_pure ?_
 refine wpAny_bind (cF hI (by simp) λh1 g1 sb1=>?_)
 refine wpAny_pure ⟨_,rfl,wpAny_pure (hQ h1 ?_ sb1)⟩
 unfold d7
 rw[g1]
 simp[rawInt]
theorem EN{T:Addr}{ord:List Nat}{Q:Option Value->Shared->Prop}(hh:A.handled=none)(hI:d7 s.heap I (.ref T) i a n ep)(S:fB s.heap a es ep t)(hn:es.size=n)
  (hT:∃o c,s.heap.get? T=some o/\o.data=.seq (ord.map λ(i:Nat)=>rawInt i).toArray c) (hq:ord[i]?=none)
  (hQ:∀h',Heap.ExtBut I s.heap h'->Q none {s with heap:=h'}) :
  wpAny (model prog w) A (pyNext (.ref I)) Q E s:=by
 obtain⟨oT,c,hoT,hdT⟩:=hT
 unfold pyNext
 refine wpAny_bind (wpAny_attempt (wpAny_callSpecial?_slot (name:=Str.ofString "__next__") hI.type gi (wpAny_call_entry gi hI.type hJ ?_ (iP _))))
 unfold Builtin.«set_iterator.__next__»
 refine wpAny_bind (m:=slotArgs _ _ _) (wpAny_pure ?_)
 refine wpAny_bind (wpAny_fieldsOf hI rfl ?_)
 dsimp only
 refine wpAny_bind (S.entries ?_)
 rw[hn]
 simp only[bne_self_eq_false,Bool.false_eq_true,↓reduceIte,aZ]
 refine wpAny_bind (wpAny_seqItems hoT hdT ?_)
 have hg:(ord.map λ(i:Nat)=>rawInt i).toArray[i]?=none:=by
  rw[eQ,aH,hq];rfl
 dsimp only
 rw[hg]
 dsimp only
 refine wpAny_bind (cF hI (by simp) λh1 g1 sb1=>?_)
 refine wpAny_bind (cF g1 (by simp) λh2 g2 sb2=>?_)
 exact BM (s:=s) hh (sb1.trans sb2) hQ
theorem wM{f:Value}{Q:Value->Shared->Prop}(hI:d7 s.heap I f i a n ep)(h:Q (.ref I) s):wpAny (model prog w) A (pyIter (.ref I)) Q E s:=by
 refine wpAny_pyIter_slot hI.type BL (wpAny_call_entry BL hI.type uE ?_ (wL _))
 show wpAny _ _ (ret (.ref I)) _ _ s
 exact wpAny_pure ⟨_,rfl,"set_iterator",_,hI.type,gi.lookup,h⟩
theorem DF(hh:A.handled=none)(hb:byText w=true)(hne:a≠I) :
  Walks prog w A I [I,a] [I] es.size (λi v=>∃e,(pickOrder (w.params.setOrder a ep) es).toList[i]?=some e/\v=e.2) (λi h=>d7 h I (.int ((0:Nat):Int) 0) i a es.size ep/\fB h a es ep t) where
 sub:=λb hb=>by simp at hb;simp[hb]
 frame:=λi h h' st hk=>⟨hk I (by simp) _ st.1,st.2.keep λo e=>hk a (by simp) o e⟩
 item:=λi s Q E hi st hQ=>by
  have hz:=(qg (w.params.setOrder a ep) es).length_eq
  have hg:(pickOrder (w.params.setOrder a ep) es).toList[i]?=some ((pickOrder (w.params.setOrder a ep) es).toList[i]'(by rw[hz,bF];exact hi)):=aa _
  refine yE (x:=((pickOrder (w.params.setOrder a ep) es).toList[i]'(by rw[hz,bF];exact hi)).2) (nx:=0) st.1 st.2 rfl (λhq=>vx hb st.2 ?_) λh' hI' sb=>?_
  ·rw[<-bI,hg];exact hq
  ·exact hQ _ h' s.toks ⟨_,hg,rfl⟩ ⟨hI',st.2.keep λo e=>by rw[sb.2 a hne];exact e⟩ λb o hb e=>by rw[sb.2 b (by simpa using hb)];exact e
 done:=λs Q E st hQ=>by
  have hz:=(qg (w.params.setOrder a ep) es).length_eq
  refine yD hh st.1 st.2 rfl (λhq=>vx hb st.2 ?_) λh' hx=>?_
  ·rw[<-bI,aW (by rw[hz,bF];exact au _)];exact hq
  ·exact hQ h' s.toks λb o hb e=>hx b o (by simpa using hb) e
 self:=λi s Q E st hQ=>wM st.1 hQ
theorem Bs(hh:A.handled=none)(hb:byText w=false)(hne:a≠I)(hl:t.led=true)(hp:t.plain=true\/es.size<=1)(hr:zQ t.place)(hz:t.place.size=es.size) :
  Walks prog w A I [I,a] [I] es.size (λi v=>∃e,es.toList[i]?=some e/\v=e.2) (λi h=>∃sl:Nat,d7 h I (.int (sl:Int) 0) i a es.size ep/\fB h a es ep t/\SetTable.below t.place sl=i) where
 sub:=λb hb=>by simp at hb;simp[hb]
 frame:=λi h h' ⟨sl,x1,x2,x3⟩ hk=>⟨sl,hk I (by simp) _ x1,x2.keep λo e=>hk a (by simp) o e,x3⟩
 item:=λi s Q E hi ⟨sl,x1,x2,x3⟩ hQ=>by
  have g1:es[i]?=some es[i]:=a6 hi
  have hi':i<t.place.size:=by rw[hz];exact hi
  have g2:t.place[i]?=some t.place[i]:=a6 hi'
  refine yE (x:=es[i].2) (nx:=t.place[i]+1) x1 x2 rfl (λhq=>sJ hb x2 hl hp ?_) λh' hI' sb=>?_
  ·rw[x3,g1,g2];exact hq
  ·exact hQ _ h' s.toks ⟨_,by rw[bI];exact g1,rfl⟩ ⟨_,hI',x2.keep λo e=>by rw[sb.2 a hne];exact e,Al hr g2⟩ λb o hb e=>by rw[sb.2 b (by simpa using hb)];exact e
 done:=λs Q E ⟨sl,x1,x2,x3⟩ hQ=>by
  refine yD hh x1 x2 rfl (λhq=>sJ hb x2 hl hp ?_) λh' hx=>?_
  ·rw[x3,dD (au _)];exact hq
  ·exact hQ h' s.toks λb o hb e=>hx b o (by simpa using hb) e
 self:=λi s Q E ⟨sl,x1,x2,x3⟩ hQ=>wM x1 hQ
def ya(es:Array (Int×Value))(ord:List Nat):List (Int×Value):=ord.map λq=>(es[q]?).getD (0,.none)
theorem Ak{ord:List Nat}(hp:ord.Perm (cc es.size)):(ya es ord).Perm es.toList:=by
 refine(hp.map _).trans (List.Perm.of_eq ?_)
 refine dR λi=>?_
 rw[aH]
 rcases b6 i es.size with h|h
 ·rw[iL h,bI,a6 h]
  simp[h]
 ·rw[aW (by simpa using h),aW (by simpa using h)];rfl
theorem Br{T:Addr}{ord:List Nat}(hh:A.handled=none)(hne:a≠I)(hTI:T≠I)(hp:ord.Perm (cc es.size)) :
  Walks prog w A I [I,a,T] [I] es.size (λi v=>∃e,(ya es ord)[i]?=some e/\v=e.2)
   (λi h=>d7 h I (.ref T) i a es.size ep/\fB h a es ep t/\∃o c,h.get? T=some o/\o.data=.seq (ord.map λ(i:Nat)=>rawInt i).toArray c) where
 sub:=λb hb=>by simp at hb;simp[hb]
 frame:=λi h h' ⟨x1,x2,o,c,x3,x4⟩ hk=>⟨hk I (by simp) _ x1,x2.keep λo e=>hk a (by simp) o e,o,c,hk T (by simp) _ x3,x4⟩
 item:=λi s Q E hi ⟨x1,x2,x3⟩ hQ=>by
  have hlen:ord.length=es.size:=by rw[hp.length_eq,dv]
  have hi':i<ord.length:=by rw[hlen];exact hi
  have hq:ord[i]?=some ord[i]:=aa hi'
  have hlt:ord[i]<es.size:=by simpa using hp.mem_iff.mp (bY hi')
  have he:es[ord[i]]?=some es[ord[i]]:=a6 hlt
  have hg:(ya es ord)[i]?=some es[ord[i]]:=by unfold ya;rw[aH,hq];simp[he]
  refine EO x1 x2 rfl x3 hq he λh' hI' sb=>?_
  obtain⟨o,c,y1,y2⟩:=x3
  exact hQ _ h' s.toks ⟨_,hg,rfl⟩ ⟨hI',x2.keep λo e=>by rw[sb.2 a hne];exact e,o,c,by rw[sb.2 T hTI];exact y1,y2⟩ λb o hb e=>by rw[sb.2 b (by simpa using hb)];exact e
 done:=λs Q E ⟨x1,x2,x3⟩ hQ=>by
  have hlen:ord.length=es.size:=by rw[hp.length_eq,dv]
  refine EN hh x1 x2 rfl x3 (aW (by omega)) λh' hx=>?_
  exact hQ h' s.toks λb o hb e=>hx b o (by simpa using hb) e
 self:=λi s Q E ⟨x1,x2,x3⟩ hQ=>wM x1 hQ
theorem Il{ps:Array Nat}(h:ps.size<=1):zQ ps:=by
 unfold zQ
 obtain⟨l⟩:=ps
 match l,h with
 |[],_=>exact List.Pairwise.nil
 |[x],_=>exact fS _ _
theorem FT{Q:Value->Shared->Prop}(hh:A.handled=none)(S:fB s.heap a es ep t)(hT:oB (!byText w) t)(hz:es.size<=sizeLine)
  (hQ:∀(I:Addr) (h':Heap) d (fp:List Addr) (L:List (Int×Value)) (St:Nat->Heap->Prop),L.Perm es.toList->(∀b o,s.heap.get? b=some o->h'.get? b=some o)->
   (∀b∈fp,b=a\/s.heap.objs.size<=b)->s.heap.objs.size<=I->Walks prog w A I fp [I] es.size (λi v=>∃e,L[i]?=some e/\v=e.2) St->St 0 h'->Q (.ref I) {s with heap:=h',drawn:=d}) :
  wpAny (model prog w) A (pyIter (.ref a)) Q E s:=by
 obtain⟨⟨o,ho,hc,hd⟩,hf⟩:=id S
 have lt:=aD ho
 have hps:t.place.size=es.size:=by
  simp only[SetTable.fits,Bool.and_eq_true,beq_iff_eq] at hf;exact hf.1
 have hty:s.TypeIs (.ref a) "set":=⟨o,ho,hc⟩
 refine wpAny_pyIter_slot hty F.slot_set_iter (wpAny_call_entry F.slot_set_iter hty tE ?_ (F.args_set_iter_1 _))
 unfold Builtin.«frozenset.__iter__»
 refine wpAny_bind (m:=Builtin.Frozenset.slot0 _ _) (wpAny_pure ?_)
 refine wpAny_bind ?_
 unfold Builtin.Frozenset.sizeOf
 refine wpAny_bind (S.entries (wpAny_pure ?_))
 refine wpAny_bind ?_
 unfold setDrawn
 refine wpAny_bind (S.state ?_)
 dsimp only
 refine wpAny_bind (rh (wpAny_pure ?_))
 refine wpAny_ite_split (λhdr=>?_) (λhdr=>?_)
 ·change (!byText w&&(!t.plain&&decide (es.size>1)))=true at hdr
  refine wpAny_bind (Gk _ _ (dv) λys d hp=>?_)
  have hyl:ys.length=es.size:=by rw[hp.length_eq,dv]
  refine wpAny_bind (wpAny_newTuple ?_ (by rw[af,hyl];exact hz))
  refine wpAny_bind (fB.epoch (es:=es) (t:=t) (ep:=ep) (S.keep λo e=>ag _ e) ?_)
  refine wpAny_bind (wpAny_newObj_type (wpAny_pure ⟨_,rfl,"set_iterator",_,⟨_,ax _ rfl,rfl⟩,gi.lookup,?_⟩))
  refine hQ _ _ d [_,a,s.heap.objs.size] (ya es ys) _ (Ak hp) (λb o e=>ag _ (ag _ e)) (λb hb=>?_) ?_
   (Br (T:=s.heap.objs.size) (ep:=ep) (t:=t) (by exact hh) ?_ ?_ hp) ⟨ax _ rfl,S.keep λo e=>ag _ (ag _ e),_,_,ag _ (ax _ rfl),rfl⟩
  ·rw[bC] at hb
   simp only[aN,b8,or_false] at hb
   rcases hb with rfl|rfl|rfl
   ·exact .inr (by omega)
   ·exact .inl rfl
   ·exact .inr (au _)
  ·rw[bC];exact dW _
  ·rw[bC];exact aL (cX lt)
  ·rw[bC];exact aL (cP _)
 ·change ¬((!byText w&&(!t.plain&&decide (es.size>1)))=true) at hdr
  refine wpAny_bind (wpAny_pure ?_)
  refine wpAny_bind (S.epoch ?_)
  refine wpAny_bind (wpAny_newObj_type (wpAny_pure ⟨_,rfl,"set_iterator",_,⟨_,ax _ rfl,rfl⟩,gi.lookup,?_⟩))
  have hfp:∀b∈[s.heap.objs.size,a],b=a\/s.heap.objs.size<=b:=λb hb=>by
   simp only[aN,b8,or_false] at hb
   rcases hb with rfl|rfl
   ·exact .inr (au _)
   ·exact .inl rfl
  cases hbt:byText w with
  |true=>
   refine hQ _ _ s.drawn [_,a] _ _ (qg (w.params.setOrder a ep) es) (λb o e=>ag _ e) hfp (au _)
    (DF (t:=t) hh hbt (aL lt)) ⟨ax _ rfl,S.keep λo e=>ag _ e⟩
  |false=>
   rw[hbt] at hdr
   have hl:t.led=true:=by rw[hT.led,hbt];rfl
   have hpl:t.plain=true\/es.size<=1:=by
    cases hq:t.plain with
    |true=>exact .inl rfl
    |false=>rw[hq] at hdr;simp at hdr;exact .inr (by omega)
   have hr:zQ t.place:=by
    rcases hpl with h|h
    ·exact hT.ris h
    ·exact Il (by rw[hps];exact h)
   refine hQ _ _ s.drawn [_,a] _ _ (List.Perm.refl _) (λb o e=>ag _ e) hfp (au _)
    (Bs (t:=t) (ep:=ep) hh hbt (aL lt) hl hpl hr hps) ⟨0,ax _ rfl,S.keep λo e=>ag _ e,Am hr⟩
end
end BgSet
end
section
namespace BgSet
open PySem PyProof.Rows
section
variable{prog:Program}{w:World}{A:Around}{R:Result->Shared->Prop}{I:Addr}{fp wr:List Addr}{G:Array GenState->Array GenState->Prop}{n:Nat}{P:Nat->Value->Prop}{St:Nat->Shared->Prop}
variable{K:Type}[DecidableEq K]{kd:KeyKind prog w K}
def met(val:Nat->K)(i:Nat)(k:K):Bool:=decide (k∈(cc i).map val)
theorem E1(val:Nat->K)(i:Nat)(k:K):(met val i k || decide (k=val i))=met val (i+1) k:=by
 unfold met
 rw[Bool.eq_iff_iff,Bool.or_eq_true,decide_eq_true_eq,decide_eq_true_eq,decide_eq_true_eq,iA,aC,aA]
 simp
theorem zd(W:WalksS prog w A.in1 I fp wr G n P St)(S:Addr)(hSf:S∉fp)(val:Nat->K)(led np:Bool)
  (hval:∀i v,P i v->kd.is (val i) v=true/\v.scannable=true/\(np=true->plainKind v=false)) (hb:n+1<scanBound) :
  ∀(k i m:Nat) (s:Shared),n-i=k->i<=n->m<=i->St i s->SetTb kd s.heap S (met val i) m led np->
   (∀s' m',Moved (S::wr) G s s'->m'<=n->SetTb kd s'.heap S (met val n) m' led np->R (.ok (.ret .none)) s')->
   codeAny (model prog w) A (.builtin "set.update.loop" ⟨[.ref S,.ref I],[]⟩) R s:=by
 have hSw:S∉wr:=λh=>hSf (W.sub _ h)
 have more:∀b∈wr,b∈S::wr:=λb hb=>bh _ hb
 intro k
 induction k with
 |zero=>
  intro i m s hk hi hm st T hR
  cases(by lia:i=n)
  refine codeAny_builtin PyProof.Rows.F.entry_set_update_loop ?_
  rw[Around.under_plainId PyProof.Rows.F.plain_set_update_loop _]
  show wpAny _ A.in1 (pyNext (.ref I) >>= _) _ _ s
  refine wpAny_bind (W.done s _ _ st λs' mv=>?_)
  show wpAny _ A.in1 (ret Value.none) _ _ s'
  exact wpAny_pure (hR s' m (mv.mono more) hm (T.keep λo e=>mv.heap S _ hSw e))
 |succ k ih=>
  intro i m s hk hi hm st T hR
  have lt:i<n:=by lia
  refine codeAny_builtin PyProof.Rows.F.entry_set_update_loop ?_
  rw[Around.under_plainId PyProof.Rows.F.plain_set_update_loop _]
  show wpAny _ A.in1 (pyNext (.ref I) >>= _) _ _ s
  refine wpAny_bind (W.item i s _ _ lt st λv s' hP st' mv=>?_)
  obtain⟨h1,h2,h3⟩:=hval i v hP
  have T':=T.keep (h':=s'.heap) λo e=>mv.heap S _ hSw e
  show wpAny _ A.in1 (holding [v] (setAdd S v) >>= _) _ _ s'
  refine wpAny_bind (wpAny_holding ?_)
  unfold setAdd
  refine wpAny_holding ?_
  refine wpAny_bind (kd.pyHash (k:=val i) h1 ?_)
  refine Iq (s:={s' with toks:=s'.toks+1}) h1 h2 h3 T' (by lia) λh' sb T2=>?_
  have hm2:(if met val i (val i)=true then m else m+1)<=i+1:=by split<;>lia
  refine wpAny_pure ⟨plainId_quiet PyProof.Rows.F.plain_set_update_loop _,ih (i+1) _ _ (by lia) lt hm2 (W.frame _ s' _ _ st' (dW _) λb hb o e=>?_)
   (T2.congr (λk'=>E1 val i k') rfl) λs'' m' mv2 hm' T3=>?_⟩
  ·rw[sb.2 b (λh:b=S=>hSf (by rw[<-h];exact hb))];exact e
  ·refine hR s'' m' (Moved.trans W.gtrans ((mv.mono more).then_heap (dW _) λb o hb e=>?_) mv2) hm' T3
   rw[sb.2 b (λh:b=S=>hb (by rw[h];exact bg))];exact e
end
section
variable{prog:Program}{w:World}{A:Around}{E:Value->Shared->Prop}{s:Shared}{K:Type}[DecidableEq K]{kd:KeyKind prog w K}
def cY(w:World):Obj:={cls:=.type "set",dict:=none,data:=.set #[] 0 (.fresh 0 0 (!byText w))}
theorem Cb(v:Value){Q:Value->Shared->Prop}(h:Q (.ref s.heap.objs.size) {s with heap:=s.heap.push (cY w)}) :
  codeAny (model prog w) A (.call (.builtin "set.__new__") ⟨[.type "set",v],[]⟩) (wants Q E) s:=by
 refine codeAny_of_tree ?_
 show wpAny _ A.in1 (checkBuiltinCall "set.__new__" ⟨[.type "set",v],[]⟩ >>= λ_=>again (.builtin "set.__new__" ⟨[.type "set",v],[]⟩)) _ _ s
 refine wpAny_bind (wpAny_of_eq (PySem.F.newCall_set_1 v) (wpAny_pure ⟨plainId_quiet PySem.F.plain_set_new _,codeAny_builtin PySem.F.entry_set_new ?_⟩))
 rw[Around.under_plainId PySem.F.plain_set_new _]
 unfold Builtin.«set.__new__» Builtin.Frozenset.newClass
 have hsub:=sub_set_self
 obtain⟨hp,g,d,tk,os⟩:=s
 dsimp only
 wp_walk
 refine wpAny_askSetting (wpAny_pure ?_)
 dsimp only
 simp only[newObj]
 refine wpAny_bind (wpAny_alloc (wpAny_pure ?_))
 exact wpAny_pure h
end
section
variable{prog:Program}{w:World}{A:Around}{E:Value->Shared->Prop}{s:Shared}{K:Type}[DecidableEq K][Inhabited K]{kd:KeyKind prog w K}
theorem set_of_list{l:Addr}{its:Array Value}(ks:List K)(np:Bool){Q:Value->Shared->Prop}(hh:A.handled=none)(hl:s.heap.IsList l its)(hk:ks.length=its.size)
  (hv:∀(i:Nat) k v,ks[i]?=some k->its[i]?=some v->kd.is k v=true/\v.scannable=true/\(np=true->plainKind v=false)) (hb:its.size+1<scanBound)
  (hQ:∀(h':Heap) (tk m:Nat),m<=its.size->SetTb kd h' s.heap.objs.size (λk=>decide (k∈ks)) m (!byText w) np->
   (∀b o,b<s.heap.objs.size->s.heap.get? b=some o->h'.get? b=some o)->Q (.ref s.heap.objs.size) {s with heap:=h',toks:=tk}) :
  wpAny (model prog w) A (call (.type "set") [.ref l]) Q E s:=by
 obtain⟨c,tl,mro⟩:=PySem.F.called_set.mro
 have made:=PySem.F.called_set.made
 have sub0:=PySem.F.called_set.sub
 refine wpAny_call (codeAny_of_tree ?_)
 show wpAny _ _ (callAny (.type "set") _) _ _ _
 refine wpAny_pure ⟨Code.quiet_builtin _ (by decide +kernel),codeAny_builtin PySem.F.entry_type_call ?_⟩
 rw[Around.under_plain (weight_type_call_type "set" [.ref l] []) rfl]
 have f1:=PySem.F.called_set.notType
 have f2:=PySem.F.called_set.canCreate
 have f3:=PySem.F.typeCall_set_1 (.ref l)
 repeat (any_goals (first|assumption|wp_step))
 refine codeAny_mono (Cb (.ref l) (E:=E) (Q:=λv s1=>v=.ref s.heap.objs.size/\s1={s with heap:=s.heap.push (cY w)}) ⟨rfl,rfl⟩) λr s1 hr=>?_
 cases r with
 |error e=>exact hr
 |ok fl=>
  cases fl with
  |ret v=>
   obtain⟨rfl,rfl⟩:=hr
   have gS:(s.heap.push (cY w)).get? s.heap.objs.size=some (cY w):=ax _ rfl
   have tS:Shared.TypeIs {s with heap:=s.heap.push (cY w)} (.ref s.heap.objs.size) "set":=⟨_,gS,rfl⟩
   have li:=PySem.F.called_set.init.lookup
   have bi:=PySem.F.called_set.init.bind (.ref s.heap.objs.size)
   repeat (any_goals (first|assumption|wp_step))
   refine codeAny_mono (codeAny_call_builtin (R:=wants (λr s2=>r=.none/\∃h' tk m,s2={s with heap:=h',toks:=tk}/\m<=its.size/\
     SetTb kd h' s.heap.objs.size (λk=>decide (k∈ks)) m (!byText w) np/\(∀b o,b<s.heap.objs.size->s.heap.get? b=some o->h'.get? b=some o)) E)
     PySem.F.called_set.init.plain PySem.F.entry_set_init (check_set_init_1 tS ?_)) λr2 s2 hr2=>?_
   ·obtain⟨ol,gl,hcl,nl,hdl⟩:=hl
    obtain⟨ocls,odict,odata,oslots⟩:=ol
    simp only at hcl hdl
    subst hcl;subst hdl
    have gl2:(s.heap.push (cY w)).get? l=some {cls:=.type "list",dict:=odict,data:=.seq its nl,slots:=oslots}:=ag _ gl
    have u1:=PySem.F.sub_list_set
    have u2:=PySem.F.sub_list_frozenset
    have u3:(Value.type "list"==Value.type "dict")=false:=by decide
    have hl1:(s.heap.push (cY w)).IsList l its:=⟨_,gl2,rfl,nl,rfl⟩
    unfold Builtin.«set.__init__» noKeywords Builtin.Frozenset.updateFrom
    generalize hPI:pyIter=PI
    wp_walk
    subst hPI
    refine wpAny_pyIter_list hl1 ?_
    refine wpAny_bind (wpAny_runValue ?_)
    have lt:l<s.heap.objs.size:=aD gl
    have hh3:A.in1.in1.in1.handled=none:=by simp[hh]
    have ne:l≠(s.heap.push (cY w)).objs.size:=by
     rw[bC];exact aL (cX lt)
    have nf:s.heap.objs.size∉[(s.heap.push (cY w)).objs.size,l]:=by
     rw[bC]
     simp only[aN,b8,or_false,not_or]
     exact⟨aL (cP _),cJ lt⟩
    have hval:∀(i:Nat) (v:Value),its[i]?=some v->kd.is (ks.getD i default) v=true/\v.scannable=true/\(np=true->plainKind v=false):=λi v hi=>by
     have hlt:i<ks.length:=by rw[hk];exact(dJ.mp hi).1
     refine hv i _ v ?_ hi
     rw[bu,aa hlt];rfl
    refine zd ((Walks.list hh3 _ l ne its).toS) s.heap.objs.size nf (λi=>ks.getD i default) (!byText w) np hval hb (its.size-0) 0 0 _ (by lia) (bt _) (au _)
     ⟨⟨_,ax _ rfl,rfl,rfl⟩,(hl1.push _)⟩ (SetTb.congr (SetTb.fresh (x:=0) (y:=0) (ag _ gS)) (λk=>rfl) rfl) λs' m mv hm T=>?_
    obtain⟨h',g',d',tk',os'⟩:=s'
    have eg:g'=s.gens:=mv.gens
    have ed:d'=s.drawn:=mv.drawn
    have eo:os'=s.os:=mv.os
    subst eg;subst ed;subst eo
    show wpAny _ _ _ _ _ _
    refine wpAny_pure ?_
    show wpAny _ _ (ret Value.none) _ _ _
    refine wpAny_pure ⟨rfl,h',tk',m,rfl,hm,T.congr (λk=>?_) rfl,λb o hb e=>?_⟩
    ·unfold met
     rw[Bool.eq_iff_iff,decide_eq_true_eq,decide_eq_true_eq]
     have:(cc its.size).map (λi=>ks.getD i default)=ks:=by
      refine dR λi=>?_
      rw[aH]
      rcases b6 i its.size with h|h
      ·rw[iL h,aa (by rw[hk];exact h)]
       simp[bu,hk,h]
      ·rw[aW (by simpa using h),aW (by rw[hk];exact h)];rfl
     rw[this]
    ·have n1:b≠s.heap.objs.size:=aL hb
     have n2:b≠(s.heap.push (cY w)).objs.size:=by
      rw[bC];exact aL (cX hb)
     refine mv.heap b o ?_ (ag _ (ag _ e))
     simp only[aN,b8,or_false,not_or]
     exact⟨n1,n2⟩
   ·cases r2 with
    |error e=>exact hr2
    |ok fl2=>
     cases fl2 with
     |ret r=>
      obtain⟨rfl,h',tk,m,rfl,hm,T,kp⟩:=hr2
      repeat (any_goals (first|assumption|wp_step))
      exact hQ _ _ m hm T kp
     |_=>exact hr2.elim
  |_=>exact hr.elim
theorem set_of_tuple{l:Addr}{its:Array Value}(ks:List K)(np:Bool){Q:Value->Shared->Prop}(hh:A.handled=none)(hl:s.heap.IsTuple l its)(hk:ks.length=its.size)
  (hv:∀(i:Nat) k v,ks[i]?=some k->its[i]?=some v->kd.is k v=true/\v.scannable=true/\(np=true->plainKind v=false)) (hb:its.size+1<scanBound)
  (hQ:∀(h':Heap) (tk m:Nat),m<=its.size->SetTb kd h' s.heap.objs.size (λk=>decide (k∈ks)) m (!byText w) np->
   (∀b o,b<s.heap.objs.size->s.heap.get? b=some o->h'.get? b=some o)->Q (.ref s.heap.objs.size) {s with heap:=h',toks:=tk}) :
  wpAny (model prog w) A (call (.type "set") [.ref l]) Q E s:=by
 obtain⟨c,tl,mro⟩:=PySem.F.called_set.mro
 have made:=PySem.F.called_set.made
 have sub0:=PySem.F.called_set.sub
 refine wpAny_call (codeAny_of_tree ?_)
 show wpAny _ _ (callAny (.type "set") _) _ _ _
 refine wpAny_pure ⟨Code.quiet_builtin _ (by decide +kernel),codeAny_builtin PySem.F.entry_type_call ?_⟩
 rw[Around.under_plain (weight_type_call_type "set" [.ref l] []) rfl]
 have f1:=PySem.F.called_set.notType
 have f2:=PySem.F.called_set.canCreate
 have f3:=PySem.F.typeCall_set_1 (.ref l)
 repeat (any_goals (first|assumption|wp_step))
 refine codeAny_mono (Cb (.ref l) (E:=E) (Q:=λv s1=>v=.ref s.heap.objs.size/\s1={s with heap:=s.heap.push (cY w)}) ⟨rfl,rfl⟩) λr s1 hr=>?_
 cases r with
 |error e=>exact hr
 |ok fl=>
  cases fl with
  |ret v=>
   obtain⟨rfl,rfl⟩:=hr
   have gS:(s.heap.push (cY w)).get? s.heap.objs.size=some (cY w):=ax _ rfl
   have tS:Shared.TypeIs {s with heap:=s.heap.push (cY w)} (.ref s.heap.objs.size) "set":=⟨_,gS,rfl⟩
   have li:=PySem.F.called_set.init.lookup
   have bi:=PySem.F.called_set.init.bind (.ref s.heap.objs.size)
   repeat (any_goals (first|assumption|wp_step))
   refine codeAny_mono (codeAny_call_builtin (R:=wants (λr s2=>r=.none/\∃h' tk m,s2={s with heap:=h',toks:=tk}/\m<=its.size/\
     SetTb kd h' s.heap.objs.size (λk=>decide (k∈ks)) m (!byText w) np/\(∀b o,b<s.heap.objs.size->s.heap.get? b=some o->h'.get? b=some o)) E)
     PySem.F.called_set.init.plain PySem.F.entry_set_init (check_set_init_1 tS ?_)) λr2 s2 hr2=>?_
   ·obtain⟨ol,gl,hcl,nl,hdl⟩:=hl
    obtain⟨ocls,odict,odata,oslots⟩:=ol
    simp only at hcl hdl
    subst hcl;subst hdl
    have gl2:(s.heap.push (cY w)).get? l=some {cls:=.type "tuple",dict:=odict,data:=.seq its nl,slots:=oslots}:=ag _ gl
    have u1:=PySem.F.sub_tuple_set
    have u2:=PySem.F.sub_tuple_frozenset
    have u3:(Value.type "tuple"==Value.type "dict")=false:=by decide
    have hl1:(s.heap.push (cY w)).IsTuple l its:=⟨_,gl2,rfl,nl,rfl⟩
    unfold Builtin.«set.__init__» noKeywords Builtin.Frozenset.updateFrom
    generalize hPI:pyIter=PI
    wp_walk
    subst hPI
    refine wpAny_pyIter_tuple hl1 ?_
    refine wpAny_bind (wpAny_runValue ?_)
    have lt:l<s.heap.objs.size:=aD gl
    have hh3:A.in1.in1.in1.handled=none:=by simp[hh]
    have ne:l≠(s.heap.push (cY w)).objs.size:=by
     rw[bC];exact aL (cX lt)
    have nf:s.heap.objs.size∉[(s.heap.push (cY w)).objs.size,l]:=by
     rw[bC]
     simp only[aN,b8,or_false,not_or]
     exact⟨aL (cP _),cJ lt⟩
    have hval:∀(i:Nat) (v:Value),its[i]?=some v->kd.is (ks.getD i default) v=true/\v.scannable=true/\(np=true->plainKind v=false):=λi v hi=>by
     have hlt:i<ks.length:=by rw[hk];exact(dJ.mp hi).1
     refine hv i _ v ?_ hi
     rw[bu,aa hlt];rfl
    refine zd ((Walks.tuple hh3 _ l ne its).toS) s.heap.objs.size nf (λi=>ks.getD i default) (!byText w) np hval hb (its.size-0) 0 0 _ (by lia) (bt _) (au _)
     ⟨⟨_,ax _ rfl,rfl,rfl⟩,(hl1.push _)⟩ (SetTb.congr (SetTb.fresh (x:=0) (y:=0) (ag _ gS)) (λk=>rfl) rfl) λs' m mv hm T=>?_
    obtain⟨h',g',d',tk',os'⟩:=s'
    have eg:g'=s.gens:=mv.gens
    have ed:d'=s.drawn:=mv.drawn
    have eo:os'=s.os:=mv.os
    subst eg;subst ed;subst eo
    show wpAny _ _ _ _ _ _
    refine wpAny_pure ?_
    show wpAny _ _ (ret Value.none) _ _ _
    refine wpAny_pure ⟨rfl,h',tk',m,rfl,hm,T.congr (λk=>?_) rfl,λb o hb e=>?_⟩
    ·unfold met
     rw[Bool.eq_iff_iff,decide_eq_true_eq,decide_eq_true_eq]
     have:(cc its.size).map (λi=>ks.getD i default)=ks:=by
      refine dR λi=>?_
      rw[aH]
      rcases b6 i its.size with h|h
      ·rw[iL h,aa (by rw[hk];exact h)]
       simp[bu,hk,h]
      ·rw[aW (by simpa using h),aW (by rw[hk];exact h)];rfl
     rw[this]
    ·have n1:b≠s.heap.objs.size:=aL hb
     have n2:b≠(s.heap.push (cY w)).objs.size:=by
      rw[bC];exact aL (cX hb)
     refine mv.heap b o ?_ (ag _ (ag _ e))
     simp only[aN,b8,or_false,not_or]
     exact⟨n1,n2⟩
   ·cases r2 with
    |error e=>exact hr2
    |ok fl2=>
     cases fl2 with
     |ret r=>
      obtain⟨rfl,h',tk,m,rfl,hm,T,kp⟩:=hr2
      repeat (any_goals (first|assumption|wp_step))
      exact hQ _ _ m hm T kp
     |_=>exact hr2.elim
  |_=>exact hr.elim
end
section
variable{prog:Program}{w:World}{A:Around}{E:Value->Shared->Prop}{s:Shared}{a:Addr}{es:Array (Int×Value)}{ep:Nat}{t:SetTable}
theorem FS{Q:Bool->Shared->Prop}(ht:s.TypeIs (.ref a) "set")(h:Q false s):wpAny (model prog w) A (Builtin.List.listLengthHint (.ref a)) Q E s:=by
 unfold Builtin.List.listLengthHint
 refine wpAny_bind (wpAny_specialOf ht PySem.F.slot_set_len.lookup ?_)
 generalize hid:("set.__len__":String)=nm
 wp_delta
 rw[show splitId nm=some ("set","__len__") from by subst hid;decide +kernel]
 subst hid
 refine wpAny_bind (wpAny_isInstance (T:="set") (b:=true) ht (by rw[isSubtype_type];kernel_rfl) ?_)
 refine wpAny_ite_split (λc=>absurd c (by decide)) (λ_=>?_)
 refine wpAny_ite_split (λ_=>?_) (λc=>absurd (by decide +kernel) c)
 exact wpAny_bind (wpAny_typeOf ht (wpAny_pure h))
def LO(s:Shared)(S:Addr)(es:Array (Int×Value))(s':Shared):Prop:=
 ∃(h':Heap) (d:Drawn) (tk:Nat) (L:List (Int×Value)) (c:Nat),s'={s with heap:=h',drawn:=d,toks:=tk}/\L.Perm es.toList/\(∀b o,b≠S->s.heap.get? b=some o->h'.get? b=some o)/\
  h'.get? S=some {cls:=.type "list",dict:=none,data:=.seq (L.map (·.2)).toArray c,slots:=#[]}
theorem yG{L:List (Int×Value)}{acc:Array Value}(h:ItemsOf (λi v=>∃e,L[i]?=some e/\v=e.2) acc L.length):acc=(L.map (·.2)).toArray:=by
 apply Array.toList_inj.mp
 rw[List.toList_toArray]
 refine dR λi=>?_
 rw[bI,aH]
 rcases b6 i acc.size with hi|hi
 ·obtain⟨e,he,hv⟩:=h.2 i _ (a6 hi)
  rw[a6 hi,he,hv];rfl
 ·rw[dD hi,aW (by rw[<-h.1];exact hi)];rfl
theorem Ba(hh:A.handled=none)(X:fB s.heap a es ep t)(hT:oB (!byText w) t)(hz:es.size<=sizeLine)(S:Addr)(hne:S≠a)(res:Value)(c0:Nat)
  (gS:s.heap.get? S=some {cls:=.type "list",data:=.seq #[] c0}) {R:Result->Shared->Prop} (hR:∀s',LO s S es s'->R (.ok (.ret res)) s') :
  wpAny (model prog w) A.in1 (Builtin.List.listExtendWith (.ref S) (.ref a) res)
   (λfin s'=>match fin with|.done f=>R (.ok f) s'|.again c'=>c'.quiet=true/\codeAny (model prog w) A c' R s') (λe s'=>R (.error e) s') s:=by
 have ltS:=aD gS
 obtain⟨o,ho,hc,hd⟩:=X.at_
 have lta:=aD ho
 unfold Builtin.List.listExtendWith
 refine wpAny_bind (wpAny_typeOf (T:="set") ⟨o,ho,hc⟩ ?_)
 have h1:Builtin.List.listSameRef (.ref S) (.ref a)=false:=by simp[Builtin.List.listSameRef,hne]
 have h2:(Value.type "set"==Value.type "list")=false:=by decide
 have h3:(Value.type "set"==Value.type "tuple")=false:=by decide
 simp only[h1,h2,h3,Bool.or_false,Bool.false_eq_true,if_false]
 refine wpAny_bind (FT (A:=A.in1) hh X hT hz λI h' d fp L St hp kp hfp hI W st=>?_)
 have hSf:S∉fp:=λhm=>(hfp S hm).elim hne λe=>absurd ltS (nN.mpr e)
 have hlen:L.length=es.size:=by rw[hp.length_eq,bF]
 have key:∀(h:Heap) (c1:Nat),St 0 h->(∀b o,b≠S->s.heap.get? b=some o->h.get? b=some o)->
   h.get? S=some {cls:=.type "list",data:=.seq #[] c1}->codeAny (model prog w) A (.builtin "list.extend.loop" ⟨[.ref S,.ref I,res],[]⟩) R {s with heap:=h,drawn:=d}:=by
  intro h c1 st1 k1 g1
  refine codeAny_extend_loopS W.toS hz S hSf res es.size 0 _ #[] c1 rfl (bt _) st1 g1 (ItemsOf.nil _) λs' acc' c' mv g' hacc=>?_
  refine hR s' ⟨s'.heap,d,s'.toks,L,c',by rw[Moved.eq_with mv],hp,λb o hb e=>mv.heap b o (λhm=>?_) (k1 b o hb e),?_⟩
  ·rcases aN.mp hm with e'|hm
   ·exact hb e'
   ·have:=aD e;rw[ak.mp hm] at this;exact absurd this (nN.mpr hI)
  ·rw[<-yG (by rw[hlen];exact hacc)];exact g'
 have gS':=kp S _ gS
 refine wpAny_bind (wpAny_holding (FS ⟨o,kp a o ho,hc⟩ ?_))
 refine wpAny_ite_split (λ_=>?_) (λ_=>wpAny_pure ⟨plainId_quiet dQ _,key _ c0 st (λb o _ e=>kp b o e) gS'⟩)
 refine wpAny_bind (wpAny_rule ?_)
 refine wpAny_bind ?_
 show wpAny _ _ (updateSeq S (·.push .none) >>= λ_=>updateSeq S (·.pop)) _ _ _
 refine wpAny_bind (wpAny_updateSeq gS' rfl ?_)
 have g2:=bW (Obj.mapSeq (·.push Value.none)) gS' rfl
 refine wpAny_updateSeq (hz:=by seq_fits) g2 rfl ?_
 have g3:=bW (Obj.mapSeq (·.pop)) g2 rfl
 refine wpAny_pure ⟨plainId_quiet dQ _,key _ _ (W.frame 0 _ _ st λb hb o e=>?_) (λb o hb e=>?_) g3⟩
 ·have n:b≠S:=λh=>hSf (h ▸ hb)
  exact(bG _ _ (Ne.symm n)).trans ((bG _ _ (Ne.symm n)).trans e)
 ·exact(bG _ _ (Ne.symm hb)).trans ((bG _ _ (Ne.symm hb)).trans (kp b o e))
theorem set_collect(hh:A.handled=none)(X:fB s.heap a es ep t)(hT:oB (!byText w) t)(hz:es.size<=sizeLine){R:List Value->Shared->Prop}
  (hR:∀(h':Heap) (d:Drawn) (tk:Nat) (L:List (Int×Value)),L.Perm es.toList->(∀b o,s.heap.get? b=some o->h'.get? b=some o)->R (L.map (·.2)) {s with heap:=h',drawn:=d,toks:=tk}) :
  wpAny (model prog w) A (collect (.ref a)) R E s:=by
 obtain⟨o,ho,hc,hd⟩:=X.at_
 have lta:=aD ho
 unfold collect
 refine wpAny_bind (wpAny_runValue (codeAny_builtin entry_proto_collect' ?_))
 rw[Around.under_plainId PySem.F.plain_proto_collect _]
 show wpAny _ A.in1 (newList [] >>= λl=>again (.builtin "list.__iadd__" ⟨[l,.ref a],[]⟩)) _ _ s
 refine wpAny_bind (wpAny_newObj_type ?_)
 refine wpAny_pure ⟨plainId_quiet PySem.F.plain_list_iadd _,codeAny_builtin entry_list_iadd' ?_⟩
 rw[Around.under_plainId PySem.F.plain_list_iadd _]
 show wpAny _ A.in1 (Builtin.List.listExtendWith (.ref s.heap.objs.size) (.ref a) (.ref s.heap.objs.size)) _ _ _
 have g1:(s.heap.push {cls:=.type "list",data:=.seq ([]:List Value).toArray}).get? s.heap.objs.size=some {cls:=.type "list",data:=.seq #[]}:=ax _ rfl
 have go:=Ba (prog:=prog) (w:=w) (A:=A) (s:={s with heap:=s.heap.push {cls:=.type "list",data:=.seq ([]:List Value).toArray}}) hh (X.keep λo e=>ag _ e) hT hz s.heap.objs.size
  (cJ lta) (.ref s.heap.objs.size) 0 g1 (R:=λq s'=>q=.ok (.ret (.ref s.heap.objs.size))/\∃(h':Heap) (d:Drawn) (tk:Nat) (L:List (Int×Value)) (c:Nat),
   s'={s with heap:=h',drawn:=d,toks:=tk}/\L.Perm es.toList/\(∀b o,s.heap.get? b=some o->h'.get? b=some o)/\
   h'.get? s.heap.objs.size=some {cls:=.type "list",dict:=none,data:=.seq (L.map (·.2)).toArray c,slots:=#[]}) (λs' ⟨h',d,tk,L,c,e,hp,kp,g⟩=>
    ⟨rfl,h',d,tk,L,c,e,hp,λb o e=>kp b o (aL (aD e)) (ag _ e),g⟩)
 refine wpAny_mono go (λfin s' x=>?_) λe s' x=>?_
 ·cases fin with
  |done f=>
   obtain⟨e,h',d,tk,L,c,rfl,hp,kp,g⟩:=x
   cases e
   show wpAny _ A (load s.heap.objs.size >>= _) _ _ _
   refine wpAny_bind (wpAny_load g ?_)
   refine wpAny_pure ?_
   have:=hR h' d tk L hp kp
   simpa using this
  |again c1=>
   refine⟨x.1,codeAny_mono x.2 λq s2 y=>?_⟩
   obtain⟨rfl,h',d,tk,L,c,rfl,hp,kp,g⟩:=y
   show wpAny _ A (load s.heap.objs.size >>= _) _ _ _
   refine wpAny_bind (wpAny_load g ?_)
   refine wpAny_pure ?_
   have:=hR h' d tk L hp kp
   simpa using this
 ·cases x.1
end
end BgSet
end
section
namespace Bg
open PySem PySem.Spec PyProof.Rows L2
abbrev GF:List Str:=["_law_state","_law_many_here"]
abbrev DY:List Str:=["_law_state","_law_many_here","_law_script","_law_k","_law_digit","_law_cell"]
def F4(K:Fg):TS:=(c9 (bN (jV) (bN (jV) (bN (i8 K) (av 5) (av 5)) (tC (.int 1999999973))) (av 1)))
def F5(K:Fg):TS:=(bB (bU (bN (jV) (bN (i8 K) (av 5) (av 5)) (tC (.int 2147483587))) (aQ 5)) (F4 K))
def zw(K:Fg):TS:=(bB (bU (bN (jV) (bN (i8 K) (bN (jV) (av 5) (tC (.int 2147483629))) (bN (c7 K) (av 3) (tC (.int 3)))) (tC (.int 2147483629))) (aQ 5)) (F5 K))
def F6(K:Fg):TS:=(bB (fZ (cg (bN (uK) (ff (fQ K) (aq (av 2) aO)) (tC (.int 0)))) (bU (bN (c7 K) (av 5) (bN (i8 K) (bN (eU K) (av 2) (bN (jV) (bN (i8 K) (av 3) (tC (.int 7))) (ff (fQ K) (aq (av 2) aO)))) (bN (c7 K) (tC (.int 48271)) (av 3)))) (aQ 5)) d6) (zw K))
def pD(K:Fg):TS:=(bB (bU (bN (c7 K) (bN (i8 K) (av 3) (tC (.int 7919))) (tC (.int 5))) (aQ 5)) (F6 K))
def F7(K:Fg):TS:=(c9 (av 4))
def zx(K:Fg):TS:=(fZ (cg (bN ((C9 K true)) (bN (eU K) (av 0) (tC (.int 2))) (kz (aq (tC (.int 0)) (aq (zU ph (tC (.int 1))) aO))))) (bB (bU (ff (HZ) (aq (bN (eU K) (av 0) (tC (.int 2))) (aq (av 1) aO))) (sA K 2 (fE (yw (av 0) (tC (.int 2)) yY) (fE (aQ 4) qY)))) (F7 K)) d6)
def zy(K:Fg):TS:=(bB (fZ (zi (cg (bN (AY) (bN (c7 K) (bN (Fv) (av 3) (tC (.int 12))) (tC (.int 1))) (ff (fQ K) (aq (av 2) aO)))) (cg (bN (wY K) (bN (jV) (bN (eU K) (av 2) (tC (.int 0))) (tC (.int 2))) (tC (.int 1))))) (bB (fZ (cg (bN (wY K) (bN (jV) (av 3) (tC (.int 12))) (tC (.int 0)))) (bU (bN (eU K) (av 2) (bN (c7 K) (bN (Fv) (av 3) (tC (.int 12))) (tC (.int 1)))) (yw (av 0) (tC (.int 2)) yY)) d6) (zx K)) (fZ (cg (bN (AY) (av 3) (ff (fQ K) (aq (av 2) aO)))) (c9 (bN (jV) (bN (eU K) (av 2) (av 3)) (av 1))) d6)) (pD K))
def F8(K:Fg):TS:=(bB (bU (bN (c7 K) (av 3) (tC (.int 1))) (yw (av 0) (tC (.int 1)) yY)) (zy K))
def F3(K:Fg):TS:=(bB (bU (FY (Ic K) (av 0) gu (lS (tC (.int 2)))) (EE K 2 (fE (aQ 2) (fE (aQ 3) qY)))) (F8 K))
abbrev D4:List Str:=["_law_state","_law_many_here"]
abbrev wb:List Str:=["_law_state","_law_many_here","_law_letters","_law_size","_law_at","_law_first","_law_base","_law_found","_law_k","_law_some","_law_name"]
def vQ(K:Fg):TS:=(c9 (av 7))
def vR(K:Fg):TS:=(gq (rE K "list" dN (av 7) (aq (av 10) aO)))
def vS(K:Fg):TS:=(bB (fZ (LA (cg (bN ((C9 K false)) (av 10) (kz (aq (tC (.str "part")) (aq (tC (.str "call")) (aq (tC (.str "say")) (aq (tC (.str "jump")) (aq (tC (.str "test")) (aq (tC (.str "give")) aO))))))))) (zi (cg (bN (AY) (av 3) (tC (.int 8)))) (cg (bN (wY K) (bN (jV) (bN (c7 K) (av 3) (av 8)) (tC (.int 3))) (tC (.int 1)))))) (bU (bN (c7 K) (av 10) (tC (.str "x"))) (aQ 10)) d6) (vR K))
def Dr(K:Fg):TS:=(bB (bU (rE K "str" (Fx K) (tC (.str "")) (aq (av 9) aO)) (aQ 10)) (vS K))
def Ds(K:Fg):TS:=(bB (bU (bN (c7 K) (bN (c7 K) (FY (Ic K) (av 6) gu (lS (av 4))) (gA (aq (bN (eU K) (av 2) (bN (jV) (bN (c7 K) (av 5) (bN (i8 K) (tC (.int 5)) (av 8))) (tC (.int 26)))) aO))) (FY (Ic K) (av 6) (lS (bN (c7 K) (av 4) (tC (.int 1)))) gu)) (aQ 9)) (Dr K))
def vT(K:Fg):TS:=(bB (jM (lB (aq (av 1) aO)) (aQ 8) (Ds K)) (vQ K))
def Du(K:Fg):TS:=(bB (bU (gA aO) (aQ 7)) (vT K))
def Dv(K:Fg):TS:=(bB (bU (d5 [] 1 (lB (aq (av 3) aO)) (aQ 11) jN (bN (eU K) (av 2) (bN (jV) (bN (c7 K) (av 5) (bN (i8 K) (bN (i8 K) (tC (.int 7)) (av 11)) (br (eB K) [] E0 (aq (av 0) (aq (tC (.int 4)) aO))))) (tC (.int 26))))) (aQ 6)) (Du K))
def Dx(K:Fg):TS:=(bB (bU (br (eB K) [] E0 (aq (av 0) (aq (tC (.int 26)) aO))) (aQ 5)) (Dv K))
def tO(K:Fg):TS:=(bB (bU (br (eB K) [] E0 (aq (av 0) (aq (av 3) aO))) (aQ 4)) (Dx K))
def Bi(K:Fg):TS:=(bB (bU (bN (c7 K) (tC (.int 1)) (br (eB K) [] E0 (aq (av 0) (aq (tC (.int 8)) aO)))) (aQ 3)) (tO K))
def Cq(K:Fg):TS:=(bB (bU (tC (.str "abcdefghijklmnopqrstuvwxyz")) (aQ 2)) (Bi K))
end Bg
end
section
namespace Bg
open PySem L2
abbrev GM:Str:="abcdefghijklmnopqrstuvwxyz"
theorem Bz:GM.length<=sizeLine:=by decide +kernel
def one(c:Nat):Str:=⟨#[c]⟩
theorem ye:∀cs:List Nat,(Txt.join "" (cs.map one)).cps.toList=cs
 |[]=>by decide +kernel
 |c::r=>by
  unfold Txt.join
  rw[StrLaws.glued_eq_join]
  induction r generalizing c with
  |nil=>rfl
  |cons d r ih=>
   show(one c++("":Str)++Str.join "" ((d::r).map one)).cps.toList=_
   have e:(one c++("":Str)++Str.join "" ((d::r).map one)).cps.toList=(one c).cps.toList++("":Str).cps.toList++(Str.join "" ((d::r).map one)).cps.toList:=by
    show((one c).cps++("":Str).cps++(Str.join "" ((d::r).map one)).cps).toList=_
    rw[iJ,iJ]
   rw[e,ih d]
   rfl
theorem jR(y:Str):y.length=y.cps.toList.length:=by
 show y.cps.size=_
 rw[bF]
theorem x5:∀j:Nat,j<26->GM.cps.toList[j]?=some (97+j):=by decide +kernel
theorem FM:∀y∈FL,y.length<=4:=by decide +kernel
theorem Dj:∀y∈FL,y.cps.toList.getLast?≠some 120:=by decide +kernel
theorem BC(y:Str):(y++"x").cps.toList=y.cps.toList++[120]:=by
 show(y.cps++("x":Str).cps).toList=_
 rw[iJ]
 rfl
theorem yQ{y:Str}{cs:List Nat}(h:y.cps.toList=cs)(l1:1<=cs.length)(l8:cs.length<=8)(a:∀c∈cs,97<=c/\c<=122)(n:y∉FL):Nm y:=
 ⟨by rw[jR,h];exact l1,by rw[jR,h];exact l8,by rw[h];exact a,n⟩
theorem K7{y:Str}{cs:List Nat}(h:y.cps.toList=cs)(l8:cs.length<=7)(a:∀c∈cs,97<=c/\c<=122):Nm (y++"x"):=by
 have e:=BC y
 rw[h] at e
 refine⟨by rw[jR,e,ai];simp,by rw[jR,e,ai];simp;lia,λc hc=>?_,λhm=>?_⟩
 ·rw[e] at hc
  rcases aA.mp hc with z|z
  ·exact a c z
  ·rw[ak.mp z];decide
 ·have:=Dj _ hm
  rw[e,List.getLast?_append] at this
  exact this rfl
def LR(st b l:Addr)(n sz at':Nat)(f:Int)(H4:Hp)(i:Nat):St->Hp->Prop:=λσ' H'=>∃(ys:List Str) (o1 o2 o3:Option V),σ'=[some (.ref st),some (.int (n:Nat)),some (.str GM),some (.int (sz:Nat)),some (.int (at':Nat)),some (.int f),some (.ref b),some (.ref l),o1,o2,o3]/\H' l=some (.lst (ys.map V.str))/\ys.length=i/\(∀y∈ys,Nm y)/\(∀(j:Nat) y,ys[j]?=some y->y.cps.toList[at']?=some (97+((f+5*(j:Int)) % 26).toNat))/\iz l (aP H4 l (.lst [])) H'
theorem Ig{K:Fg}{vs:List V}{H:Hp}{Q:VK}{E:XK}(h:tI K vs H Q E):Cq K {nx:=λ_ H'=>Q .non H',rt:=Q} (start wb vs) H:=by
 obtain⟨st,n,k,rfl,S,hk,hn,q⟩:=h
 refine⟨_,rfl,st,8,k,rfl,S,by lia,by decide,by decide,λd H1 d0 d1 S1 B1=>.inl ⟨_,_,rfl,rfl,?_⟩⟩
 obtain⟨sz,hsz,z1,z8⟩:∃sz:Nat,(1:Int)+d=(sz:Int)/\1<=sz/\sz<=8:=⟨(1+d).toNat,by lia,by lia,by lia⟩
 show tO K _ [some (.ref st),some (.int (n:Nat)),some (.str GM),some (.int ((1:Int)+d)),none,none,none,none,none,none,none] H1
 rw[hsz]
 refine⟨_,rfl,_,rfl,st,_,k+1,rfl,S1,by lia,by lia,by lia,λa H2 a0 a1 S2 B2'=>?_⟩
 obtain⟨at',rfl⟩:∃j:Nat,a=(j:Int):=⟨a.toNat,by lia⟩
 have B2:=B1.trans B2'
 refine⟨_,rfl,st,26,k+2,rfl,S2,by lia,by decide,by decide,λf H3 f0 f1 S3 B3'=>?_⟩
 have B3:=B2.trans B3'
 refine⟨_,rfl,_,rfl,by lia,by lia,λb hb=>?_⟩
 obtain⟨ys3,hs3⟩:=S3.lst
 have nb:b≠st:=λz=>by rw[z,hs3] at hb;cases hb
 refine nY (λi σ' H'=>∃(bc:List Nat) (kk:Nat) (o:Option V),σ'=[some (.ref st),some (.int (n:Nat)),some (.str GM),some (.int (sz:Nat)),some (.int (at':Nat)),some (.int f),none,none,none,none,none,o]/\
  H' b=some (.lst ((bc.map one).map V.str))/\bc.length=i/\(∀c∈bc,97<=c/\c<=122)/\k8 K H' st kk/\kk<=k+3+i/\iz st H H') ?_ ?_ ?_
 ·exact⟨[],k+3,none,rfl,aj,rfl,by simp,S3.new hb,by lia,B3.new hb⟩
 ·rintro i σ' H' hi ⟨bs,kk,o,rfl,hbl,hlen,hone,S4,hkk,B4⟩
  have hi:i<sz:=by simpa using hi
  refine fm ?_
  refine⟨_,rfl,_,rfl,_,rfl,.inl ⟨_,_,rfl,rfl,.inl ⟨by decide,by decide⟩,_,rfl,st,4,kk,rfl,S4,by lia,by decide,by decide,λe H5 e0 e1 S5 B5=>.inl ⟨_,_,rfl,rfl,.inr ⟨by lia,by lia⟩,.inl ⟨_,_,rfl,rfl,_,_,rfl,rfl,(by show(0:Int)<26;decide),?_⟩⟩⟩⟩
  have x0:0<=(f+7*(0+(i:Int))*e) % 26:=cy _ (by decide)
  have x1:(f+7*(0+(i:Int))*e) % 26<26:=cu _ (by decide)
  refine L7 Bz x0 (x5 _ (by lia)) ?_
  have x2:((f+7*(0+(i:Int))*e) % 26).toNat<26:=by lia
  generalize ((f+7*(0+(i:Int))*e) % 26).toNat=x at x2
  have h5:=B5 b _ nb hbl
  refine⟨_,h5,bH (by rw[af,af];lia),bs++[97+x],kk+1,_,rfl,?_,by simp[hlen],?_,?_,by lia,?_⟩
  ·rw[aj,aC,aC];rfl
  ·intro y hy
   rcases aA.mp hy with z|z
   ·exact hone y z
   ·rw[ak.mp z];lia
  ·exact S5.mono .upd_at h5 (Ne.symm nb)
  ·exact λc' u n' h'=>by
    have w:=(B4.trans B5) c' u n' h'
    have ncb:c'≠b:=λz=>by
     have:H c'=none:=(B3.free (λz'=>n' z') (by rw[z];exact hb))
     rw[this] at h';cases h'
    rw[az ncb];exact w
 ·rintro σ' H4 ⟨bs,kk,o,rfl,hbl,hlen,hone,S4,hkk,B4⟩
  have hlen:bs.length=sz:=by simpa using hlen
  have hkk:kk<=k+3+sz:=by simpa using hkk
  refine⟨(by show 0<=sizeLine;decide),λl hl=>?_⟩
  have nlb:b≠l:=aJ hbl hl
  obtain⟨ys4,hs4⟩:=S4.lst
  have nls:st≠l:=aJ hs4 hl
  have Hl:H l=none:=B4.free (Ne.symm nls) hl
  show vT K _ [some (.ref st),some (.int (n:Nat)),some (.str GM),some (.int (sz:Nat)),some (.int (at':Nat)),some (.int f),some (.ref b),some (.ref l),none,none,none] (aP H4 l (.lst []))
  refine⟨_,rfl,_,rfl,by lia,by lia,gP (LR st b l n sz at' f H4) ⟨[],none,none,none,rfl,aj,rfl,by simp,by simp,.refl _ _⟩ ?_ ?_⟩
  ·rintro i σ' H5 hi ⟨ys,o1,o2,o3,rfl,hyl,ylen,yok,ycd,B5⟩
   have hi:i<n:=by simpa using hi
   have hb5:H5 b=some (.lst ((bs.map one).map V.str)):=B5 b _ nlb (by rw[az nlb];exact hbl)
   refine⟨_,rfl,_,rfl,_,rfl,.inl ⟨b,_,rfl,cq.of hb5,λp1 hp1=>?_⟩⟩
   rw[sr,<-mH,<-mH]
   have np1b:b≠p1:=aJ hb5 hp1
   have np1l:l≠p1:=aJ hyl hp1
   refine⟨_,rfl,_,rfl,_,rfl,.inl ⟨_,_,rfl,rfl,.inl ⟨by decide,by decide⟩,.inl ⟨_,_,rfl,rfl,_,_,rfl,rfl,(by show(0:Int)<26;decide),?_⟩⟩⟩
   have e00:(0:Int)+(i:Int)=(i:Int):=by lia
   rw[e00]
   have x0:0<=(f+5*(i:Int)) % 26:=cy _ (by decide)
   have x1:(f+5*(i:Int)) % 26<26:=cu _ (by decide)
   obtain⟨c,hc⟩:∃c,c=97+((f+5*(i:Int)) % 26).toNat:=⟨_,rfl⟩
   refine L7 Bz x0 (by rw[x5 _ (by lia),<-hc]) ⟨(by show 1<=sizeLine;decide),λp2 hp2=>?_⟩
   have np12:p1≠p2:=aJ aj hp2
   have np2b:b≠p2:=aJ (by rw[az np1b];exact hb5) hp2
   have np2l:l≠p2:=aJ (by rw[az np1l];exact hyl) hp2
   refine .inr (.inr (.inl ⟨p1,p2,_,_,rfl,rfl,by rw[az np12,aj],aj,?_,λp3 hp3=>?_⟩))
   ·have:=bH (n:=9) (by decide)
    rw[af,af,aR]
    show min at' bs.length+1<=sizeLine
    lia
   have np13:p1≠p3:=aJ (by rw[az np12];exact aj) hp3
   have np3b:b≠p3:=aJ (by rw[az np2b,az np1b];exact hb5) hp3
   have np3l:l≠p3:=aJ (by rw[az np2l,az np1l];exact hyl) hp3
   refine⟨_,rfl,_,rfl,.inl ⟨_,_,rfl,rfl,_,rfl,.inl ⟨b,_,rfl,cq.of (by rw[az np3b,az np2b,az np1b];exact hb5),λp4 hp4=>?_⟩⟩⟩
   rw[show((at':Int)+1)=((at'+1:Nat):Int) by lia,yi,<-List.map_drop,<-List.map_drop]
   have np34:p3≠p4:=aJ aj hp4
   have np4l:l≠p4:=aJ (by rw[az np3l,az np2l,az np1l];exact hyl) hp4
   refine .inr (.inr (.inl ⟨p3,p4,_,_,rfl,rfl,by rw[az np34,aj],aj,?_,λp5 hp5=>?_⟩))
   ·have:=bH (n:=100) (by decide)
    rw[ai,af,af,af,af,aR,cz]
    show min at' bs.length+1+(bs.length-(at'+1))<=sizeLine
    lia
   have np5l:l≠p5:=aJ (by rw[az np4l,az np3l,az np2l,az np1l];exact hyl) hp5
   have ew:((bs.take at').map one).map V.str++[V.str ⟨#[c]⟩]++((bs.drop (at'+1)).map one).map V.str=((bs.take at'++[c]++bs.drop (at'+1)).map one).map V.str:=by rw[aC,aC,aC,aC];rfl
   rw[ew]
   have wl:(bs.take at'++[c]++bs.drop (at'+1)).length=sz:=by rw[ai,ai,aR,cz,aI];lia
   have wone:∀y∈bs.take at'++[c]++bs.drop (at'+1),97<=y/\y<=122:=λy hy=>by
    rcases aA.mp hy with z|z
    ·rcases aA.mp z with z|z
     ·exact hone y (ie z)
     ·rw[ak.mp z];lia
    ·exact hone y (df z)
   have wat:(bs.take at'++[c]++bs.drop (at'+1))[at']?=some c:=by
    have tl:(bs.take at').length=at':=by rw[aR];lia
    rw[eS,ao (by lia),tl,a9]
    rfl
   generalize bs.take at'++[c]++bs.drop (at'+1)=w at wl wone wat ⊢
   have B6:=((((B5.new (o:=.lst (((bs.take at').map one).map V.str)) hp1).new (o:=.lst [V.str ⟨#[c]⟩]) hp2).new (o:=.lst (((bs.take at').map one).map V.str++[V.str ⟨#[c]⟩])) hp3).new (o:=.lst (((bs.drop (at'+1)).map one).map V.str)) hp4).new (o:=.lst ((w.map one).map V.str)) hp5
   have h6:(aP (aP (aP (aP (aP H5 p1 (.lst (((bs.take at').map one).map V.str))) p2 (.lst [V.str ⟨#[c]⟩])) p3 (.lst (((bs.take at').map one).map V.str++[V.str ⟨#[c]⟩]))) p4 (.lst (((bs.drop (at'+1)).map one).map V.str))) p5 (.lst ((w.map one).map V.str))) l=some (.lst (ys.map V.str)):=by
    rw[az np5l,az np4l,az np3l,az np2l,az np1l];exact hyl
   have g6:(aP (aP (aP (aP (aP H5 p1 (.lst (((bs.take at').map one).map V.str))) p2 (.lst [V.str ⟨#[c]⟩])) p3 (.lst (((bs.take at').map one).map V.str++[V.str ⟨#[c]⟩]))) p4 (.lst (((bs.drop (at'+1)).map one).map V.str))) p5 (.lst ((w.map one).map V.str))) p5=some (.lst ((w.map one).map V.str)):=aj
   generalize (aP (aP (aP (aP (aP H5 p1 (.lst (((bs.take at').map one).map V.str))) p2 (.lst [V.str ⟨#[c]⟩])) p3 (.lst (((bs.take at').map one).map V.str++[V.str ⟨#[c]⟩]))) p4 (.lst (((bs.drop (at'+1)).map one).map V.str))) p5 (.lst ((w.map one).map V.str)))=H6 at B6 h6 g6 ⊢
   have wsum:((w.map one).map (·.length)).sum=w.length:=by
    rw[cU,show((λx:Str=>x.length) ∘ one)=λ_=>1 from rfl,List.map_const',List.sum_replicate_nat,Nat.mul_one]
   refine⟨rfl,_,rfl,"",p5,w.map one,rfl,rfl,cq.of g6,?_,?_⟩
   ·have e:("":Str).length=0:=by decide +kernel
    rw[wsum,e,Nat.mul_zero];lia
   have jl:=ye w
   generalize Txt.join "" (w.map one)=nmw at jl ⊢
   show vS K _ [some (.ref st),some (.int (n:Nat)),some (.str GM),some (.int (sz:Nat)),some (.int (at':Nat)),some (.int f),some (.ref b),some (.ref l),some (.int (i:Int)),some (.ref p5),some (.str nmw)] H6
   have nl:nmw.length=sz:=by rw[jR,jl,wl]
   have app:∀(nw:Str) (H7:Hp),Nm nw->nw.cps.toList[at']?=some c->iz l (aP H4 l (.lst [])) H7->H7 l=some (.lst (ys.map V.str))->vR K {nx:=LR st b l n sz at' f H4 (i+1),rt:=Q,ct:=LR st b l n sz at' f H4 (i+1),bk:=vQ K {nx:=λ_ H'=>Q .non H',rt:=Q}} [some (.ref st),some (.int (n:Nat)),some (.str GM),some (.int (sz:Nat)),some (.int (at':Nat)),some (.int f),some (.ref b),some (.ref l),some (.int (i:Int)),some (.ref p5),some (.str nw)] H7:=λnw H7 w1 w2 B7 h7=>by
    refine⟨_,rfl,.inl ⟨rfl,_,cq.of h7⟩,_,rfl,l,_,_,rfl,rfl,h7,bH (by rw[af];lia),?_⟩
    refine⟨ys++[nw],_,_,_,rfl,?_,by simp[ylen],?_,?_,B7.trans .upd_at⟩
    ·rw[aj,aC];rfl
    ·intro y hy
     rcases aA.mp hy with z|z
     ·exact yok y z
     ·rw[ak.mp z];exact w1
    ·intro j y hy
     by_cases cj:j<ys.length
     ·rw[ar cj] at hy;exact ycd j y hy
     ·have cj2:j=i:=by
       have:=(ae.mp hy).1
       rw[ai,aI] at this
       lia
      subst cj2
      rw[ao (by lia),ylen,a9] at hy
      cases hy
      rw[<-hc];exact w2
   refine⟨_,rfl,(by show 6<=sizeLine;decide),λt ht=>⟨t,_,rfl,.inr (cE.of aj),rfl,rfl,_,rfl,?_⟩⟩
   have ntl:l≠t:=aJ h6 ht
   have B7:=B6.new (o:=.tup [V.str "part",V.str "call",V.str "say",V.str "jump",V.str "test",V.str "give"]) ht
   have h7:(aP H6 t (.tup [V.str "part",V.str "call",V.str "say",V.str "jump",V.str "test",V.str "give"])) l=some (.lst (ys.map V.str)):=by rw[az ntl];exact h6
   have xl:("x":Str).length=1:=by decide +kernel
   have xat:(nmw++"x").cps.toList[at']?=some c:=by
    rw[BC,jl,ar (by rw[wl];lia)];exact wat
   show if AF (.str nmw) (FL.map V.str)=true then _ else _
   rw[yy]
   refine di (λhin=>?_) (λhin=>?_)
   ·refine⟨_,rfl,.inr (.inl ⟨_,_,rfl,rfl,by rw[xl];have:=bH (n:=100) (by decide);lia,?_⟩)⟩
    have z4:=FM _ hin
    exact app _ _ (K7 jl (by rw[wl];lia) wone) xat B7 h7
   ·refine⟨_,rfl,_,_,rfl,rfl,_,rfl,di (λh8=>?_) (λ_=>?_)⟩
    ·refine⟨_,rfl,_,rfl,.inl ⟨_,_,rfl,rfl,_,_,rfl,rfl,(by show(0:Int)<3;decide),.inl ⟨rfl,_,rfl,di (λ_=>?_) (λ_=>?_)⟩⟩⟩
     ·refine⟨_,rfl,.inr (.inl ⟨_,_,rfl,rfl,by rw[xl];have:=bH (n:=100) (by decide);lia,?_⟩)⟩
      exact app _ _ (K7 jl (by rw[wl];lia) wone) xat B7 h7
     ·exact app _ _ (yQ jl (by lia) (by lia) wone hin) (by rw[jl];exact wat) B7 h7
    ·exact iE (app _ _ (yQ jl (by lia) (by lia) wone hin) (by rw[jl];exact wat) B7 h7)
  ·rintro σ' H5 ⟨ys,o1,o2,o3,rfl,hyl,ylen,yok,ycd,B5⟩
   have ylen:ys.length=n:=by simpa using ylen
   have nd:ys.Nodup:=by
    rw[List.Nodup,fA]
    intro i j hi hj lt e
    have e1:=ycd i _ (aa hi)
    have e2:=ycd j _ (aa hj)
    rw[e,e2] at e1
    have e3:=Option.some.inj e1
    have a1:0<=(f+5*(i:Int)) % 26:=cy _ (by decide)
    have a2:0<=(f+5*(j:Int)) % 26:=cy _ (by decide)
    lia
   refine⟨_,rfl,q l ys kk H5 Hl ylen nd yok hyl ((S4.new hl).mono B5 aj nls) (by lia) (B4.through hl B5)⟩
end Bg
end
section
namespace L2
open PySem PySem.Spec PyProof.Rows
theorem j9{α:Type}[DecidableEq α]{l:List α}:∀{zs:List α},l.Nodup->(∀y∈l,y∈zs)->l.length<=zs.length:=by
 induction l with
 |nil=>intro zs _ _;exact bt _
 |cons a r ih=>
  intro zs nd h
  obtain⟨na,nr⟩:=bX.mp nd
  have ha:a∈zs:=h a bg
  have:=ih (zs:=zs.erase a) nr λy hy=>(List.mem_erase_of_ne (λz=>na (by rw[<-z];exact hy))).mpr (h y (bh _ hy))
  rw[List.length_erase_of_mem ha] at this
  have:0<zs.length:=List.length_pos_of_mem ha
  simp only[bD]
  lia
section
variable{X:Cx}
theorem bx.drawn{pins:List (Addr×Obj)}{σ:St}{H:Hp}{s:Shared}{d:Drawn}(I:bx X pins σ H s):bx X pins σ H {s with drawn:=d}:=
 ⟨I.ok,I.os,I.bare,I.base,I.loc,I.cell,I.free,I.freeC,I.pin,I.hok,I.len⟩
theorem zf{pins:List (Addr×Obj)}{s:Shared}{σ:St}{H:Hp}{a:Addr}{ss dd:List Str}{m:Nat}{Q:VK}(hc:X.calm=true)(I:bx X pins σ H s)
  (T:BgSet.SetTb (g0 X.prog X.w) s.heap a (λk=>decide (k∈ss)) m (!BgSet.byText X.w) true) (hd:∀x∈ss,x∈dd) (h64:dd.length<64)
  (q:∀(l:Addr) (ss':List Str),H l=none->ss'.Nodup->(∀x,x∈ss'↔x∈ss)->sortedS ss'=true->Q (.ref l) (aP H l (.lst (ss'.map V.str)))) :
  wpAny (model X.prog X.w) X.A (call (.builtin "sorted") [.ref a]) (EP X pins σ Q) X.xe s:=by
 obtain⟨o,es,ep,t,ho,hex,hdt,hel,hmem,hb,hf,hn,htb,hoff,hap⟩:=T
 have hh:X.A.handled=none:=I.ok.hd hc
 have hz:es.size<=sizeLine:=fits_of_scanBound hb
 refine Calls.call_function_entry kind_sorted plain_sorted entry_sorted (args_sorted1 _) ?_
 unfold Builtin.«sorted»
 refine wpAny_bind (m:=checkCount "sorted" 1 1 _) (wpAny_pure ?_)
 refine wpAny_bind (BgSet.set_collect (A:=X.A.in1) hh ⟨⟨o,ho,hex.1,hdt⟩,hf⟩ htb hz λh' d tk L hp hkp=>?_)
 have hall:∀e∈L,∃x t,e.2=.str x t:=λe he=>by
  obtain⟨⟨k,hk,_⟩,_⟩:=hel e (hp.mem_iff.mp he)
  obtain⟨t,ht⟩:=Value.isStrOf_shape hk
  exact⟨k,t,ht⟩
 have hS:StrsAre (L.map (·.2)) ((L.map (·.2)).map strOf):=strsAre_map _ λv hv=>by
  obtain⟨e,he,rfl⟩:=aE.mp hv
  exact hall e he
 generalize hss:(L.map (·.2)).map strOf=ss0 at hS
 have hmm:∀x,x∈ss0↔x∈ss:=λx=>by
  rw[<-hss,cU,aE]
  have:=hmem x
  rw[decide_eq_true_eq] at this
  rw[this]
  constructor
  ·rintro⟨e,he,rfl⟩
   obtain⟨y,t,hy⟩:=hall e he
   refine⟨e,hp.mem_iff.mp he,?_⟩
   show Value.isStrOf (strOf e.2) e.2=true
   rw[hy];simp[strOf,Value.isStrOf]
  ·rintro⟨e,he,hk⟩
   obtain⟨t,ht⟩:=Value.isStrOf_shape hk
   exact⟨e,hp.mem_iff.mpr he,by show strOf e.2=x;rw[ht];rfl⟩
 have hnd:ss0.Nodup:=by
  rw[<-hss,cU]
  unfold List.Nodup
  rw[List.pairwise_map]
  refine List.Pairwise.imp_of_mem (λ{e e'} he he' r heq=>?_) (hap.perm hp)
  obtain⟨y,t,hy⟩:=hall e he
  obtain⟨y',t',hy'⟩:=hall e' he'
  have e1:y=y':=by have:strOf e.2=strOf e'.2:=heq;rw[hy,hy'] at this;exact this
  have h1:Value.isStrOf y e.2=true:=by rw[hy];simp[Value.isStrOf]
  have h2:Value.isStrOf y e'.2=false:=r y h1
  rw[hy',e1] at h2;simp[Value.isStrOf] at h2
 have hlen0:ss0.length<64:=cM (j9 hnd λy hy=>hd y ((hmm y).mp hy)) h64
 have hl:(L.map (·.2)).length=ss0.length:=by rw[<-hss,af,af,af]
 generalize L.map (·.2)=vs at hS hl ⊢
 have I0:bx X pins σ H {s with drawn:=d}:=I.drawn
 have I1:bx X pins σ H {s with heap:=h',drawn:=d,toks:=tk}:=I0.kept (s:={s with drawn:=d}) hkp
 refine wpAny_bind (wpAny_newList ?_ (by rw[hl];exact a8 (bR hlen0) (by decide)))
 have hoL:(h'.push (seqObj "list" vs.toArray 0)).get? h'.objs.size=some (seqObj "list" vs.toArray 0):=ax _ rfl
 show wpAny _ _ _ _ _ {s with heap:=h'.push (seqObj "list" vs.toArray 0),drawn:=d,toks:=tk}
 refine wpAny_bind (wpAny_holding (wpAny_call_entry slot_list_sort ⟨_,hoL,rfl⟩ entry_list_sort (list_sort_treeK strKind_oneLt hoL hS.keysOf (λv₁ v₂ rest e=>keyKind_strs (by rw[<-e];exact hS)) (by rw[hl];exact hlen0) λst' hp hs=>?_) (args_list_sort _)))
 obtain⟨ss',a1,a2,a3⟩:=sorted_out_str hS hp hs
 refine⟨_,rfl,?_⟩
 refine wpAny_pure ⟨_,rfl,?_⟩
 obtain⟨e,he⟩:=sortedHeap_at (n:=0) (out:=(arrOf st').map (·.2)) hoL
 have hn:=qr a1
 have hlen:ss'.length=ss0.length:=a2.length_eq
 refine⟨.ref h'.objs.size,_,I1.laid (t':=tk) (λb u q1=>?_) (au _) (show d8 X.prog X.w _ _ _ (.lst (ss'.map V.str)) from⟨?_,((arrOf st').map (·.2)).toList,e,hn,?_⟩),rfl,
  q _ _ (I1.hok.fresh (au _)) (a2.nodup_iff.mpr hnd) (λx=>by rw[a2.mem_iff];exact hmm x) a3⟩
 ·have lt:=aD q1
  rw[sortedHeap_old (aL lt) (by rw[size_push'];exact cX lt)]
  exact ag _ q1
 ·rw[af,hlen];exact a8 (bR hlen0) (by decide)
 ·rw[ia];exact he
def mn(K:Fg)(t:TA):TE:=λσ H Q=>t σ H λvs H1=>∃(p:Addr) (tp:Bool) (ss dd:List Str),vs=[.ref p]/\zR K tp H1 p (ss.map V.str)/\ss.length<=4000/\(∀x∈ss,x∈dd)/\dd.length<64/\
 ∀(l:Addr) (ss':List Str),H1 l=none->ss'.Nodup->(∀x,x∈ss'↔x∈ss)->sortedS ss'=true->Q (.ref l) (aP H1 l (.lst (ss'.map V.str)))
theorem yS{a:Expr}{ta:TA}{p1 p2 pos pos2:Pos}(hg:Gl X "sorted")(hg2:Gl X "set")(hm:X.mg "sorted"=none)(hm2:X.mg "set"=none)(hc:X.calm=true)(ha:PA X [a] ta)
  (hs2:starEach [a] X.env=[(false,eval a X.env)]:=by rfl) (hs:starEach [.Call (.Name "set" p2) [a] [] pos2] X.env=[(false,eval (.Call (.Name "set" p2) [a] [] pos2) X.env)]:=by rfl) :
  PE X (.Call (.Name "sorted" p1) [.Call (.Name "set" p2) [a] [] pos2] [] pos) (mn X.K ta):=by
 intro pins s σ H Q I h
 refine wpAny_Call_Name_kw (iF I hg hm boot_sorted ?_)
 refine PyProof.Rows.callWith_builtin1 ?_ hs rfl
 rw[hs]
 show wpAny _ _ (spliced ((false,eval (.Call (.Name "set" p2) [a] [] pos2) X.env)::backTo pos [])) _ _ s
 refine Calls.spliced_cons ?_
 refine wpAny_Call_Name_kw (iF I hg2 hm2 (show bootBuiltins "set"=some (.type "set") by kernel_rfl) ?_)
 refine bo (eF (ha pos2 pins s σ H _ I h) λus s1 ⟨vs,H1,I1,r1,q1⟩=>?_) hs2 rfl
 obtain⟨l,tp,ss,dd,rfl,hq,hlen,hdd,h64,q⟩:=q1
 obtain⟨u,rfl,rx⟩:=jZ r1
 cases rx
 obtain⟨its,rv,at_⟩:=I1.seqB hq
 have rl:=rv.length
 rw[af] at rl
 have hS:=pB rv
 have hv:∀(i:Nat) k v,ss[i]?=some k->its.toArray[i]?=some v->(g0 X.prog X.w).is k v=true/\v.scannable=true/\(true=true->plainKind v=false):=λi k v h1 h2=>by
  rw[eQ] at h2
  have:=hS.strs
  rw[<-this,aH,h2] at h1
  obtain⟨x,t,rfl⟩:=hS.all v (aG h2)
  have e:x=k:=by simpa[strOf] using h1
  subst e
  exact⟨by show Value.isStrOf x (.str x t)=true;simp[Value.isStrOf],rfl,λ_=>rfl⟩
 have hb:its.toArray.size+1<scanBound:=by rw[ay,<-rl];unfold scanBound;lia
 have go:∀(h':Heap) (tk m:Nat),m<=its.toArray.size->BgSet.SetTb (g0 X.prog X.w) h' s1.heap.objs.size (λk=>decide (k∈ss)) m (!BgSet.byText X.w) true->
   (∀b o,b<s1.heap.objs.size->s1.heap.get? b=some o->h'.get? b=some o)->
   wpAny (model X.prog X.w) X.A (spliced (backTo pos [])) (λvs s'=>wpAny (model X.prog X.w) X.A (call (.builtin "sorted") (.ref s1.heap.objs.size::vs)) (EP X pins σ Q) X.xe s') X.xe {s1 with heap:=h',toks:=tk}:=λh' tk m hm T kp=>by
  have I2:bx X pins σ H1 {s1 with heap:=h',toks:=tk}:=I1.kept λb u e=>kp b u (aD e) e
  exact Calls.spliced_nil (zf hc I2 T hdd h64 q)
 cases tp with
 |true=>exact BgSet.set_of_tuple (kd:=g0 X.prog X.w) ss true (I1.ok.hd hc) at_ (by rw[ay];exact rl) hv hb go
 |false=>exact BgSet.set_of_list (kd:=g0 X.prog X.w) ss true (I1.ok.hd hc) at_ (by rw[ay];exact rl) hv hb go
theorem qF{a:Expr}{ta:TA}{p1 p2 pos pos2:Pos}(hg:Gl X "sorted")(hg2:Gl X "set")(hm:X.mg "sorted"=none)(hm2:X.mg "set"=none)(hc:X.calm=true)(ha:QA X [a] ta)
  (hs2:starEach [a] X.env=[(false,eval a X.env)]:=by rfl) (hs:starEach [.Call (.Name "set" p2) [a] [] pos2] X.env=[(false,eval (.Call (.Name "set" p2) [a] [] pos2) X.env)]:=by rfl) :
  QE X (.Call (.Name "sorted" p1) [.Call (.Name "set" p2) [a] [] pos2] [] pos) (mn X.K ta):=⟨yS hg hg2 hm hm2 hc ha.up hs2 hs⟩
end
section
variable{X:Cx}
end
end L2
end
section
namespace BgRev
open PySem
theorem y8:Manifest.owners.lookup (String.ofList ['d','e','s','r','e','v','e','r'].reverse)=some Manifest.sig_reversed:=by kernel_rfl
theorem pj:Slot "reversed" "__next__" "reversed.__next__":=
 .of (owner:="reversed") (n:="__next__") (by rw[typeLookup_type,builtinLookup_eq_fast];kernel_rfl) (by decide +kernel) (by decide +kernel)
  (by decide +kernel) (by first|exact .inl (by decide +kernel)|exact .inr (by decide +kernel))
  (by rw[isSubtype_type];kernel_rfl)
theorem mU:entryFor table "reversed.__next__"=some Builtin.«reversed.__next__»:=entryFor_of_tree (by kernel_rfl)
theorem pq(v:Value):argsOk "reversed.__next__" ⟨[v],[]⟩:=by
 unfold argsOk
 rw[signature?_of (id:="reversed.__next__") (n:=['_','_','t','x','e','n','_','_']) (o:=['d','e','s','r','e','v','e','r']) (by kernel_rfl) y8]
 kernel_rfl
theorem B0:Slot "reversed" "__iter__" "reversed.__iter__":=
 .of (owner:="reversed") (n:="__iter__") (by rw[typeLookup_type,builtinLookup_eq_fast];kernel_rfl) (by decide +kernel) (by decide +kernel)
  (by decide +kernel) (by first|exact .inl (by decide +kernel)|exact .inr (by decide +kernel))
  (by rw[isSubtype_type];kernel_rfl)
theorem uQ:entryFor table "reversed.__iter__"=some Builtin.«dict_keyiterator.__iter__»:=
 entryFor_alias (id':="dict_keyiterator.__iter__") (by kernel_rfl) rfl (by decide +kernel) (by kernel_rfl)
theorem xi(v:Value):argsOk "reversed.__iter__" ⟨[v],[]⟩:=by
 unfold argsOk
 rw[signature?_of (id:="reversed.__iter__") (n:=['_','_','r','e','t','i','_','_']) (o:=['d','e','s','r','e','v','e','r']) (by kernel_rfl) y8]
 kernel_rfl
theorem Im:Slot "reversed" "__init__" "object.__init__":=
 .of (owner:="object") (n:="__init__") (by rw[typeLookup_type,builtinLookup_eq_fast];kernel_rfl) (by decide +kernel) (by decide +kernel)
  (by decide +kernel) (by first|exact .inl (by decide +kernel)|exact .inr (by decide +kernel))
  (by rw[isSubtype_type];kernel_rfl)
theorem qj:TypeCalled "reversed" "reversed.__new__" "object.__init__":=
 ⟨by decide +kernel,by decide +kernel,⟨_,_,F.mro_reversed⟩,F.made_reversed,by decide +kernel,by rw[isSubtype_type];kernel_rfl,Im⟩
theorem Iy:typeLookup (.type "tuple") "__reversed__"=pure none:=by rw[typeLookup_type,builtinLookup_eq_fast];kernel_rfl
end BgRev
end
section
namespace BgRev
open PySem PyProof.Rows
section
variable{prog:Program}{w:World}{A:Around}{E:Value->Shared->Prop}{s:Shared}
def rvObj(l:Addr)(i:Int):Obj:={cls:=.type "reversed",data:=.fields #[.ref l,rawInt i]}
theorem Hj{l:Addr}{its:Array Value}{Q:Value->Shared->Prop}(hl:IsTup s.heap l its)(hz:(its.size:Int)<2 ^ 63)
  (h:Q (.ref s.heap.objs.size) {s with heap:=s.heap.push (rvObj l ((its.size:Int)-1)),toks:=s.toks+1+1}) :
  codeAny (model prog w) A (.call (.builtin "reversed.__new__") ⟨[.type "reversed",.ref l],[]⟩) (wants Q E) s:=by
 refine codeAny_of_tree ?_
 show wpAny _ A.in1 (checkBuiltinCall "reversed.__new__" ⟨[.type "reversed",.ref l],[]⟩ >>= λ_=>again (.builtin "reversed.__new__" ⟨[.type "reversed",.ref l],[]⟩)) _ _ s
 refine wpAny_bind (wpAny_of_eq (F.newCall_reversed_1 _) (wpAny_pure ⟨plainId_quiet F.plain_reversed_new _,codeAny_builtin F.entry_reversed_new ?_⟩))
 rw[Around.under_plainId F.plain_reversed_new _]
 unfold Builtin.«reversed.__new__»
 refine wpAny_bind (wpAny_of_eq (newClass_reversed _) ?_)
 try dsimp only
 refine wpAny_bind (wpAny_of_eq (a:=()) (by first|rfl|kernel_rfl) ?_)
 refine wpAny_bind (wpAny_of_eq (a:=()) (by first|rfl|kernel_rfl) ?_)
 try dsimp only
 have ht:s.TypeIs (.ref l) "tuple":=hl.typeIs
 refine wpAny_bind (wpAny_specialOf ht Iy ?_)
 refine wpAny_bind ?_
 wp_delta
 refine wpAny_bind (wpAny_isInstance (T:="tuple") (b:=false) ht F.sub_tuple_dict ?_)
 simp only[Bool.false_eq_true,if_false]
 refine wpAny_bind (wpAny_specialOf ht F.slot_tuple_getitem.lookup ?_)
 refine wpAny_ite_split (λ_=>?_) (λc=>absurd (by decide +kernel) c)
 refine wpAny_pure ?_
 simp only[Bool.not_true,Bool.false_eq_true,if_false]
 refine wpAny_bind (len_tuple hl hz ?_)
 refine wpAny_bind (wpAny_of_eq (a:=some (its.size:Int)) rfl ?_)
 dsimp only
 refine wpAny_bind ?_
 unfold Builtin.SmallTypes.newRecord
 exact wpAny_newObj_type (wpAny_pure h)
def RvAt(h:Heap)(it l:Addr)(i:Int):Prop:=h.get? it=some {cls:=.type "reversed",dict:=none,data:=.fields #[.ref l,.int i 0],slots:=#[]}
theorem RvAt.type{it l:Addr}{i:Int}(x:RvAt s.heap it l i):s.TypeIs (.ref it) "reversed":=⟨_,x,rfl⟩
theorem call_rev{l:Addr}{its:Array Value}{Q:Value->Shared->Prop}(hl:IsTup s.heap l its)(hz:(its.size:Int)<2 ^ 63)
  (h:∀tk,Q (.ref s.heap.objs.size) {s with heap:=s.heap.push (rvObj l ((its.size:Int)-1)),toks:=tk}):wpAny (model prog w) A (call (.type "reversed") [.ref l]) Q E s:=by
 refine callType_codes (Q₁:=λv s1=>v=.ref s.heap.objs.size/\s1={s with heap:=s.heap.push (rvObj l ((its.size:Int)-1)),toks:=s.toks+1+1}) qj (F.typeCall_reversed_1 _) F.entry_object_init
  (Hj hl hz ⟨rfl,rfl⟩) ?_
 rintro obj s1 ⟨rfl,rfl⟩
 have ht:Shared.TypeIs {s with heap:=s.heap.push (rvObj l ((its.size:Int)-1)),toks:=s.toks+1+1} (.ref s.heap.objs.size) "reversed":=⟨_,ax _ rfl,rfl⟩
 exact⟨ht,F.args_object_init_2 _ _,object_init_meets qj.init.lookup qj.made (by decide) prog w A.in1 _ _ ⟨ht,rfl,h _⟩⟩
theorem next_rev{it l:Addr}{i:Nat}{its:Array Value}{x:Value}{Q:Option Value->Shared->Prop}(hit:RvAt s.heap it l (i:Int))(hl:IsTup s.heap l its)
  (hz:(its.size:Int)<2 ^ 63) (hx:its[i]?=some x) (hQ:∀h' tk,RvAt h' it l ((i:Int)-1)->Heap.SameBut it s.heap h'->Q (some x) {s with heap:=h',toks:=tk}):wpAny (model prog w) A (pyNext (.ref it)) Q E s:=by
 unfold pyNext
 refine wpAny_bind (wpAny_attempt (wpAny_callSpecial?_slot (name:=Str.ofString "__next__") hit.type pj (wpAny_call_entry pj hit.type mU ?_ (pq _))))
 unfold Builtin.«reversed.__next__»
 refine wpAny_bind (m:=slotArgs _ _ _) (wpAny_pure ?_)
 refine wpAny_bind (wpAny_field hit rfl (x:=.ref l) rfl ?_)
 refine wpAny_bind (wpAny_field hit rfl (x:=.int (i:Int) 0) rfl ?_)
 dsimp only
 rw[if_neg (by omega)]
 have ht:s.TypeIs (.ref l) "tuple":=hl.typeIs
 refine wpAny_bind (wpAny_specialOf ht F.slot_tuple_getitem.lookup ?_)
 simp only[Option.isNone_some,Bool.false_eq_true,if_false]
 have hlt:i<its.size:=(dJ.mp hx).1
 refine wpAny_bind (wpAny_mkInt ?_)
 refine wpAny_bind (wpAny_attempt (getItem_tuple (s:={s with toks:=s.toks+1}) (j:=i) hl (by omega) (by omega) (by unfold seqIndex?;rw[if_neg (show ¬((i:Int)<0) by omega)];simp;omega) hx ?_))
 dsimp only
 refine wpAny_bind (wpAny_field hit rfl (x:=.int (i:Int) 0) rfl ?_)
 dsimp only
 refine wpAny_bind (wpAny_setField_rec (s:={s with toks:=s.toks+1}) hit (by simp) λh1 g1 sb1=>?_)
 refine wpAny_pure ⟨_,rfl,wpAny_pure (hQ h1 _ ?_ sb1)⟩
 unfold RvAt
 rw[g1]
 simp[rawInt]
theorem stop_rev{it l:Addr}{Q:Option Value->Shared->Prop}(hh:A.handled=none)(hit:RvAt s.heap it l (-1))(hQ:∀h',Heap.ExtBut it s.heap h'->Q none {s with heap:=h'}):wpAny (model prog w) A (pyNext (.ref it)) Q E s:=by
 unfold pyNext
 refine wpAny_bind (wpAny_attempt (wpAny_callSpecial?_slot (name:=Str.ofString "__next__") hit.type pj (wpAny_call_entry pj hit.type mU ?_ (pq _))))
 unfold Builtin.«reversed.__next__»
 refine wpAny_bind (m:=slotArgs _ _ _) (wpAny_pure ?_)
 refine wpAny_bind (wpAny_field hit rfl (x:=.ref l) rfl ?_)
 refine wpAny_bind (wpAny_field hit rfl (x:=.int (-1) 0) rfl ?_)
 dsimp only
 rw[if_pos (by decide)]
 refine wpAny_bind (wpAny_rule ?_)
 refine wpAny_bind ?_
 wp_delta
 refine wpAny_bind (wpAny_setField_rec hit (by simp) λh1 g1 sb1=>?_)
 refine wpAny_setField_rec g1 (by simp) λh2 g2 sb2=>?_
 refine wpAny_bind ?_
 unfold Builtin.SmallTypes.stopIteration
 refine wpAny_bind ?_
 simp only[newExc,newTuple]
 refine wpAny_bind (wpAny_newObj_type ?_ (by size_fits))
 refine wpAny_bind (m:=firstArgMember _ _) (wpAny_of_eq (a:=Value.none) (by first|rfl|(simp only[firstArgMember];rfl)) ?_)
 refine wpAny_newObj_type ?_ (by size_fits)
 simp only[raiseNew]
 refine wpAny_bind (wpAny_handled ?_)
 rw[show A.in1.handled=none from hh]
 refine wpAny_bind (wpAny_pure (wpAny_throw ?_))
 refine wpAny_bind (wpAny_isInstance (T:="StopIteration") (b:=true) ⟨_,ax _ rfl,rfl⟩ isSubtype_stop ?_)
 exact wpAny_pure (hQ _ (((sb1.trans sb2).extBut.push _).push _))
theorem self_rev{it l:Addr}{i:Int}{Q:Value->Shared->Prop}(hit:RvAt s.heap it l i)(h:Q (.ref it) s):wpAny (model prog w) A (pyIter (.ref it)) Q E s:=by
 refine wpAny_pyIter_slot hit.type B0 (wpAny_call_entry B0 hit.type uQ ?_ (xi _))
 show wpAny _ _ (ret (.ref it)) _ _ s
 exact wpAny_pure ⟨_,rfl,"reversed",_,hit.type,pj.lookup,h⟩
end
end BgRev
end
section
namespace L2
open PySem PySem.Spec PyProof.Rows
def DR(K:Fg)(a:Addr)(xs:List V):It:=
 ⟨λi H=>cE K H a xs/\i<xs.length,λi H x H'=>H'=H/\xs.reverse[i]?=some x,λi H=>cE K H a xs/\xs.length<=i⟩
theorem Ge{P:Program}{w:World}{K:Fg}{tg:Expr}(a it:Addr)(xs:List V)(hz0:xs.length<=sizeLine):qW P w K tg (DR K a xs) [it] it (λi h=>BgRev.RvAt h it a ((xs.length:Int)-1-(i:Int))/\i<=xs.length) where
 mem:=by simp
 obj:=λi h st b hb=>by
  have e:b=it:=by simpa using hb
  subst e
  exact⟨_,st.1,λv z=>by have z':Data.fields _=Data.cell v:=z;cases z'⟩
 keep:=λi h h' st k=>⟨k it (by simp) _ st.1,st.2⟩
 item:=by
  intro X hP hw hK hc i pins s σ H E I hf st hg
  subst hP hw hK
  obtain⟨hq,hi⟩:=hg
  obtain⟨its,rv,p,hz⟩:=I.tuple hq
  have rl:=rv.length
  obtain⟨x,hx⟩:∃x,xs[xs.length-1-i]?=some x:=⟨_,aa (by lia)⟩
  obtain⟨u,hu,ru⟩:=rv.get hx
  obtain⟨f0,f1,f2,f3,f4,f5⟩:=hf it (by simp)
  have st1:=st.1
  rw[show(xs.length:Int)-1-(i:Int)=((xs.length-1-i:Nat):Int) by lia] at st1
  have hzz:(its.toArray.size:Int)<2 ^ 63:=by
   have:its.toArray.size<=sizeLine:=by rw[ay,<-rl];exact hz
   have h2:sizeLine<2 ^ 63:=by decide
   lia
  refine BgRev.next_rev st1 p hzz (x:=u) (by simpa using hu) λh' tk st' sb=>?_
  have I1:bx X pins σ H {s with heap:=h',toks:=tk}:=I.turned (t':=tk) (λb o hb e=>(sb.2 b hb).trans e) f0 f1 f3 f4 f5
  have hrv:xs.reverse[i]?=some x:=by
   rw[bQ hi];exact hx
  refine⟨u,rfl,vj (s:={s with heap:=h',toks:=tk}) st' rfl rfl (by decide) ⟨x,H,I1,ru,⟨rfl,hrv⟩,⟨?_,hi⟩,λb hb=>(hf b hb).1⟩⟩
  rw[show(xs.length:Int)-1-((i+1:Nat):Int)=((xs.length-1-i:Nat):Int)-1 by lia]
  exact st'
 done:=by
  intro X hP hw hK hc i pins s σ H E I hf st hg
  subst hP hw hK
  obtain⟨hq,hx⟩:=hg
  obtain⟨f0,f1,f2,f3,f4,f5⟩:=hf it (by simp)
  have st1:=st.1
  have st2:=st.2
  rw[show(xs.length:Int)-1-(i:Int)=-1 by lia] at st1
  exact BgRev.stop_rev (I.ok.hd hc) st1 λh' eb=>⟨rfl,I.turned (t':=s.toks) (λb o hb e=>eb b o hb e) f0 f1 f3 f4 f5⟩
 self:=λ_ _ _ _ _ st h=>BgRev.self_rev st.1 h
section
variable{X:Cx}{tg:Expr}
def EK(K:Fg)(tl:TA):TI:=λσ H R=>tl σ H λvs H1=>∃a xs,vs=[.ref a]/\cE K H1 a xs/\R (DR K a xs) H1
theorem HC{a:Expr}{ta:TA}{p pos:Pos}(hg:Gl X "reversed")(hm:X.mg "reversed"=none)(ha:PA X [a] ta)(hs:starEach [a] X.env=[(false,eval a X.env)]:=by rfl) :
  PI X tg (.Call (.Name "reversed" p) [a] [] pos) (EK X.K ta):=by
 intro pins s σ H R I h
 refine Call_ (iF I hg hm boot_reversed (bo (eF (ha pos pins s σ H _ I h) λus s1 ⟨vs,H1,I1,r1,q1⟩=>?_) hs rfl))
 obtain⟨l,xs,e,hq,q⟩:=q1
 subst e
 cases r1 with
 |cons r rr=>
  cases rr
  cases r
  obtain⟨its,rv,p,hz⟩:=I1.tuple hq
  have rl:=rv.length
  have hzz:(its.toArray.size:Int)<2 ^ 63:=by
   have:its.toArray.size<=sizeLine:=by rw[ay,<-rl];exact hz
   have h2:sizeLine<2 ^ 63:=by decide
   lia
  refine BgRev.call_rev p hzz λtk=>?_
  have at_:BgRev.RvAt (s1.heap.push (BgRev.rvObj l ((its.toArray.size:Int)-1))) s1.heap.objs.size l ((xs.length:Int)-1-((0:Nat):Int)):=by
   have:(s1.heap.push (BgRev.rvObj l ((its.toArray.size:Int)-1))).get? s1.heap.objs.size=some (BgRev.rvObj l ((its.toArray.size:Int)-1)):=ax _ rfl
   unfold BgRev.RvAt
   rw[this,ay,<-rl]
   simp[BgRev.rvObj,rawInt]
  refine BgRev.self_rev (s:={s1 with heap:=s1.heap.push (BgRev.rvObj l ((its.toArray.size:Int)-1)),toks:=tk}) at_ ?_
  refine⟨s1.heap.objs.size,[s1.heap.objs.size],_,_,H1,rfl,I1.kept (t':=tk) λb o e=>ag _ e,Ge l _ xs hz,⟨at_,bt _⟩,λb hb=>?_,q⟩
  have e:b=s1.heap.objs.size:=by simpa using hb
  subst e
  exact I1.fpOk (au _) (I1.hok.fresh (au _))
theorem HW{a:Expr}{ta:TA}{p pos:Pos}(hg:Gl X "reversed")(hm:X.mg "reversed"=none)(ha:QA X [a] ta)(hs:starEach [a] X.env=[(false,eval a X.env)]:=by rfl) :
  QI X tg (.Call (.Name "reversed" p) [a] [] pos) (EK X.K ta):=⟨HC hg hm ha.up hs⟩
end
theorem GY{K:Fg}{a:Addr}{xs:List V}{g:TG}{tb:TS}{D:kU}{σ:St}{H:Hp}(Pv:Nat->St->Hp->Prop)(h0:Pv 0 σ H)(hl:∀i σ H,i<=xs.length->Pv i σ H->cE K H a xs)
  (hs:∀i x σ H,xs.reverse[i]?=some x->Pv i σ H->g x σ H λσ2 H2=>tb {D with nx:=Pv (i+1),ct:=Pv (i+1),bk:=D.nx} σ2 H2) (hd:∀σ H,Pv xs.length σ H->D.nx σ H) :
  ∃W:Nat->Nat->St->Hp->Prop,(∃m,W 0 m σ H)/\∀i m σ H,W i m σ H->
   ((DR K a xs).stop i H/\D.nx σ H)\/((DR K a xs).go i H/\∃N:St->Hp->Prop,(∀σ' H',N σ' H'->∃m',m'<m/\W (i+1) m' σ' H')/\∀x H',(DR K a xs).yld i H x H'->g x σ H' λσ2 H2=>tb {D with nx:=N,ct:=N,bk:=D.nx} σ2 H2):=by
 refine⟨λi m σ H=>m=xs.length-i/\i<=xs.length/\Pv i σ H,⟨xs.length,by simp,bt _,h0⟩,?_⟩
 rintro i m σ H ⟨rfl,hi,p⟩
 have q:=hl i σ H hi p
 by_cases lt:i<xs.length
 ·refine .inr ⟨⟨q,lt⟩,Pv (i+1),λσ' H' p'=>⟨xs.length-(i+1),by lia,rfl,lt,p'⟩,λx H' y=>?_⟩
  obtain⟨e,y⟩:=y
  subst e
  exact hs i x σ _ y p
 ·have e:i=xs.length:=by lia
  subst e
  exact .inl ⟨⟨q,au _⟩,hd σ H p⟩
end L2
end
section
namespace Bg
open PySem PySem.Spec PyProof.Rows L2
abbrev si:List Str:=["works","last"]
abbrev mN:List Str:=["works","last","names","points","work"]
def q5(K:Fg):TS:=(c9 (pC K (aq (av 3) aO)))
def kP(K:Fg):TS:=(gq (rE K "list" dN (av 3) (aq (av 2) aO)))
def kQ(K:Fg):TS:=(bB (bU (ff (dB K) (aq (mn K (aq (bN (ko K) (br (iU K) [] E0 (aq (av 2) (aq (bN (eU K) (av 4) (tC (.int 1))) aO))) (ff (dB K) (aq (bN (eU K) (av 4) (tC (.int 0))) aO))) aO)) aO)) (aQ 2)) (kP K))
def kR(K:Fg):TS:=(bB (jM (EK K (aq (av 0) aO)) (aQ 4) (kQ K)) (q5 K))
def kS(K:Fg):TS:=(bB (bU (gA (aq (av 2) aO)) (aQ 3)) (kR K))
def nM(K:Fg):TS:=(bB (bU (ff (dB K) (aq (mn K (aq (av 1) aO)) aO)) (aQ 2)) (kS K))
abbrev wu:List Str:=["names","name"]
abbrev lu:List Str:=["names","name"]
def qS(K:Fg):TS:=(c9 (ff (dB K) (aq (d5 [] 1 (je K (av 0)) (aQ 2) (cg (bN (FB K) (av 2) (av 1))) (av 2)) aO)))
abbrev wj:List Str:=["places","works","last"]
abbrev qB:List Str:=["places","works","last","points","k","names","left"]
def uU(K:Fg):TS:=(c9 (tC .non))
def nB(K:Fg):TS:=(fZ (cg (bN (uK) (ff (fQ K) (aq (av 6) aO)) (bN (qH) (av 0) (tC (.int 1))))) (c9 (kz (aq (tC (.str "behind")) (aq (av 4) (aq (av 6) aO))))) d6)
def uV(K:Fg):TS:=(fZ (zi (cg (bN (AY) (av 4) (ff (fQ K) (aq (av 1) aO)))) (cg (bN (sT) (bN (eU K) (bN (eU K) (av 1) (av 4)) (tC (.int 1))) (tC .non)))) (bB (bU (br (iU K) [] E0 (aq (bN (eU K) (av 3) (bN (c7 K) (av 4) (tC (.int 1)))) (aq (bN (eU K) (bN (eU K) (av 1) (av 4)) (tC (.int 1))) aO))) (aQ 6)) (nB K)) d6)
def nH(K:Fg):TS:=(bB (fZ (cg (bN (uK) (ff (fQ K) (aq (av 5) aO)) (av 0))) (c9 (kz (aq (tC (.str "ahead")) (aq (av 4) (aq (av 5) aO))))) d6) (uV K))
def nI(K:Fg):TS:=(bB (jM (EJ K (aq (av 3) aO)) (sA K 2 (fE (aQ 4) (fE (aQ 5) qY))) (nH K)) (uU K))
def qQ(K:Fg):TS:=(bB (bU (br (fc K) [] E0 (aq (av 1) (aq (av 2) aO))) (aQ 3)) (nI K))
abbrev D5:List Str:=["_law_state","_law_names_here"]
abbrev By:List Str:=["_law_state","_law_names_here"]
def Cr(K:Fg):TS:=(c9 (bN (eU K) (bN (c7 K) (av 1) (gA (aq (tC .non) aO))) (br (eB K) [] E0 (aq (av 0) (aq (bN (c7 K) (ff (fQ K) (aq (av 1) aO)) (tC (.int 1))) aO)))))
abbrev D6:List Str:=["_law_state","_law_names_here","_law_most"]
abbrev wc:List Str:=["_law_state","_law_names_here","_law_most","_law_works_here","_law_k","_law_size","_law_some"]
def Dy(K:Fg):TS:=(c9 (ff (dB K) (aq (av 3) aO)))
def vV(K:Fg):TS:=(gq (rE K "list" dN (av 3) (aq (kz (aq (av 6) (aq (bN (eU K) (gA (aq (tC .non) (aq (br (lR K) [] E0 (aq (av 0) (aq (av 1) aO))) aO))) (ff (IQ) (aq (bN (uK) (br (eB K) [] E0 (aq (av 0) (aq (tC (.int 4)) aO))) (tC (.int 0))) aO))) aO))) aO)))
def vW(K:Fg):TS:=(bB (bU (ff (dB K) (aq (d5 [] 1 (lB (aq (av 5) aO)) (aQ 7) jN (bN (eU K) (av 1) (br (eB K) [] E0 (aq (av 0) (aq (ff (fQ K) (aq (av 1) aO)) aO))))) aO)) (aQ 6)) (vV K))
def Dz(K:Fg):TS:=(bB (bU (bN (eU K) (gA (aq (tC (.int 0)) (aq (tC (.int 1)) (aq (tC (.int 2)) (aq (tC (.int 2)) (aq (tC (.int 3)) (aq (tC (.int 8)) aO))))))) (br (eB K) [] E0 (aq (av 0) (aq (tC (.int 6)) aO)))) (aQ 5)) (vW K))
def vX(K:Fg):TS:=(bB (jM (lB (aq (br (eB K) [] E0 (aq (av 0) (aq (bN (c7 K) (av 2) (tC (.int 1))) aO))) aO)) (aQ 4) (Dz K)) (Dy K))
def Cs(K:Fg):TS:=(bB (bU (gA aO) (aQ 3)) (vX K))
abbrev we:List Str:=["_law_works_here","_law_last_here","_law_k","_law_name"]
abbrev qA:List Str:=["_law_works_here","_law_last_here","_law_k","_law_name","_law_some","_law_makes"]
def uS(K:Fg):TS:=(c9 (bN ((C9 K false)) (av 3) (av 1)))
def uT(K:Fg):TS:=(fZ (cg (bN (Lq K) (av 5) (av 3))) (c9 (tC (.bl false))) d6)
def mZ(K:Fg):TS:=(bB (fZ (cg (bN ((C9 K false)) (av 3) (av 4))) (c9 (tC (.bl true))) d6) (uT K))
def qO(K:Fg):TS:=(bB (jM (je K (FY (De K) (av 0) (lS (av 2)) gu)) (sA K 2 (fE (aQ 4) (fE (aQ 5) qY))) (mZ K)) (uS K))
abbrev CG:List Str:=["_law_works_here","_law_last_here","_law_names_here"]
abbrev rX:List Str:=["_law_works_here","_law_last_here","_law_names_here","_law_found","_law_k"]
def Bm(K:Fg):TS:=(c9 (av 3))
def ud(K:Fg):TS:=(gq (rE K "list" dN (av 3) (aq (ff (dB K) (aq (d5 [] 1 (je K (ff (BZ K) (aq (av 2) aO))) (aQ 5) (tB (br (ku K) [] E0 (aq (av 0) (aq (av 1) (aq (av 4) (aq (av 5) aO)))))) (av 5)) aO)) aO)))
def ue(K:Fg):TS:=(bB (jM (lB (aq (bN (c7 K) (ff (fQ K) (aq (av 0) aO)) (tC (.int 1))) aO)) (aQ 4) (ud K)) (Bm K))
def zK(K:Fg):TS:=(bB (bU (gA aO) (aQ 3)) (ue K))
abbrev Ae:List Str:=["_law_places_here","_law_works_here","_law_points_here"]
abbrev pW:List Str:=["_law_places_here","_law_works_here","_law_points_here","_law_k","_law_rest"]
def zj(K:Fg):TS:=(c9 (tC .non))
def qM(K:Fg):TS:=(fZ (cg (bN (uK) (ff (fQ K) (aq (av 4) aO)) (bN (qH) (av 0) (tC (.int 1))))) (c9 (kz (aq (tC (.str "behind")) (aq (av 3) (aq (av 4) aO))))) d6)
def zk(K:Fg):TS:=(fZ (zi (cg (bN (AY) (av 3) (ff (fQ K) (aq (av 1) aO)))) (cg (bN (sT) (bN (eU K) (bN (eU K) (av 1) (av 3)) (tC (.int 1))) (tC .non)))) (bB (bU (ff (dB K) (aq (d5 [] 1 (je K (bN (eU K) (av 2) (bN (c7 K) (av 3) (tC (.int 1))))) (aQ 5) (cg (bN (FB K) (av 5) (bN (eU K) (bN (eU K) (av 1) (av 3)) (tC (.int 1))))) (av 5)) aO)) (aQ 4)) (qM K)) d6)
def qN(K:Fg):TS:=(bB (fZ (cg (bN (uK) (ff (fQ K) (aq (bN (eU K) (av 2) (av 3)) aO)) (av 0))) (c9 (kz (aq (tC (.str "ahead")) (aq (av 3) (aq (bN (eU K) (av 2) (av 3)) aO))))) d6) (zk K))
def vP(K:Fg):TS:=(bB (jM (lB (aq (ff (fQ K) (aq (av 2) aO)) aO)) (aQ 3) (qN K)) (zj K))
abbrev GG:List Str:=["_law_state","_law_names_here","_law_most"]
abbrev DZ:List Str:=["_law_state","_law_names_here","_law_most","_law_left","_law_found","_law_k"]
def Ga(K:Fg):TS:=(c9 (ff (dB K) (aq (av 4) aO)))
def Gb(K:Fg):TS:=(gq (rE K "list" dN (av 4) (aq (rE K "list" AZ (av 3) (aq (br (eB K) [] E0 (aq (av 0) (aq (ff (fQ K) (aq (av 3) aO)) aO))) aO)) aO)))
def zz(K:Fg):TS:=(bB (jM (lB (aq (ff (Fy) (aq (ff (fQ K) (aq (av 1) aO)) (aq (br (eB K) [] E0 (aq (av 0) (aq (bN (c7 K) (av 2) (tC (.int 1))) aO))) aO))) aO)) (aQ 5) (Gb K)) (Ga K))
def zE(K:Fg):TS:=(bB (bU (gA aO) (aQ 4)) (zz K))
def F9(K:Fg):TS:=(bB (bU (ff (xa K) (aq (av 1) aO)) (aQ 3)) (zE K))
abbrev xU:List Str:=["belt","thing"]
abbrev rT:List Str:=["belt","thing"]
def tV(K:Fg):TS:=(c9 (FY (Ic K) (bN (c7 K) (kz (aq (av 1) aO)) (av 0)) gu (lS (ff (fQ K) (aq (av 0) aO)))))
abbrev xX:List Str:=["one","other"]
abbrev nU:List Str:=["one","other"]
def tZ(K:Fg):TS:=(c9 (ff (Ft K) (aq (d5 [] 2 (EL K (aq (av 0) (aq (av 1) aO))) (sA K 2 (fE (aQ 2) (fE (aQ 3) qY))) jN (Ku (bN (Dd) (av 2) (tC .non)) (bN (wY K) (av 2) (av 3)))) aO)))
abbrev ux:List Str:=["names","x"]
abbrev j5:List Str:=["names","x"]
def pF(K:Fg):TS:=(c9 (br (lP K) [] E0 (aq (ff (dB K) (aq (d5 [] 1 (je K (av 0)) (aQ 2) jN (LM (cg (bN (wY K) (av 2) (av 1))) (tC .non) (av 2))) aO)) (aq (av 1) aO))))
abbrev CD:List Str:=["belt","names"]
abbrev xR:List Str:=["belt","names","told","thing"]
def Bj(K:Fg):TS:=(c9 (ff (dB K) (aq (av 2) aO)))
def Bk(K:Fg):TS:=(gq (rE K "list" dN (av 2) (aq (LM (zi (cg (bN ((C9 K false)) (av 3) (av 1))) (cg (bN ((C9 K true)) (av 3) (av 2)))) (av 3) (tC .non)) aO)))
def tW(K:Fg):TS:=(bB (jM (je K (av 0)) (aQ 3) (Bk K)) (Bj K))
def zI(K:Fg):TS:=(bB (bU (gA aO) (aQ 2)) (tW K))
end Bg
end
section
namespace PySem
open Sem (wp)
open AutoSeq1 (wpAny_loadPart')
section
variable{prog:Program}{w:World}{A:Around}{E:Value->Shared->Prop}{s:Shared}
theorem AO{ib tb:Addr}{i:Nat}{its:Array Value}{x:Value}{Q:Value->Shared->Prop}(hib:s.heap.IsTupleIter ib tb i)(htb:s.heap.IsTuple tb its)(hx:its[i]?=some x)
  (hQ:∀h',h'.IsTupleIter ib tb (i+1)->Heap.SameBut ib s.heap h'->Q x {s with heap:=h'}):wpAny (model prog w) A (Builtin.SmallTypes.nextOf (.ref ib)) Q E s:=by
 obtain⟨ob,hob,hcb,hdb⟩:=id hib
 obtain⟨ot,hot,_,nt,hdt⟩:=htb
 unfold Builtin.SmallTypes.nextOf
 refine wpAny_bind (wpAny_callSpecial?_slot (name:=Str.ofString "__next__") hib.typeIs F.slot_tuple_iterator_next (wpAny_call_entry F.slot_tuple_iterator_next hib.typeIs F.entry_tuple_iterator_next ?_ (F.args_tuple_iterator_next_1 _)))
 show wpAny _ _ (field (.ref ib) 0 >>= _) _ _ s
 refine wpAny_bind (wpAny_field hob hdb (x:=.ref tb) rfl ?_)
 show wpAny _ _ (if(Value.ref tb==Value.none)=true then _ else _) _ _ s
 rw[if_neg (show ¬((Value.ref tb==Value.none)=true) from Bool.false_ne_true)]
 show wpAny _ _ (field (.ref ib) 1 >>= _) _ _ s
 refine wpAny_bind (wpAny_field hob hdb (x:=.int i 0) rfl ?_)
 show wpAny _ _ (seqItems? (.ref tb) >>= _) _ _ s
 refine wpAny_bind (wpAny_seqItems hot hdt ?_)
 simp only[aZ,hx]
 refine wpAny_bind (wpAny_setField hob hdb (by simp) (wpAny_pure ⟨x,rfl,wpAny_pure (hQ _ ?_ (Heap.SameBut.update ..))⟩))
 exact⟨_,bW _ hob (Obj.isFreed_of_fields (Obj.data_mapFields hdb _)),(Obj.cls_mapFields ..).trans hcb,by rw[Obj.data_mapFields hdb];simp[rawInt]⟩
theorem vw{ib tb:Addr}{i:Nat}{its:Array Value}{Q:Value->Shared->Prop}(hh:A.handled=none)(hib:s.heap.IsTupleIter ib tb i)(htb:s.heap.IsTuple tb its)(hx:its[i]?=none)
  (hE:∀h' e,Heap.ExtBut ib s.heap h'->(∃o,h'.get? e=some o/\o.cls=.type "StopIteration")->E (.ref e) {s with heap:=h'}):wpAny (model prog w) A (Builtin.SmallTypes.nextOf (.ref ib)) Q E s:=by
 obtain⟨ob,hob,hcb,hdb⟩:=id hib
 obtain⟨ot,hot,_,nt,hdt⟩:=htb
 unfold Builtin.SmallTypes.nextOf
 refine wpAny_bind (wpAny_callSpecial?_slot (name:=Str.ofString "__next__") hib.typeIs F.slot_tuple_iterator_next (wpAny_call_entry F.slot_tuple_iterator_next hib.typeIs F.entry_tuple_iterator_next ?_ (F.args_tuple_iterator_next_1 _)))
 show wpAny _ _ (field (.ref ib) 0 >>= _) _ _ s
 refine wpAny_bind (wpAny_field hob hdb (x:=.ref tb) rfl ?_)
 show wpAny _ _ (if(Value.ref tb==Value.none)=true then _ else _) _ _ s
 rw[if_neg (show ¬((Value.ref tb==Value.none)=true) from Bool.false_ne_true)]
 show wpAny _ _ (field (.ref ib) 1 >>= _) _ _ s
 refine wpAny_bind (wpAny_field hob hdb (x:=.int i 0) rfl ?_)
 show wpAny _ _ (seqItems? (.ref tb) >>= _) _ _ s
 refine wpAny_bind (wpAny_seqItems hot hdt ?_)
 simp only[aZ,hx]
 refine wpAny_bind (wpAny_rule (wpAny_bind (wpAny_setField hob hdb (by simp) ?_)))
 show wpAny _ _ (newExc (.type "StopIteration") [] >>= _) _ _ _
 refine wpAny_bind ?_
 simp only[newExc,newTuple]
 refine wpAny_bind (wpAny_newObj_type ?_ (by size_fits))
 refine wpAny_bind (m:=firstArgMember _ _) (wpAny_of_eq (a:=Value.none) (by first|rfl|(simp only[firstArgMember];rfl)) ?_)
 refine wpAny_newObj_type ?_ (by size_fits)
 simp only[raiseNew]
 refine wpAny_bind (wpAny_handled ?_)
 first|rw[show A.in1.handled=none from hh]|rw[hh]
 refine wpAny_bind (wpAny_pure (wpAny_throw ?_))
 exact hE _ _ (((Heap.SameBut.update ..).extBut.push _).push _) ⟨_,ax _ rfl,rfl⟩
end
theorem Jq{prog:Program}{w:World}{A:Around}(hh:A.handled=none)(ib tb:Addr)(hne:tb≠ib)(its:Array Value) :
  Draws prog w A ib [ib,tb] its.size (λi v=>its[i]?=some v) (λi h=>h.IsTupleIter ib tb i/\h.IsTuple tb its) where
 live:=λ_ _ st=>let⟨o,ho,_⟩:=st.1;⟨o,ho⟩
 frame:=λ_ _ _ st hk=>⟨st.1.at λo e=>hk ib (by simp) o e,let⟨o,ho,r⟩:=st.2;⟨o,hk tb (by simp) o ho,r⟩⟩
 item:=λi s Q E hi st hQ=>AO st.1 st.2 (x:=its[i]) (by simp[hi]) λh' hit' hs'=>hQ _ h' s.toks (by simp[hi]) ⟨hit',st.2.extBut hs'.extBut hne⟩ hs'
 done:=λs Q E st hE=>vw hh st.1 st.2 (by simp) hE
theorem yM(tb:Addr)(its:Array Value)(n:Nat)(dct:Option Addr)(sl:Array (Option Value)) :
  Meets (Builtin.«enumerate.__new__» ⟨[.type "enumerate",.ref tb],[]⟩) (λ_ R s=>s.heap.get? tb=some {cls:=.type "tuple",dict:=dct,data:=.seq its n,slots:=sl}/\
   R (.ok (.ret (.ref (s.heap.push {cls:=.type "tuple_iterator",data:=.fields #[.ref tb,.int 0 0]}).objs.size)))
    {s with heap:=(s.heap.push {cls:=.type "tuple_iterator",data:=.fields #[.ref tb,.int 0 0]}).push {cls:=.type "enumerate",data:=.fields #[.none,.bool false,.ref s.heap.objs.size,rawInt 0,.none,.none]}}):=
 .of_wp λprog w A R s h=>by
  obtain⟨hp,g,d,tk,os⟩:=s;obtain⟨hl,h⟩:=h
  have hsub:=sub_enumerate
  have hL:Heap.IsTuple (Shared.heap ⟨hp,g,d,tk,os⟩) tb its:=⟨_,hl,rfl,n,rfl⟩
  wp_walk using wpAny_loadPart' hl
  refine wpAny_stack_any λst=>wpAny_pure ?_
  split
  ·rename_i c _ _ _ _ _
   cases(c==Value.type "enumerate")
   ·wp_walk using wpAny_loadPart' hl,wpAny_pyIter_tuple hL
    exact⟨_,rfl,h⟩
   ·wp_walk using wpAny_loadPart' hl,wpAny_pyIter_tuple hL
    exact⟨_,rfl,h⟩
  ·wp_walk using wpAny_loadPart' hl,wpAny_pyIter_tuple hL
   exact⟨_,rfl,h⟩
theorem Ao{prog:Program}{w:World}{A:Around}{E:Value->Shared->Prop}{s:Shared}{tb:Addr}{its:Array Value}{Q:Value->Shared->Prop}(hL:s.heap.IsTuple tb its)
  (h:∀h',IsEnum h' (s.heap.objs.size+1) s.heap.objs.size 0 .none->h'.IsTupleIter s.heap.objs.size tb 0->h'.objs.size=s.heap.objs.size+2->(∀b o,s.heap.get? b=some o->h'.get? b=some o)->Q (.ref (s.heap.objs.size+1)) {s with heap:=h'}) :
  wpAny (model prog w) A (call (.type "enumerate") [.ref tb]) Q E s:=by
 obtain⟨⟨c,dct,dt,sl⟩,hl,hc,n,hd⟩:=hL
 replace hc:c=.type "tuple":=hc
 replace hd:dt=.seq its n:=hd
 subst hc hd
 refine callType_new F.called_enumerate (by decide) (F.typeCall_enumerate_1 _) (F.newCall_enumerate_1 _) (λobj=>F.args_object_init_2 obj _) F.entry_enumerate_new (yM tb its n dct sl) ⟨hl,?_⟩
 have hz:(s.heap.push {cls:=.type "tuple_iterator",data:=.fields #[.ref tb,.int 0 0]}).objs.size=s.heap.objs.size+1:=bC ..
 show _/\_
 rw[hz]
 have he:IsEnum ((s.heap.push {cls:=.type "tuple_iterator",data:=.fields #[.ref tb,.int 0 0]}).push {cls:=.type "enumerate",data:=.fields #[.none,.bool false,.ref s.heap.objs.size,rawInt 0,.none,.none]}) (s.heap.objs.size+1) s.heap.objs.size 0 .none:=by
  have:=ax (s.heap.push {cls:=.type "tuple_iterator",data:=.fields #[.ref tb,.int 0 0]}) (o:={cls:=.type "enumerate",data:=.fields #[.none,.bool false,.ref s.heap.objs.size,rawInt 0,.none,.none]}) rfl
  rw[hz] at this;exact this
 refine⟨⟨_,he,rfl⟩,h _ he ⟨_,ag _ (ax _ rfl),rfl,rfl⟩ (by rw[bC,hz]) λb o x=>ag _ (ag _ x)⟩
end PySem
namespace L2
open PySem PySem.Spec PyProof.Rows
def xH(K:Fg)(a:Addr):It:=
 ⟨λi H=>∃xs x,cE K H a xs/\xs[i]?=some x,λi H x H'=>∃p v,H p=none/\x=.ref p/\H'=aP H p (.tup [.int (i:Nat),v])/\∀xs,cE K H a xs->xs[i]?=some v,λi H=>∃xs,cE K H a xs/\xs.length<=i⟩
theorem Bn{P:Program}{w:World}{K:Fg}{elts:List Expr}{k:Nat}{pos:Pos}(a e it:Addr)(hne:e≠it) :
  qW P w K (.Tuple elts k pos) (xH K a) [e,it] e (λi h=>(∃old,IsEnum h e it (i:Nat) old)/\h.IsTupleIter it a i) where
 mem:=by simp
 obj:=λi h st b hb=>by
  obtain⟨⟨old,he⟩,⟨o,ho,c,d⟩⟩:=st
  rcases aN.mp hb with rfl|hb
  ·exact⟨_,he,λv z=>by have z':Data.fields _=Data.cell v:=z;cases z'⟩
  ·rw[ak.mp hb]
   exact⟨o,ho,λv z=>by rw[d] at z;cases z⟩
 keep:=λi h h' st k=>⟨let⟨old,he⟩:=st.1;⟨old,k e (by simp) _ he⟩,st.2.at λo q=>k it (by simp) o q⟩
 item:=by
  intro X hP hw hK hc i pins s σ H E I hf st hg
  subst hP hw hK
  obtain⟨⟨old,he⟩,hit⟩:=st
  obtain⟨xs,x,hq,hx⟩:=hg
  obtain⟨its,rv,p,hz⟩:=I.tuple hq
  obtain⟨u,hu,ru⟩:=rv.get hx
  have p':s.heap.IsTuple a its.toArray:=p
  have hlt:i<its.toArray.size:=by have:=(ae.mp hu).1;simpa using this
  have na:a≠it:=by
   intro z;subst z
   obtain⟨o,e1,c1,_⟩:=p'
   obtain⟨o',e2,c2,_⟩:=hit
   rw[e1] at e2;cases e2;rw[c1] at c2
   injection c2 with c3
   exact absurd c3 (by decide)
  have nb:e≠a:=by
   intro z;subst z
   obtain⟨o,e1,c1,_⟩:=p'
   rw[he] at e1;cases e1
   injection c1 with c3
   exact absurd c3 (by decide)
  have Dw:=Jq (prog:=X.prog) (w:=X.w) (A:=X.A.in1) (show X.A.in1.handled=none from I.ok.hd hc) it a na its.toArray
  refine wpAny_pyNext_enum_itemD Dw he ⟨hit,p'⟩ hlt hne (by simp[hne,nb]) λy h1 tk hP ho st1 hT hsz hk=>?_
  have ey:y=u:=by
   have h1:its.toArray[i]?=some y:=hP
   have h2:its[i]?=some y:=by simpa using h1
   rw[hu] at h2;exact(Option.some.inj h2).symm
  subst ey
  refine⟨_,rfl,?_⟩
  have fT:nQ X pins H s.heap.objs.size:=I.fpOk (au _) (I.hok.fresh (au _))
  refine wpAny_letOwnedTupleGo_enum ho λh2 he2 hs2=>?_
  have helt:e<s.heap.objs.size:=aD he
  have I1:bx X pins σ H {s with heap:=h2,toks:=tk+1}:=I.turnedL (t':=tk+1) (ch:=[e,it]) (λb o hb q=>by
   have b1:b≠e:=λz=>hb (by simp[z])
   have b2:b≠it:=λz=>hb (by simp[z])
   exact(hs2.2 b b1).trans (hk b o b1 b2 q)) hf
  have gT:h2.get? s.heap.objs.size=some {cls:=.type "tuple",data:=.seq #[.int i tk,y]}:=(hs2.2 _ (cJ helt)).trans hT
  have I2:=I1.adopt (T:=s.heap.objs.size) (o:=.tup [.int (i:Nat),x]) fT (rG (X:=X) gT ⟨tk,rfl⟩ ru)
  refine⟨.ref s.heap.objs.size,_,I2,rfl,⟨s.heap.objs.size,x,fT.1,rfl,rfl,λys hy=>by rw[I.tuple_inj hy hq];exact hx⟩,⟨⟨y,?_⟩,?_⟩,λb hb=>?_⟩
  ·have e2:(((i+1:Nat):Nat):Int)=(i:Int)+1:=by lia
   show IsEnum h2 e it (((i+1:Nat):Nat):Int) y
   rw[e2];exact he2
  ·obtain⟨o,q1,q2⟩:=st1.1
   exact⟨o,(hs2.2 it (Ne.symm hne)).trans q1,q2⟩
  ·have nT:b≠s.heap.objs.size:=by
    rcases aN.mp hb with rfl|hb
    ·exact aL helt
    ·rw[ak.mp hb]
     obtain⟨o,ho,_⟩:=hit
     exact aL (aD ho)
   rw[az nT];exact(hf b hb).1
 done:=by
  intro X hP hw hK hc i pins s σ H E I hf st hg
  subst hP hw hK
  obtain⟨⟨old,he⟩,hit⟩:=st
  obtain⟨xs,hq,hx⟩:=hg
  obtain⟨its,rv,p,hz⟩:=I.tuple hq
  have hl:=rv.length
  have hT:s.TypeIs (.ref e) "enumerate":=⟨_,he,rfl⟩
  unfold pyNext
  refine wpAny_bind (wpAny_attempt (wpAny_callSpecial?_slot (name:=Str.ofString "__next__") hT F.slot_enumerate_next
   (wpAny_call_entry F.slot_enumerate_next hT F.entry_enumerate_next ?_ (F.args_enumerate_next_1 _))))
  show wpAny _ _ (field (.ref e) 2 >>= _) _ _ _
  refine wpAny_bind (wpAny_field he rfl (x:=.ref it) rfl ?_)
  refine wpAny_bind (vw (show X.A.in1.handled=none from I.ok.hd hc) hit (show s.heap.IsTuple a its.toArray from p) (by simp;lia) λh1 x1 eb hx1=>?_)
  obtain⟨o,ho,hcl⟩:=hx1
  refine wpAny_bind (wpAny_isInstance (T:="StopIteration") (b:=true) ⟨o,ho,hcl⟩ isSubtype_stop ?_)
  exact wpAny_pure ⟨rfl,I.turnedL (t':=s.toks) (ch:=[e,it]) (λb ob hb q=>eb b ob (λz=>hb (by simp[z])) q) hf⟩
 self:=λ_ _ _ _ _ st h=>let⟨_,he⟩:=st.1;wpAny_pyIter_enum he h
section
variable{X:Cx}{elts:List Expr}{k:Nat}{tpos:Pos}
def sC(K:Fg)(tl:TA):TI:=λσ H R=>tl σ H λvs H1=>∃a,vs=[.ref a]/\(∃xs,cE K H1 a xs)/\R (xH K a) H1
theorem Fh{a:Expr}{ta:TA}{p pos:Pos}(hg:Gl X "enumerate")(hm:X.mg "enumerate"=none)(ha:PA X [a] ta)(hs:starEach [a] X.env=[(false,eval a X.env)]:=by rfl) :
  PI X (.Tuple elts k tpos) (.Call (.Name "enumerate" p) [a] [] pos) (sC X.K ta):=by
 intro pins s σ H R I h
 refine Call_ (iF I hg hm boot_enumerate (bo (eF (ha pos pins s σ H _ I h) λus s1 ⟨vs,H1,I1,r1,q1⟩=>?_) hs rfl))
 obtain⟨l,e,⟨xs,hq⟩,q⟩:=q1
 subst e
 cases r1 with
 |cons r rr=>
  cases rr
  cases r
  obtain⟨its,rv,pl,hz⟩:=I1.tuple hq
  refine Ao (show s1.heap.IsTuple l its.toArray from pl) λh1 he hit hsz hk=>?_
  refine wpAny_pyIter_enum he ?_
  have I2:bx X pins σ H1 {s1 with heap:=h1}:=I1.kept (t':=s1.toks) hk
  refine⟨s1.heap.objs.size+1,[s1.heap.objs.size+1,s1.heap.objs.size],_,_,H1,rfl,I2,Bn l _ _ (Nat.succ_ne_self _),⟨⟨.none,he⟩,hit⟩,λb hb=>?_,q⟩
  have hb':s1.heap.objs.size<=b:=by
   rcases aN.mp hb with rfl|hb
   ·lia
   ·rw[ak.mp hb];exact au _
  exact I1.fpOk hb' (I1.hok.fresh hb')
theorem sQ{a:Expr}{ta:TA}{p pos:Pos}(hg:Gl X "enumerate")(hm:X.mg "enumerate"=none)(ha:QA X [a] ta)(hs:starEach [a] X.env=[(false,eval a X.env)]:=by rfl):QI X (.Tuple elts k tpos) (.Call (.Name "enumerate" p) [a] [] pos) (sC X.K ta):=
 ⟨Fh hg hm ha.1 hs⟩
end
theorem p8{K:Fg}{a:Addr}{xs:List V}{g:TG}{tb:TS}{D:kU}{σ:St}{H:Hp}(Pv:Nat->St->Hp->Prop)(h0:Pv 0 σ H)(hl:∀i σ H,i<=xs.length->Pv i σ H->cE K H a xs)
  (hs:∀i x σ H p,xs[i]?=some x->H p=none->Pv i σ H->g (.ref p) σ (aP H p (.tup [.int (i:Nat),x])) λσ2 H2=>tb {D with nx:=Pv (i+1),ct:=Pv (i+1),bk:=D.nx} σ2 H2) (hd:∀σ H,Pv xs.length σ H->D.nx σ H) :
  ∃W:Nat->Nat->St->Hp->Prop,(∃m,W 0 m σ H)/\∀i m σ H,W i m σ H->
   ((xH K a).stop i H/\D.nx σ H)\/((xH K a).go i H/\∃N:St->Hp->Prop,(∀σ' H',N σ' H'->∃m',m'<m/\W (i+1) m' σ' H')/\∀x H',(xH K a).yld i H x H'->g x σ H' λσ2 H2=>tb {D with nx:=N,ct:=N,bk:=D.nx} σ2 H2):=by
 refine⟨λi m σ H=>m=xs.length-i/\i<=xs.length/\Pv i σ H,⟨xs.length,by simp,bt _,h0⟩,?_⟩
 rintro i m σ H ⟨rfl,hi,p⟩
 have q:=hl i σ H hi p
 by_cases hlt:i<xs.length
 ·refine .inr ⟨⟨xs,xs[i],q,by simp[hlt]⟩,Pv (i+1),λσ' H' p'=>⟨xs.length-(i+1),by lia,rfl,hlt,p'⟩,λx H' y=>?_⟩
  obtain⟨pp,v,e1,rfl,rfl,y⟩:=y
  exact hs i v σ H pp (y xs q) e1 p
 ·have e:i=xs.length:=by lia
  subst e
  exact .inl ⟨⟨xs,q,au _⟩,hd σ H p⟩
theorem vJ{a:Int}(h:-1<=a):Builtin.Range.rangeSize a (-1) (-1)=a+1:=by
 unfold Builtin.Range.rangeSize
 simp only[show ¬((-1:Int)>0) by decide,if_false]
 split
 ·simp only[Int.neg_neg,Int.ediv_one];omega
 ·omega
theorem Bc{a:Int}(h:-1<=a)(h':a<=100000):Builtin.Range.small a (-1) (-1)=true:=by
 unfold Builtin.Range.small
 rw[vJ h]
 simp only[Builtin.Range.rangeFitsLong,Bool.and_eq_true,Bool.or_eq_true,decide_eq_true_eq,beq_iff_eq,show ¬((-1:Int)>0) by decide,if_false]
 omega
def KF(a:Int)(n:Nat):It:=⟨λi _=>i<n,λi H x H'=>H'=H/\x=.int (a-i),λi _=>n<=i⟩
theorem DA{P:Program}{w:World}{K:Fg}{tg:Expr}(it:Addr)(a:Int)(n:Nat):qW P w K tg (KF a n) [it] it (λi h=>IsRangeIter h it (a+(i:Nat)*(-1)) ((n:Int)-(i:Nat)) (-1)) where
 mem:=by simp
 obj:=λi h st b hb=>by
  have e:b=it:=by simpa using hb
  subst e
  exact⟨_,st,λv z=>by
   have z':Data.fields _=Data.cell v:=z
   cases z'⟩
 keep:=λi h h' st k=>k it (by simp) _ st
 item:=by
  intro X hP hw hK hc i pins s σ H E I hf st hg
  subst hP hw hK
  obtain⟨f0,f1,f2,f3,f4,f5⟩:=hf it (by simp)
  have W:=Walks.range (prog:=X.prog) (w:=X.w) (I.ok.hd hc) it a (-1) n
  refine W.item i s _ _ hg st λv h' tk hv st' kk=>?_
  obtain⟨t,rfl⟩:=hv
  have I1:bx X pins σ H {s with heap:=h',toks:=tk}:=I.turned (λb o hb e=>kk b o (by simpa using hb) e) f0 f1 f3 f4 f5
  refine⟨_,rfl,vj (s:={s with heap:=h',toks:=tk}) (n:="range_iterator") st' rfl rfl (by decide) ⟨.int (a-i),H,I1,⟨t,?_⟩,⟨rfl,rfl⟩,st',λb hb=>(hf b hb).1⟩⟩
  rw[show a+(i:Int)*(-1)=a-i by omega]
 done:=by
  intro X hP hw hK hc i pins s σ H E I hf st hg
  subst hP hw hK
  obtain⟨f0,f1,f2,f3,f4,f5⟩:=hf it (by simp)
  exact wpAny_pyNext_range_end (I.ok.hd hc) st (by have:n<=i:=hg;lia) λh' eb=>⟨rfl,I.turned (t':=s.toks) (λb o hb e=>eb b o hb e) f0 f1 f3 f4 f5⟩
 self:=λ_ _ _ _ _ st h=>wpAny_pyIter_rangeiter st h
section
variable{X:Cx}{tg:Expr}
def IH(ta:TA):TI:=λσ H R=>ta σ H λvs H1=>∃a:Int,vs=[.int a,.int (-1),.int (-1)]/\-1<=a/\a<=100000/\R (KF a (a+1).toNat) H1
theorem C8{a b c:Expr}{ta:TA}{p pos:Pos}(hg:Gl X "range")(hm:X.mg "range"=none)(ha:QA X [a,b,c] ta)(hs:starEach [a,b,c] X.env=[(false,eval a X.env),(false,eval b X.env),(false,eval c X.env)]:=by rfl)(hs2:starEach [b,c] X.env=[(false,eval b X.env),(false,eval c X.env)]:=by rfl) :
  QI X tg (.Call (.Name "range" p) [a,b,c] [] pos) (IH ta):=⟨by
 intro pins s σ H R I h
 refine Call_ (iF I hg hm boot_range (bo (eF (ha.up pos pins s σ H _ I h) λus s1 ⟨vs,H1,I1,r1,q1⟩=>?_) (by rw[hs,hs2]) (by rw[hs2];rfl)))
 obtain⟨i,e,q1,q2,q⟩:=q1
 subst e
 cases r1 with
 |cons r rr=>
  cases rr with
  |cons r' rr=>
   cases rr with
   |cons r'' rr=>
    cases rr
    obtain⟨t,rfl⟩:=r
    obtain⟨u,rfl⟩:=r'
    obtain⟨v,rfl⟩:=r''
    refine call_range_3 (by decide) ?_ (.inl (PyProof.noPylong_small (by decide)))
    refine wpAny_pyIter_range (IsRange.new ..) (Bc q1 q2) ?_
    have I2:bx X pins σ H1 {s1 with heap:=s1.heap.push {cls:=.type "range",data:=.fields #[.int i t,.int (-1) u,.int (-1) v]}}:=I1.kept (t':=s1.toks) λb o e=>ag _ e
    refine⟨_,[_],_,_,H1,rfl,I2.kept (t':=s1.toks) λb o e=>ag _ e,DA _ i (i+1).toNat,?_,λb hb=>?_,q⟩
    ·show IsRangeIter _ _ (i+((0:Nat):Int)*(-1)) ((((i+1).toNat:Nat):Int)-((0:Nat):Int)) (-1)
     rw[show i+((0:Nat):Int)*(-1)=i by omega,show(((i+1).toNat:Nat):Int)-((0:Nat):Int)=Builtin.Range.rangeSize i (-1) (-1) by rw[vJ q1];omega]
     exact ax _ rfl
    ·have e:b=(s1.heap.push {cls:=.type "range",data:=.fields #[.int i t,.int (-1) u,.int (-1) v]}).objs.size:=by simpa using hb
     subst e
     exact I2.fpOk (au _) (I2.hok.fresh (au _))⟩
theorem Ez{a:Int}{n:Nat}{g:TG}{tb:TS}{D:kU}{σ:St}{H:Hp}(Pv:Nat->St->Hp->Prop)(h0:Pv 0 σ H)
  (hs:∀i σ H,i<n->Pv i σ H->g (.int (a-i)) σ H λσ2 H2=>tb {D with nx:=Pv (i+1),ct:=Pv (i+1),bk:=D.nx} σ2 H2) (hd:∀σ H,Pv n σ H->D.nx σ H) :
  ∃W:Nat->Nat->St->Hp->Prop,(∃m,W 0 m σ H)/\∀i m σ H,W i m σ H->
   ((KF a n).stop i H/\D.nx σ H)\/((KF a n).go i H/\∃N:St->Hp->Prop,(∀σ' H',N σ' H'->∃m',m'<m/\W (i+1) m' σ' H')/\∀x H',(KF a n).yld i H x H'->g x σ H' λσ2 H2=>tb {D with nx:=N,ct:=N,bk:=D.nx} σ2 H2):=by
 refine⟨λi m σ H=>m=n-i/\i<=n/\Pv i σ H,⟨n,by simp,bt _,h0⟩,?_⟩
 rintro i m σ H ⟨rfl,hi,hp⟩
 rcases b6 i n with lt|ge
 ·refine .inr ⟨lt,Pv (i+1),λσ' H' q=>⟨n-(i+1),by lia,rfl,lt,q⟩,?_⟩
  rintro x H' ⟨rfl,rfl⟩
  exact hs i σ H' lt hp
 ·have:i=n:=Nat.le_antisymm hi ge
  subst this
  exact .inl ⟨ge,hd σ H hp⟩
end
end L2
end
section
namespace Bg
open PySem PySem.Spec PyProof.Rows L2
abbrev xT:List Str:=["begin","works","last"]
abbrev rS:List Str:=["begin","works","last"]
def tP(K:Fg):TS:=(c9 (br (jL K) [] E0 (aq (av 0) (aq (av 1) (aq (av 2) (aq (br (ja K) [] E0 (aq (av 0) aO)) aO))))))
abbrev rZ:List Str:=["begin"]
abbrev mM:List Str:=["begin"]
def m4(K:Fg):TS:=(c9 (bN (i8 K) (kz (aq (tC .non) aO)) (ff (fQ K) (aq (av 0) aO))))
abbrev wg:List Str:=["begin","works","last","order"]
abbrev jo:List Str:=["begin","works","last","order","points","come","ends","tables","k","starts","belt","to"]
def m5(K:Fg):TS:=(c9 (pC K (aq (av 7) aO)))
def m7(K:Fg):TS:=(gq (rE K "list" dN (av 7) (aq (br (jx K) [] E0 (aq (av 9) (aq (bN (eU K) (av 5) (av 8)) aO))) aO)))
def m8(K:Fg):TS:=(fZ (cg (bN ((Fw false)) (av 11) (bN (eU K) (av 7) (zU ph (tC (.int 1)))))) (bU (mX (bN (eU K) (av 7) (zU ph (tC (.int 1)))) (av 11)) (yw (av 9) (av 10) BY)) d6)
def m9(K:Fg):TS:=(bB (bU (br (fW K) [] E0 (aq (av 10) (aq (bN (eU K) (av 1) (av 8)) (aq (bN (eU K) (av 4) (bN (c7 K) (av 8) (tC (.int 1)))) aO)))) (aQ 11)) (m8 K))
def nh(K:Fg):TS:=(bB (qp (jM (sD (bN (eU K) (av 5) (av 8))) (aQ 10) (m9 K))) (m7 K))
def ni(K:Fg):TS:=(bB (bU tL (aQ 9)) (nh K))
def nj(K:Fg):TS:=(bB (jM (IH (aq (bN (qH) (ff (fQ K) (aq (av 1) aO)) (tC (.int 1))) (aq (zU ph (tC (.int 1))) (aq (zU ph (tC (.int 1))) aO)))) (aQ 8) (ni K)) (m5 K))
def nv(K:Fg):TS:=(bB (bU (gA (aq (br (jx K) [] E0 (aq (ff (sS K) (aq (d5 [10] 0 (je K (av 6)) (aQ 10) jN (kz (aq (av 10) (aq (tC (.int 0)) aO)))) aO)) (aq (bN (eU K) (av 5) (zU ph (tC (.int 1)))) aO))) aO)) (aQ 7)) (nj K))
def ny(K:Fg):TS:=(bB (qp (bU (d5 [10] 0 (sD (bN (eU K) (av 5) (zU ph (tC (.int 1))))) (aQ 10) (tB (br (lQ K) [] E0 (aq (av 3) (aq (av 10) aO)))) (av 10)) (aQ 6))) (nv K))
def lU(K:Fg):TS:=(bB (bU (br (e9 K) [] E0 (aq (av 0) (aq (av 1) (aq (av 4) aO)))) (aQ 5)) (ny K))
def qP(K:Fg):TS:=(bB (bU (br (fc K) [] E0 (aq (av 1) (aq (av 2) aO))) (aQ 4)) (lU K))
abbrev lx:List Str:=["begin","works","points"]
abbrev d9:List Str:=["begin","works","points","come","k","work","names","entered"]
def kX(K:Fg):TS:=(c9 (av 3))
def gH(K:Fg):TS:=(gq (rE K "list" dN (av 3) (aq (br (jy K) [] E0 (aq (d5 [] 1 (je K (av 7)) (aQ 8) (tB (br (ky K) [] E0 (aq (av 8) (aq (av 6) aO)))) (av 8)) aO)) aO)))
def gJ(K:Fg):TS:=(bB (qp (bU (d5 [] 1 (sD (bN (eU K) (av 3) (av 4))) (aQ 8) jN (br (fW K) [] E0 (aq (av 8) (aq (av 5) (aq (av 6) aO))))) (aQ 7))) (gH K))
def gK(K:Fg):TS:=(bB (bU (bN (eU K) (av 2) (bN (c7 K) (av 4) (tC (.int 1)))) (aQ 6)) (gJ K))
def gL(K:Fg):TS:=(bB (jM (sC K (aq (av 1) aO)) (sA K 2 (fE (aQ 4) (fE (aQ 5) qY))) (gK K)) (kX K))
def iN(K:Fg):TS:=(bB (bU (gA (aq (br (jy K) [] E0 (aq (gA (aq (br (iV K) [] E0 (aq (av 0) (aq (bN (eU K) (av 2) (tC (.int 0))) aO))) aO)) aO)) aO)) (aQ 3)) (gL K))
abbrev xW:List Str:=["entered"]
abbrev nS:List Str:=["entered","come","waiting","belt"]
def pO(K:Fg):TS:=(c9 (av 1))
def pP(K:Fg):TS:=(gq (rE K "list" wZ (av 2) (aq (mX (av 1) (av 3)) aO)))
def pQ(K:Fg):TS:=(fZ (cg (bN ((Fw true)) (av 3) (av 1))) (bB (bU (d5 [] 1 (je K (br (dC K) [] E0 (aq (av 3) aO))) (aQ 4) jN (br (fV K) [] E0 (aq (av 3) (aq (av 4) aO)))) (yw (av 1) (av 3) BY)) (pP K)) d6)
def xy(K:Fg):TS:=(bB (bU (Kt K "list" Lv (av 2)) (aQ 3)) (pQ K))
def pR(K:Fg):TS:=(bB (lT (cg (bN (uK) (ff (fQ K) (aq (av 2) aO)) (tC (.int 0)))) (xy K)) (pO K))
def pS(K:Fg):TS:=(bB (bU (ff (xa K) (aq (av 0) aO)) (aQ 2)) (pR K))
def tY(K:Fg):TS:=(bB (bU tL (aQ 1)) (pS K))
abbrev my:List Str:=["belt"]
abbrev fO:List Str:=["belt","last"]
def ix(K:Fg):TS:=(c9 (d5 [] 2 (sC K (aq (av 0) aO)) (sA K 2 (fE (aQ 2) (fE (aQ 3) qY))) (cg (bN (sT) (av 3) (tC .non))) (av 2)))
def iy(K:Fg):TS:=(bB (fZ (cg (bN (sT) (bN (eU K) (av 0) (av 1)) (tC .non))) (c9 (gA (aq (av 1) aO))) d6) (ix K))
def jb(K:Fg):TS:=(bB (bU (bN (qH) (ff (fQ K) (aq (av 0) aO)) (tC (.int 1))) (aQ 1)) (iy K))
abbrev CC:List Str:=["belt","place"]
abbrev xQ:List Str:=["belt","place"]
def zH(K:Fg):TS:=(c9 (br (hV K) [] E0 (aq (av 0) (aq (bN (eU K) (av 0) (av 1)) aO))))
abbrev xY:List Str:=["belt","work","names"]
abbrev rW:List Str:=["belt","work","names"]
def xA(K:Fg):TS:=(c9 (br (iV K) [] E0 (aq (br (hV K) [] E0 (aq (av 0) (aq (bN (eU K) (av 1) (tC (.int 1))) aO))) (aq (av 2) aO))))
def uc(K:Fg):TS:=(bB (fZ (cg (bN (Dd) (bN (eU K) (av 1) (tC (.int 1))) (tC .non))) (c9 (br (iV K) [] E0 (aq (av 0) (aq (av 2) aO)))) d6) (xA K))
abbrev wo:List Str:=["belt","names"]
abbrev lq:List Str:=["belt","names"]
def qR(K:Fg):TS:=(c9 (ff (Ft K) (aq (d5 [] 1 (je K (av 1)) (aQ 2) jN (bN ((C9 K false)) (av 2) (av 0))) aO)))
abbrev xV:List Str:=["starts","come"]
abbrev rV:List Str:=["starts","come","ahead","waiting","belt","number","found","lot"]
def pG(K:Fg):TS:=(c9 (av 6))
def pH(K:Fg):TS:=(gq (rE K "list" wZ (tN (av 3) (bN (c7 K) (av 5) (tC (.int 1))) (gA aO)) (aq (mX (av 2) (av 4)) aO)))
def pI(K:Fg):TS:=(fZ (cg (bN ((Fw true)) (av 4) (av 6))) (bB (bU (av 5) (yw (av 6) (av 4) BY)) (pH K)) d6)
def pJ(K:Fg):TS:=(jM (je K (av 7)) (aQ 4) (pI K))
def pK(K:Fg):TS:=(bB (bU (Bf (av 3) (av 5)) (aQ 7)) (pJ K))
def xx(K:Fg):TS:=(bB (bU (ff FA (aq (av 3) aO)) (aQ 5)) (pK K))
def pL(K:Fg):TS:=(bB (lT (cg (bN (uK) (ff IR (aq (av 3) aO)) (tC (.int 0)))) (xx K)) (pG K))
def pM(K:Fg):TS:=(bB (bU tL (aQ 6)) (pL K))
def pN(K:Fg):TS:=(gq (rE K "list" dN (tN (av 3) (av 5) (gA aO)) (aq (av 4) aO)))
def nK(K:Fg):TS:=(bB (qp (jM (wJ (av 0)) (sA K 2 (fE (aQ 4) (fE (aQ 5) qY))) (pN K))) (pM K))
def uW(K:Fg):TS:=(bB (bU Be (aQ 3)) (nK K))
def tX(K:Fg):TS:=(bB (bU (br (gX K) [] E0 (aq (av 1) aO)) (aQ 2)) (uW K))
abbrev pX:List Str:=["come"]
abbrev iC:List Str:=["come","ahead","belt","brought","to"]
def jz(K:Fg):TS:=(c9 (av 1))
def jA(K:Fg):TS:=(gq (rE K "list" dN (mX (av 1) (av 4)) (aq (av 2) aO)))
def jB(K:Fg):TS:=(jM (je K (av 3)) (aQ 4) (jA K))
def jC(K:Fg):TS:=(bB (qp (jM (wJ (av 0)) (sA K 2 (fE (aQ 2) (fE (aQ 3) qY))) (jB K))) (jz K))
def kH(K:Fg):TS:=(bB (bU (ff (sS K) (aq (FZ (d5 [2] 0 (sD (av 0)) (aQ 2) jN (kz (aq (av 2) (aq (gA aO) aO))))) aO)) (aQ 1)) (jC K))
abbrev uw:List Str:=["begin","works","last","order"]
abbrev oH:List Str:=["begin","works","last","order","points","tables","belt","told","k","work","done"]
def lV(K:Fg):TS:=(c9 (bN (ko K) (ff (dB K) (aq (av 7) aO)) (kz (aq (ff (dB K) (aq (av 10) aO)) aO))))
def tQ(K:Fg):TS:=(bU (br (fV K) [] E0 (aq (av 6) (aq (bN (eU K) (av 10) (zU ph (tC (.int 1)))) aO))) (aQ 6))
def tR(K:Fg):TS:=(bB (gq (rE K "list" dN (av 10) (aq (br (fb K) [] E0 (aq (bN (eU K) (av 5) (zU ph (tC (.int 1)))) (aq (av 6) aO))) aO))) (tQ K))
def lX(K:Fg):TS:=(bB (lT (cg (bN (FB K) (mX (bN (eU K) (av 5) (zU ph (tC (.int 1)))) (av 6)) (tC (.int 0)))) (tR K)) (lV K))
def lY(K:Fg):TS:=(bB (bU (gA aO) (aQ 10)) (lX K))
def lZ(K:Fg):TS:=(bU (br (fW K) [] E0 (aq (av 6) (aq (av 9) (aq (bN (eU K) (av 4) (bN (ko K) (av 8) (tC (.int 1)))) aO)))) (aQ 6))
def ma(K:Fg):TS:=(bB (gq (rE K "list" dN (av 7) (aq (ff (dB K) (aq (av 10) aO)) aO))) (lZ K))
def tT(K:Fg):TS:=(bU (br (fV K) [] E0 (aq (av 6) (aq (bN (eU K) (av 10) (zU ph (tC (.int 1)))) aO))) (aQ 6))
def tU(K:Fg):TS:=(bB (gq (rE K "list" dN (av 10) (aq (br (fb K) [] E0 (aq (bN (eU K) (av 5) (av 8)) (aq (av 6) aO))) aO))) (tT K))
def kI(K:Fg):TS:=(bB (lT (cg (bN (FB K) (mX (bN (eU K) (av 5) (av 8)) (av 6)) (Bd (bN (eU K) (av 5) (bN (ko K) (av 8) (tC (.int 1)))) (br (fW K) [] E0 (aq (av 6) (aq (av 9) (aq (bN (eU K) (av 4) (bN (ko K) (av 8) (tC (.int 1)))) aO))))))) (tU K)) (ma K))
def kJ(K:Fg):TS:=(bB (bU (gA aO) (aQ 10)) (kI K))
def kK(K:Fg):TS:=(bB (jM (sC K (aq (av 1) aO)) (sA K 2 (fE (aQ 8) (fE (aQ 9) qY))) (kJ K)) (lY K))
def kL(K:Fg):TS:=(bB (bU (gA aO) (aQ 7)) (kK K))
def kM(K:Fg):TS:=(bB (bU (br (iV K) [] E0 (aq (av 0) (aq (bN (eU K) (av 4) (tC (.int 0))) aO))) (aQ 6)) (kL K))
def kO(K:Fg):TS:=(bB (bU (br (kx K) [] E0 (aq (av 0) (aq (av 1) (aq (av 2) (aq (av 3) aO))))) (aQ 5)) (kM K))
def pE(K:Fg):TS:=(bB (bU (br (fc K) [] E0 (aq (av 1) (aq (av 2) aO))) (aQ 4)) (kO K))
abbrev r8:List Str:=["table","belt"]
abbrev jG:List Str:=["table","belt"]
def nJ(K:Fg):TS:=(c9 (bN (eU K) (d5 [] 1 (je K (br (dC K) [] E0 (aq (av 1) aO))) (aQ 2) (cg (bN (wY K) (mX (av 0) (br (fV K) [] E0 (aq (av 1) (aq (av 2) aO)))) (bN (qH) (mX (av 0) (av 1)) (tC (.int 1))))) (av 2)) (tC (.int 0))))
end Bg
end
section
namespace Bg
open PySem L2
theorem Ei{xs:List V}(h:xs≠[]):mB xs none (some (-1))=xs.dropLast:=by
 have hl:0<xs.length:=dA.mpr h
 have e:HT.sIx xs.length xs.length (some (-1))=xs.length-1:=by
  show(if(-1:Int)<0 then((-1:Int)+(xs.length:Int)).toNat else min (-1:Int).toNat xs.length)=xs.length-1
  rw[if_pos (by decide)];omega
 unfold mB
 rw[HT.sIx_none,e,f7,Nat.sub_zero,List.dropLast_eq_take]
theorem A1{K:Fg}{vs:List V}{H:Hp}{Q:VK}{E:XK}(h:lP K vs H Q E):tV K {nx:=λ_ H'=>Q .non H',rt:=Q} (start rT vs) H:=by
 obtain⟨b,x,xs,rfl,hb,hne,hl,q⟩:=h
 refine⟨_,rfl,(by show 1<=sizeLine;decide),λt ht=>⟨_,rfl,?_⟩⟩
 have hb1:(aP H t (.tup [x])) b=some (.tup xs):=by rw[az (aJ hb ht)];exact hb
 refine .inr (.inr (.inr ⟨t,b,[x],xs,rfl,rfl,cE.of aj,cE.of hb1,by simp,?_,λz=>absurd z hne,λ_ p hp=>?_⟩))
 ·exact bR (bH (by rw[aI];omega))
 have hb2:(aP (aP H t (.tup [x])) p (.tup ([x]++xs))) b=some (.tup xs):=by rw[az (aJ hb1 hp)];exact hb1
 refine⟨_,rfl,_,_,rfl,.inr ⟨xs,cE.of hb2,rfl⟩,_,rfl,.inr ⟨p,_,rfl,cE.of aj,?_,λp2 hp2=>?_⟩⟩
 ·rintro⟨_,z⟩
  rw[HT.sIx_nat] at z
  simp at z
 ·refine q p2 _ ?_ (((aM.refl H).new ht).new hp |>.new hp2)
  rw[aj,sr]
  rfl
theorem A9(a b:Option Str):FR (oV a) (oV b)=true:=by cases a<;>cases b<;>rfl
theorem iW{α:Type}{xs:List α}{i:Nat}{x:α}(h:xs[i]?=some x):xs.take (i+1)=xs.take i++[x]:=by rw[gd,h];rfl
theorem Kx{α β:Type}{xs:List α}{ys:List β}{i:Nat}{x:α}{y:β}(h:xs[i]?=some x)(h':ys[i]?=some y):(xs.zip ys)[i]?=some (x,y):=by
 rw[dP];exact⟨h,h'⟩
theorem A4{K:Fg}{vs:List V}{H:Hp}{Q:VK}{E:XK}(h:lQ K vs H Q E):tZ K {nx:=λ_ H'=>Q .non H',rt:=Q} (start nU vs) H:=by
 obtain⟨a,b,as,bs,rfl,ha,hb,hl,h1000,q⟩:=h
 refine⟨_,rfl,_,rfl,true,true,a,b,rfl,⟨_,cE.of ha⟩,⟨_,cE.of hb⟩,λD hD=>?_⟩
 refine CP (xs:=cL as) (ys:=cL bs) (by rw[cK,cK];omega) (λi σ' H'=>∃o1 o2,σ'=[some (.ref a),some (.ref b),o1,o2]/\H' D=some (.lst ((((as.zip bs).take i).map Ja).map V.bl))/\aM H H') ?_ ?_ ?_ ?_
 ·exact⟨none,none,rfl,by rw[eZ];exact aj,(aM.refl H).new hD⟩
 ·rintro i σ' H' _ ⟨o1,o2,_,_,s'⟩
  exact⟨cE.of (s' _ _ ha),cE.of (s' _ _ hb)⟩
 ·rintro i x y σ' H' p hx hy hp ⟨o1,o2,rfl,hD',s'⟩
  obtain⟨ox,ex,rfl⟩:=qe hx
  obtain⟨oy,ey,rfl⟩:=qe hy
  refine⟨p,_,rfl,cE.of aj,rfl,_,_,rfl,_,_,rfl,rfl,fm ?_⟩
  have nD:D≠p:=aJ hD' hp
  have hD2:aP H' p (.tup [oV ox,oV oy]) D=some (.lst ((((as.zip bs).take i).map Ja).map V.bl)):=by rw[az nD];exact hD'
  have li:((((as.zip bs).take i).map Ja).map V.bl).length<=1000:=by rw[af,af,aR,kC];omega
  have HD:H D=none:=by
   cases e:H D with
   |none=>rfl
   |some o=>have:=((aM.refl H).new hD (o:=.lst [])) D o e;rw[aj] at this;rw[hD] at e;cases e
  have app:∀c:Bool,c=Ja (ox,oy)->∃ys,aP H' p (.tup [oV ox,oV oy]) D=some (.lst ys)/\ys.length<sizeLine/\∃o1 o2,[some (V.ref a),some (V.ref b),some (oV ox),some (oV oy)]=[some (.ref a),some (.ref b),o1,o2]/\
    aP (aP H' p (.tup [oV ox,oV oy])) D (.lst (ys++[.bl c])) D=some (.lst ((((as.zip bs).take (i+1)).map Ja).map V.bl))/\aM H (aP (aP H' p (.tup [oV ox,oV oy])) D (.lst (ys++[.bl c]))):=by
   rintro c rfl
   refine⟨_,hD2,bH (by omega),_,_,rfl,?_,?_⟩
   ·rw[aj,iW (Kx ex ey),aC,aC];rfl
   ·intro c o hc
    have n1:c≠D:=aJ hc HD
    rw[az n1]
    exact(s'.new hp) c o hc
  refine⟨_,rfl,rfl,_,rfl,di (λe=>?_) (λe=>?_)⟩
  ·refine app true ?_
   unfold Ja
   rw[decide_eq_true (show(ox,oy).1=none from E3.mp e),Bool.true_or]
  ·refine⟨_,rfl,_,rfl,.inl ⟨A9 ox oy,app _ ?_⟩⟩
   unfold Ja
   rw[decide_eq_false (show ¬(ox,oy).1=none from λz=>e (E3.mpr z)),Bool.false_or]
   by_cases c:ox=oy
   ·rw[decide_eq_true (show oV ox=oV oy by rw[c]),decide_eq_true (show(ox,oy).1=(ox,oy).2 from c)]
   ·rw[decide_eq_false (show ¬oV ox=oV oy from λz=>c (wV z)),decide_eq_false (show ¬(ox,oy).1=(ox,oy).2 from c)]
 ·rintro σ' H' ⟨o1,o2,_,hD',s'⟩
  have e:(as.zip bs).take (cL as).length=as.zip bs:=cW (by rw[kC,cK];omega)
  rw[e] at hD'
  exact⟨D,_,rfl,cq.of hD',q _ s'⟩
theorem xc{K:Fg}{vs:List V}{H:Hp}{Q:VK}{E:XK}(h:hV K vs H Q E):pF K {nx:=λ_ H'=>Q .non H',rt:=Q} (start j5 vs) H:=by
 obtain⟨a,os,x,rfl,ha,hne,hl,q⟩:=h
 refine .inr ⟨_,rfl,a,rfl,⟨_,cE.of ha⟩,λD hD=>?_⟩
 refine i6 (xs:=cL os) (λi σ' H'=>∃o1,σ'=[some (.ref a),some (.str x),o1]/\H' D=some (.lst (cL ((os.take i).map (blank x))))/\aM H H') ?_ ?_ ?_ ?_
 ·exact⟨none,rfl,by rw[eZ];exact aj,(aM.refl H).new hD⟩
 ·rintro i σ' H' _ ⟨o1,_,_,s'⟩
  exact cE.of (s' _ _ ha)
 ·rintro i y σ' H' hy ⟨o1,rfl,hD',s'⟩
  obtain⟨oy,ey,rfl⟩:=qe hy
  have li:(cL ((os.take i).map (blank x))).length<=1000:=by rw[cK,af,aR];omega
  have app:∀c:V,c=oV (blank x oy)->∃ys,H' D=some (.lst ys)/\ys.length<sizeLine/\∃o1,[some (V.ref a),some (V.str x),some (oV oy)]=[some (.ref a),some (.str x),o1]/\
    aP H' D (.lst (ys++[c])) D=some (.lst (cL ((os.take (i+1)).map (blank x))))/\aM H (aP H' D (.lst (ys++[c]))):=by
   rintro c rfl
   refine⟨_,hD',bH (by omega),_,rfl,?_,λb o hb=>?_⟩
   ·rw[aj,iW ey,aC];unfold cL;rw[aC];rfl
   ·rw[az (aJ hb hD)];exact s' b o hb
  refine fm ⟨_,rfl,_,rfl,.inl ⟨A9 oy (some x),_,rfl,di (λe=>?_) (λe=>?_)⟩⟩
  ·refine app _ ?_
   unfold blank
   rw[if_pos (show oy=some x from wV (b:=some x) e)]
   rfl
  ·refine⟨_,rfl,app _ ?_⟩
   unfold blank
   rw[if_neg (show ¬oy=some x from λz=>e (by rw[z];rfl))]
 ·rintro σ' H' ⟨o1,_,hD',s'⟩
  rw[cK,bf] at hD'
  refine⟨D,_,rfl,.inl ⟨cq.of hD',λP nP=>⟨_,rfl,P,.str x,_,rfl,aj,?_,?_,λp H2 h2 s2=>q p H2 ?_ ((s'.new nP).trans s2)⟩⟩⟩
  ·intro z
   have:=congrArg jh z
   rw[cK,af] at this
   exact hne (aS.mp this)
  ·rw[cK,af];exact hl
  ·rw[h2]
   have e:=Kc (os.map (blank x)) (some x)
   show some (HO.tup (BW (cL (os.map (blank x))) (oV (some x))))=_
   rw[e];rfl
theorem FD{K:Fg}{vs:List V}{H:Hp}{Q:VK}{E:XK}(h:iV K vs H Q E):zI K {nx:=λ_ H'=>Q .non H',rt:=Q} (start xR vs) H:=by
 obtain⟨b,n,os,ns,rfl,hb,hn,ol,q⟩:=h
 refine⟨(by show 0<=sizeLine;decide),λT nT=>?_⟩
 have hb1:aP H T (.lst []) b=some (.tup (cL os)):=by rw[az (aJ hb nT)];exact hb
 show tW K _ [some (.ref b),some (.ref n),some (.ref T),none] (aP H T (.lst []))
 refine .inr ⟨_,rfl,b,rfl,⟨_,cE.of hb1⟩,?_⟩
 refine rk (xs:=cL os) (λi σ' H'=>∃o,σ'=[some (.ref b),some (.ref n),some (.ref T),o]/\H' T=some (.lst (cL ((os.take i).foldl (cC ns) [])))/\aM H H') ?_ ?_ ?_ ?_
 ·exact⟨none,rfl,by rw[eZ];exact aj,(aM.refl H).new nT⟩
 ·rintro i σ' H' _ ⟨o,_,_,s'⟩
  exact cE.of (s' _ _ hb)
 ·rintro i x σ' H' hx ⟨o,rfl,hT,s'⟩
  obtain⟨ox,ex,rfl⟩:=qe hx
  have hn':=s' _ _ hn
  have li:(cL ((os.take i).foldl (cC ns) [])).length<=1000:=by rw[cK,lO,aR];simp;omega
  have app:∀w:V,w=oV (if ox∈ns.map some/\ox∉(os.take i).foldl (cC ns) [] then ox else none)->dN (.ref T) [w] H' λ_ H1=>∃o,[some (V.ref b),some (V.ref n),some (V.ref T),some (oV ox)]=[some (.ref b),some (.ref n),some (.ref T),o]/\H1 T=some (.lst (cL ((os.take (i+1)).foldl (cC ns) [])))/\aM H H1:=by
   rintro w rfl
   refine⟨T,_,_,rfl,rfl,hT,bH (by omega),_,rfl,?_,λc oc hc=>?_⟩
   ·rw[aj,iW ex,dU]
    show some (HO.lst _)=some (HO.lst (cL (cC ns ((os.take i).foldl (cC ns) []) ox)))
    unfold cC cL
    rw[aC]
    rfl
   ·rw[az (aJ hc nT)];exact s' c oc hc
  refine⟨_,rfl,.inl ⟨rfl,_,cq.of hT⟩,_,rfl,_,rfl,n,_,rfl,.inr (cE.of hn'),wU _,vg _,_,rfl,?_⟩
  show if AF (oV ox) (ns.map V.str)=true then _ else _
  rw[FW,II]
  refine di (λm=>⟨_,rfl,_,rfl,T,_,rfl,.inl (cq.of hT),wU _,sL _,_,rfl,?_⟩) (λm=>iE (app _ ?_))
  ·show if(!AF (oV ox) (cL _))=true then _ else _
   rw[II]
   refine og (λm2=>⟨_,rfl,app _ ?_⟩) (λm2=>app _ ?_)
   ·rw[if_pos ⟨m,m2⟩]
   ·rw[if_neg λz=>z.2 m2];rfl
  ·rw[if_neg λz=>m z.1];rfl
 ·rintro σ' H' ⟨o,rfl,hT,s'⟩
  rw[cK,bf] at hT
  exact⟨_,rfl,T,_,rfl,.inl ⟨cq.of hT,λP nP=>q P _ aj (s'.new nP)⟩⟩
end Bg
end
section
namespace Bg
open PySem PySem.Spec PyProof.Rows L2
end Bg
end
section
namespace Bg
open PySem L2
theorem dE{H H1:Hp}{a:Addr}{o:HO}(s:aM H H1)(h:H a=none):aM H (aP H1 a o):=λb u e=>by
 rw[az (aJ e h)];exact s b u e
theorem Ar{js:List Nat}{k:Nat}{K:Fg}{a:Addr}{xs:List V}{g:TG}{tc:TT}{te:TE}{R:Hp->Prop}{σ:St}{H:Hp}{D:Addr}(Pv:Nat->St->Hp->Prop)(h0:Pv 0 (vd js k σ) (aP H D (.lst [])))(hl:∀i σ H,i<=xs.length->Pv i σ H->cE K H a xs)
  (hs:∀i x σ H p,xs[i]?=some x->H p=none->Pv i σ H->g (.ref p) σ (aP H p (.tup [.int (i:Nat),x])) λσ2 H2=>jI D tc te {nx:=Pv (i+1),rt:=λ_ _=>False,ct:=Pv (i+1),bk:=λ_ H'=>R H'} σ2 H2) (hd:∀σ H,Pv xs.length σ H->R H) :
  ∃W:Nat->Nat->St->Hp->Prop,(∃m,W 0 m (vd js k σ) (aP H D (.lst [])))/\∀i m σ H,W i m σ H->
   ((xH K a).stop i H/\R H)\/((xH K a).go i H/\∃N:St->Hp->Prop,(∀σ' H',N σ' H'->∃m',m'<m/\W (i+1) m' σ' H')/\∀x H',(xH K a).yld i H x H'->g x σ H' λσ2 H2=>jI D tc te {nx:=N,rt:=λ_ _=>False,ct:=N,bk:=λ_ H'=>R H'} σ2 H2):=
 p8 (D:={nx:=λ_ H'=>R H',rt:=λ_ _=>False}) Pv h0 hl hs hd
theorem zh{ys:List Str}{i:Nat}{x:V}(h:(ys.map V.str)[i]?=some x):∃y,ys[i]?=some y/\x=.str y:=by
 rw[aH] at h
 cases e:ys[i]? with
 |none=>rw[e] at h;cases h
 |some y=>rw[e] at h;exact⟨y,rfl,(Option.some.inj h).symm⟩
theorem rA(o:Option Str):fX o=oV o:=by cases o<;>rfl
theorem EM(y:Str)(b:Bt):AF (.str y) (cL b)=decide (some y∈b):=by
 rw[Bool.eq_iff_iff,decide_eq_true_eq]
 unfold AF
 rw[fh]
 constructor
 ·rintro⟨v,hv,e⟩
  obtain⟨o,ho,rfl⟩:=aE.mp hv
  have:=BG o (some y)
  rw[show yt (oV o) (V.str y)=yt (oV o) (oV (some y)) from rfl,this,decide_eq_true_eq] at e
  rw[<-e];exact ho
 ·intro h
  refine⟨oV (some y),aE.mpr ⟨_,h,rfl⟩,?_⟩
  show yt (oV (some y)) (oV (some y))=true
  rw[BG];exact decide_eq_true rfl
theorem oX{b:Bt}{x:Str}(h:b[b.length-1]?=some (some x)):k9 b=[b.length-1]:=by
 unfold k9
 rw[fz,h]
theorem yV{b:Bt}(h:b[b.length-1]?=some none):k9 b=(cc b.length).filter λi=>((b[i]?).getD none).isSome:=by
 unfold k9
 rw[fz,h]
theorem jS{b:Bt}{i:Nat}(h:i∈k9 b):∃x,b[i]?=some (some x):=by
 unfold k9 at h
 split at h
 ·rename_i x e
  rw[fz] at e
  rw[ak.mp h];exact⟨x,e⟩
 ·obtain⟨_,h⟩:=bb.mp h
  cases e:b[i]? with
  |none=>rw[e] at h;cases h
  |some o=>
   cases o with
   |none=>rw[e] at h;cases h
   |some x=>exact⟨x,rfl⟩
theorem lD{b:Bt}{i:Nat}{x:Str}(h:b[i]?=some (some x)):j8 b i=iD b x:=by unfold j8;rw[h];rfl
theorem BR(o:Option Str):decide (oV o=.non)=!o.isSome:=by cases o<;>rfl
theorem om{K:Fg}{vs:List V}{H:Hp}{Q:VK}{E:XK}(h:dC K vs H Q E):jb K {nx:=λ_ H'=>Q .non H',rt:=Q} (start fO vs) H:=by
 obtain⟨p,b,rfl,hp,ne,l5,q⟩:=h
 have pos:0<b.length:=dA.mpr ne
 refine⟨_,rfl,_,_,rfl,.inr ⟨_,cE.of hp,rfl⟩,_,_,rfl,rfl,?_⟩
 rw[cK]
 show iy K _ [some (.ref p),some (.int ((b.length:Int)-1))] H
 have hl:b[b.length-1]?=some b[b.length-1]:=aa (by lia)
 generalize b[b.length-1]'(by lia)=o at hl
 refine⟨_,rfl,_,rfl,uj hp (by lia) (by rw[show((b.length:Int)-1).toNat=b.length-1 by lia];exact rq hl) ⟨rfl,_,rfl,?_⟩⟩
 rw[BR,Bool.not_not]
 cases o with
 |some x=>
  refine qa ⟨_,rfl,(by show 1<=sizeLine;decide),λl nl=>q l _ nl ?_ ((aM.refl H).new nl)⟩
  rw[aj,oX hl]
  show some (HO.lst [.int ((b.length:Int)-1)])=some (.lst [.int ((b.length-1:Nat):Int)])
  rw[show((b.length-1:Nat):Int)=(b.length:Int)-1 by lia]
 |none=>
  refine iE ?_
  show ix K _ [some (.ref p),some (.int ((b.length:Int)-1))] H
  refine⟨_,rfl,p,rfl,⟨_,cE.of hp⟩,λD nD=>?_⟩
  refine Ar (xs:=cL b) (λi σ' H'=>∃o2 o3,σ'=[some (.ref p),some (.int ((b.length:Int)-1)),o2,o3]/\H' D=some (.lst (((cc i).filter λi=>((b[i]?).getD none).isSome).map λi=>V.int (i:Nat)))/\aM H H') ?_ ?_ ?_ ?_
  ·exact⟨none,none,rfl,aj,(aM.refl H).new nD⟩
  ·rintro i σ' H' _ ⟨_,_,_,_,s⟩;exact cE.of (s _ _ hp)
  ·rintro i v σ' H1 t hv nt ⟨o2,o3,rfl,hD,s⟩
   obtain⟨o,ho,rfl⟩:=qe hv
   have il:i<b.length:=(ae.mp ho).1
   refine⟨t,_,rfl,cE.of aj,rfl,_,_,rfl,_,_,rfl,rfl,?_⟩
   have s1:aM H1 (aP H1 t (.tup [.int (i:Nat),oV o])):=(aM.refl H1).new nt
   show jI D _ _ _ [some (.ref p),some (.int ((b.length:Int)-1)),some (.int (i:Nat)),some (oV o)] _
   generalize aP H1 t (.tup [.int (i:Nat),oV o])=H2 at s1 ⊢
   have fl:(cc (i+1)).filter (λi=>((b[i]?).getD none).isSome)=(cc i).filter (λi=>((b[i]?).getD none).isSome)++if o.isSome then[i] else[]:=by
    rw[iA,eG,cO,ho]
    rfl
   refine⟨_,rfl,rfl,_,rfl,?_⟩
   rw[BR,Bool.not_not]
   cases o with
   |none=>
    refine iE ⟨_,_,rfl,?_,s.trans s1⟩
    rw[fl];simpa using s1 _ _ hD
   |some x=>
    refine qa ⟨_,rfl,_,s1 _ _ hD,bH ?_,_,_,rfl,?_,dE (s.trans s1) nD⟩
    ·rw[af]
     have:=bq (λi=>((b[i]?).getD none).isSome) (cc i)
     rw[dv] at this
     lia
    ·rw[aj,fl,aC];rfl
  ·rintro σ' H1 ⟨_,_,_,hD,s⟩
   rw[cK,<-yV hl] at hD
   exact q D H1 nD hD s
theorem FC{K:Fg}{vs:List V}{H:Hp}{Q:VK}{E:XK}(h:fV K vs H Q E):zH K {nx:=λ_ H'=>Q .non H',rt:=Q} (start xQ vs) H:=by
 obtain⟨p,b,i,rfl,hp,l5,hi,q⟩:=h
 obtain⟨x,hx⟩:=jS hi
 refine⟨_,rfl,_,rfl,_,rfl,uj hp (cw _) (by rw[aZ];exact rq hx) ⟨p,b,x,rfl,hp,(λz=>by rw[z] at hx;cases hx),by lia,λr H' hr s=>q r H' (by rw[lD hx];exact hr) s⟩⟩
theorem A5{K:Fg}{vs:List V}{H:Hp}{Q:VK}{E:XK}(h:fW K vs H Q E):uc K {nx:=λ_ H'=>Q .non H',rt:=Q} (start rW vs) H:=by
 obtain⟨p,n,v,b,w,ss,rfl,hp,⟨wp,wt,rfl,hw,_⟩,hn,ne,l5,q⟩:=h
 refine⟨_,rfl,uj hw (by decide) (v:=fX w.out) rfl ⟨rfl,_,rfl,?_⟩⟩
 rw[rA,BR]
 cases ho:w.out with
 |none=>
  refine qa ⟨_,rfl,_,rfl,p,n,b,ss,rfl,hp,hn,by lia,λr H' hr s=>q r H' ?_ s⟩
  unfold jg;rw[ho];exact hr
 |some y=>
  refine iE ⟨_,rfl,_,rfl,uj hw (by decide) (v:=fX w.out) rfl ?_⟩
  rw[ho]
  refine⟨p,b,y,rfl,hp,ne,by lia,λr H1 hr s1=>⟨_,rfl,r,n,iD b y,ss,rfl,hr,s1 _ _ hn,?_,λr2 H2 hr2 s2=>q r2 H2 ?_ (s1.trans s2)⟩⟩
  ·unfold iD mT;rw[aR,bD,af];lia
  ·unfold jg;rw[ho];exact hr2
theorem y4{K:Fg}{vs:List V}{H:Hp}{Q:VK}{E:XK}(h:ky K vs H Q E):qR K {nx:=λ_ H'=>Q .non H',rt:=Q} (start lq vs) H:=by
 obtain⟨p,n,b,ss,rfl,hp,hn,few,l5,q⟩:=h
 refine .inr ⟨_,rfl,n,rfl,⟨_,cE.of hn⟩,λD nD=>?_⟩
 refine i6 (xs:=ss.map V.str) (λi σ' H'=>∃o,σ'=[some (.ref p),some (.ref n),o]/\H' D=some (.lst (((ss.take i).map λy=>decide (some y∈b)).map V.bl))/\aM H H') ?_ ?_ ?_ ?_
 ·exact⟨none,rfl,aj,(aM.refl H).new nD⟩
 ·rintro i σ' H' _ ⟨_,_,_,s⟩;exact cE.of (s _ _ hn)
 ·rintro i v σ' H1 hv ⟨o,rfl,hD,s⟩
  obtain⟨y,hy,rfl⟩:=zh hv
  have il:i<ss.length:=(ae.mp hy).1
  refine fm ⟨_,rfl,_,rfl,p,_,rfl,.inr (cE.of (s _ _ hp)),rfl,sL b,?_⟩
  rw[show(if false=true then !AF (V.str y) (cL b) else AF (V.str y) (cL b))=decide (some y∈b) from EM y b]
  refine⟨_,hD,bH (by rw[af,af,aR];lia),_,rfl,?_,dE s nD⟩
  rw[aj,gd,hy,aC,aC];rfl
 ·rintro σ' H1 ⟨o,_,hD,s⟩
  rw[af,bf] at hD
  refine⟨D,_,rfl,cq.of hD,?_⟩
  have e:(ss.map λy=>decide (some y∈b)).all id=oa b ss:=by unfold oa;rw[List.all_map];rfl
  rw[e];exact q H1 s
theorem uM{K:Fg}{vs:List V}{H:Hp}{Q:VK}{E:XK}(h:ja K vs H Q E):m4 K {nx:=λ_ H'=>Q .non H',rt:=Q} (start mM vs) H:=by
 obtain⟨p,b,rfl,hp,ne,l5,q⟩:=h
 have rep:∀k,(aV k [V.non]).flatten=cL (aV k none):=λk=>by
  unfold cL
  induction k with
  |zero=>rfl
  |succ k ih=>rw[cD,dS,ih,cD];rfl
 refine⟨(by show 1<=sizeLine;decide),λt nt=>⟨_,rfl,_,_,rfl,.inr ⟨_,cE.of ((aM.refl H).new nt _ _ hp),rfl⟩,.inr ⟨t,b.length,[V.non],rfl,by rw[cK],cE.of aj,(by simp),?_,λe=>?_,λ_ r nr=>?_⟩⟩⟩
 ·rw[aI];exact bR (bH (by lia))
 ·refine q t _ ?_ ((aM.refl H).new nt)
  rw[aj,e];rfl
 ·refine q r _ ?_ (((aM.refl H).new nt).new nr)
  rw[aj,rep]
def CK(ss:List Str):Nat->List Bt
 |0=>[[]]
 |n+1=>((none::ss.map some).map λo=>(CK ss n).map (o::·)).flatten
theorem x8(ss:List Str):∀n,(CK ss n).length=(ss.length+1) ^ n
 |0=>rfl
 |n+1=>by
  have h:∀(os:List (Option Str)),((os.map λo=>(CK ss n).map (o::·)).flatten).length=os.length*(ss.length+1) ^ n:=λos=>by
   induction os with
   |nil=>simp
   |cons o r ih=>rw[bJ,dS,ai,ih,af,x8 ss n,bD,Nat.add_mul,Nat.one_mul,Nat.add_comm]
  show(((none::ss.map some).map λo=>(CK ss n).map (o::·)).flatten).length=_
  rw[h,bD,af,Nat.pow_succ,oC]
theorem x9{ss:List Str}:∀{n:Nat} {b:Bt},mr n ss b->b∈CK ss n
 |0,b,h=>by
  have:b=[]:=aS.mp h.len
  rw[this];exact ak.mpr rfl
 |n+1,[],h=>absurd h.len (by simp)
 |n+1,o::r,h=>by
  refine List.mem_flatten.mpr ⟨_,aE.mpr ⟨o,?_,rfl⟩,aE.mpr ⟨r,x9 ⟨by have:=h.len;simpa using this,λx hx=>h.mem x (bh _ hx)⟩,rfl⟩⟩
  cases o with
  |none=>exact bg
  |some x=>exact bh _ (aE.mpr ⟨x,h.mem x bg,rfl⟩)
theorem vf{n:Nat}{ss:List Str}{ks:List Bt}(d:Gw n ss)(nd:ks.Nodup)(h:∀b∈ks,mr n ss b):ks.length<=7776:=by
 have h1:=j9 (zs:=CK ss n) nd λb hb=>x9 (h b hb)
 rw[x8] at h1
 have h2:(ss.length+1) ^ n<=6 ^ n:=Nat.pow_le_pow_left (by have:=d.s5;lia) n
 have h3:(6:Nat) ^ n<=6 ^ 5:=Nat.pow_le_pow_right (by decide) d.n5
 have:(6:Nat) ^ 5=7776:=by decide
 lia
theorem iq(b:Bt)(x:Str):(iD b x).length=b.length:=by unfold iD mT;rw[aR,bD,af];lia
theorem G5(b:Bt)(i:Nat):(j8 b i).length=b.length:=by
 unfold j8
 split
 ·exact iq _ _
 ·rfl
theorem Ec{b:Bt}{x y:Str}(h:some y∈iD b x):y=x\/some y∈b:=by
 unfold iD mT at h
 rcases aN.mp (ie h) with e|h
 ·exact .inl (Option.some.inj e)
 ·obtain⟨o,ho,e⟩:=aE.mp h
  right
  unfold blank at e
  split at e
  ·cases e
  ·rw[<-e];exact ho
theorem mr.kt{n:Nat}{ss:List Str}{b:Bt}(h:mr n ss b){i:Nat}(hi:i∈k9 b):mr n ss (j8 b i):=by
 obtain⟨x,hx⟩:=jS hi
 refine⟨(G5 b i).trans h.len,λy hy=>?_⟩
 rw[lD hx] at hy
 rcases Ec hy with rfl|hy
 ·exact h.mem _ (aG hx)
 ·exact h.mem y hy
theorem mr.kts{n:Nat}{ss:List Str}{b c:Bt}(h:mr n ss b)(hc:c∈kts b):mr n ss c:=by
 obtain⟨i,hi,rfl⟩:=aE.mp hc
 exact h.kt hi
theorem BV(b:Bt):(k9 b).length<=b.length+1:=by
 unfold k9
 split
 ·show 1<=_;lia
 ·have:=bq (λi=>((b[i]?).getD none).isSome) (cc b.length)
  rw[dv] at this
  lia
theorem yU{b:Bt}(h:b≠[]):(k9 b).length<=b.length:=by
 have pos:0<b.length:=dA.mpr h
 unfold k9
 split
 ·show 1<=_;lia
 ·have:=bq (λi=>((b[i]?).getD none).isSome) (cc b.length)
  rw[dv] at this
  exact this
def cS(t:List (Bt×Nat)):List (List cf×V):=t.map λp=>(cB p.1,V.int (p.2:Nat))
theorem fg{t:List (Bt×Nat)}(nd:(t.map (·.1)).Nodup){b:Bt}{m:Nat}(h:(b,m)∈t):de (cS t) (cB b)=some (.int (m:Nat)):=by
 induction t with
 |nil=>cases h
 |cons p r ih=>
  rw[bJ,bX] at nd
  unfold de cS
  rw[bJ,dw]
  by_cases e:p.1=b
  ·have:decide (cB p.1=cB b)=true:=decide_eq_true (by rw[e])
   dsimp only
   rw[this]
   rcases aN.mp h with h|h
   ·rw[<-h];rfl
   ·exact absurd (aE.mpr ⟨_,h,rfl⟩) (by rw[<-e];exact nd.1)
  ·have:decide (cB p.1=cB b)=false:=decide_eq_false λz=>e (oR z)
   dsimp only
   rw[this]
   rcases aN.mp h with h|h
   ·exact absurd (by rw[<-h]) e
   ·exact ih nd.2 h
theorem pT{t:List (Bt×Nat)}{b:Bt}(h:∀m,(b,m)∉t):de (cS t) (cB b)=none:=by
 induction t with
 |nil=>rfl
 |cons p r ih=>
  unfold de cS
  rw[bJ,dw]
  have e:p.1≠b:=λz=>h p.2 (by rw[<-z];exact bg)
  have:decide (cB p.1=cB b)=false:=decide_eq_false λz=>e (oR z)
  dsimp only
  rw[this]
  exact ih λm z=>h m (bh _ z)
theorem rF{t:List (Bt×Nat)}(nd:(t.map (·.1)).Nodup){b:Bt}{m k:Nat}(h:(b,m)∈t)(h':(b,k)∈t):m=k:=by
 have:=(fg nd h).symm.trans (fg nd h')
 injection this with this
 injection this with this
 lia
theorem mO{H:Hp}{D p:Addr}{kvs:List (List cf×V)}{b:Bt}{o:Option V}(hD:H D=some (.dT kvs))(hp:H p=some (.tup (cL b)))(e:de kvs (cB b)=o):pV H D (.ref p) o:=by
 rw[<-e]
 exact pV.t hD (by rw[eD];exact hp)
theorem ui:∀(b:Bt),zO (aV b.length none) b=true
 |[]=>rfl
 |o::r=>by
  have h:=ui r
  unfold zO at h ⊢
  rw[bD,cD,List.zip_cons_cons,bJ,mG,h,Bool.and_true]
  rfl
theorem jH.lead{ks:List Bt}{t0 t:List (Bt×Nat)}(sp:jH ks t0 t)(cl:∀b∈ks,∀c∈kts b,c∈ks):∀{ps:List Nat} {b:Bt} {m:Nat},b∈ks->dO b ps->(fY b ps,m)∈t->∃m',m'<=m+ps.length/\(b,m')∈t
 |[],b,m,_,_,h=>⟨m,au _,h⟩
 |p::r,b,m,hb,ok,h=>by
  have hk:j8 b p∈kts b:=aE.mpr ⟨p,ok.1,rfl⟩
  obtain⟨m1,l1,h1⟩:=jH.lead sp cl (ps:=r) (b:=j8 b p) (cl b hb _ hk) ok.2 h
  obtain⟨m2,l2,h2⟩:=sp.s2 b hb _ hk m1 h1
  exact⟨m2,by rw[bD];lia,h2⟩
theorem jH.start{ks:List Bt}{t0 t:List (Bt×Nat)}(sp:jH ks t0 t)(cl:∀b∈ks,∀c∈kts b,c∈ks){ps:List Nat}{b:Bt}{m:Nat}(hb:b∈ks)(ok:dO b ps)(h:(fY b ps,m)∈t0):∃m',m'<=m+ps.length/\(b,m')∈t:=by
 obtain⟨m1,l1,h1⟩:=sp.s1 _ _ h
 obtain⟨m2,l2,h2⟩:=sp.lead cl hb ok h1
 exact⟨m2,by lia,h2⟩
def Uq(b:Bt):Prop:=∀(i j:Nat) x,b[i]?=some (some x)->b[j]?=some (some x)->i=j
theorem rot{l:Bt}{y:Str}(u:Uq (l++[some y])):k9 (l++[some y])=[l.length]/\j8 (l++[some y]) l.length=some y::l:=by
 have e:(l++[some y])[l.length]?=some (some y):=by rw[ao (au _),a9];rfl
 have ln:(l++[some y]).length=l.length+1:=by rw[ai];rfl
 refine⟨?_,?_⟩
 ·rw[oX (x:=y) (by rw[ln,cx];exact e),ln,cx]
 ·rw[lD e]
  have hl:l.map (Bg.blank y)=l:=by
   conv=>rhs;rw[<-List.map_id l]
   refine cZ λo ho=>?_
   obtain⟨i,hi,eo⟩:=aT.mp ho
   have ne:o≠some y:=λz=>by
    have h1:(l++[some y])[i]?=some (some y):=by rw[ar hi,aa hi,eo,z]
    have:=u i l.length y h1 e
    lia
   unfold Bg.blank
   rw[if_neg ne];rfl
  unfold iD mT
  rw[aC,hl]
  show(some y::(l++[Bg.blank y (some y)])).take _=_
  rw[ai,show(List.map (Bg.blank y) [some y]).length=1 from rfl,List.take_succ_cons,List.take_append_of_le_length (au _),bf]
theorem Uq.rot{l:Bt}{o:Option Str}(u:Uq (l++[o])):Uq (o::l):=by
 have key:∀(i:Nat) x,(o::l)[i]?=some (some x)->∃i',(l++[o])[i']?=some (some x)/\(i=0->i'=l.length)/\(∀k,i=k+1->i'=k):=λi x h=>by
  cases i with
  |zero=>
   refine⟨l.length,?_,(λ_=>rfl),(λk z=>by cases z)⟩
   rw[ao (au _),a9]
   simpa using h
  |succ k=>
   have h:l[k]?=some (some x):=by simpa using h
   refine⟨k,?_,(λz=>by cases z),(λk' z=>by injection z)⟩
   rw[ar (ae.mp h).1];exact h
 intro i j x h1 h2
 obtain⟨i',a1,a2,a3⟩:=key i x h1
 obtain⟨j',b1,b2,b3⟩:=key j x h2
 have e:=u i' j' x a1 b1
 have lt:∀{k:Nat},(o::l)[k+1]?=some (some x)->k<l.length:=λh=>(ae.mp (by simpa using h)).1
 cases i with
 |zero=>cases j with
  |zero=>rfl
  |succ j=>have:=a2 rfl;have:=b3 j rfl;have:=lt h2;lia
 |succ i=>cases j with
  |zero=>have:=b2 rfl;have:=a3 i rfl;have:=lt h1;lia
  |succ j=>have:=a3 i rfl;have:=b3 j rfl;lia
theorem xp{b:Bt}{ss:List Str}{i:Nat}{x:Str}(h:(b5 b ss)[i]?=some (some x)):b[i]?=some (some x)/\qz b i/\x∈ss:=by
 have hi:i<b.length:=by have:=(ae.mp h).1;rwa [eP] at this
 obtain⟨w,hw,pk⟩:=xo (ns:=ss) (aa hi)
 rw[h] at hw
 have hw:some x=w:=Option.some.inj hw
 by_cases c:b[i]∈ss.map some/\qz b i
 ·have e:=pk.1 c
  rw[<-hw] at e
  obtain⟨y,hy,ey⟩:=aE.mp c.1
  refine⟨by rw[aa hi,e],c.2,?_⟩
  rw[<-e] at ey
  rw[<-Option.some.inj ey];exact hy
 ·have e:=pk.2 c
  rw[<-hw] at e;cases e
theorem Ip(b:Bt)(ss:List Str):Uq (b5 b ss):=λi j x h1 h2=>by
 obtain⟨a1,a2,_⟩:=xp h1
 obtain⟨b1,b2,_⟩:=xp h2
 rcases Nat.lt_trichotomy i j with lt|eq|lt
 ·exact absurd (a1.trans b1.symm) (b2 i lt)
 ·exact eq
 ·exact absurd (b1.trans a1.symm) (a2 j lt)
theorem Ey{b:Bt}{o:Option Str}:∀{i:Nat},b[i]?=some o->∃k,b[k]?=some o/\qz b k:=by
 intro i
 induction i using Nat.strongRecOn with
 |ind i ih=>
  intro h
  by_cases c:qz b i
  ·exact⟨i,h,c⟩
  ·have:∃j,j<i/\b[j]?=b[i]?:=by
    apply Classical.byContradiction
    intro z
    exact c λj hj e=>z ⟨j,hj,e⟩
   obtain⟨j,hj,e⟩:=this
   exact ih j hj (e.trans h)
theorem px{b:Bt}{ss:List Str}{x:Str}(hx:x∈ss)(h:some x∈b):some x∈b5 b ss:=by
 obtain⟨i,hi,e⟩:=aT.mp h
 obtain⟨k,hk,fk⟩:=Ey (i:=i) (by rw[aa hi,e])
 obtain⟨w,hw,pk⟩:=xo (ns:=ss) hk
 rw[pk.1 ⟨aE.mpr ⟨x,hx,rfl⟩,fk⟩] at hw
 exact aG hw
theorem An{a b:Bt}(hl:a.length=b.length)(h:∀(i:Nat) x,a[i]?=some (some x)↔b[i]?=some (some x)):a=b:=by
 refine List.ext_getElem hl λi h1 h2=>?_
 have e1:a[i]?=some a[i]:=aa h1
 have e2:b[i]?=some b[i]:=aa h2
 cases ea:a[i] with
 |some x=>
  rw[ea] at e1
  have:=(h i x).mp e1
  rw[e2] at this
  exact(Option.some.inj this).symm
 |none=>
  cases eb:b[i] with
  |none=>rfl
  |some x=>
   rw[eb] at e2
   have:=(h i x).mpr e2
   rw[e1,ea] at this
   cases this
theorem CM{b:Bt}(x:Str)(h:b≠[]):(iD b x)[0]?=some (some x):=by
 cases b with
 |nil=>exact absurd rfl h
 |cons o r=>rfl
theorem GN(b:Bt)(x:Str)(k:Nat)(h:k+1<b.length):(iD b x)[k+1]?=(b[k]?).map (Bg.blank x):=by
 unfold iD mT
 rw[iZ,if_pos (by rw[af];exact h),List.getElem?_cons_succ,aH]
theorem e7{b:Bt}{x z:Str}{k:Nat}(ne:b≠[]):(iD b x)[k]?=some (some z)↔(k=0/\z=x)\/∃j,k=j+1/\j+1<b.length/\b[j]?=some (some z)/\z≠x:=by
 cases k with
 |zero=>
  rw[CM x ne]
  constructor
  ·intro h;exact .inl ⟨rfl,by injection h with h;injection h with h;exact h.symm⟩
  ·rintro(⟨_,rfl⟩|⟨j,e,_⟩)
   ·rfl
   ·cases e
 |succ j=>
  by_cases hj:j+1<b.length
  ·rw[GN b x j hj,aa (show j<b.length by lia)]
   constructor
   ·intro h
    have h:Bg.blank x b[j]=some z:=Option.some.inj h
    unfold Bg.blank at h
    by_cases c:b[j]=some x
    ·rw[if_pos c] at h;cases h
    ·rw[if_neg c] at h
     exact .inr ⟨j,rfl,hj,by rw[aa (show j<b.length by lia),h],λe=>c (by rw[h,e])⟩
   ·rintro(⟨e,_⟩|⟨j',e,_,h,n⟩)
    ·cases e
    ·cases e
     rw[aa (show j<b.length by lia)] at h
     have h:b[j]=some z:=Option.some.inj h
     show some (Bg.blank x b[j])=_
     unfold Bg.blank
     rw[h,if_neg λe=>n (Option.some.inj e)]
  ·constructor
   ·intro h
    have:=(ae.mp h).1
    rw[iq] at this
    exact absurd this hj
   ·rintro(⟨e,_⟩|⟨j',e,h,_⟩)
    ·cases e
    ·cases e;exact absurd h hj
theorem d4{b:Bt}{ss:List Str}{i:Nat}{x:Str}:(b5 b ss)[i]?=some (some x)↔b[i]?=some (some x)/\(∀j,j<i->b[j]?≠some (some x))/\x∈ss:=by
 constructor
 ·intro h
  obtain⟨h1,h2,h3⟩:=xp h
  exact⟨h1,λj hj e=>h2 j hj (e.trans h1.symm),h3⟩
 ·rintro⟨h1,h2,h3⟩
  obtain⟨w,hw,pk⟩:=xo (ns:=ss) h1
  rw[hw,pk.1 ⟨aE.mpr ⟨x,h3,rfl⟩,λj hj e=>h2 j hj (e.trans h1)⟩]
theorem vH{b:Bt}{ss:List Str}{k:Nat}{y z:Str}(ne:b≠[]):(b5 (iD b y) ss)[k]?=some (some z)↔z∈ss/\((k=0/\z=y)\/∃j,k=j+1/\j+1<b.length/\b[j]?=some (some z)/\z≠y/\∀i,i<j->b[i]?≠some (some z)):=by
 rw[d4,e7 ne]
 constructor
 ·rintro⟨h1,h2,h3⟩
  refine⟨h3,?_⟩
  rcases h1 with h1|⟨j,rfl,hj,h1,n⟩
  ·exact .inl h1
  ·exact .inr ⟨j,rfl,hj,h1,n,λi hi e=>h2 (i+1) (by lia) ((e7 ne).mpr (.inr ⟨i,rfl,by lia,e,n⟩))⟩
 ·rintro⟨h3,h1⟩
  rcases h1 with⟨rfl,rfl⟩|⟨j,rfl,hj,h1,n,f⟩
  ·exact⟨.inl ⟨rfl,rfl⟩,λj hj=>absurd hj (dy _),h3⟩
  ·refine⟨.inr ⟨j,rfl,hj,h1,n⟩,λi hi e=>?_,h3⟩
   rcases(e7 ne).mp e with⟨_,e⟩|⟨i',rfl,_,e,_⟩
   ·exact n e
   ·exact f i' (by lia) e
theorem Dp{B:Bt}{ss ss':List Str}(sub:∀z∈ss',z∈ss):b5 (b5 B ss) ss'=b5 B ss':=by
 refine An (by simp only[eP]) λi x=>?_
 rw[d4,d4,d4]
 constructor
 ·rintro⟨⟨h1,h2,h3⟩,h4,h5⟩
  exact⟨h1,h2,h5⟩
 ·rintro⟨h1,h2,h5⟩
  exact⟨⟨h1,h2,sub _ h5⟩,λj hj e=>h2 j hj (d4.mp e).1,h5⟩
theorem tq{B:Bt}{ss ss':List Str}{y:Str}(ne:B≠[])(sub:∀z∈ss',z≠y->z∈ss):b5 (iD (b5 B ss) y) ss'=b5 (iD B y) ss':=by
 have ne':b5 B ss≠[]:=λz=>ne (aS.mp (by rw[<-eP B ss,z];rfl))
 refine An (by simp only[eP,iq]) λi x=>?_
 rw[vH ne',vH ne,eP]
 constructor
 ·rintro⟨h1,h2|⟨j,e,hj,h2,n,f⟩⟩
  ·exact⟨h1,.inl h2⟩
  ·obtain⟨a,b,c⟩:=d4.mp h2
   exact⟨h1,.inr ⟨j,e,hj,a,n,b⟩⟩
 ·rintro⟨h1,h2|⟨j,e,hj,h2,n,f⟩⟩
  ·exact⟨h1,.inl h2⟩
  ·exact⟨h1,.inr ⟨j,e,hj,d4.mpr ⟨h2,f,sub x h1 n⟩,n,λi hi z=>f i hi (d4.mp z).1⟩⟩
def xD(B:Bt)(p:Nat):Bt:=(B[p]?).getD none::B.dropLast
theorem BO{B:Bt}(ne:B≠[])(p:Nat):(xD B p).length=B.length:=by
 have:=dA.mpr ne
 unfold xD
 rw[bD,eX];lia
theorem rp{B:Bt}{p k:Nat}{x z:Str}(hp:B[p]?=some (some x)):(xD B p)[k]?=some (some z)↔(k=0/\z=x)\/∃j,k=j+1/\j+1<B.length/\B[j]?=some (some z):=by
 unfold xD
 rw[hp]
 cases k with
 |zero=>
  constructor
  ·intro h;exact .inl ⟨rfl,by injection h with h;injection h with h;exact h.symm⟩
  ·rintro(⟨_,rfl⟩|⟨j,e,_⟩)
   ·rfl
   ·cases e
 |succ j=>
  rw[List.getElem?_cons_succ,List.getElem?_dropLast]
  constructor
  ·intro h
   by_cases c:j<B.length-1
   ·rw[if_pos c] at h
    exact .inr ⟨j,rfl,by lia,h⟩
   ·rw[if_neg c] at h;cases h
  ·rintro(⟨e,_⟩|⟨j',e,hj,h⟩)
   ·cases e
   ·cases e
    rw[if_pos (by lia)];exact h
theorem Io{B:Bt}{ss:List Str}{p:Nat}{x:Str}(hp:B[p]?=some (some x))(hx:x∈ss):b5 (xD B p) ss=iD (b5 B ss) x:=by
 have ne:B≠[]:=λz=>by rw[z] at hp;simp at hp
 have ne':b5 B ss≠[]:=λz=>ne (aS.mp (by rw[<-eP B ss,z];rfl))
 refine An (by rw[eP,BO ne,iq,eP]) λi z=>?_
 rw[d4,rp hp,e7 ne',eP]
 constructor
 ·rintro⟨h1|⟨j,rfl,hj,h1⟩,h2,h3⟩
  ·exact .inl h1
  ·refine .inr ⟨j,rfl,hj,d4.mpr ⟨h1,λi hi e=>h2 (i+1) (by lia) ((rp hp).mpr (.inr ⟨i,rfl,by lia,e⟩)),h3⟩,λe=>h2 0 (by lia) ((rp hp).mpr (.inl ⟨rfl,e⟩))⟩
 ·rintro(⟨rfl,rfl⟩|⟨j,rfl,hj,h1,n⟩)
  ·exact⟨.inl ⟨rfl,rfl⟩,λj hj=>absurd hj (dy _),hx⟩
  ·obtain⟨a,b,c⟩:=d4.mp h1
   refine⟨.inr ⟨j,rfl,hj,a⟩,λi hi e=>?_,c⟩
   rcases(rp hp).mp e with⟨_,e⟩|⟨i',rfl,_,e⟩
   ·exact n e
   ·exact b i' (by lia) e
theorem ql{B:Bt}{ss:List Str}{t:Option Str}(h:∀z∈ss,some z∈B):b5 (B++[t]) ss=b5 B ss++[none]:=by
 unfold b5
 rw[dU]
 show cC ss _ t=_
 unfold cC
 rw[if_neg]
 rintro⟨h1,h2⟩
 obtain⟨z,hz,rfl⟩:=aE.mp h1
 exact h2 (px hz (h z hz))
theorem tw{B:Bt}{ss:List Str}:b5 (B++[none]) ss=b5 B ss++[none]:=by
 unfold b5
 rw[dU]
 show cC ss _ none=_
 unfold cC
 rw[if_neg]
 rintro⟨h1,_⟩
 obtain⟨z,hz,e⟩:=aE.mp h1
 cases e
theorem tu{B:Bt}{ss:List Str}{z:Str}(h:some z∈b5 B ss):some z∈B:=by
 obtain⟨i,hi,e⟩:=aT.mp h
 exact aG (d4.mp (by rw[aa hi,e])).1
theorem p6{c:Bt}(o:Option Str)(y:Str)(ne:c≠[]):∃t,iD (c++[o]) y=iD c y++[t]/\(∀l,c[c.length-1]?=some l->t=Bg.blank y l):=by
 obtain⟨d,l,rfl⟩:∃d l,c=d++[l]:=⟨c.dropLast,c.getLast ne,(cI ne).symm⟩
 refine⟨Bg.blank y l,?_,λl' h=>?_⟩
 ·unfold iD mT
  simp[List.take_append,cW]
 ·rw[ai,aI,cx,ao (au _),a9] at h
  rw[show l=l' from Option.some.inj h]
theorem JF{b:Bt}{i:Nat}(hi:i∈k9 b){z:Str}(hz:some z∈b):some z∈j8 b i:=by
 obtain⟨x,hx⟩:=jS hi
 have ne:b≠[]:=λe=>by rw[e] at hz;cases hz
 rw[lD hx]
 obtain⟨k,hk,e⟩:=aT.mp hz
 have ek:b[k]?=some (some z):=by rw[aa hk,e]
 by_cases c:z=x
 ·exact aG ((e7 (k:=0) ne).mpr (.inl ⟨rfl,c⟩))
 ·refine aG ((e7 (k:=k+1) ne).mpr (.inr ⟨k,rfl,?_,ek,c⟩))
  apply Classical.byContradiction
  intro nk
  have kl:k=b.length-1:=by lia
  rw[kl] at ek
  rw[oX ek] at hi
  rw[ak.mp hi,ek] at hx
  exact c (Option.some.inj (Option.some.inj hx))
theorem K5{b:Bt}{i:Nat}(hi:i∈k9 b)(u:Uq b):Uq (j8 b i):=by
 obtain⟨x,hx⟩:=jS hi
 have ne:b≠[]:=λe=>by rw[e] at hx;simp at hx
 rw[lD hx]
 intro j k z h1 h2
 rcases(e7 ne).mp h1 with⟨rfl,e⟩|⟨j,rfl,_,h1,n1⟩
 ·rcases(e7 ne).mp h2 with⟨rfl,e⟩|⟨k,rfl,_,h2,n2⟩
  ·rfl
  ·exact absurd e n2
 ·rcases(e7 ne).mp h2 with⟨rfl,e⟩|⟨k,rfl,_,h2,n2⟩
  ·exact absurd e n1
  ·rw[u j k z h1 h2]
theorem G6{b:Bt}{i:Nat}(hi:i∈k9 b):i∈k9 (b++[none])/\j8 (b++[none]) i=j8 b i++[none]:=by
 obtain⟨x,hx⟩:=jS hi
 have il:i<b.length:=(ae.mp hx).1
 have ne:b≠[]:=λe=>by rw[e] at hx;simp at hx
 have e:(b++[none])[i]?=some (some x):=by rw[ar il];exact hx
 refine⟨?_,?_⟩
 ·rw[yV (by rw[ai,aI,cx,ao (au _),a9];rfl)]
  refine bb.mpr ⟨gb.mpr (by rw[ai];lia),?_⟩
  rw[e];rfl
 ·rw[lD e,lD hx]
  obtain⟨t,e1,e2⟩:=p6 none x ne
  rw[e1]
  have el:b[b.length-1]?=some (b[b.length-1]'(by lia)):=aa _
  generalize b[b.length-1]'(by lia)=l at el
  rw[e2 l el]
  cases l with
  |none=>rfl
  |some y=>
   rw[oX el] at hi
   rw[ak.mp hi,el] at hx
   have:y=x:=Option.some.inj (Option.some.inj hx)
   rw[this]
   unfold Bg.blank
   rw[if_pos rfl]
theorem uh:∀(m:Nat) (l1 l2:Bt) (o:Option Str),l2.length=m->(∀q∈l2,q.isSome=true)->Uq (l1++o::l2)->∃ps,dO (l1++o::l2) ps/\fY (l1++o::l2) ps=l2++l1++[o]
 |0,l1,l2,o,hm,_,_=>by
  have:l2=[]:=aS.mp hm
  subst this
  exact⟨[],trivial,by simp[fY]⟩
 |m+1,l1,l2,o,hm,hs,u=>by
  have ne:l2≠[]:=λz=>by rw[z] at hm;cases hm
  obtain⟨d,q,rfl⟩:∃d q,l2=d++[q]:=⟨l2.dropLast,l2.getLast ne,(cI ne).symm⟩
  obtain⟨y,rfl⟩:∃y,q=some y:=c8.mp (hs q (by simp))
  have e:l1++o::(d++[some y])=(l1++o::d)++[some y]:=by simp
  rw[e] at u ⊢
  obtain⟨r1,r2⟩:=rot u
  have u2:=u.rot
  obtain⟨ps,h1,h2⟩:=uh m (some y::l1) d o (by rw[ai] at hm;simpa using hm) (λq hq=>hs q (by simp[hq])) u2
  refine⟨(l1++o::d).length::ps,⟨by rw[r1];exact ak.mpr rfl,by rw[r2];exact h1⟩,?_⟩
  show fY (j8 _ _) ps=_
  rw[r2]
  have h2:fY (some y::(l1++o::d)) ps=d++(some y::l1)++[o]:=h2
  rw[h2];simp
structure uy(n:Nat)(ws:List Wk)(pss:List (List Str)):Prop where
 len:∀ss∈pss,ss.length<=n
 mid:∀(k:Nat) w y ss,ws[k]?=some w->w.out=some y->pss[k+1]?=some ss->(ss.filter λz=>!decide (some y=some z)).length+1<=n
theorem uy.more{n:Nat}{ws:List Wk}{pss:List (List Str)}(h:uy n ws pss):uy (n+1) ws pss:=⟨λss hs=>by have:=h.len ss hs;lia,λk w y ss a b c=>by have:=h.mid k w y ss a b c;lia⟩
theorem yh{n:Nat}{ws:List Wk}{pss:List (List Str)}(pl:pss.length=ws.length+1):∀(f k:Nat),f+k=ws.length+1->(uz (n:Nat) ws pss f k=none↔(∀(j:Nat) ss,k<=j->pss[j]?=some ss->ss.length<=n)/\∀(j:Nat) w y ss,k<=j->ws[j]?=some w->w.out=some y->pss[j+1]?=some ss->(ss.filter λz=>!decide (some y=some z)).length+1<=n)
 |0,k,h=>by
  refine⟨λ_=>⟨λj ss hj e=>?_,λj w y ss hj e=>?_⟩,λ_=>rfl⟩
  ·have:=(ae.mp e).1;lia
  ·have:=(ae.mp e).1;lia
 |f+1,k,h=>by
  have ih:=yh (n:=n) (ws:=ws) (pss:=pss) pl f (k+1) (by lia)
  have ek:pss[k]?=some (pss[k]'(by lia)):=aa _
  generalize pss[k]'(by lia)=s0 at ek
  have gk:pss.getD k []=s0:=by rw[bu,ek];rfl
  unfold uz
  rw[gk]
  by_cases c:(n:Int)<(s0.length:Int)
  ·rw[if_pos c]
   refine⟨(λz=>by cases z),λz=>?_⟩
   have:=z.1 k s0 (au _) ek
   lia
  ·rw[if_neg c]
   have fst:∀(P:Nat->List Str->Prop),(∀(j:Nat) ss,k+1<=j->pss[j]?=some ss->ss.length<=n)->∀(j:Nat) ss,k<=j->pss[j]?=some ss->ss.length<=n:=λ_ hh j ss hj e=>by
    by_cases q:j=k
    ·subst q;rw[ek] at e;cases e;lia
    ·exact hh j ss (by lia) e
   cases hw:(ws[k]?).bind (·.out) with
   |none=>
    rw[ih]
    refine⟨λz=>⟨fst (λ_ _=>True) z.1,λj w y ss hj a b d=>?_⟩,λz=>⟨λj ss hj e=>z.1 j ss (by lia) e,λj w y ss hj a b d=>z.2 j w y ss (by lia) a b d⟩⟩
    by_cases q:j=k
    ·subst q;rw[a] at hw;have hw:w.out=none:=hw;rw[b] at hw;cases hw
    ·exact z.2 j w y ss (by lia) a b d
   |some y=>
    obtain⟨w,ew,eo⟩:=Option.bind_eq_some_iff.mp hw
    have kl:k<ws.length:=(ae.mp ew).1
    have e1:pss[k+1]?=some (pss[k+1]'(by lia)):=aa _
    generalize pss[k+1]'(by lia)=s1 at e1
    have g1:pss.getD (k+1) []=s1:=by rw[bu,e1];rfl
    dsimp only
    rw[g1]
    by_cases c2:(n:Int)-1<(((s1.filter λz=>!decide (some y=some z)).length:Nat):Int)
    ·rw[if_pos c2]
     refine⟨(λz=>by cases z),λz=>?_⟩
     have:=z.2 k w y s1 (au _) ew eo e1
     lia
    ·rw[if_neg c2,ih]
     refine⟨λz=>⟨fst (λ_ _=>True) z.1,λj w' y' ss hj a b d=>?_⟩,λz=>⟨λj ss hj e=>z.1 j ss (by lia) e,λj w y ss hj a b d=>z.2 j w y ss (by lia) a b d⟩⟩
     by_cases q:j=k
     ·subst q
      rw[ew] at a;cases a;rw[eo] at b;cases b;rw[e1] at d;cases d;lia
     ·exact z.2 j w' y' ss (by lia) a b d
theorem oO{n:Nat}{ws:List Wk}{pss:List (List Str)}(pl:pss.length=ws.length+1):uz (n:Nat) ws pss (ws.length+1) 0=none↔uy n ws pss:=by
 rw[yh pl (ws.length+1) 0 rfl]
 constructor
 ·rintro⟨a,b⟩
  refine⟨λss hs=>?_,λk w y ss=>b k w y ss (bt _)⟩
  obtain⟨k,hk⟩:=List.mem_iff_getElem?.mp hs
  exact a k ss (bt _) hk
 ·intro h
  exact⟨λj ss _ e=>h.len ss (aG e),λj w y ss _=>h.mid j w y ss⟩
theorem kZ.ins{last:List Str}{ws:List Wk}{pss:List (List Str)}(h:kZ last ws pss){k:Nat}{w:Wk}{ss:List Str}(hw:ws[k]?=some w)(hs:pss[k]?=some ss):∀z∈w.ins,z∈ss:=λz hz=>by
 have kl:=(ae.mp hw).1
 rw[(h.at_ k ss hs).mem,bM kl,(ae.mp hw).2]
 show(decide (z∈w.ins) || _)=true
 rw[decide_eq_true hz];rfl
theorem kZ.thru{last:List Str}{ws:List Wk}{pss:List (List Str)}(h:kZ last ws pss){k:Nat}{w:Wk}{ss ss':List Str}(hw:ws[k]?=some w)(hs:pss[k]?=some ss)(hs':pss[k+1]?=some ss'):∀z∈ss',w.out≠some z->z∈ss:=λz hz ho=>by
 have kl:=(ae.mp hw).1
 rw[(h.at_ k ss hs).mem,bM kl,(ae.mp hw).2]
 show(decide (z∈w.ins) || (!decide (w.out=some z)&&wn last (ws.drop (k+1)) z))=true
 rw[decide_eq_false ho,(((h.at_ (k+1) ss' hs').mem z).mp hz)]
 simp
theorem kZ.fin{last:List Str}{ws:List Wk}{pss:List (List Str)}(h:kZ last ws pss){ss:List Str}(hs:pss[ws.length]?=some ss)(z:Str):z∈ss↔z∈last:=by
 rw[(h.at_ _ ss hs).mem,fi]
 show decide (z∈last)=true↔_
 exact decide_eq_true_iff
structure xG(n:Nat)(ss:List Str)(b:Bt):Prop where
 inn:mr n ss b
 uq:Uq b
 has:∀z∈ss,some z∈b
theorem xG.kt{n:Nat}{ss:List Str}{b:Bt}(h:xG n ss b){i:Nat}(hi:i∈k9 b):xG n ss (j8 b i):=⟨h.inn.kt hi,K5 hi h.uq,λz hz=>JF hi (h.has z hz)⟩
theorem xG.run{n:Nat}{ss:List Str}:∀{ps:List Nat} {b:Bt},xG n ss b->dO b ps->xG n ss (fY b ps)
 |[],b,h,_=>h
 |p::r,b,h,ok=>xG.run (ps:=r) (h.kt ok.1) ok.2
theorem ly.ful{n:Nat}{ss:List Str}{ebs ks:List Bt}(t:ly n ss ebs ks)(h:∀b∈ebs,xG n ss b):∀b∈ks,xG n ss b:=t.ind (xG n ss) h λb hb c hc=>by
 obtain⟨i,hi,rfl⟩:=aE.mp hc
 exact hb.kt hi
theorem zc{n:Nat}{ss:List Str}{B:Bt}(l:B.length=n)(h:∀z∈ss,some z∈B):xG n ss (b5 B ss):=by
 refine⟨⟨by rw[eP];exact l,λx hx=>?_⟩,Ip B ss,λz hz=>px hz (h z hz)⟩
 obtain⟨i,hi,e⟩:=aT.mp hx
 exact(d4.mp (by rw[aa hi,e])).2.2
theorem rn{b:Bt}{ss:List Str}:oa b ss=true↔∀z∈ss,some z∈b:=by
 unfold oa
 rw[dH]
 exact⟨λh z hz=>of_decide_eq_true (h z hz),λh z hz=>decide_eq_true (h z hz)⟩
theorem Iz{n:Nat}{ss:List Str}{b:Bt}{x:Option Str}(l:b.length=n)(h:oa (jg b x ss) ss=true):xG n ss (jg b x ss):=by
 have h:=rn.mp h
 unfold jg at h ⊢
 refine zc ?_ λz hz=>tu (h z hz)
 cases x with
 |none=>exact l
 |some y=>rw[iq];exact l
theorem Cm.ful{n:Nat}{b0:Bt}{ws:List Wk}{pss:List (List Str)}{kss:List (List Bt)}(cm:Cm n b0 ws pss kss)(pl:pss.length=ws.length+1)(l0:b0.length=n)(h0:∀ss,pss[0]?=some ss->∀z∈ss,some z∈b0):∀(k:Nat) ks ss,kss[k]?=some ks->pss[k]?=some ss->∀b∈ks,xG n ss b
 |0,ks,ss,hk,hs=>(cm.fst ks ss hk hs).ful λb hb=>by
  rw[ak.mp hb]
  exact zc l0 (h0 ss hs)
 |k+1,ks,ss,hk,hs=>by
  have kl:=(ae.mp hk).1
  have cl:=cm.len
  have h1:kss[k]?=some (kss[k]'(by lia)):=aa _
  have h2:ws[k]?=some (ws[k]'(by lia)):=aa _
  have h3:pss[k]?=some (pss[k]'(by lia)):=aa _
  refine(cm.nxt k _ ks _ ss h1 hk h2 hs).ful λb hb=>?_
  obtain⟨hb1,hb2⟩:=bb.mp hb
  obtain⟨c,hc,rfl⟩:=aE.mp hb1
  exact Iz (Cm.ful cm pl l0 h0 k _ _ h1 h3 c hc).inn.len hb2
theorem xG.ready{n:Nat}{ss ss':List Str}{b:Bt}{x:Option Str}(f:xG n ss b)(pos:1<=n)(thru:∀z∈ss',x≠some z->z∈ss)(room:∀y,x=some y->(ss'.filter λz=>!decide (some y=some z)).length+1<=n):∃ps,dO b ps/\oa (jg (fY b ps) x ss') ss'=true:=by
 cases x with
 |none=>exact⟨[],trivial,rn.mpr λz hz=>px hz (f.has z (thru z hz (λe=>by cases e)))⟩
 |some y=>
  have room:=room y rfl
  generalize hrs:ss'.filter (λz=>!decide (some y=some z))=rs at room
  have rsm:∀z,z∈rs↔z∈ss'/\z≠y:=λz=>by
   rw[<-hrs,bb]
   constructor
   ·rintro⟨a,c⟩;exact⟨a,λe=>by rw[e] at c;simp at c⟩
   ·rintro⟨a,c⟩;exact⟨a,by simp;exact λe=>c e.symm⟩
  have split:∀(m:Nat),m<=b.length->(∃l1 o l2,b=l1++o::l2/\(∀q∈l2,∃z,q=some z/\z∈rs)/\∀z,o=some z->z∉rs)\/∃l1 l2,b=l1++l2/\l2.length=m/\∀q∈l2,∃z,q=some z/\z∈rs:=by
   intro m
   induction m with
   |zero=>exact λ_=>.inr ⟨b,[],by simp,rfl,λq hq=>by cases hq⟩
   |succ m ih=>
    intro hm
    rcases ih (by lia) with h|⟨l1,l2,e,hl,hq⟩
    ·exact .inl h
    ·have ne:l1≠[]:=λz=>by rw[e,z] at hm;simp at hm;lia
     obtain⟨d,o,rfl⟩:∃d o,l1=d++[o]:=⟨l1.dropLast,l1.getLast ne,(cI ne).symm⟩
     by_cases c:∃z,o=some z/\z∈rs
     ·refine .inr ⟨d,o::l2,by rw[e];simp,by rw[bD,hl],λq hq'=>?_⟩
      rcases aN.mp hq' with rfl|hq'
      ·exact c
      ·exact hq q hq'
     ·exact .inl ⟨d,o,l2,by rw[e];simp,hq,λz e2 hz=>c ⟨z,e2,hz⟩⟩
  rcases split b.length (au _) with⟨l1,o,l2,e,hq,ho⟩|⟨l1,l2,e,hl,hq⟩
  ·have uq:=f.uq
   rw[e] at uq
   obtain⟨ps,h1,h2⟩:=uh _ l1 l2 o rfl (λq hq'=>by obtain⟨z,rfl,_⟩:=hq q hq';rfl) uq
   rw[<-e] at h1 h2
   refine⟨ps,h1,rn.mpr λz hz=>px hz ?_⟩
   rw[h2]
   dsimp only
   have ne:l2++l1++[o]≠[]:=by simp
   by_cases c:z=y
   ·exact aG ((e7 (k:=0) ne).mpr (.inl ⟨rfl,c⟩))
   ·have hb:=f.has z (thru z hz λe=>c (Option.some.inj e).symm)
    rw[e] at hb
    have:some z∈l2++l1:=by
     rcases aA.mp hb with h|h
     ·exact aA.mpr (.inr h)
     ·rcases aN.mp h with h|h
      ·exact absurd ((rsm z).mpr ⟨hz,c⟩) (ho z h.symm)
      ·exact aA.mpr (.inl h)
    obtain⟨j,hj,ej⟩:=aT.mp this
    refine aG ((e7 (k:=j+1) ne).mpr (.inr ⟨j,rfl,by rw[ai,aI];lia,?_,c⟩))
    rw[ar hj,aa hj,ej]
  ·-- each place would hold another name that is wanted behind
   exfalso
   have:l1=[]:=aS.mp (by have:=congrArg jh e;rw[ai,hl] at this;lia)
   subst this
   have e:b=l2:=e
   subst e
   have nd:(b.map λq=>q.getD "").Nodup:=by
    refine fA.mpr λi j hi hj hij=>?_
    rw[af] at hi hj
    rw[List.getElem_map,List.getElem_map]
    obtain⟨z1,e1,_⟩:=hq b[i] (bY _)
    obtain⟨z2,e2,_⟩:=hq b[j] (bY _)
    rw[e1,e2]
    intro z
    have z:z1=z2:=z
    have:=f.uq i j z1 (by rw[aa hi,e1]) (by rw[aa hj,e2,z])
    lia
   have:=j9 (zs:=rs) nd λz hz=>by
    obtain⟨q,hq',rfl⟩:=aE.mp hz
    obtain⟨z,rfl,hz2⟩:=hq q hq'
    exact hz2
   rw[af,f.inn.len] at this
   lia
theorem Cm.cl{n:Nat}{b0:Bt}{ws:List Wk}{pss:List (List Str)}{kss:List (List Bt)}(cm:Cm n b0 ws pss kss)(pl:pss.length=ws.length+1):∀(k:Nat) ks,kss[k]?=some ks->∀b∈ks,∀c∈kts b,c∈ks:=λk ks hk=>by
 have kl:=(ae.mp hk).1
 have cl:=cm.len
 cases k with
 |zero=>
  have h3:pss[0]?=some (pss[0]'(by lia)):=aa _
  exact(cm.fst ks _ hk h3).cl
 |succ k=>
  have h1:kss[k]?=some (kss[k]'(by lia)):=aa _
  have h2:ws[k]?=some (ws[k]'(by lia)):=aa _
  have h3:pss[k+1]?=some (pss[k+1]'(by lia)):=aa _
  exact(cm.nxt k _ ks _ _ h1 hk h2 h3).cl
theorem pZ.all{n:Nat}{b0:Bt}{ws:List Wk}{last:List Str}{pss:List (List Str)}{kss:List (List Bt)}{ts:List (List (Bt×Nat))}(tb:pZ n b0 ws pss (aV n none) kss ts)(pts:kZ last ws pss)(wd:uy n ws pss)(pos:1<=n)(l0:b0.length=n)(h0:∀ss,pss[0]?=some ss->∀z∈ss,some z∈b0):∀(f k:Nat),f+k=ws.length->∀ks t,kss[k]?=some ks->ts[k]?=some t->∀b∈ks,∃m,(b,m)∈t
 |0,k,hf,ks,t,hk,ht=>λb hb=>by
  have:k=ws.length:=by lia
  subst this
  obtain⟨t0,sp,st⟩:=tb.fin ks t hk ht
  have pl:=pts.len
  have h3:pss[ws.length]?=some (pss[ws.length]'(by lia)):=aa _
  have fu:=tb.cm.ful pl l0 h0 _ ks _ hk h3 b hb
  obtain⟨m,_,hm⟩:=sp.s1 b 0 ((st b 0).mpr ⟨hb,by rw[<-fu.inn.len];exact ui b,rfl⟩)
  exact⟨m,hm⟩
 |f+1,k,hf,ks,t,hk,ht=>λb hb=>by
  have pl:=pts.len
  have kl:=tb.cm.len
  have tl:=tb.len
  have h1:kss[k+1]?=some (kss[k+1]'(by lia)):=aa _
  have h2:ws[k]?=some (ws[k]'(by lia)):=aa _
  have h3:pss[k]?=some (pss[k]'(by lia)):=aa _
  have h4:pss[k+1]?=some (pss[k+1]'(by lia)):=aa _
  have h5:ts[k+1]?=some (ts[k+1]'(by lia)):=aa _
  generalize kss[k+1]'(by lia)=ks' at h1
  generalize ws[k]'(by lia)=w at h2
  generalize pss[k]'(by lia)=ss at h3
  generalize pss[k+1]'(by lia)=ss' at h4
  generalize ts[k+1]'(by lia)=t' at h5
  have fu:=tb.cm.ful pl l0 h0 _ ks _ hk h3 b hb
  obtain⟨ps,ok,hh⟩:=fu.ready (x:=w.out) (ss':=ss') pos (pts.thru h2 h3 h4) λy ey=>wd.mid k w y ss' h2 ey h4
  obtain⟨t0,sp,st⟩:=tb.mid k ks t t' w ss' hk ht h5 h2 h4
  have cl:=tb.cm.cl pl k ks hk
  have rin:∀{ps:List Nat} {b:Bt},b∈ks->dO b ps->fY b ps∈ks:=λ{ps}=>by
   induction ps with
   |nil=>exact λh _=>h
   |cons p r ih=>exact λ{b} h ok=>ih (b:=j8 b p) (cl b h _ (aE.mpr ⟨p,ok.1,rfl⟩)) ok.2
  have hr:=rin hb ok
  have hw:jg (fY b ps) w.out ss'∈ks':=(tb.cm.nxt k ks ks' w ss' hk h1 h2 h4).ent _ (bb.mpr ⟨aE.mpr ⟨_,hr,rfl⟩,hh⟩)
  obtain⟨m,hm⟩:=pZ.all tb pts wd pos l0 h0 f (k+1) (by lia) ks' t' h1 h5 _ hw
  obtain⟨m',_,hm'⟩:=sp.start cl hb ok ((st _ _).mpr ⟨hr,hm⟩)
  exact⟨m',hm'⟩
def JI(B:Bt):List Nat->Prop
 |[]=>True
 |p::r=>(∃x,B[p]?=some (some x))/\JI (xD B p) r
def e8(B:Bt)(ps:List Nat):Bt:=ps.foldl xD B
def zT(B:Bt):Option Str->Bt
 |none=>B
 |some y=>iD B y
def rb(B:Bt)(ws:List Wk)(gs:List (List Nat)):Nat->Bt
 |0=>B
 |k+1=>zT (e8 (rb B ws gs k) ((gs[k]?).getD [])) ((ws[k]?).bind (·.out))
structure rR(B:Bt)(ws:List Wk)(last:List Str)(gs:List (List Nat)):Prop where
 len:gs.length=ws.length+1
 ok:∀(k:Nat) ps,gs[k]?=some ps->JI (rb B ws gs k) ps
 ins:∀(k:Nat) ps w,gs[k]?=some ps->ws[k]?=some w->∀z∈w.ins,some z∈e8 (rb B ws gs k) ps
 fin:∀ps,gs[ws.length]?=some ps->∀z∈last,some z∈e8 (rb B ws gs ws.length) ps
theorem sW{n:Nat}{ss:List Str}:∀{ps:List Nat} {B:Bt},xG n ss (b5 B ss)->dO (b5 B ss) ps->JI B ps/\b5 (e8 B ps) ss=fY (b5 B ss) ps
 |[],B,_,_=>⟨trivial,rfl⟩
 |p::r,B,f,ok=>by
  obtain⟨x,hx⟩:=jS ok.1
  obtain⟨h1,_,h3⟩:=d4.mp hx
  have e:b5 (xD B p) ss=j8 (b5 B ss) p:=by rw[Io h1 h3,lD hx]
  obtain⟨a,b⟩:=sW (ps:=r) (B:=xD B p) (by rw[e];exact f.kt ok.1) (by rw[e];exact ok.2)
  refine⟨⟨⟨x,h1⟩,a⟩,?_⟩
  show b5 (e8 (xD B p) r) ss=fY (j8 (b5 B ss) p) r
  rw[b,e]
theorem Ef{B:Bt}{ss ss':List Str}{x:Option Str}(ne:B≠[])(thru:∀z∈ss',x≠some z->z∈ss):b5 (zT B x) ss'=jg (b5 B ss) x ss':=by
 cases x with
 |none=>exact(Dp λz hz=>thru z hz λe=>by cases e).symm
 |some y=>exact(tq ne λz hz nz=>thru z hz λe=>nz (Option.some.inj e).symm).symm
theorem lK{ps:List Nat}:∀{B:Bt},B≠[]->(e8 B ps).length=B.length:=by
 induction ps with
 |nil=>exact λ_=>rfl
 |cons p r ih=>exact λ{B} ne=>(ih (B:=xD B p) (by unfold xD;simp)).trans (BO ne p)
theorem GP(B:Bt)(x:Option Str):(zT B x).length=B.length:=by
 cases x with
 |none=>rfl
 |some y=>exact iq B y
theorem xf{B:Bt}{ws:List Wk}{gs:List (List Nat)}(ne:B≠[]):∀k,(rb B ws gs k).length=B.length
 |0=>rfl
 |k+1=>by
  have ih:=xf (ws:=ws) (gs:=gs) ne k
  have ne':rb B ws gs k≠[]:=λz=>by rw[z] at ih;exact ne (aS.mp ih.symm)
  show(zT (e8 _ _) _).length=_
  rw[GP,lK ne',ih]
structure mz(n:Nat)(b0:Bt)(ws:List Wk)(pss:List (List Str))(kss:List (List Bt))(gs:List (List Nat))(bs:List Bt):Prop where
 fol:LG ws pss kss (aV n none) (b5 b0 (pss.getD 0 [])) gs bs
 ful:∀(k:Nat) c ss,bs[k]?=some c->pss[k]?=some ss->xG n ss c
theorem mz.seen{n:Nat}{b0:Bt}{ws:List Wk}{last:List Str}{pss:List (List Str)}{kss:List (List Bt)}{gs:List (List Nat)}{bs:List Bt}(h:mz n b0 ws pss kss gs bs)(pts:kZ last ws pss)(ne:b0≠[]):∀(k:Nat) c ss,bs[k]?=some c->pss[k]?=some ss->b5 (rb b0 ws gs k) ss=c
 |0,c,ss,hc,hs=>by
  rw[h.fol.fst] at hc
  cases hc
  show b5 b0 ss=_
  rw[bu,hs];rfl
 |k+1,c,ss',hc,hs'=>by
  have l2:=h.fol.ln2
  have l1:=h.fol.len
  have pl:=pts.len
  have kl:=(ae.mp hc).1
  have h1:bs[k]?=some (bs[k]'(by lia)):=aa _
  have h2:ws[k]?=some (ws[k]'(by lia)):=aa _
  have h3:pss[k]?=some (pss[k]'(by lia)):=aa _
  have h4:gs[k]?=some (gs[k]'(by lia)):=aa _
  generalize bs[k]'(by lia)=d at h1
  generalize ws[k]'(by lia)=w at h2
  generalize pss[k]'(by lia)=ss at h3
  generalize gs[k]'(by lia)=ps at h4
  have ih:=mz.seen h pts ne k d ss h1 h3
  have fu:=h.ful k d ss h1 h3
  have ok:=h.fol.ok k ps d h4 h1
  rw[<-ih] at fu ok
  obtain⟨_,e⟩:=sW fu ok
  have rl:=xf (ws:=ws) (gs:=gs) ne k
  have ne':rb b0 ws gs k≠[]:=λz=>by rw[z] at rl;exact ne (aS.mp rl.symm)
  have ne2:e8 (rb b0 ws gs k) ps≠[]:=λz=>by have:=lK (ps:=ps) ne';rw[z] at this;exact ne' (aS.mp this.symm)
  rw[h.fol.nxt k ps d c w ss' h4 h1 hc h2 hs']
  show b5 (zT (e8 _ ((gs[k]?).getD [])) ((ws[k]?).bind (·.out))) ss'=_
  rw[h4,h2]
  show b5 (zT (e8 _ ps) w.out) ss'=_
  rw[Ef ne2 (pts.thru h2 h3 hs'),e,ih]
theorem mz.run{n:Nat}{b0:Bt}{ws:List Wk}{last:List Str}{pss:List (List Str)}{kss:List (List Bt)}{gs:List (List Nat)}{bs:List Bt}(h:mz n b0 ws pss kss gs bs)(pts:kZ last ws pss)(ne:b0≠[]){k:Nat}{ps:List Nat}(hp:gs[k]?=some ps):JI (rb b0 ws gs k) ps/\∀ss,pss[k]?=some ss->∀z∈ss,some z∈e8 (rb b0 ws gs k) ps:=by
 have l2:=h.fol.ln2
 have l1:=h.fol.len
 have pl:=pts.len
 have kl:=(ae.mp hp).1
 have h1:bs[k]?=some (bs[k]'(by lia)):=aa _
 have h3:pss[k]?=some (pss[k]'(by lia)):=aa _
 generalize bs[k]'(by lia)=d at h1
 generalize pss[k]'(by lia)=ss at h3
 have ih:=h.seen pts ne k d ss h1 h3
 have fu:=h.ful k d ss h1 h3
 have ok:=h.fol.ok k ps d hp h1
 rw[<-ih] at fu ok
 obtain⟨a,e⟩:=sW fu ok
 refine⟨a,λss' hs z hz=>?_⟩
 rw[h3] at hs;cases hs
 have:=(fu.run ok).has z hz
 rw[<-e] at this
 exact tu this
theorem mz.done{n:Nat}{b0:Bt}{ws:List Wk}{last:List Str}{pss:List (List Str)}{kss:List (List Bt)}{gs:List (List Nat)}{bs:List Bt}(h:mz n b0 ws pss kss gs bs)(pts:kZ last ws pss)(ne:b0≠[]):rR b0 ws last gs:=by
 have l1:=h.fol.len
 have pl:=pts.len
 refine⟨l1,λk ps hp=>(h.run pts ne hp).1,λk ps w hp hw z hz=>?_,λps hp z hz=>?_⟩
 ·have kl:=(ae.mp hw).1
  have h3:pss[k]?=some (pss[k]'(by lia)):=aa _
  exact(h.run pts ne hp).2 _ h3 z (pts.ins hw h3 z hz)
 ·have h3:pss[ws.length]?=some (pss[ws.length]'(by lia)):=aa _
  exact(h.run pts ne hp).2 _ h3 z ((pts.fin h3 z).mpr hz)
theorem EV{B:Bt}{t:Option Str}{p:Nat}{x:Str}(h:B[p]?=some (some x)):∃t',xD (B++[t]) p=xD B p++[t']:=by
 have pl:=(ae.mp h).1
 have ne:B≠[]:=λz=>by rw[z] at h;simp at h
 obtain⟨d,l,rfl⟩:∃d l,B=d++[l]:=⟨B.dropLast,B.getLast ne,(cI ne).symm⟩
 refine⟨l,?_⟩
 unfold xD
 rw[ar pl,h]
 simp
theorem lL:∀{ps:List Nat} {B:Bt} {t:Option Str},JI B ps->JI (B++[t]) ps/\∃t',e8 (B++[t]) ps=e8 B ps++[t']
 |[],B,t,_=>⟨trivial,t,rfl⟩
 |p::r,B,t,ok=>by
  obtain⟨x,hx⟩:=ok.1
  obtain⟨t1,e1⟩:=EV (t:=t) hx
  obtain⟨a,t2,e2⟩:=lL (ps:=r) (t:=t1) ok.2
  rw[<-e1] at a e2
  exact⟨⟨⟨x,by rw[ar (ae.mp hx).1];exact hx⟩,a⟩,t2,e2⟩
theorem Eg{B:Bt}{t:Option Str}(ne:B≠[])(x:Option Str):∃t',zT (B++[t]) x=zT B x++[t']:=by
 cases x with
 |none=>exact⟨t,rfl⟩
 |some y=>obtain⟨t',e,_⟩:=p6 t y ne;exact⟨t',e⟩
theorem rR.more{B:Bt}{ws:List Wk}{last:List Str}{gs:List (List Nat)}(d:rR B ws last gs)(ne:B≠[])(t:Option Str):rR (B++[t]) ws last gs:=by
 have key:∀k,k<=ws.length->∃t',rb (B++[t]) ws gs k=rb B ws gs k++[t']:=by
  intro k
  induction k with
  |zero=>exact λ_=>⟨t,rfl⟩
  |succ k ih=>
   intro hk
   obtain⟨t1,e1⟩:=ih (by lia)
   have l1:=d.len
   have h4:gs[k]?=some (gs[k]'(by lia)):=aa _
   generalize gs[k]'(by lia)=ps at h4
   obtain⟨_,t2,e2⟩:=lL (t:=t1) (d.ok k ps h4)
   have rl:=xf (ws:=ws) (gs:=gs) ne k
   have ne':rb B ws gs k≠[]:=λz=>by rw[z] at rl;exact ne (aS.mp rl.symm)
   have ne2:e8 (rb B ws gs k) ps≠[]:=λz=>by have:=lK (ps:=ps) ne';rw[z] at this;exact ne' (aS.mp this.symm)
   obtain⟨t3,e3⟩:=Eg (t:=t2) ne2 ((ws[k]?).bind (·.out))
   refine⟨t3,?_⟩
   show zT (e8 _ ((gs[k]?).getD [])) _=zT (e8 _ ((gs[k]?).getD [])) _++_
   rw[h4,e1]
   show zT (e8 _ ps) _=zT (e8 _ ps) _++_
   rw[e2,e3]
 have l1:=d.len
 refine⟨l1,λk ps hp=>?_,λk ps w hp hw z hz=>?_,λps hp z hz=>?_⟩
 ·have kl:=(ae.mp hp).1
  obtain⟨t1,e1⟩:=key k (by lia)
  rw[e1]
  exact(lL (d.ok k ps hp)).1
 ·have kl:=(ae.mp hp).1
  obtain⟨t1,e1⟩:=key k (by lia)
  obtain⟨_,t2,e2⟩:=lL (t:=t1) (d.ok k ps hp)
  rw[e1,e2]
  exact aA.mpr (.inl (d.ins k ps w hp hw z hz))
 ·obtain⟨t1,e1⟩:=key ws.length (au _)
  obtain⟨_,t2,e2⟩:=lL (t:=t1) (d.ok _ ps hp)
  rw[e1,e2]
  exact aA.mpr (.inl (d.fin ps hp z hz))
theorem oA:∀{ps:List Nat} {b:Bt},dO b ps->dO (b++[none]) ps/\fY (b++[none]) ps=fY b ps++[none]
 |[],b,_=>⟨trivial,rfl⟩
 |p::r,b,ok=>by
  obtain⟨h1,h2⟩:=G6 ok.1
  obtain⟨a,e⟩:=oA (ps:=r) ok.2
  refine⟨⟨h1,by rw[h2];exact a⟩,?_⟩
  show fY (j8 (b++[none]) p) r=_
  rw[h2];exact e
theorem Gj{c:Bt}{x:Option Str}{ss:List Str}(ne:c≠[])(h:∀z∈ss,some z∈jg c x ss):jg (c++[none]) x ss=jg c x ss++[none]:=by
 unfold jg at h ⊢
 cases x with
 |none=>exact tw
 |some y=>
  obtain⟨t,e,_⟩:=p6 none y ne
  dsimp only at h ⊢
  rw[e]
  exact ql λz hz=>tu (h z hz)
theorem pA{ks:List Bt}(cl:∀b∈ks,∀c∈kts b,c∈ks):∀{ps:List Nat} {b:Bt},b∈ks->dO b ps->fY b ps∈ks
 |[],b,h,_=>h
 |p::r,b,h,ok=>pA cl (ps:=r) (cl b h _ (aE.mpr ⟨p,ok.1,rfl⟩)) ok.2
theorem mz.step{n:Nat}{b0:Bt}{ws:List Wk}{last:List Str}{pss:List (List Str)}{kss:List (List Bt)}{gs:List (List Nat)}{bs:List Bt}(h:mz n b0 ws pss kss gs bs)(pts:kZ last ws pss)(pos:1<=n){k:Nat}{c c':Bt}{ps:List Nat}{w:Wk}{ss':List Str}(hc:bs[k]?=some c)(hc':bs[k+1]?=some c')(hp:gs[k]?=some ps)(hw:ws[k]?=some w)(hs':pss[k+1]?=some ss'):dO (c++[none]) ps/\fY (c++[none]) ps=fY c ps++[none]/\jg (fY (c++[none]) ps) w.out ss'=c'++[none]/\oa (c'++[none]) ss'=true:=by
 have pl:=pts.len
 have kl:=(ae.mp hw).1
 have h3:pss[k]?=some (pss[k]'(by lia)):=aa _
 generalize pss[k]'(by lia)=ss at h3
 have ok:=h.fol.ok k ps c hp hc
 have fu:=(h.ful k c ss hc h3).run ok
 have ne:fY c ps≠[]:=λz=>by have:=fu.inn.len;rw[z] at this;have:(0:Nat)=n:=this;lia
 obtain⟨a,e⟩:=oA ok
 have ec:=h.fol.nxt k ps c c' w ss' hp hc hc' hw hs'
 have fu':=h.ful (k+1) c' ss' hc' hs'
 refine⟨a,e,?_,rn.mpr λz hz=>aA.mpr (.inl (fu'.has z hz))⟩
 rw[e,ec]
 refine Gj ne ?_
 rw[<-ec]
 exact fu'.has
theorem mz.into{n:Nat}{b0:Bt}{t:Option Str}{ws:List Wk}{last:List Str}{pss:List (List Str)}{kss kss':List (List Bt)}{gs:List (List Nat)}{bs:List Bt}(h:mz n b0 ws pss kss gs bs)(cm:Cm (n+1) (b0++[t]) ws pss kss')(pts:kZ last ws pss)(pos:1<=n)(h0:∀ss,pss[0]?=some ss->∀z∈ss,some z∈b0):∀(k:Nat) c ks,bs[k]?=some c->kss'[k]?=some ks->c++[none]∈ks
 |0,c,ks,hc,hk=>by
  have pl:=pts.len
  have h3:pss[0]?=some (pss[0]'(by lia)):=aa _
  generalize pss[0]'(by lia)=ss at h3
  rw[h.fol.fst] at hc
  cases hc
  rw[bu,h3]
  refine(cm.fst ks ss hk h3).ent _ (ak.mpr ?_)
  exact(ql (h0 ss h3)).symm
 |k+1,c',ks',hc',hk'=>by
  have l2:=h.fol.ln2
  have l1:=h.fol.len
  have pl:=pts.len
  have kl:=(ae.mp hc').1
  have cl:=cm.len
  have h1:bs[k]?=some (bs[k]'(by lia)):=aa _
  have h2:ws[k]?=some (ws[k]'(by lia)):=aa _
  have h3:pss[k+1]?=some (pss[k+1]'(by lia)):=aa _
  have h4:gs[k]?=some (gs[k]'(by lia)):=aa _
  have h5:kss'[k]?=some (kss'[k]'(by lia)):=aa _
  have ih:=mz.into h cm pts pos h0 k _ _ h1 h5
  obtain⟨a,e,ew,hb⟩:=h.step pts pos h1 hc' h4 h2 h3
  rw[<-ew] at hb ⊢
  exact(cm.nxt k _ ks' _ _ h5 hk' h2 h3).ent _ (bb.mpr ⟨aE.mpr ⟨_,pA (cm.cl pl k _ h5) ih a,rfl⟩,hb⟩)
theorem mz.most{n:Nat}{b0:Bt}{t:Option Str}{ws:List Wk}{last:List Str}{pss:List (List Str)}{kss kss':List (List Bt)}{ts:List (List (Bt×Nat))}{gs:List (List Nat)}{bs:List Bt}(h:mz n b0 ws pss kss gs bs)(tb:pZ (n+1) (b0++[t]) ws pss (aV (n+1) none) kss' ts)(pts:kZ last ws pss)(pos:1<=n)(h0:∀ss,pss[0]?=some ss->∀z∈ss,some z∈b0):∀(f k:Nat),f+k=ws.length->∀c tk,bs[k]?=some c->ts[k]?=some tk->∃m,m<=((gs.drop k).map (·.length)).sum/\(c++[none],m)∈tk
 |0,k,hf,c,tk,hc,ht=>by
  have:k=ws.length:=by lia
  subst this
  have l1:=h.fol.len
  have pl:=pts.len
  have cl:=tb.cm.len
  have h3:pss[ws.length]?=some (pss[ws.length]'(by lia)):=aa _
  have h4:gs[ws.length]?=some (gs[ws.length]'(by lia)):=aa _
  have h5:kss'[ws.length]?=some (kss'[ws.length]'(by lia)):=aa _
  have ed:gs.drop ws.length=[gs[ws.length]'(by lia)]:=by rw[bM (by lia),f6 (by lia)]
  rw[ed]
  generalize pss[ws.length]'(by lia)=ss at h3
  generalize gs[ws.length]'(by lia)=ps at h4
  generalize kss'[ws.length]'(by lia)=ks at h5
  have ih:=h.into tb.cm pts pos h0 _ _ _ hc h5
  obtain⟨t0,sp,st⟩:=tb.fin ks tk h5 ht
  have ok:=h.fol.ok _ ps c h4 hc
  have fu:=(h.ful _ c ss hc h3).run ok
  obtain⟨a,e⟩:=oA ok
  have cl2:=tb.cm.cl pl _ ks h5
  obtain⟨m,lm,hm⟩:=sp.start cl2 ih a (m:=0) ((st _ _).mpr ⟨pA cl2 ih a,by
   rw[e]
   have:(fY c ps++[none]).length=n+1:=by rw[ai,fu.inn.len];rfl
   rw[<-this];exact ui _,rfl⟩)
  exact⟨m,by show m<=ps.length+0;lia,hm⟩
 |f+1,k,hf,c,tk,hc,ht=>by
  have l2:=h.fol.ln2
  have l1:=h.fol.len
  have pl:=pts.len
  have cl:=tb.cm.len
  have tl:=tb.len
  have h1:bs[k+1]?=some (bs[k+1]'(by lia)):=aa _
  have h2:ws[k]?=some (ws[k]'(by lia)):=aa _
  have h3:pss[k+1]?=some (pss[k+1]'(by lia)):=aa _
  have h4:gs[k]?=some (gs[k]'(by lia)):=aa _
  have h5:kss'[k]?=some (kss'[k]'(by lia)):=aa _
  have h6:ts[k+1]?=some (ts[k+1]'(by lia)):=aa _
  have ed:gs.drop k=gs[k]'(by lia)::gs.drop (k+1):=bM (by lia)
  rw[ed]
  obtain⟨m1,l3,hm1⟩:=mz.most h tb pts pos h0 f (k+1) (by lia) _ _ h1 h6
  have ih:=h.into tb.cm pts pos h0 _ _ _ hc h5
  obtain⟨a,e,ew,hb⟩:=h.step pts pos hc h1 h4 h2 h3
  obtain⟨t0,sp,st⟩:=tb.mid k _ tk _ _ _ h5 ht h6 h2 h3
  have cl2:=tb.cm.cl pl _ _ h5
  obtain⟨m,lm,hm⟩:=sp.start cl2 ih a (m:=m1) ((st _ _).mpr ⟨pA cl2 ih a,by rw[ew];exact hm1⟩)
  refine⟨m,?_,hm⟩
  rw[bJ,mI]
  lia
theorem eK{α:Type}{xs:List α}{i:Nat}{y:α}(h:xs[i]?=some y):xs.take (i+1)=xs.take i++[y]:=by rw[gd,h];rfl
theorem yA{ps:List Nat}{i:Nat}{v:V}(h:(ps.map λi=>V.int (i:Nat))[i]?=some v):∃p:Nat,ps[i]?=some p/\v=.int (p:Nat):=by
 rw[aH] at h
 cases e:ps[i]? with
 |none=>rw[e] at h;cases h
 |some p=>rw[e] at h;exact⟨p,rfl,(Option.some.inj h).symm⟩
theorem uN{K:Fg}{vs:List V}{H:Hp}{Q:VK}{E:XK}(h:fb K vs H Q E):nJ K {nx:=λ_ H'=>Q .non H',rt:=Q} (start jG vs) H:=by
 obtain⟨_,p,b,t,m,rfl,⟨D,rfl,hD⟩,nd,hp,ne,l5,hb,all,⟨c0,hc0,hm0⟩,q⟩:=h
 have hD:H D=some (.dT (cS t)):=hD
 refine .inl ⟨_,rfl,p,b,rfl,hp,ne,l5,λl H1 nl hl s1=>⟨l,rfl,⟨_,cq.of hl⟩,λC nC=>?_⟩⟩
 refine jQ (xs:=(k9 b).map λi=>V.int (i:Nat)) (λi σ' H'=>∃o,σ'=[some (.ref D),some (.ref p),o]/\H' C=some (.lst ((((k9 b).take i).filter λj=>decide ((j8 b j,m)∈t)).map λj=>V.int (j:Nat)))/\aM H1 H') ?_ ?_ ?_ ?_
 ·exact⟨none,rfl,aj,(aM.refl H1).new nC⟩
 ·rintro i σ' H' _ ⟨_,_,_,s⟩;exact cq.of (s _ _ hl)
 ·rintro i v σ' H2 hv ⟨o,rfl,hC,s⟩
  obtain⟨j,hj,rfl⟩:=yA hv
  have jm:=aG hj
  have il:i<(k9 b).length:=(ae.mp hj).1
  have pf:=BV b
  show jI C _ _ _ [some (.ref D),some (.ref p),some (.int (j:Nat))] H2
  have s2:=s1.trans s
  obtain⟨k,hk⟩:=all (j8 b j) (aE.mpr ⟨j,jm,rfl⟩)
  refine⟨_,rfl,_,rfl,_,rfl,p,b,j,rfl,s2 _ _ hp,l5,jm,λr H3 hr s3=>⟨D,_,rfl,mO (s3 _ _ (s2 _ _ hD)) hr (fg nd hk),_,rfl,_,rfl,D,_,rfl,mO (s3 _ _ (s2 _ _ hD)) (s3 _ _ (s2 _ _ hp)) (fg nd hb),_,_,rfl,rfl,.inl ⟨rfl,_,rfl,?_⟩⟩⟩
  rw[eK hj,eG,cO,List.filter_nil]
  refine di (λc=>?_) λc=>?_
  ·have km:k=m:=by
    injection c with c
    lia
   subst km
   rw[if_pos (decide_eq_true hk)]
   refine⟨_,rfl,_,s3 _ _ hC,bH ?_,_,rfl,?_,dE (s.trans s3) nC⟩
   ·rw[af]
    have:=bq (λj=>decide ((j8 b j,k)∈t)) ((k9 b).take i)
    rw[aR] at this
    lia
   ·rw[aj,aC];rfl
  ·have km:(j8 b j,m)∉t:=λz=>c (by rw[rF nd hk z];congr 1;lia)
   rw[if_neg (by rw[decide_eq_false km];decide),eL]
   exact⟨_,rfl,s3 _ _ hC,s.trans s3⟩
 ·rintro σ' H2 ⟨o,_,hC,s⟩
  rw[af,bf] at hC
  obtain⟨j0,hj0,rfl⟩:=aE.mp hc0
  have hin:j0∈(k9 b).filter λj=>decide ((j8 b j,m)∈t):=bb.mpr ⟨hj0,decide_eq_true hm0⟩
  have sub:∀j∈(k9 b).filter (λj=>decide ((j8 b j,m)∈t)),j∈k9 b/\(j8 b j,m)∈t:=λj hj=>by
   obtain⟨h1,h2⟩:=bb.mp hj
   exact⟨h1,of_decide_eq_true h2⟩
  generalize (k9 b).filter (λj=>decide ((j8 b j,m)∈t))=fs at hC hin sub
  cases fs with
  |nil=>cases hin
  |cons j r=>
   have:=sub j bg
   exact mP (v:=.int (j:Nat)) (cq.of hC) (by decide) rfl (q j H2 this.1 this.2 (s1.trans s))
theorem bj.appF{α:Type}{R:V->α->Prop}{vs ws:List V}{rs qs:List α}(h:bj R vs rs)(h':bj R ws qs):bj R (vs++ws) (rs++qs):=by
 refine⟨by rw[ai,ai,h.len,h'.len],λi v r e e'=>?_⟩
 by_cases c:i<vs.length
 ·rw[ar c] at e
  rw[ar (by rw[<-h.len];exact c)] at e'
  exact h.at_ i v r e e'
 ·rw[ao (by lia)] at e
  rw[ao (by rw[<-h.len];lia),<-h.len] at e'
  exact h'.at_ _ v r e e'
theorem bj.lastF{α:Type}{R:V->α->Prop}{vs:List V}{rs:List α}{r:α}(h:bj R vs (rs++[r])):∃vs' v,vs=vs'++[v]/\bj R vs' rs/\R v r:=by
 have hl:vs.length=rs.length+1:=by rw[h.len,ai];rfl
 rcases gC vs with z|⟨vs',v,z⟩
 ·rw[z] at hl;cases hl
 ·rw[gB] at z
  subst z
  have hl':vs'.length=rs.length:=by rw[ai] at hl;simpa using hl
  refine⟨vs',v,rfl,⟨hl',λi u q e e'=>?_⟩,?_⟩
  ·have c:i<vs'.length:=(ae.mp e).1
   exact h.at_ i u q (by rw[ar c];exact e) (by rw[ar (by lia)];exact e')
  ·exact h.at_ rs.length v r (by rw[<-hl',ao (au _),a9];rfl) (by rw[ao (au _),a9];rfl)
theorem ig.mono{H H':Hp}{v:V}{b:Bt}(h:ig H v b)(t:Tp H H'):ig H' v b:=by
 obtain⟨p,e,h⟩:=h
 exact⟨p,e,t _ _ h⟩
theorem EW{K:Fg}{s0 s1 s2:Option V}{pb:Addr}{b:Bt}{H:Hp}{Q:VK}(hp:H pb=some (.tup (cL b)))(ne:b≠[])(l5:b.length<=5)
  (q:∀(C:Addr) (us:List V) (H':Hp),H C=none->H' C=some (.lst us)->bj (ig H') us (kts b)->aM H H'->Q (.ref C) H') :
  d5 [] 1 (je K (br (dC K) [] E0 (aq (av 3) aO))) (aQ 4) jN (br (fV K) [] E0 (aq (av 3) (aq (av 4) aO))) [s0,s1,s2,some (.ref pb)] H Q:=by
 refine .inl ⟨_,rfl,pb,b,rfl,hp,ne,l5,λl H1 nl hl s1'=>⟨l,rfl,⟨_,cq.of hl⟩,λC nC=>?_⟩⟩
 refine jQ (xs:=(k9 b).map λi=>V.int (i:Nat)) (λi σ' H'=>∃o us,σ'=[s0,s1,s2,some (.ref pb),o]/\H' C=some (.lst us)/\bj (ig H') us (((k9 b).take i).map (j8 b))/\aM H1 H') ?_ ?_ ?_ ?_
 ·exact⟨none,[],rfl,aj,bj.nil,(aM.refl H1).new nC⟩
 ·rintro i σ' H' _ ⟨_,_,_,_,_,s⟩;exact cq.of (s _ _ hl)
 ·rintro i v σ' H2 hv ⟨o,us,rfl,hC,hA,s⟩
  obtain⟨j,hj,rfl⟩:=yA hv
  have il:i<(k9 b).length:=(ae.mp hj).1
  have pf:=BV b
  have ul:us.length<=i:=by rw[hA.len,af,aR];lia
  refine fm ⟨_,rfl,_,rfl,pb,b,j,rfl,s _ _ (s1' _ _ hp),l5,aG hj,λr H3 hr s3=>⟨us,s3 _ _ hC,bH (by lia),_,us++[.ref r],rfl,aj,?_,dE (s.trans s3) nC⟩⟩
  have t4:Tp H3 (aP H3 C (.lst (us++[.ref r]))):=(Tp.refl H3).lst (s3 _ _ hC)
  rw[eK hj,aC]
  exact(hA.imp λ_ _ z=>z.mono ((Tp.of_same s3).trans t4)).snoc ⟨r,rfl,t4 _ _ hr⟩
 ·rintro σ' H2 ⟨o,us,_,hC,hA,s⟩
  rw[af,bf] at hA
  exact q C us H2 (s1'.free nC) hC hA (s1'.trans s)
structure LS(n:Nat)(ss:List Str)(ebs ks wbs:List Bt):Prop where
 nd:ks.Nodup
 inn:∀b∈ks,mr n ss b
 inw:∀b∈wbs,mr n ss b
 ent:∀b∈ebs,b∈ks\/b∈wbs
 cl:∀b∈ks,∀c∈kts b,c∈ks\/c∈wbs
 ind:∀P:Bt->Prop,(∀b∈ebs,P b)->(∀b,P b->∀c∈kts b,P c)->(∀b∈ks,P b)/\∀b∈wbs,P b
structure DP(H:Hp)(L D:Addr)(kvs:List (List cf×V))(ks:List Bt):Prop where
 at_:H D=some (.dT kvs)
 keys:kvs.map (·.1)=ks.map cB
 val:∀(i:Nat) k u b,kvs[i]?=some (k,u)->ks[i]?=some b->∃l us,u=.ref l/\l≠L/\H l=some (.lst us)/\bj (ig H) us (kts b)
theorem yf{kvs:List (List cf×V)}{ks:List Bt}(h:kvs.map (·.1)=ks.map cB)(b:Bt):(de kvs (cB b)).isSome=decide (b∈ks):=by
 rw[Bool.eq_iff_iff,decide_eq_true_eq]
 constructor
 ·intro e
  obtain⟨v,e⟩:=c8.mp e
  have:=Cv e
  rw[h] at this
  obtain⟨c,hc,e⟩:=aE.mp this
  rw[<-oR e];exact hc
 ·intro hb
  cases e:de kvs (cB b) with
  |some v=>rfl
  |none=>
   have:=Gg e
   rw[h] at this
   exact absurd (aE.mpr ⟨b,hb,rfl⟩) this
theorem A3{K:Fg}{vs:List V}{H:Hp}{Q:VK}{E:XK}(h:jy K vs H Q E):tY K {nx:=λ_ H'=>Q .non H',rt:=Q} (start nS vs) H:=by
 obtain⟨e,us0,ebs,n,ss,rfl,he,hA0,dim,inn,few,q⟩:=h
 intro D nD
 show pS K _ [some (.ref e),some (.ref D),none,none] (aP H D (.dT []))
 have s1:aM H (aP H D (.dT [])):=(aM.refl H).new nD
 refine⟨_,rfl,e,us0,rfl,.inl (cq.of (s1 _ _ he)),λL nL=>?_⟩
 have s2:=s1.new (o:=.lst us0) nL
 have nLH:H L=none:=s1.free nL
 have nDL:D≠L:=aJ aj nL
 have hD2:aP (aP H D (.dT [])) L (.lst us0) D=some (.dT []):=by rw[az nDL,aj]
 have hL2:aP (aP H D (.dT [])) L (.lst us0) L=some (.lst us0):=aj
 show pR K _ [some (.ref e),some (.ref D),some (.ref L),none] _
 generalize aP (aP H D (.dT [])) L (.lst us0)=H2 at s2 hD2 hL2 ⊢
 refine⟨λm σ' H'=>∃o ks wbs kvs us,σ'=[some (.ref e),some (.ref D),some (.ref L),o]/\LS n ss ebs ks wbs/\DP H' L D kvs ks/\H' L=some (.lst us)/\bj (ig H') us wbs/\aM H H'/\(7776-ks.length)*6+wbs.length=m/\m<=60000,
  ⟨_,none,[],ebs,[],us0,rfl,⟨dh,(λb h=>by cases h),inn,λb h=>.inr h,(λb h=>by cases h),λP h1 _=>⟨(λb h=>by cases h),h1⟩⟩,⟨hD2,rfl,λi k u b h=>by simp at h⟩,hL2,hA0.imp λ_ _ z=>z.mono (.of_same s2),s2,rfl,by show(7776-0)*6+_<=_;lia⟩,?_⟩
 rintro m σ' H3 ⟨o,ks,wbs,kvs,us,rfl,tr,cb,hL,hA,s3,hm,hmb⟩
 have kfew:=vf dim tr.nd tr.inn
 refine⟨_,rfl,_,_,rfl,.inl ⟨_,cq.of hL,rfl⟩,_,_,rfl,rfl,_,rfl,di (λhl=>?_) (λhl=>?_)⟩
 ·have hl':0<wbs.length:=by rw[<-hA.len];lia
  obtain⟨W0,b,rfl⟩:∃W0 b,wbs=W0++[b]:=by
   rcases gC wbs with z|⟨W0,b,z⟩
   ·rw[z] at hl';cases hl'
   ·exact⟨W0,b,by rw[z,gB]⟩
  obtain⟨us',v,rfl,hA',⟨pb,rfl,hpb⟩⟩:=hA.lastF
  have bin:=tr.inw b (aX _ (ak.mpr rfl))
  have bne:b≠[]:=λz=>by have:=bin.len;rw[z] at this;have:=dim.pos;simp at *;lia
  have bl5:b.length<=5:=by rw[bin.len];exact dim.n5
  rw[ai,aI] at hm
  have wl:us'.length=W0.length:=hA'.len
  refine⟨λσ' H'=>∃m',m'<m/\∃o ks wbs kvs us,σ'=[some (.ref e),some (.ref D),some (.ref L),o]/\LS n ss ebs ks wbs/\DP H' L D kvs ks/\H' L=some (.lst us)/\bj (ig H') us wbs/\aM H H'/\(7776-ks.length)*6+wbs.length=m'/\m'<=60000,λ_ _ z=>z,?_⟩
  refine⟨_,rfl,.inl ⟨rfl,_,cq.of hL⟩,L,_,.ref pb,rfl,rfl,hL,(by rw[ai,aI,cx,ao (au _),a9];rfl),?_⟩
  rw[List.dropLast_concat]
  have t4:Tp H3 (aP H3 L (.lst us')):=(Tp.refl H3).lst hL
  have s4:aM H (aP H3 L (.lst us')):=dE s3 nLH
  have hpb4:=t4 _ _ hpb
  have hL4:aP H3 L (.lst us') L=some (.lst us'):=aj
  have cb4:DP (aP H3 L (.lst us')) L D kvs ks:=⟨by rw[az nDL];exact cb.at_,cb.keys,λi k u b h1 h2=>by
   obtain⟨l,vs,e1,e2,e3,e4⟩:=cb.val i k u b h1 h2
   exact⟨l,vs,e1,e2,by rw[az e2];exact e3,e4.imp λ_ _ z=>z.mono t4⟩⟩
  have hA4:=hA'.imp λ_ _ z=>ig.mono z t4
  show pQ K _ [some (.ref e),some (.ref D),some (.ref L),some (.ref pb)] (aP H3 L (.lst us'))
  generalize aP H3 L (.lst us')=H4 at s4 hpb4 hL4 cb4 hA4 ⊢
  refine⟨_,rfl,_,rfl,D,_,rfl,mO cb4.at_ hpb4 rfl,_,rfl,?_⟩
  rw[show(if true=true then !(de kvs (cB b)).isSome else(de kvs (cB b)).isSome)=!decide (b∈ks) from by rw[<-yf cb4.keys];rfl]
  refine og (λhb=>?_) (λhb=>?_)
  ·have vnone:de kvs (cB b)=none:=by
    cases ev:de kvs (cB b) with
    |none=>rfl
    |some v=>have:=yf cb4.keys b;rw[ev,decide_eq_false hb] at this;cases this
   have kl:kvs.length=ks.length:=by have:=congrArg jh cb4.keys;rwa [af,af] at this
   unfold bB bU
   refine EW hpb4 bne bl5 λC cus H5 nC hC hCA s5=>?_
   have nCL:C≠L:=(aJ hL4 nC).symm
   have nCD:C≠D:=(aJ cb4.at_ nC).symm
   refine⟨_,rfl,_,rfl,D,_,rfl,zV.t (s5 _ _ cb4.at_) (by rw[eD];exact s5 _ _ hpb4) (bH (by lia)),?_⟩
   rw[oY _ vnone]
   have t6:Tp H5 (aP H5 D (.dT (kvs++[(cB b,V.ref C)]))):=λc xs hc=>by
    rw[az (λz=>by rw[z,s5 _ _ cb4.at_] at hc;cases hc)];exact hc
   have hD6:aP H5 D (.dT (kvs++[(cB b,V.ref C)])) D=some (.dT (kvs++[(cB b,V.ref C)])):=aj
   have hL6:aP H5 D (.dT (kvs++[(cB b,V.ref C)])) L=some (.lst us'):=by rw[az (Ne.symm nDL)];exact s5 _ _ hL4
   have hC6:aP H5 D (.dT (kvs++[(cB b,V.ref C)])) C=some (.lst cus):=by rw[az nCD];exact hC
   have s6:aM H (aP H5 D (.dT (kvs++[(cB b,V.ref C)]))):=dE (s4.trans s5) nD
   have other:∀l vs,l≠L->H4 l=some (.lst vs)->aP H5 D (.dT (kvs++[(cB b,V.ref C)])) l=some (.lst vs):=λl vs _ hl=>by
    rw[az (λz=>by rw[z,cb4.at_] at hl;cases hl)];exact s5 _ _ hl
   have T46:Tp H4 (aP H5 D (.dT (kvs++[(cB b,V.ref C)]))):=(Tp.of_same s5).trans t6
   have hpb6:=T46 _ _ hpb4
   have hCA6:=hCA.imp λ_ _ z=>ig.mono z t6
   have hA6:=hA4.imp λ_ _ z=>ig.mono z T46
   show pP K _ [some (.ref e),some (.ref D),some (.ref L),some (.ref pb)] (aP H5 D (.dT (kvs++[(cB b,V.ref C)])))
   generalize aP H5 D (.dT (kvs++[(cB b,V.ref C)]))=H6 at hD6 hL6 hC6 s6 other T46 hpb6 hCA6 hA6 ⊢
   have vC:de (kvs++[(cB b,V.ref C)]) (cB b)=some (.ref C):=by rw[vY _ _ _ _ vnone,if_pos rfl]
   have kfb:(kts b).length<=5:=by unfold kts;rw[af];exact a8 (yU bne) bl5
   refine⟨_,rfl,.inl ⟨rfl,_,cq.of hL6⟩,_,rfl,_,rfl,D,_,rfl,mO hD6 hpb6 vC,L,C,_,_,rfl,rfl,hL6,hC6,bR (bH (by rw[hCA6.len];lia)),?_⟩
   have t7:Tp H6 (aP H6 L (.lst (us'++cus))):=(Tp.refl H6).lst hL6
   have nd':(ks++[b]).Nodup:=cV.mpr ⟨tr.nd,by simp,λx hx y hy=>by rw[ak.mp hy];rintro rfl;exact hb hx⟩
   have tr':LS n ss ebs (ks++[b]) (W0++kts b):=by
    refine⟨nd',λc hc=>?_,λc hc=>?_,λc hc=>?_,λc hc d hd=>?_,λP h1 h2=>?_⟩
    ·rcases aA.mp hc with z|z
     ·exact tr.inn c z
     ·rw[ak.mp z];exact bin
    ·rcases aA.mp hc with z|z
     ·exact tr.inw c (bw _ z)
     ·exact bin.kts z
    ·rcases tr.ent c hc with z|z
     ·exact .inl (bw _ z)
     ·rcases aA.mp z with z|z
      ·exact .inr (bw _ z)
      ·exact .inl (aX _ z)
    ·rcases aA.mp hc with z|z
     ·rcases tr.cl c z d hd with y|y
      ·exact .inl (bw _ y)
      ·rcases aA.mp y with y|y
       ·exact .inr (bw _ y)
       ·exact .inl (aX _ y)
     ·rw[ak.mp z] at hd
      exact .inr (aX _ hd)
    ·obtain⟨p1,p2⟩:=tr.ind P h1 h2
     have pb:=p2 b (aX _ (ak.mpr rfl))
     refine⟨λc hc=>?_,λc hc=>?_⟩
     ·rcases aA.mp hc with z|z
      ·exact p1 c z
      ·rw[ak.mp z];exact pb
     ·rcases aA.mp hc with z|z
      ·exact p2 c (bw _ z)
      ·exact h2 b pb c z
   have kf2:=vf dim nd' tr'.inn
   have kl2:(ks++[b]).length=ks.length+1:=by rw[ai];rfl
   have wl2:(W0++kts b).length<=W0.length+5:=by rw[ai];lia
   refine⟨(7776-(ks++[b]).length)*6+(W0++kts b).length,by lia,_,ks++[b],W0++kts b,_,us'++cus,rfl,tr',⟨by rw[az nDL];exact hD6,by rw[aC,aC,cb4.keys];rfl,λi k u c h1 h2=>?_⟩,aj,(hA6.imp λ_ _ z=>ig.mono z t7).appF (hCA6.imp λ_ _ z=>ig.mono z t7),dE s6 nLH,rfl,by lia⟩
   by_cases ci:i<kvs.length
   ·rw[ar ci] at h1
    rw[ar (by lia)] at h2
    obtain⟨l,vs,e1,e2,e3,e4⟩:=cb4.val i k u c h1 h2
    exact⟨l,vs,e1,e2,by rw[az e2];exact other l vs e2 e3,e4.imp λ_ _ z=>ig.mono z (T46.trans t7)⟩
   ·rw[ao (by lia)] at h1
    rw[ao (by lia),<-kl] at h2
    have i0:i-kvs.length=0:=by
     have:=(ae.mp h1).1
     simpa using this
    rw[i0] at h1 h2
    have h1:(cB b,V.ref C)=(k,u):=Option.some.inj h1
    have h2:b=c:=Option.some.inj h2
    cases h1;subst h2
    exact⟨C,cus,rfl,nCL,by rw[az nCL];exact hC6,hCA6.imp λ_ _ z=>ig.mono z t7⟩
  ·refine⟨(7776-ks.length)*6+W0.length,by lia,_,ks,W0,kvs,us',rfl,⟨tr.nd,tr.inn,λc hc=>tr.inw c (bw _ hc),λc hc=>?_,λc hc d hd=>?_,λP h1 h2=>?_⟩,cb4,hL4,hA4,s4,rfl,by lia⟩
   ·rcases tr.ent c hc with z|z
    ·exact .inl z
    ·rcases aA.mp z with z|z
     ·exact .inr z
     ·rw[ak.mp z];exact .inl hb
   ·rcases tr.cl c hc d hd with z|z
    ·exact .inl z
    ·rcases aA.mp z with z|z
     ·exact .inr z
     ·rw[ak.mp z];exact .inl hb
   ·obtain⟨p1,p2⟩:=tr.ind P h1 h2
    exact⟨p1,λc hc=>p2 c (bw _ hc)⟩
 ·have w0:wbs=[]:=by
   have:wbs.length=0:=by rw[<-hA.len];lia
   exact aS.mp this
  subst w0
  show pO K _ [some (.ref e),some (.ref D),some (.ref L),o] H3
  refine⟨_,rfl,q (.ref D) ks H3 ⟨D,kvs,rfl,cb.at_,cb.keys,λi k u b h1 h2=>?_⟩ ⟨tr.nd,kfew,tr.inn,(λb hb=>(tr.ent b hb).elim id λz=>by cases z),(λb hb c hc=>(tr.cl b hb c hc).elim id λz=>by cases z),λP h1 h2=>(tr.ind P h1 h2).1⟩ s3⟩
  obtain⟨l,vs,e1,_,e3,e4⟩:=cb.val i k u b h1 h2
  exact⟨l,vs,e1,e3,e4⟩
theorem vi{d:Addr}{kvs:List (List cf×V)}{ob:Obj}{g:TG}{tb:TS}{D:kU}{σ:St}{H:Hp}(Pv:Nat->St->Hp->Prop)(h0:Pv 0 σ H)(hl:∀i σ H,i<=kvs.length->Pv i σ H->H d=some (.frz ob (.dT kvs)))
  (hs:∀i k v b σ H,kvs[i]?=some (k,v)->H b=some (.tup (k.map kN))->Pv i σ H->g (.ref b) σ H λσ2 H2=>tb {D with nx:=Pv (i+1),ct:=Pv (i+1),bk:=D.nx} σ2 H2) (hd:∀σ H,Pv kvs.length σ H->D.nx σ H) :
  ∃W:Nat->Nat->St->Hp->Prop,(∃m,W 0 m σ H)/\∀i m σ H,W i m σ H->
   ((xI d kvs ob).stop i H/\D.nx σ H)\/((xI d kvs ob).go i H/\∃N:St->Hp->Prop,(∀σ' H',N σ' H'->∃m',m'<m/\W (i+1) m' σ' H')/\∀x H',(xI d kvs ob).yld i H x H'->g x σ H' λσ2 H2=>tb {D with nx:=N,ct:=N,bk:=D.nx} σ2 H2):=by
 refine⟨λi m σ H=>m=kvs.length-i/\i<=kvs.length/\Pv i σ H,⟨kvs.length,by simp,bt _,h0⟩,?_⟩
 rintro i m σ H ⟨rfl,hi,p⟩
 have q:=hl i σ H hi p
 by_cases hlt:i<kvs.length
 ·refine .inr ⟨⟨q,hlt⟩,Pv (i+1),λσ' H' p'=>⟨kvs.length-(i+1),by lia,rfl,hlt,p'⟩,?_⟩
  rintro x H' ⟨rfl,k,v,b,e,rfl,hb⟩
  exact hs i k v b σ H' e hb p
 ·have e:i=kvs.length:=by lia
  subst e
  exact .inl ⟨⟨q,au _⟩,hd σ H p⟩
theorem nX{js:List Nat}{kk:Nat}{d:Addr}{kvs:List (List cf×V)}{ob:Obj}{g:TG}{tc:TT}{te:TE}{R:Hp->Prop}{σ:St}{H:Hp}{D:Addr}(Pv:Nat->St->Hp->Prop)(h0:Pv 0 (vd js kk σ) (aP H D (.lst [])))(hl:∀i σ H,i<=kvs.length->Pv i σ H->H d=some (.frz ob (.dT kvs)))
  (hs:∀i k v b σ H,kvs[i]?=some (k,v)->H b=some (.tup (k.map kN))->Pv i σ H->g (.ref b) σ H λσ2 H2=>jI D tc te {nx:=Pv (i+1),rt:=λ_ _=>False,ct:=Pv (i+1),bk:=λ_ H'=>R H'} σ2 H2) (hd:∀σ H,Pv kvs.length σ H->R H) :
  ∃W:Nat->Nat->St->Hp->Prop,(∃m,W 0 m (vd js kk σ) (aP H D (.lst [])))/\∀i m σ H,W i m σ H->
   ((xI d kvs ob).stop i H/\R H)\/((xI d kvs ob).go i H/\∃N:St->Hp->Prop,(∀σ' H',N σ' H'->∃m',m'<m/\W (i+1) m' σ' H')/\∀x H',(xI d kvs ob).yld i H x H'->g x σ H' λσ2 H2=>jI D tc te {nx:=N,rt:=λ_ _=>False,ct:=N,bk:=λ_ H'=>R H'} σ2 H2):=
 vi (D:={nx:=λ_ H'=>R H',rt:=λ_ _=>False}) Pv h0 hl hs hd
theorem sx{d:Addr}{kvs:List (List cf×V)}{ob:Obj}{g:TG}{tb:TS}{D:kU}{σ:St}{H:Hp}(Pv:Nat->St->Hp->Prop)(h0:Pv 0 σ H)(hl:∀i σ H,i<=kvs.length->Pv i σ H->H d=some (.frz ob (.dT kvs)))
  (hs:∀i k v b p σ H,kvs[i]?=some (k,v)->H b=some (.tup (k.map kN))->H p=none->Pv i σ H->g (.ref p) σ (aP H p (.tup [.ref b,v])) λσ2 H2=>tb {D with nx:=Pv (i+1),ct:=Pv (i+1),bk:=D.nx} σ2 H2) (hd:∀σ H,Pv kvs.length σ H->D.nx σ H) :
  ∃W:Nat->Nat->St->Hp->Prop,(∃m,W 0 m σ H)/\∀i m σ H,W i m σ H->
   ((DQ d kvs ob).stop i H/\D.nx σ H)\/((DQ d kvs ob).go i H/\∃N:St->Hp->Prop,(∀σ' H',N σ' H'->∃m',m'<m/\W (i+1) m' σ' H')/\∀x H',(DQ d kvs ob).yld i H x H'->g x σ H' λσ2 H2=>tb {D with nx:=N,ct:=N,bk:=D.nx} σ2 H2):=by
 refine⟨λi m σ H=>m=kvs.length-i/\i<=kvs.length/\Pv i σ H,⟨kvs.length,by simp,bt _,h0⟩,?_⟩
 rintro i m σ H ⟨rfl,hi,p⟩
 have q:=hl i σ H hi p
 by_cases hlt:i<kvs.length
 ·refine .inr ⟨⟨q,hlt⟩,Pv (i+1),λσ' H' p'=>⟨kvs.length-(i+1),by lia,rfl,hlt,p'⟩,?_⟩
  rintro x H' ⟨pp,k,v,b,np,rfl,rfl,e,hb⟩
  exact hs i k v b pp σ H e hb np p
 ·have e:i=kvs.length:=by lia
  subst e
  exact .inl ⟨⟨q,au _⟩,hd σ H p⟩
theorem jW{H H':Hp}{d:Addr}{kvs:List (List cf×V)}{ob:Obj}(h:H d=some (.dT kvs))(s:aM (aP H d (.frz ob (.dT kvs))) H'):aM H (aP H' d (.dT kvs)):=λb u hb=>by
 by_cases c:b=d
 ·subst c;rw[h] at hb;cases hb;exact aj
 ·rw[az c];exact s b u (by rw[az c];exact hb)
theorem gQ{H H':Hp}{d:Addr}{kvs:List (List cf×V)}{ob:Obj}(s:aM (aP H d (.frz ob (.dT kvs))) H'):H' d=some (.frz ob (.dT kvs)):=s d _ aj
theorem wH{H H':Hp}{d b:Addr}{kvs:List (List cf×V)}{ob:Obj}{u:HO}(s:aM (aP H d (.frz ob (.dT kvs))) H')(hd:H d=some (.dT kvs))(h:H b=some u)(n:∀kvs,u≠.dT kvs):H' b=some u:=s b u (by rw[az (λz=>by rw[z,hd] at h;cases h;exact n _ rfl)];exact h)
theorem LI.same{H H':Hp}{v:V}{bs:List Bt}(h:LI H v bs)(s:aM H H'):LI H' v bs:=by
 obtain⟨l,us,e,hl,hA⟩:=h
 exact⟨l,us,e,s _ _ hl,hA.imp λ_ _ z=>ig.mono z (.of_same s)⟩
theorem i5.same{H H':Hp}{v:V}{ks:List Bt}(h:i5 H v ks)(s:aM H H'):i5 H' v ks:=by
 obtain⟨D,kvs,e,hD,hk,hv⟩:=h
 exact⟨D,kvs,e,s _ _ hD,hk,λi k u b e1 e2=>(hv i k u b e1 e2).same s⟩
theorem i5.but{H:Hp}{v:V}{ks:List Bt}{L D0:Addr}{us xs:List V}{kv0:List (List cf×V)}(h:i5 H v ks)(hL:H L=some (.lst (.ref D0::us)))(h0:H D0=some (.dT kv0)):i5 (aP H L (.lst xs)) v ks:=by
 obtain⟨D,kvs,e,hD,hk,hv⟩:=h
 have t:Tp H (aP H L (.lst xs)):=(Tp.refl H).lst hL
 refine⟨D,kvs,e,by rw[az (λz=>by rw[z,hL] at hD;cases hD)];exact hD,hk,λi k u b e1 e2=>?_⟩
 obtain⟨l,ws,e3,hl,hA⟩:=hv i k u b e1 e2
 refine⟨l,ws,e3,?_,hA.imp λ_ _ z=>ig.mono z t⟩
 rw[az];exact hl
 intro z
 rw[z,hL] at hl;cases hl
 obtain⟨r,_,p,e4,hp⟩:=hA.of_v (i:=0) rfl
 cases e4
 rw[h0] at hp;cases hp
theorem lz{kvs:List (List cf×V)}{ks:List Bt}(h:kvs.map (·.1)=ks.map cB):kvs.length=ks.length:=by
 have:=congrArg jh h;rwa [af,af] at this
theorem jP{kvs:List (List cf×V)}{ks:List Bt}(h:kvs.map (·.1)=ks.map cB){i:Nat}{k:List cf}{v:V}(e:kvs[i]?=some (k,v)):∃b,ks[i]?=some b/\k=cB b:=by
 have h1:(kvs.map (·.1))[i]?=some k:=by rw[aH,e];rfl
 rw[h,aH] at h1
 cases e2:ks[i]? with
 |none=>rw[e2] at h1;cases h1
 |some b=>rw[e2] at h1;exact⟨b,rfl,(Option.some.inj h1).symm⟩
theorem qL(ns:List Str):∀(os acc:List (Option Str)) (x:Str),some x∈os.foldl (cC ns) acc->some x∈acc\/x∈ns
 |[],_,_,h=>.inl h
 |o::r,acc,x,h=>by
  rw[fI] at h
  rcases qL ns r _ x h with h|h
  ·unfold cC at h
   rcases aA.mp h with h|h
   ·exact .inl h
   ·have h:=ak.mp h
    split at h
    ·rename_i c
     rw[<-h] at c
     obtain⟨y,hy,e⟩:=aE.mp c.1
     rw[<-Option.some.inj e];exact .inr hy
    ·cases h
  ·exact .inr h
theorem Ca{n:Nat}{b:Bt}{ss:List Str}(h:b.length=n):mr n ss (b5 b ss):=⟨(eP b ss).trans h,λx hx=>(qL ss b [] x hx).elim (λz=>by cases z) id⟩
theorem IA(b:Bt)(x:Option Str)(ss:List Str):(jg b x ss).length=b.length:=by
 unfold jg
 rw[eP]
 cases x with
 |none=>rfl
 |some y=>exact iq b y
theorem Kw{n:Nat}{b:Bt}{x:Option Str}{ss:List Str}(h:b.length=n):mr n ss (jg b x ss):=by
 unfold jg
 refine Ca ?_
 cases x with
 |none=>exact h
 |some y=>exact(iq b y).trans h
theorem oQ{α:Type}{p:α->Bool}{xs:List α}{i:Nat}{y:α}(h:xs[i]?=some y):(xs.take (i+1)).filter p=(xs.take i).filter p++if p y=true then[y] else[]:=by
 rw[eK h,eG,cO,List.filter_nil]
theorem mF{K:Fg}{vs:List V}{H:Hp}{Q:VK}{E:XK}(h:e9 K vs H Q E):iN K {nx:=λ_ H'=>Q .non H',rt:=Q} (start d9 vs) H:=by
 obtain⟨bp,wp,pt,tvs,n,b0,ws,pss,rfl,src,hpt,hT,pl,dims,q⟩:=h
 obtain⟨wvs,hwp,hW⟩:=src.wks
 obtain⟨_,ss0,e0,e0',np0,rfl,hnp0⟩:=hT.get (i:=0) (by lia)
 have d0:=dims ss0 (aG e0')
 have n5:=d0.n5
 refine⟨_,rfl,_,rfl,mP (cq.of hpt) (by decide) e0 ⟨bp,np0,b0,ss0,rfl,src.bp,hnp0,by rw[src.len];lia,λp1 H1 hp1 s1=>⟨(by show 1<=sizeLine;decide),λe ne=>?_⟩⟩⟩
 have s2:aM H (aP H1 e (.lst [.ref p1])):=s1.new ne
 refine⟨e,[.ref p1],[b5 b0 ss0],n,ss0,rfl,aj,bj.nil.snoc (v:=.ref p1) ⟨p1,rfl,(aM.refl H1).new ne _ _ hp1⟩,d0,(λb hb=>by rw[ak.mp hb];exact Ca src.len),(by show 1<=7776;decide),λv ks0 H3 hC tr0 s3=>⟨(by show 1<=sizeLine;decide),λL nL=>?_⟩⟩
 have s23:=s2.trans s3
 have nLH:H L=none:=s23.free nL
 show gL K _ [some (.ref bp),some (.ref wp),some (.ref pt),some (.ref L),none,none,none,none] _
 refine⟨_,rfl,wp,rfl,⟨_,cE.of (s23.new nL _ _ hwp)⟩,p8 (xs:=wvs) (λi σ' H'=>∃o4 o5 o6 o7 cvs kss,σ'=[some (.ref bp),some (.ref wp),some (.ref pt),some (.ref L),o4,o5,o6,o7]/\H' L=some (.lst cvs)/\bj (i5 H') cvs kss/\kss.length=i+1/\(∀ks ss,kss[0]?=some ks->pss[0]?=some ss->ly n ss [b5 b0 ss] ks)/\(∀(k:Nat) ks ks' w ss,kss[k]?=some ks->kss[k+1]?=some ks'->ws[k]?=some w->pss[k+1]?=some ss->ly n ss ((ks.map λb=>jg b w.out ss).filter λb=>oa b ss) ks')/\(∀ks∈kss,ks.length<=7776/\∀b∈ks,b.length=n)/\aM H H')
  ⟨none,none,none,none,[v],[ks0],rfl,aj,bj.nil.snoc (hC.same ((aM.refl H3).new nL)),rfl,(λks ss h1 h2=>by rw[e0'] at h2;cases h2;cases h1;exact tr0),(λk ks ks' w ss h1 h2=>by simp at h2),(λks hk=>by rw[ak.mp hk];exact⟨tr0.few,λb hb=>(tr0.inn b hb).len⟩),s23.new nL⟩ ?_ ?_ ?_⟩
 ·rintro i σ' H' _ ⟨_,_,_,_,_,_,_,_,_,_,_,_,_,s⟩
  exact cE.of (s _ _ hwp)
 ·rintro i wv σ' H4 t hwv nt ⟨o4,o5,o6,o7,cvs,kss,rfl,hL,hA,kl,f0,fn,kf,s4⟩
  obtain⟨w,hw,hwa⟩:=hW.of_v hwv
  have il:i<ws.length:=(ae.mp hw).1
  have few:=src.few
  obtain⟨_,ss,e1,e1',np,rfl,hnp⟩:=hT.get (i:=i+1) (by lia)
  have dss:=dims ss (aG e1')
  refine⟨t,_,rfl,cE.of aj,rfl,_,_,rfl,_,_,rfl,rfl,?_⟩
  have s5:aM H4 (aP H4 t (.tup [.int (i:Nat),wv])):=(aM.refl H4).new nt
  show gK K _ [some (.ref bp),some (.ref wp),some (.ref pt),some (.ref L),some (.int (i:Nat)),some wv,o6,o7] _
  generalize aP H4 t (.tup [.int (i:Nat),wv])=H5 at s5 ⊢
  have s05:=s4.trans s5
  have hL5:=s5 _ _ hL
  have hA5:=hA.imp λ_ _ z=>i5.same z s5
  refine⟨_,rfl,_,rfl,.inl ⟨_,_,rfl,rfl,mP (v:=.ref np) (cq.of (s05 _ _ hpt)) (by lia) (by rw[show((i:Int)+1).toNat=i+1 by lia];exact e1) ?_⟩⟩
  show gJ K _ [some (.ref bp),some (.ref wp),some (.ref pt),some (.ref L),some (.int (i:Nat)),some wv,some (.ref np),o7] H5
  obtain⟨cv,ks,ec,ek,hcom⟩:=hA5.get (i:=i) (by lia)
  obtain⟨kn,kbl⟩:=kf ks (aG ek)
  obtain⟨Dk,kvs,rfl,hDk,hkeys,hvals⟩:=id hcom
  have kvl:=lz hkeys
  refine⟨_,rfl,_,rfl,mP (v:=.ref Dk) (cq.of hL5) (cw _) (by rw[aZ];exact ec) ⟨Dk,kvs,rfl,hDk,λob C nC=>?_⟩⟩
  have hnp5:=s05 _ _ hnp
  have hwa5:D9 H5 wv w:=hwa.tp (Tp.of_same s05)
  have nCH:H5 C=none:=by
   by_cases z:C=Dk
   ·rw[z,aj] at nC;cases nC
   ·rw[az z] at nC;exact nC
  refine nX (λj σ' H'=>∃o8 us,σ'=[some (.ref bp),some (.ref wp),some (.ref pt),some (.ref L),some (.int (i:Nat)),some wv,some (.ref np),o7,o8]/\H' C=some (.lst us)/\bj (ig H') us ((ks.take j).map λb=>jg b w.out ss)/\aM (aP H5 Dk (.frz ob (.dT kvs))) H') ⟨none,[],rfl,aj,bj.nil,(aM.refl _).new nC⟩ ?_ ?_ ?_
  ·rintro j σ' H' _ ⟨_,_,_,_,_,s⟩;exact gQ s
  ·rintro j k kv pb σ' H6 hk hpb ⟨o8,us,rfl,hC6,hA6,s6⟩
   obtain⟨b,hb,rfl⟩:=jP hkeys hk
   rw[eD] at hpb
   have bl:=kbl b (aG hb)
   have jl:j<ks.length:=(ae.mp hb).1
   have bne:b≠[]:=λz=>by rw[z] at bl;have:=d0.pos;have:(0:Nat)=n:=bl;lia
   have tp6:Tp H5 H6:=λc xs hc=>wH s6 hDk hc λ_ z=>by cases z
   have ul:us.length<=j:=by rw[hA6.len,af,aR];lia
   refine fm ⟨_,rfl,_,rfl,_,rfl,pb,np,wv,b,w,ss,rfl,hpb,hwa5.tp tp6,tp6 _ _ hnp5,bne,by lia,λr H7 hr s7=>⟨us,s7 _ _ hC6,bH (by lia),_,us++[.ref r],rfl,aj,?_,dE (s6.trans s7) nC⟩⟩
   have t8:Tp H7 (aP H7 C (.lst (us++[.ref r]))):=(Tp.refl H7).lst (s7 _ _ hC6)
   rw[eK hb,aC]
   exact(hA6.imp λ_ _ z=>ig.mono z ((Tp.of_same s7).trans t8)).snoc ⟨r,rfl,t8 _ _ hr⟩
  ·rintro σ' H6 ⟨o8,us,_,hC6,hA6,s6⟩
   rw[kvl,bf] at hA6
   refine .inr ⟨Dk,kvs,kvs,ob,hDk,gQ s6,?_⟩
   have s7:=jW hDk s6
   have nCD:C≠Dk:=(aJ hDk nCH).symm
   have t7:Tp H6 (aP H6 Dk (.dT kvs)):=λc xs hc=>by
    rw[az (λz=>by rw[z,gQ s6] at hc;cases hc)];exact hc
   have hC7:aP H6 Dk (.dT kvs) C=some (.lst us):=by rw[az nCD];exact hC6
   have hA7:=hA6.imp λ_ _ z=>ig.mono z t7
   show gH K _ [some (.ref bp),some (.ref wp),some (.ref pt),some (.ref L),some (.int (i:Nat)),some wv,some (.ref np),some (.ref C)] (aP H6 Dk (.dT kvs))
   generalize aP H6 Dk (.dT kvs)=H7 at s7 hC7 hA7 ⊢
   have s07:=s05.trans s7
   have hL7:=s7 _ _ hL5
   have hAc7:=hA5.imp λ_ _ z=>i5.same z s7
   have el:(ks.map λb=>jg b w.out ss).length=ks.length:=af ..
   have elen:∀b∈ks.map (λb=>jg b w.out ss),b.length=n:=λb hb=>by
    obtain⟨c,hc,rfl⟩:=aE.mp hb
    rw[IA];exact kbl c hc
   have ein:∀b∈(ks.map λb=>jg b w.out ss).filter (λb=>oa b ss),mr n ss b:=λb hb=>by
    obtain⟨c,hc,rfl⟩:=aE.mp (bb.mp hb).1
    exact Kw (kbl c hc)
   have efew:((ks.map λb=>jg b w.out ss).filter λb=>oa b ss).length<=7776:=a8 (bq _ _) (by rw[el];exact kn)
   refine⟨_,rfl,.inl ⟨rfl,_,cq.of hL7⟩,.inl ⟨_,rfl,C,rfl,⟨_,cq.of hC7⟩,λF nF=>?_⟩⟩
   refine jQ (xs:=us) (λj σ' H'=>∃o8 fs,σ'=[some (.ref bp),some (.ref wp),some (.ref pt),some (.ref L),some (.int (i:Nat)),some wv,some (.ref np),some (.ref C),o8]/\H' F=some (.lst fs)/\bj (ig H') fs (((ks.map λb=>jg b w.out ss).take j).filter λb=>oa b ss)/\aM H7 H') ⟨none,[],rfl,aj,bj.nil,(aM.refl _).new nF⟩ ?_ ?_ ?_
   ·rintro j σ' H' _ ⟨_,_,_,_,_,s⟩;exact cq.of (s _ _ hC7)
   ·rintro j x σ' H8 hx ⟨o8,fs,rfl,hF,hFA,s8⟩
    obtain⟨b,hb,⟨pb,rfl,hpb⟩⟩:=hA7.of_v hx
    have bm:=aG hb
    have jl:j<ks.length:=by have:=(ae.mp hb).1;lia
    have fl:fs.length<=j:=by
     rw[hFA.len]
     have:=bq (λb=>oa b ss) ((ks.map λb=>jg b w.out ss).take j)
     rw[aR] at this
     lia
    show jI F _ _ _ [some (.ref bp),some (.ref wp),some (.ref pt),some (.ref L),some (.int (i:Nat)),some wv,some (.ref np),some (.ref C),some (.ref pb)] H8
    refine⟨_,rfl,_,rfl,pb,np,b,ss,rfl,s8 _ _ hpb,s8 _ _ (s7 _ _ hnp5),by have:=dss.s5;lia,by rw[elen b bm];exact n5,λH9 s9=>⟨_,rfl,?_⟩⟩
    rw[oQ hb]
    cases hh:oa b ss with
    |true=>
     refine qa ⟨_,rfl,fs,s9 _ _ hF,bH (by lia),_,fs++[.ref pb],rfl,aj,?_,dE (s8.trans s9) nF⟩
     have t10:Tp H9 (aP H9 F (.lst (fs++[.ref pb]))):=(Tp.refl H9).lst (s9 _ _ hF)
     rw[if_pos rfl]
     exact(hFA.imp λ_ _ z=>ig.mono z ((Tp.of_same s9).trans t10)).snoc ⟨pb,rfl,t10 _ _ (s9 _ _ (s8 _ _ hpb))⟩
    |false=>
     refine iE ⟨_,fs,rfl,s9 _ _ hF,?_,s8.trans s9⟩
     rw[if_neg (by decide),eL]
     exact hFA.imp λ_ _ z=>ig.mono z (.of_same s9)
   ·rintro σ' H8 ⟨o8,fs,_,hF,hFA,s8⟩
    rw[hA7.len,bf] at hFA
    refine⟨F,fs,_,n,ss,rfl,hF,hFA,dss,ein,efew,λv' ks' H9 hc9 tr9 s9=>?_⟩
    have s79:=s8.trans s9
    have hL9:=s79 _ _ hL7
    have hA9:=hAc7.imp λ_ _ z=>i5.same z s79
    refine⟨L,cvs,v',rfl,rfl,hL9,bH (by rw[hA9.len];lia),?_⟩
    obtain⟨v0,ksz,ev0,_,hz⟩:=hA9.get (i:=0) (by lia)
    obtain⟨D0,kv0,rfl,hD0,_⟩:=id hz
    obtain⟨r,rfl⟩:∃r,cvs=.ref D0::r:=by
     cases cvs with
     |nil=>cases ev0
     |cons a r=>cases ev0;exact⟨r,rfl⟩
    refine⟨_,_,_,_,_++[v'],kss++[ks'],rfl,aj,(hA9.imp λ_ _ z=>i5.but z hL9 hD0).snoc (hc9.but hL9 hD0),by rw[ai,kl];rfl,λks2 ss2 h1 h2=>?_,λk ks2 ks3 w2 ss2 h1 h2 h3 h4=>?_,λks2 hk=>?_,dE (s07.trans s79) nLH⟩
    ·rw[ar (by lia)] at h1
     exact f0 ks2 ss2 h1 h2
    ·by_cases c:k+1<kss.length
     ·rw[ar (by lia)] at h1
      rw[ar c] at h2
      exact fn k ks2 ks3 w2 ss2 h1 h2 h3 h4
     ·have hk:k=i:=by
       have:=(ae.mp h2).1
       rw[ai,aI] at this
       lia
      subst hk
      rw[ar (by lia),ek] at h1
      rw[ao (by lia),show k+1-kss.length=0 by lia] at h2
      rw[hw] at h3;rw[e1'] at h4
      cases h1;cases h3;cases h4
      have h2:ks'=ks3:=Option.some.inj h2
      rw[<-h2];exact tr9
    ·rcases aA.mp hk with z|z
     ·exact kf ks2 z
     ·rw[ak.mp z];exact⟨tr9.few,λb hb=>(tr9.inn b hb).len⟩
 ·rintro σ' H4 ⟨o4,o5,o6,o7,cvs,kss,rfl,hL,hA,kl,f0,fn,kf,s4⟩
  rw[hW.len] at kl
  exact⟨_,rfl,q L cvs kss H4 hL hA ⟨kl,dims,f0,fn⟩ s4⟩
theorem Gh{kvs:List (List cf×V)}:∀{i:Nat} {k:List cf} {v:V},(kvs.map (·.1)).Nodup->kvs[i]?=some (k,v)->de kvs k=some v:=by
 induction kvs with
 |nil=>intro i k v _ h;simp at h
 |cons p r ih=>
  intro i k v nd h
  rw[bJ,bX] at nd
  cases i with
  |zero=>
   have h:p=(k,v):=by simpa using h
   rw[h];exact gy rfl
  |succ i=>
   have h:r[i]?=some (k,v):=by simpa using h
   have ne:¬p.1=k:=λz=>nd.1 (by rw[z];exact aE.mpr ⟨(k,v),aG h,rfl⟩)
   rw[gx ne];exact ih nd.2 h
theorem wQ{ks:List Bt}(h:ks.Nodup):(ks.map cB).Nodup:=by
 induction ks with
 |nil=>exact dh
 |cons b r ih=>
  rw[bX] at h
  rw[bJ,bX]
  refine⟨λz=>?_,ih h.2⟩
  obtain⟨c,hc,e⟩:=aE.mp z
  rw[oR e] at hc
  exact h.1 hc
theorem qb:∀{more kvs:List (List cf×V)},((kvs++more).map (·.1)).Nodup->kb kvs more=kvs++more
 |[],kvs,_=>by rw[eL];rfl
 |p::r,kvs,h=>by
  have hn:de kvs p.1=none:=by
   cases e:de kvs p.1 with
   |none=>rfl
   |some v=>
    have:=Cv e
    rw[aC,cV] at h
    exact absurd rfl (h.2.2 p.1 this p.1 (by simp))
  show kb (jf kvs p.1 p.2) r=_
  rw[oY _ hn,qb (by rw[eS];exact h),eS]
  rfl
theorem yz{ks:List Bt}{b:Bt}(h:b∈ks):∃i:Nat,ks[i]?=some b:=by
 obtain⟨i,hi,e⟩:=aT.mp h
 exact⟨i,by rw[aa hi,e]⟩
theorem p9{ks:List Bt}(nd:ks.Nodup){i j:Nat}{b:Bt}(h:ks[i]?=some b)(h':ks[j]?=some b):i=j:=by
 exact(du (ae.mp h).1 nd).mp (h.trans h'.symm)
theorem rD{f g:Nat->Nat}{c:Nat}:∀{n:Nat},c<n->(∀d,d≠c->g d=f d)->iw n g+f c=iw n f+g c
 |0,h,_=>absurd h (dy _)
 |n+1,h,e=>by
  have st:∀f:Nat->Nat,iw (n+1) f=iw n f+f n:=λf=>by
   unfold iw;rw[iA,aC,fL];simp
  rw[st,st]
  by_cases cn:c=n
  ·subst cn
   have:iw c g=iw c f:=by
    unfold iw
    congr 1
    exact cZ λd hd=>e d (aL (gb.mp hd))
   lia
  ·have:=rD (n:=n) (by lia) e
   have:=e n (Ne.symm cn)
   lia
theorem FX(n:Nat):iw n (λ_=>0)=0:=by
 unfold iw
 induction n with
 |zero=>rfl
 |succ n ih=>rw[iA,aC,fL,ih];rfl
theorem Cc{g:Nat->Nat}{n c:Nat}(h:c<n):g c<=iw n g:=by
 have:=rD (f:=g) (g:=λd=>if d=c then 0 else g d) h λd hd=>if_neg hd
 rw[if_pos rfl] at this
 lia
structure Gu(H0 H:Hp)(ks:List Bt)(ls:List Addr)(con:Nat->List Bt):Prop where
 len:ls.length=ks.length
 nd:ls.Nodup
 new:∀l∈ls,H0 l=none
 at_:∀(c:Nat) l,ls[c]?=some l->∃us,H l=some (.lst us)/\bj (ig H) us (con c)
theorem Gu.same{H0 H H':Hp}{ks:List Bt}{ls:List Addr}{con:Nat->List Bt}(h:Gu H0 H ks ls con)(s:aM H H'):Gu H0 H' ks ls con:=⟨h.len,h.nd,h.new,λc l e=>by
 obtain⟨us,h1,h2⟩:=h.at_ c l e
 exact⟨us,s _ _ h1,h2.imp λ_ _ z=>ig.mono z (.of_same s)⟩⟩
theorem Gu.put{H0 H:Hp}{ks:List Bt}{ls:List Addr}{con:Nat->List Bt}(h:Gu H0 H ks ls con){c:Nat}{l pb:Addr}{us:List V}{b:Bt}(e:ls[c]?=some l)(hl:H l=some (.lst us))(hA:bj (ig H) us (con c))(hb:H pb=some (.tup (cL b))) :
  Gu H0 (aP H l (.lst (us++[.ref pb]))) ks ls (λd=>if d=c then con d++[b] else con d):=by
 have t:Tp H (aP H l (.lst (us++[.ref pb]))):=(Tp.refl H).lst hl
 refine⟨h.len,h.nd,h.new,λd m em=>?_⟩
 by_cases dc:d=c
 ·subst dc
  rw[e] at em;cases em
  rw[if_pos rfl]
  exact⟨_,aj,(hA.imp λ_ _ z=>ig.mono z t).snoc ⟨pb,rfl,t _ _ hb⟩⟩
 ·rw[if_neg dc]
  obtain⟨us2,h1,h2⟩:=h.at_ d m em
  have ne:m≠l:=λz=>by
   exact dc ((du (ae.mp em).1 h.nd).mp (by rw[em,e,z]))
  exact⟨us2,by rw[az ne];exact h1,h2.imp λ_ _ z=>ig.mono z t⟩
theorem q4{K:Fg}{vs:List V}{H:Hp}{Q:VK}{E:XK}(h:gX K vs H Q E):kH K {nx:=λ_ H'=>Q .non H',rt:=Q} (start iC vs) H:=by
 obtain⟨_,ks,n,rfl,⟨D,kvs,rfl,hD,hkeys,hvals⟩,knd,kfew,klen,n1,n5,kcl,q⟩:=h
 have kvl:=lz hkeys
 refine⟨_,rfl,D,kvs,rfl,hD,λob C nC=>?_⟩
 have nCH:H C=none:=by
  by_cases z:C=D
  ·rw[z,aj] at nC;cases nC
  ·rw[az z] at nC;exact nC
 refine nX (λj σ' H'=>∃(o2:Option V) (ts ps ls:List Addr),σ'=[some (.ref D),none,o2,none,none]/\H' C=some (.lst (ts.map V.ref))/\ts.length=j/\ps.length=j/\ls.length=j/\ls.Nodup/\(∀l∈ls,H l=none/\l≠C)/\(∀(i:Nat) t p l b,ts[i]?=some t->ps[i]?=some p->ls[i]?=some l->ks[i]?=some b->H' t=some (.tup [.ref p,.ref l])/\H' p=some (.tup (cL b)))/\(∀l∈ls,H' l=some (.lst []))/\aM (aP H D (.frz ob (.dT kvs))) H')
  ⟨none,[],[],[],rfl,aj,rfl,rfl,rfl,dh,(λl hl=>by cases hl),(λi t p l b h=>by simp at h),(λl hl=>by cases hl),(aM.refl _).new nC⟩ ?_ ?_ ?_
 ·rintro j σ' H' _ ⟨_,_,_,_,_,_,_,_,_,_,_,_,_,s⟩;exact gQ s
 ·rintro j k kv pb σ' H1 hk hpb ⟨o2,ts,ps,ls,rfl,hC,tl,pl,ll,nd,new,prs,emp,s⟩
  obtain⟨b,hb,rfl⟩:=jP hkeys hk
  rw[eD] at hpb
  have jl:j<ks.length:=(ae.mp hb).1
  show jI C jN _ _ [some (.ref D),none,some (.ref pb),none,none] H1
  refine fm ⟨_,rfl,(by show 0<=sizeLine;decide),λl nl=>⟨(by show 2<=sizeLine;decide),λt nt=>?_⟩⟩
  have s2:aM H1 (aP (aP H1 l (.lst [])) t (.tup [.ref pb,.ref l])):=((aM.refl H1).new nl).new nt
  have ht:aP (aP H1 l (.lst [])) t (.tup [.ref pb,.ref l]) t=some (.tup [.ref pb,.ref l]):=aj
  have hl:aP (aP H1 l (.lst [])) t (.tup [.ref pb,.ref l]) l=some (.lst []):=(aM.refl _).new nt _ _ aj
  generalize aP (aP H1 l (.lst [])) t (.tup [.ref pb,.ref l])=H2 at s2 ht hl ⊢
  have lC:l≠C:=(aJ hC nl).symm
  have lH:H l=none:=by
   have z:=s.free nl
   by_cases c:l=D
   ·rw[c,aj] at z;cases z
   ·rw[az c] at z;exact z
  have t3:Tp H2 (aP H2 C (.lst (ts.map V.ref++[.ref t]))):=(Tp.refl H2).lst (s2 _ _ hC)
  refine⟨_,s2 _ _ hC,bH (by rw[af];lia),_,ts++[t],ps++[pb],ls++[l],rfl,by rw[aj,aC];rfl,by rw[ai,tl];rfl,by rw[ai,pl];rfl,by rw[ai,ll];rfl,?_,λm hm=>?_,λi t' p' l' b' h1 h2 h3 h4=>?_,λm hm=>?_,dE (s.trans s2) nC⟩
  ·refine cV.mpr ⟨nd,by simp,λx hx y hy=>?_⟩
   rw[ak.mp hy]
   rintro rfl
   rw[emp x hx] at nl;cases nl
  ·rcases aA.mp hm with z|z
   ·exact new m z
   ·rw[ak.mp z];exact⟨lH,lC⟩
  ·by_cases c:i<j
   ·rw[ar (by lia)] at h1 h2 h3
    obtain⟨a1,a2⟩:=prs i t' p' l' b' h1 h2 h3 h4
    exact⟨t3 _ _ (s2 _ _ a1),t3 _ _ (s2 _ _ a2)⟩
   ·have ij:i=j:=by
     have:=(ae.mp h1).1
     rw[ai,aI] at this
     lia
    subst ij
    rw[ao (by lia),tl,a9] at h1
    rw[ao (by lia),pl,a9] at h2
    rw[ao (by lia),ll,a9] at h3
    rw[hb] at h4
    cases h4
    have h1:t=t':=Option.some.inj h1
    have h2:pb=p':=Option.some.inj h2
    have h3:l=l':=Option.some.inj h3
    subst h1 h2 h3
    exact⟨t3 _ _ ht,t3 _ _ (s2 _ _ hpb)⟩
  ·rcases aA.mp hm with z|z
   ·rw[az (new m z).2];exact s2 _ _ (emp m z)
   ·rw[ak.mp z,az lC];exact hl
 ·rintro σ' H1 ⟨o2,ts,ps,ls,_,hC,tl,pl,ll,nd,new,prs,emp,s⟩
  rw[kvl] at tl pl ll
  refine .inr ⟨D,kvs,kvs,ob,hD,gQ s,?_⟩
  have s2:=jW hD s
  have t2:Tp H1 (aP H1 D (.dT kvs)):=λc xs hc=>by
   rw[az (λz=>by rw[z,gQ s] at hc;cases hc)];exact hc
  have lt2:∀l us,H1 l=some (.lst us)->aP H1 D (.dT kvs) l=some (.lst us):=λl us hl=>by
   rw[az (λz=>by rw[z,gQ s] at hl;cases hl)];exact hl
  have hC2:=lt2 _ _ hC
  have emp2:=λl hl=>lt2 l _ (emp l hl)
  have prs2:=λi t p l b h1 h2 h3 h4=>(⟨t2 _ _ (prs i t p l b h1 h2 h3 h4).1,t2 _ _ (prs i t p l b h1 h2 h3 h4).2⟩:aP H1 D (.dT kvs) t=some (.tup [.ref p,.ref l])/\aP H1 D (.dT kvs) p=some (.tup (cL b)))
  generalize aP H1 D (.dT kvs)=H2 at s2 hC2 emp2 prs2 ⊢
  have zl:(ks.zip ls).length=ks.length:=by rw[kC];lia
  have zm:(((ks.zip ls).map λp=>(cB p.1,V.ref p.2)).map (·.1))=ks.map cB:=by
   rw[cU,show((λx:List cf×V=>x.1) ∘ λp:Bt×Addr=>(cB p.1,V.ref p.2))=cB ∘ Prod.fst from rfl,<-cU,List.map_fst_zip (by lia)]
  have znd:=wQ knd
  refine⟨C,_,(ks.zip ls).map λp=>(cB p.1,V.ref p.2),rfl,hC2,by rw[af,af,zl,tl],by rw[af,zl];lia,λj x k v e1 e2=>?_,λA nA=>?_⟩
  ·rw[aH] at e1 e2
   cases et:ts[j]? with
   |none=>rw[et] at e1;cases e1
   |some t=>
    rw[et] at e1;cases e1
    cases ez:(ks.zip ls)[j]? with
    |none=>rw[ez] at e2;cases e2
    |some p=>
     rw[ez] at e2;cases e2
     obtain⟨z1,z2⟩:=dP.mp ez
     have jl:j<ps.length:=by have:=(ae.mp z1).1;lia
     obtain⟨a1,a2⟩:=prs2 j t ps[j] p.2 p.1 et (aa jl) z2 z1
     exact⟨t,ps[j],rfl,a1,by rw[eD];exact a2⟩
  rw[qb (kvs:=[]) (by rw[eM,zm];exact znd),eM]
  have s3:aM H2 (aP H2 A (.dT ((ks.zip ls).map λp=>(cB p.1,V.ref p.2)))):=(aM.refl H2).new nA
  have hA3:aP H2 A (.dT ((ks.zip ls).map λp=>(cB p.1,V.ref p.2))) A=some (.dT ((ks.zip ls).map λp=>(cB p.1,V.ref p.2))):=aj
  have nAH:H A=none:=s2.free nA
  show jC K _ [some (.ref D),some (.ref A),none,none,none] _
  generalize aP H2 A (.dT ((ks.zip ls).map λp=>(cB p.1,V.ref p.2)))=H3 at s3 hA3 ⊢
  have s03:=s2.trans s3
  have hD3:=s03 _ _ hD
  have ah3:Gu H H3 ks ls (λ_=>[]):=⟨ll,nd,λl hl=>(new l hl).1,λc l e=>⟨[],s3 _ _ (emp2 l (aG e)),bj.nil⟩⟩
  have alAt:∀(c:Nat) l d,ls[c]?=some l->ks[c]?=some d->de ((ks.zip ls).map λp=>(cB p.1,V.ref p.2)) (cB d)=some (.ref l):=λc l d e1 e2=>Gh (i:=c) (by rw[zm];exact znd) (by
   rw[aH,dP (z:=(d,l)) |>.mpr ⟨e2,e1⟩];rfl)
  refine⟨_,rfl,D,kvs,rfl,hD3,λob2=>?_⟩
  have H3f:∀{b u},H3 b=some u->(∀kv,u≠.dT kv)->aP H3 D (.frz ob2 (.dT kvs)) b=some u:=λ{b u} hb n=>by
   rw[az (λz=>by rw[z,hD3] at hb;cases hb;exact n _ rfl)];exact hb
  have nDA:A≠D:=λz=>by rw[z] at nAH;rw[hD] at nAH;cases nAH
  refine sx (λi σ' H'=>∃o2 o3 o4 con,σ'=[some (.ref D),some (.ref A),o2,o3,o4]/\Gu H H' ks ls con/\H' A=some (.dT ((ks.zip ls).map λp=>(cB p.1,V.ref p.2)))/\H' D=some (.frz ob2 (.dT kvs))/\(∀(c:Nat) d b,ks[c]?=some d->(b∈con c↔b∈ks.take i/\d∈kts b))/\iw ks.length (λc=>(con c).length)<=5*i/\(∀b u,b≠D->H b=some u->H' b=some u)) ?_ ?_ ?_ ?_
  ·refine⟨none,none,none,λ_=>[],rfl,⟨ll,nd,ah3.new,λc l e=>?_⟩,by rw[az nDA];exact hA3,aj,(λc d b _=>⟨(λz=>by cases z),(λz=>by cases z.1)⟩),(by show iw _ (λ_=>0)<=_;rw[FX];exact bt _),λb u nb hb=>by rw[az nb];exact s03 _ _ hb⟩
   obtain⟨us,h1,h2⟩:=ah3.at_ c l e
   have:us=[]:=by have:=h2.len;exact aS.mp (by simpa using this)
   exact⟨us,H3f h1 (λ_ z=>by cases z),by rw[this];exact bj.nil⟩
  ·rintro i σ' H' _ ⟨_,_,_,_,_,_,_,h,_⟩;exact h
  ·rintro i k v pb p σ' H4 hk hpb np ⟨o2,o3,o4,con,rfl,ah,hA4,hD4,mem,cl,kp⟩
   obtain⟨b,hb,rfl⟩:=jP hkeys hk
   rw[eD] at hpb
   have bm:=aG hb
   have il:i<ks.length:=(ae.mp hb).1
   obtain⟨l0,us0,rfl,hl0,hB0⟩:=hvals i _ v b hk hb
   refine⟨p,_,rfl,cE.of aj,rfl,_,_,rfl,_,_,rfl,rfl,?_⟩
   have s5:aM H4 (aP H4 p (.tup [.ref pb,.ref l0])):=(aM.refl H4).new np
   show jB K _ [some (.ref D),some (.ref A),some (.ref pb),some (.ref l0),o4] _
   generalize aP H4 p (.tup [.ref pb,.ref l0])=H5 at s5 ⊢
   have l0D:l0≠D:=λz=>by rw[z,hD] at hl0;cases hl0
   have hl5:=s5 _ _ (kp _ _ l0D hl0)
   have l0ls:l0∉ls:=λz=>by rw[(new l0 z).1] at hl0;cases hl0
   have bne:b≠[]:=λz=>by have:=klen b bm;rw[z] at this;have:(0:Nat)=n:=this;lia
   have kl5:(kts b).length<=5:=by unfold kts;rw[af];have:=yU bne;have:=klen b bm;lia
   have bt5:∀c,H c≠none->c≠D->∀u,H c=some u->H5 c=some u:=λc _ nc u hc=>s5 _ _ (kp c u nc hc)
   refine .inl ⟨_,rfl,l0,rfl,⟨_,cq.of hl5⟩,sy (xs:=us0) (λj σ' H'=>∃o4 con2,σ'=[some (.ref D),some (.ref A),some (.ref pb),some (.ref l0),o4]/\Gu H H' ks ls con2/\H' A=some (.dT ((ks.zip ls).map λp=>(cB p.1,V.ref p.2)))/\H' D=some (.frz ob2 (.dT kvs))/\(∀(c:Nat) d x,ks[c]?=some d->(x∈con2 c↔(x∈ks.take i/\d∈kts x)\/(x=b/\d∈(kts b).take j)))/\iw ks.length (λc=>(con2 c).length)<=5*i+j/\(∀b u,b≠D->H b=some u->H' b=some u)/\H' pb=some (.tup (cL b))) ?_ ?_ ?_ ?_⟩
   ·refine⟨_,con,rfl,ah.same s5,s5 _ _ hA4,s5 _ _ hD4,λc d x e=>?_,by lia,λc u nc hc=>s5 _ _ (kp c u nc hc),s5 _ _ hpb⟩
    rw[mem c d x e,eZ]
    exact⟨.inl,λz=>z.elim id λz=>by cases z.2⟩
   ·rintro j σ' H' _ ⟨_,_,_,_,_,_,_,_,h,_⟩;exact cq.of (h _ _ l0D hl0)
   ·rintro j x σ' H6 hx ⟨o4',con2,rfl,ah6,hA6,hD6,mem6,cl6,kp6,hpb6⟩
    obtain⟨d,hd,⟨pd,rfl,hpd⟩⟩:=hB0.of_v hx
    have jl:j<(kts b).length:=(ae.mp hd).1
    have pdD:pd≠D:=λz=>by rw[z,hD] at hpd;cases hpd
    have hpd6:=kp6 _ _ pdD hpd
    have dm:=kcl b bm d (aG hd)
    obtain⟨c,hc⟩:=yz dm
    have cl':c<ls.length:=by have:=(ae.mp hc).1;lia
    have elc:ls[c]?=some ls[c]:=aa cl'
    obtain⟨us,h1,h2⟩:=ah6.at_ c _ elc
    have vl:=alAt c _ d elc hc
    generalize ls[c]=l at elc h1 vl
    have lm:=aG elc
    have lnew:=(new l lm).1
    show jA K _ [some (.ref D),some (.ref A),some (.ref pb),some (.ref l0),some (.ref pd)] H6
    have ulen:us.length<=5*i+j:=by rw[h2.len];exact a8 (Cc (g:=λc=>(con2 c).length) (ae.mp hc).1) cl6
    refine⟨_,rfl,_,rfl,A,_,rfl,mO hA6 hpd6 vl,.inl ⟨rfl,_,cq.of h1⟩,_,rfl,l,us,.ref pb,rfl,rfl,h1,bH (by lia),?_⟩
    refine⟨_,λe=>if e=c then con2 e++[b] else con2 e,rfl,ah6.put elc h1 h2 hpb6,by rw[az (λz=>by rw[z,h1] at hA6;cases hA6)];exact hA6,by rw[az (λz=>by rw[z,h1] at hD6;cases hD6)];exact hD6,λe f x ef=>?_,?_,λm u nm hm=>by rw[az (λz=>by rw[z,lnew] at hm;cases hm)];exact kp6 m u nm hm,(Tp.refl H6).lst h1 _ _ hpb6⟩
    ·rw[eK hd]
     dsimp only
     by_cases ec:e=c
     ·subst ec
      rw[hc] at ef;cases ef
      rw[if_pos rfl,aA,mem6 e d x hc,ak,aA,ak]
      constructor
      ·rintro((z|z)|z)
       ·exact .inl z
       ·exact .inr ⟨z.1,.inl z.2⟩
       ·exact .inr ⟨z,.inr rfl⟩
      ·rintro(z|⟨z,y|_⟩)
       ·exact .inl (.inl z)
       ·exact .inl (.inr ⟨z,y⟩)
       ·exact .inr z
     ·rw[if_neg ec,mem6 e f x ef,aA,ak]
      have fd:f≠d:=λz=>ec (p9 knd ef (by rw[z];exact hc))
      constructor
      ·rintro(z|z)
       ·exact .inl z
       ·exact .inr ⟨z.1,.inl z.2⟩
      ·rintro(z|⟨z,y|y⟩)
       ·exact .inl z
       ·exact .inr ⟨z,y⟩
       ·exact absurd y fd
    ·have:=rD (f:=λc=>(con2 c).length) (g:=λe=>(if e=c then con2 e++[b] else con2 e).length) (ae.mp hc).1 λd hd=>by rw[if_neg hd]
     rw[if_pos rfl,ai,aI] at this
     lia
   ·rintro σ' H6 ⟨o4',con2,rfl,ah6,hA6,hD6,mem6,cl6,kp6,_⟩
    rw[hB0.len,bf] at mem6
    refine⟨_,_,_,con2,rfl,ah6,hA6,hD6,λc d x e=>?_,by rw[hB0.len] at cl6;lia,kp6⟩
    rw[mem6 c d x e,eK hb,aA,ak]
    constructor
    ·rintro(z|⟨rfl,z⟩)
     ·exact⟨.inl z.1,z.2⟩
     ·exact⟨.inr rfl,z⟩
    ·rintro⟨z|rfl,y⟩
     ·exact .inl ⟨z,y⟩
     ·exact .inr ⟨rfl,y⟩
  ·rintro σ' H4 ⟨o2,o3,o4,con,rfl,ah,hA4,hD4,mem,cl,kp⟩
   rw[kvl,bf] at mem
   refine .inr ⟨D,kvs,kvs,ob2,hD3,hD4,?_⟩
   show jz K _ [some (.ref D),some (.ref A),o2,o3,o4] (aP H4 D (.dT kvs))
   have t5:Tp H4 (aP H4 D (.dT kvs)):=λc xs hc=>by
    rw[az (λz=>by rw[z,hD4] at hc;cases hc)];exact hc
   refine⟨_,rfl,q (.ref A) _ ⟨A,_,λc=>(con c).length,rfl,by rw[az nDA];exact hA4,nAH,zm,by lia,λi k u c e1 e2=>?_⟩ λb u hb=>?_⟩
   ·rw[aH] at e1
    cases ez:(ks.zip ls)[i]? with
    |none=>rw[ez] at e1;cases e1
    |some p=>
     rw[ez] at e1;cases e1
     obtain⟨z1,z2⟩:=dP.mp ez
     obtain⟨us,h1,h2⟩:=ah.at_ i _ z2
     rw[z1] at e2;cases e2
     refine⟨p.2,us,con i,rfl,by rw[az (λz=>by rw[z,hD4] at h1;cases h1)];exact h1,(new _ (aG z2)).1,h2.imp λ_ _ z=>ig.mono z t5,rfl,λb=>mem i _ b z1⟩
   ·by_cases c:b=D
    ·subst c;rw[hD] at hb;cases hb;exact aj
    ·rw[az c];exact kp b u c hb
abbrev Wq:=List (Nat×Addr×List Bt)
def Wt(wq:Wq)(m:Nat)(b:Bt):Prop:=∃l bs,(m,l,bs)∈wq/\b∈bs
def uX(wq:Wq):Nat:=(wq.map λe=>e.2.2.length).sum
def qt(wq:Wq):List (kY×V):=wq.map λe=>(Sum.inl (e.1:Int),V.ref e.2.1)
structure zS(H2 H:Hp)(W:Addr)(wq:Wq):Prop where
 at_:H W=some (.dK (qt wq))
 nd:(wq.map (·.1)).Nodup
 lnd:(wq.map (·.2.1)).Nodup
 new:∀e∈wq,H2 e.2.1=none
 lst:∀e∈wq,∃us,H e.2.1=some (.lst us)/\bj (ig H) us e.2.2
theorem zS.same{H2 H H':Hp}{W:Addr}{wq:Wq}(h:zS H2 H W wq)(s:aM H H'):zS H2 H' W wq:=⟨s _ _ h.at_,h.nd,h.lnd,h.new,λe he=>by
 obtain⟨us,h1,h2⟩:=h.lst e he
 exact⟨us,s _ _ h1,h2.imp λ_ _ z=>ig.mono z (.of_same s)⟩⟩
def kW(wq:Wq)(m:Nat)(cs:List Bt):Wq:=wq.map λe=>if e.1=m then(e.1,e.2.1,e.2.2++cs) else e
theorem ve(wq:Wq)(m:Nat)(cs:List Bt):(kW wq m cs).map (·.1)=wq.map (·.1):=by
 unfold kW
 rw[cU]
 exact cZ λe _=>by
  show(if e.1=m then(e.1,e.2.1,e.2.2++cs) else e).1=e.1
  split<;>rfl
theorem BI(wq:Wq)(m:Nat)(cs:List Bt):(kW wq m cs).map (·.2.1)=wq.map (·.2.1):=by
 unfold kW
 rw[cU]
 exact cZ λe _=>by
  show(if e.1=m then(e.1,e.2.1,e.2.2++cs) else e).2.1=e.2.1
  split<;>rfl
theorem Ew(wq:Wq)(m:Nat)(cs:List Bt):qt (kW wq m cs)=qt wq:=by
 unfold qt kW
 rw[cU]
 exact cZ λe _=>by
  show(Sum.inl (((if e.1=m then(e.1,e.2.1,e.2.2++cs) else e).1:Nat):Int),V.ref (if e.1=m then(e.1,e.2.1,e.2.2++cs) else e).2.1)=(Sum.inl (e.1:Int),V.ref e.2.1)
  split<;>rfl
theorem yv{wq:Wq}{m:Nat}{cs:List Bt}{l:Addr}{bs:List Bt}:(wq.map (·.1)).Nodup->(m,l,bs)∈wq->uX (kW wq m cs)=uX wq+cs.length:=by
 induction wq with
 |nil=>intro _ h;cases h
 |cons e r ih=>
  intro nd h
  rw[bJ,bX] at nd
  have cons:∀(e:Nat×Addr×List Bt) r,uX (e::r)=e.2.2.length+uX r:=λ_ _=>rfl
  show uX ((if e.1=m then(e.1,e.2.1,e.2.2++cs) else e)::kW r m cs)=_
  rw[cons,cons]
  by_cases c:e.1=m
  ·rw[if_pos c]
   have no:kW r m cs=r:=by
    unfold kW
    conv=>rhs;rw[<-List.map_id r]
    exact cZ λf hf=>by
     have:¬f.1=m:=λz=>nd.1 (by rw[c,<-z];exact aE.mpr ⟨f,hf,rfl⟩)
     show(if f.1=m then _ else f)=f
     rw[if_neg this]
   rw[no]
   show(e.2.2++cs).length+_=_
   rw[ai];lia
  ·rw[if_neg c]
   rcases aN.mp h with z|z
   ·exact absurd (by rw[<-z]) c
   ·rw[ih nd.2 z];lia
theorem BJ{wq:Wq}{m:Nat}{cs:List Bt}{l:Addr}{bs:List Bt}(h:(m,l,bs)∈wq)(k:Nat)(b:Bt):Wt (kW wq m cs) k b↔Wt wq k b\/(k=m/\b∈cs):=by
 constructor
 ·rintro⟨l',bs',hm,hb⟩
  obtain⟨e,he,e1⟩:=aE.mp hm
  split at e1
  ·rename_i c
   cases e1
   rcases aA.mp hb with z|z
   ·exact .inl ⟨e.2.1,e.2.2,he,z⟩
   ·exact .inr ⟨c,z⟩
  ·rw[e1] at he
   exact .inl ⟨l',bs',he,hb⟩
 ·rintro(⟨l',bs',hm,hb⟩|⟨rfl,hb⟩)
  ·refine⟨l',if k=m then bs'++cs else bs',aE.mpr ⟨_,hm,?_⟩,?_⟩
   ·dsimp only;split<;>rfl
   ·split
    ·exact bw _ hb
    ·exact hb
  ·exact⟨l,bs++cs,aE.mpr ⟨_,h,if_pos rfl⟩,aX _ hb⟩
theorem Gm{H2 H:Hp}{W l:Addr}{wq:Wq}{m:Nat}{bs cs:List Bt}{us zs:List V}(w:zS H2 H W wq)(h:(m,l,bs)∈wq)(hl:H l=some (.lst us))(hA:bj (ig H) us bs)(hZ:bj (ig H) zs cs):zS H2 (aP H l (.lst (us++zs))) W (kW wq m cs):=by
 have t:Tp H (aP H l (.lst (us++zs))):=(Tp.refl H).lst hl
 refine⟨by rw[Ew,az (λz=>by have:=w.at_;rw[z,hl] at this;cases this)];exact w.at_,by rw[ve];exact w.nd,by rw[BI];exact w.lnd,λe he=>?_,λe he=>?_⟩
 ·obtain⟨f,hf,e1⟩:=aE.mp he
  have:e.2.1=f.2.1:=by rw[<-e1];split<;>rfl
  rw[this];exact w.new f hf
 ·obtain⟨f,hf,e1⟩:=aE.mp he
  by_cases c:f.1=m
  ·have fe:f=(m,l,bs):=by
    obtain⟨i,hi,ei⟩:=aT.mp hf
    obtain⟨j,hj,ej⟩:=aT.mp h
    have:i=j:=(du (l:=wq.map (·.1)) (by rw[af];exact hi) w.nd).mp (by
     rw[aH,aH,aa hi,aa hj,ei,ej]
     show some f.1=some m
     rw[c])
    subst this
    rw[<-ei,ej]
   rw[if_pos c,fe] at e1
   rw[<-e1]
   exact⟨us++zs,aj,(hA.imp λ_ _ z=>ig.mono z t).appF (hZ.imp λ_ _ z=>ig.mono z t)⟩
  ·rw[if_neg c] at e1
   rw[<-e1]
   obtain⟨us',h1,h2⟩:=w.lst f hf
   have ne:f.2.1≠l:=λz=>c (by
    obtain⟨i,hi,ei⟩:=aT.mp hf
    obtain⟨j,hj,ej⟩:=aT.mp h
    have:i=j:=(du (l:=wq.map (·.2.1)) (by rw[af];exact hi) w.lnd).mp (by
     rw[aH,aH,aa hi,aa hj,ei,ej]
     show some f.2.1=some l
     rw[z])
    subst this
    rw[<-ei,ej])
   exact⟨us',by rw[az ne];exact h1,h2.imp λ_ _ z=>ig.mono z t⟩
theorem xC{wq:Wq}{m:Nat}:(wq.map (·.1)).Nodup->(∀v,de (qt wq) (Sum.inl (m:Int))=some v->∃l bs,v=.ref l/\(m,l,bs)∈wq)/\(de (qt wq) (Sum.inl (m:Int))=none->m∉wq.map (·.1)):=by
 intro nd
 induction wq with
 |nil=>exact⟨(λv h=>by cases h),(λ_ z=>by cases z)⟩
 |cons e r ih=>
  rw[bJ,bX] at nd
  have ih:=ih nd.2
  by_cases c:e.1=m
  ·have:de (qt (e::r)) (Sum.inl (m:Int))=some (.ref e.2.1):=gy (by show Sum.inl (e.1:Int)=_;rw[c])
   rw[this]
   refine⟨λv h=>?_,λh=>by cases h⟩
   cases h
   exact⟨e.2.1,e.2.2,rfl,by rw[<-c];exact bg⟩
  ·have:de (qt (e::r)) (Sum.inl (m:Int))=de (qt r) (Sum.inl (m:Int)):=gx (λz=>c (by
    have z:(Sum.inl (e.1:Int):kY)=Sum.inl (m:Int):=z
    injection z with z;lia))
   rw[this]
   refine⟨λv h=>?_,λh z=>?_⟩
   ·obtain⟨l,bs,h1,h2⟩:=ih.1 v h
    exact⟨l,bs,h1,bh _ h2⟩
   ·rcases aN.mp z with z|z
    ·exact c z.symm
    ·exact ih.2 h z
theorem Cw{K:Fg}{td ty:TE}{σ:St}{H2 H:Hp}{W:Addr}{wq:Wq}{m:Nat}{Q:VK}(hd:∀R:VK,R (.ref W) H->td σ H R)(hy:∀R:VK,R (.int (m:Nat)) H->ty σ H R)(w:zS H2 H W wq)(few:wq.length<=50000)(s:aM H2 H)(nW:H2 W=none)
  (q:∀(l:Addr) (us:List V) (bs:List Bt) (wq1:Wq) (H':Hp),zS H2 H' W wq1->(m,l,bs)∈wq1->H' l=some (.lst us)->bj (ig H') us bs->aM H2 H'->(∀k b,Wt wq1 k b↔Wt wq k b)->(∀k,k∈wq1.map (·.1)↔k∈wq.map (·.1)\/k=m)->wq1.length<=wq.length+1->uX wq1=uX wq->(∀b u,b≠W->H b=some u->H' b=some u)->(∀e∈wq1,e.2.1∈wq.map (·.2.1)\/H e.2.1=none)->Q (.ref l) H') :
  tN td ty (gA aO) σ H Q:=by
 refine hd _ ⟨W,rfl,.inl ⟨_,.inl w.at_⟩,hy _ ⟨(by show 0<=sizeLine;decide),λz nz=>?_⟩⟩
 have s1:aM H (aP H z (.lst [])):=(aM.refl H).new nz
 have w1:=w.same s1
 have hz:aP H z (.lst []) z=some (.lst []):=aj
 generalize aP H z (.lst [])=H1 at s1 w1 hz ⊢
 obtain⟨v1,v2⟩:=xC (m:=m) w.nd
 refine⟨_,Sum.inl (m:Int),w1.at_,rfl,bH (by unfold qt;rw[af];lia),λv hv=>?_,λhv=>?_⟩
 ·obtain⟨l,bs,rfl,hm⟩:=v1 v hv
  obtain⟨us,h1,h2⟩:=w1.lst _ hm
  refine q l us bs wq H1 w1 hm h1 h2 (s.trans s1) (λ_ _=>Iff.rfl) (λk=>⟨.inl,λh=>h.elim id λh=>by rw[h];exact aE.mpr ⟨_,hm,rfl⟩⟩) (dW _) rfl (λb u _ hb=>s1 _ _ hb) λe he=>.inl (aE.mpr ⟨e,he,rfl⟩)
 ·have nk:=v2 hv
  rw[oY _ hv]
  have zW:z≠W:=(aJ w.at_ nz).symm
  have t:Tp H1 (aP H1 W (.dK (qt wq++[(Sum.inl (m:Int),V.ref z)]))):=λc xs hc=>by
   rw[az (λy=>by rw[y,w1.at_] at hc;cases hc)];exact hc
  refine q z [] [] (wq++[(m,z,[])]) _ ⟨by rw[aj];unfold qt;rw[aC];rfl,?_,?_,λe he=>?_,λe he=>?_⟩ (aX _ (ak.mpr rfl)) (by rw[az zW];exact hz) bj.nil (dE (s.trans s1) nW) (λk b=>?_) (λk=>?_) (by rw[ai];exact au _) ?_ (λb u nb hb=>by rw[az nb];exact s1 _ _ hb) λe he=>?_
  ·rw[aC]
   exact cV.mpr ⟨w.nd,by simp,λx hx y hy=>by rw[ak.mp hy];rintro rfl;exact nk hx⟩
  ·rw[aC]
   refine cV.mpr ⟨w.lnd,by simp,λx hx y hy=>?_⟩
   rw[ak.mp hy]
   intro xz
   obtain⟨e,he,e1⟩:=aE.mp hx
   obtain⟨us,h1,_⟩:=w.lst e he
   have e1:e.2.1=x:=e1
   have xz:x=z:=xz
   rw[e1,xz,nz] at h1;cases h1
  ·rcases aA.mp he with y|y
   ·exact w.new e y
   ·rw[ak.mp y];exact s.free nz
  ·rcases aA.mp he with y|y
   ·obtain⟨us,h1,h2⟩:=w1.lst e y
    exact⟨us,by rw[az (λx=>by rw[x,w1.at_] at h1;cases h1)];exact h1,h2.imp λ_ _ x=>ig.mono x t⟩
   ·rw[ak.mp y]
    exact⟨[],by rw[az zW];exact hz,bj.nil⟩
  ·constructor
   ·rintro⟨l,bs,hm,hb⟩
    rcases aA.mp hm with y|y
    ·exact⟨l,bs,y,hb⟩
    ·have:=ak.mp y
     cases this;cases hb
   ·rintro⟨l,bs,hm,hb⟩
    exact⟨l,bs,bw _ hm,hb⟩
  ·rw[aC,aA]
   exact⟨λh=>h.imp id λh=>ak.mp h,λh=>h.imp id λh=>ak.mpr h⟩
  ·unfold uX
   rw[aC,fL]
   rfl
  ·rcases aA.mp he with y|y
   ·exact .inl (aE.mpr ⟨e,y,rfl⟩)
   ·rw[ak.mp y];exact .inr nz
theorem IC{H2 H:Hp}{W:Addr}{wq:Wq}(w:zS H2 H W wq)(nW:H2 W=none)(s:aM H2 H){N:Nat}{l:Addr}{bs:List Bt}(h:(N,l,bs)∈wq) :
  de (qt wq) (Sum.inl (N:Int))=some (.ref l)/\zS H2 (aP H W (.dK (jt (qt wq) (Sum.inl (N:Int))))) W (wq.filter λe=>!decide (e.1=N))/\l∉(wq.filter λe=>!decide (e.1=N)).map (·.2.1):=by
 have t:Tp H (aP H W (.dK (jt (qt wq) (Sum.inl (N:Int))))):=λc xs hc=>by
  rw[az (λy=>by rw[y,w.at_] at hc;cases hc)];exact hc
 have one:∀{f},f∈wq->f.1=N->f=(N,l,bs):=λ{f} hf c=>by
  obtain⟨i,hi,ei⟩:=aT.mp hf
  obtain⟨j,hj,ej⟩:=aT.mp h
  have:i=j:=(du (l:=wq.map (·.1)) (by rw[af];exact hi) w.nd).mp (by
   rw[aH,aH,aa hi,aa hj,ei,ej]
   show some f.1=some N
   rw[c])
  subst this
  rw[<-ei,ej]
 have two:∀{f},f∈wq->f.2.1=l->f=(N,l,bs):=λ{f} hf c=>by
  obtain⟨i,hi,ei⟩:=aT.mp hf
  obtain⟨j,hj,ej⟩:=aT.mp h
  have:i=j:=(du (l:=wq.map (·.2.1)) (by rw[af];exact hi) w.lnd).mp (by
   rw[aH,aH,aa hi,aa hj,ei,ej]
   show some f.2.1=some l
   rw[c])
  subst this
  rw[<-ei,ej]
 have dk:jt (qt wq) (Sum.inl (N:Int))=qt (wq.filter λe=>!decide (e.1=N)):=by
  unfold jt qt
  rw[List.filter_map]
  congr 1
  refine List.filter_congr λe _=>?_
  show decide ((Sum.inl (e.1:Int):kY)≠Sum.inl (N:Int))=!decide (e.1=N)
  by_cases c:e.1=N
  ·rw[c];simp
  ·have:(Sum.inl (e.1:Int):kY)≠Sum.inl (N:Int):=λz=>c (by injection z with z;lia)
   rw[decide_eq_true this,decide_eq_false c];rfl
 refine⟨?_,⟨by rw[aj,dk],?_,?_,λe he=>w.new e (bb.mp he).1,λe he=>?_⟩,λz=>?_⟩
 ·obtain⟨v1,v2⟩:=xC (m:=N) w.nd
  cases e:de (qt wq) (Sum.inl (N:Int)) with
  |none=>exact absurd (aE.mpr ⟨_,h,rfl⟩) (v2 e)
  |some v=>
   obtain⟨l',bs',rfl,hm⟩:=v1 v e
   have:=one hm rfl
   cases this;rfl
 ·exact List.Sublist.nodup (List.Sublist.map _ iK) w.nd
 ·exact List.Sublist.nodup (List.Sublist.map _ iK) w.lnd
 ·obtain⟨us,h1,h2⟩:=w.lst e (bb.mp he).1
  exact⟨us,by rw[az (λy=>by rw[y,w.at_] at h1;cases h1)];exact h1,h2.imp λ_ _ x=>ig.mono x t⟩
 ·obtain⟨e,he,e1⟩:=aE.mp z
  obtain⟨h1,h2⟩:=bb.mp he
  have:=two h1 e1
  rw[this] at h2
  simp at h2
structure D8(ks:List Bt)(t0 t:List (Bt×Nat))(wq:Wq)(X:Nat->Bt->Prop):Prop where
 nd:(t.map (·.1)).Nodup
 sub:∀b n,(b,n)∈t->b∈ks
 s3:∀b n,(b,n)∈t->(b,n)∈t0\/∃c∈kts b,∃m,(c,m)∈t/\n=m+1
 i2:∀b∈ks,∀c∈kts b,∀n,(c,n)∈t->(∃m,m<=n+1/\(b,m)∈t)\/Wt wq (n+1) b\/X (n+1) b
 i3:∀b n,(b,n)∈t0->(∃m,m<=n/\(b,m)∈t)\/Wt wq n b\/X n b
 i4:∀m b,Wt wq m b\/X m b->b∈ks/\((b,m)∈t0\/∃c∈kts b,∃n,(c,n)∈t/\m=n+1)
def AE(ks:List Bt)(t:List (Bt×Nat))(c:Nat):Bool:=match ks[c]? with
 |some b=>decide (b∈t.map (·.1))
 |none=>false
def xg(ks:List Bt)(g:Nat->Nat)(t:List (Bt×Nat)):Nat:=iw ks.length λc=>if AE ks t c=true then 0 else g c
theorem Di{ks:List Bt}(nd:ks.Nodup){g:Nat->Nat}{t:List (Bt×Nat)}{b:Bt}{c N:Nat}(hc:ks[c]?=some b)(nb:b∉t.map (·.1)):xg ks g (t++[(b,N)])+g c=xg ks g t:=by
 have cl:=(ae.mp hc).1
 have h:=rD (f:=λc=>if AE ks t c=true then 0 else g c) (g:=λc=>if AE ks (t++[(b,N)]) c=true then 0 else g c) cl λd hd=>by
  have:AE ks (t++[(b,N)]) d=AE ks t d:=by
   unfold AE
   cases e:ks[d]? with
   |none=>rfl
   |some x=>
    have ne:x≠b:=λz=>hd (p9 nd (by rw[e,z]) hc)
    show decide (x∈(t++[(b,N)]).map (·.1))=decide (x∈t.map (·.1))
    rw[Bool.eq_iff_iff,decide_eq_true_eq,decide_eq_true_eq,aC,aA]
    simp[ne]
  rw[this]
 have f1:AE ks t c=false:=by unfold AE;rw[hc];exact decide_eq_false nb
 have f2:AE ks (t++[(b,N)]) c=true:=by unfold AE;rw[hc];exact decide_eq_true (by rw[aC,aA];exact .inr (ak.mpr rfl))
 rw[f1,f2,if_pos rfl,if_neg (by decide)] at h
 unfold xg
 lia
theorem FK{ks:List Bt}{g:Nat->Nat}:xg ks g []=iw ks.length g:=by
 unfold xg
 congr 1
 funext c
 have:AE ks [] c=false:=by
  unfold AE
  split
  ·exact decide_eq_false (by simp)
  ·rfl
 rw[this,if_neg (by decide)]
theorem Km{ks:List Bt}{g:Nat->Nat}{t:List (Bt×Nat)}{b:Bt}{c:Nat}(hc:ks[c]?=some b)(nb:b∉t.map (·.1)):g c<=xg ks g t:=by
 have h:=Cc (g:=λc=>if AE ks t c=true then 0 else g c) (ae.mp hc).1
 have f1:AE ks t c=false:=by unfold AE;rw[hc];exact decide_eq_false nb
 rw[f1,if_neg (by decide)] at h
 exact h
theorem D8.skip{ks:List Bt}{t0 t:List (Bt×Nat)}{wq:Wq}{X X':Nat->Bt->Prop}(h:D8 ks t0 t wq X){b:Bt}{k N:Nat}(hb:(b,k)∈t)(kN:k<=N)(hx:∀m c,X m c->X' m c\/(m=N/\c=b))(hx':∀m c,X' m c->X m c):D8 ks t0 t wq X':=by
 refine⟨h.nd,h.sub,h.s3,λx hx1 c hc n hn=>?_,λx n hn=>?_,λm x hm=>h.i4 m x (hm.imp id (hx' m x))⟩
 ·rcases h.i2 x hx1 c hc n hn with z|z|z
  ·exact .inl z
  ·exact .inr (.inl z)
  ·rcases hx _ _ z with z|⟨z,rfl⟩
   ·exact .inr (.inr z)
   ·exact .inl ⟨k,by lia,hb⟩
 ·rcases h.i3 x n hn with z|z|z
  ·exact .inl z
  ·exact .inr (.inl z)
  ·rcases hx _ _ z with z|⟨rfl,rfl⟩
   ·exact .inr (.inr z)
   ·exact .inl ⟨k,kN,hb⟩
theorem D8.put{ks:List Bt}{t0 t:List (Bt×Nat)}{wq wq':Wq}{X X':Nat->Bt->Prop}(h:D8 ks t0 t wq X){b:Bt}{N:Nat}{bs:List Bt}(nb:b∉t.map (·.1))(hX:X N b)(hx:∀m c,X m c->X' m c\/(m=N/\c=b))(hx':∀m c,X' m c->X m c)
  (hw:∀k c,Wt wq' k c↔Wt wq k c\/(k=N+1/\c∈bs)) (hbs:∀c,c∈bs↔c∈ks/\b∈kts c):D8 ks t0 (t++[(b,N)]) wq' X':=by
 have up:∀{x n},(x,n)∈t->(x,n)∈t++[(b,N)]:=λz=>bw _ z
 have me:(b,N)∈t++[(b,N)]:=aX _ (ak.mpr rfl)
 have sp:∀{x n},(x,n)∈t++[(b,N)]->(x,n)∈t\/(x=b/\n=N):=λz=>by
  rcases aA.mp z with z|z
  ·exact .inl z
  ·have:=ak.mp z
   cases this;exact .inr ⟨rfl,rfl⟩
 obtain⟨bk,b4⟩:=h.i4 N b (.inr hX)
 refine⟨?_,λx n hx1=>?_,λx n hx1=>?_,λx hx1 c hc n hn=>?_,λx n hn=>?_,λm x hm=>?_⟩
 ·rw[aC]
  exact cV.mpr ⟨h.nd,by simp,λx hx1 y hy=>by rw[ak.mp hy];intro z;exact nb (by have z:x=b:=z;rw[<-z];exact hx1)⟩
 ·rcases sp hx1 with z|⟨rfl,rfl⟩
  ·exact h.sub x n z
  ·exact bk
 ·rcases sp hx1 with z|⟨rfl,rfl⟩
  ·exact(h.s3 x n z).imp id λ⟨c,hc,m,hm,e⟩=>⟨c,hc,m,up hm,e⟩
  ·exact b4.imp id λ⟨c,hc,m,hm,e⟩=>⟨c,hc,m,up hm,e⟩
 ·rcases sp hn with z|⟨rfl,rfl⟩
  ·rcases h.i2 x hx1 c hc n z with⟨m,y1,y2⟩|y|y
   ·exact .inl ⟨m,y1,up y2⟩
   ·exact .inr (.inl ((hw _ _).mpr (.inl y)))
   ·rcases hx _ _ y with y|⟨y,rfl⟩
    ·exact .inr (.inr y)
    ·exact .inl ⟨N,by lia,me⟩
  ·exact .inr (.inl ((hw _ _).mpr (.inr ⟨rfl,(hbs x).mpr ⟨hx1,hc⟩⟩)))
 ·rcases h.i3 x n hn with⟨m,y1,y2⟩|y|y
  ·exact .inl ⟨m,y1,up y2⟩
  ·exact .inr (.inl ((hw _ _).mpr (.inl y)))
  ·rcases hx _ _ y with y|⟨rfl,rfl⟩
   ·exact .inr (.inr y)
   ·exact .inl ⟨n,au _,me⟩
 ·have old:Wt wq m x\/X m x->x∈ks/\((x,m)∈t0\/∃c∈kts x,∃n,(c,n)∈t++[(b,N)]/\m=n+1):=λz=>by
   obtain⟨y1,y2⟩:=h.i4 m x z
   exact⟨y1,y2.imp id λ⟨c,hc,n,hn,e⟩=>⟨c,hc,n,up hn,e⟩⟩
  rcases hm with hm|hm
  ·rcases(hw _ _).mp hm with y|⟨rfl,y⟩
   ·exact old (.inl y)
   ·obtain⟨y1,y2⟩:=(hbs x).mp y
    exact⟨y1,.inr ⟨b,y2,N,me,rfl⟩⟩
  ·exact old (.inr (hx' m x hm))
theorem Cu{t:List (Bt×Nat)}{b:Bt}{N:Nat}(nb:b∉t.map (·.1)):jf (cS t) (cB b) (V.int (N:Nat))=cS (t++[(b,N)]):=by
 rw[oY _ (pT λm z=>nb (aE.mpr ⟨_,z,rfl⟩))]
 unfold cS
 rw[aC];rfl
theorem Ct{t:List (Bt×Nat)}(nd:(t.map (·.1)).Nodup)(b:Bt):(de (cS t) (cB b)).isSome=decide (b∈t.map (·.1)):=by
 rw[Bool.eq_iff_iff,decide_eq_true_eq]
 constructor
 ·intro h
  rcases Classical.em (∃m,(b,m)∈t) with⟨m,hm⟩|z
  ·exact aE.mpr ⟨_,hm,rfl⟩
  ·rw[pT λm y=>z ⟨m,y⟩] at h;cases h
 ·intro h
  obtain⟨p,hp,rfl⟩:=aE.mp h
  rw[fg nd (m:=p.2) hp];rfl
theorem Gd{wq:Wq}(N:Nat):uX (wq.filter λe=>!decide (e.1=N))<=uX wq:=by
 induction wq with
 |nil=>exact au _
 |cons e r ih=>
  have cons:∀(e:Nat×Addr×List Bt) r,uX (e::r)=e.2.2.length+uX r:=λ_ _=>rfl
  rw[cO]
  split
  ·rw[cons,cons];lia
  ·rw[cons];lia
theorem xB{wq:Wq}{e:Nat×Addr×List Bt}(h:e∈wq):e.2.2.length<=uX wq:=by
 induction wq with
 |nil=>cases h
 |cons f r ih=>
  have:uX (f::r)=f.2.2.length+uX r:=rfl
  rcases aN.mp h with rfl|h
  ·lia
  ·have:=ih h;lia
theorem EY{wq:Wq}{N:Nat}{l:Addr}{bs:List Bt}(h:(N,l,bs)∈wq):(wq.filter λe=>!decide (e.1=N)).length<wq.length:=by
 induction wq with
 |nil=>cases h
 |cons e r ih=>
  rw[cO]
  have le:=bq (λe:Nat×Addr×List Bt=>!decide (e.1=N)) r
  split
  ·rcases aN.mp h with rfl|h
   ·rename_i c;simp at c
   ·have:=ih h
    rw[bD,bD];lia
  ·rw[bD];lia
theorem A2{K:Fg}{vs:List V}{H:Hp}{Q:VK}{E:XK}(h:jx K vs H Q E):tX K {nx:=λ_ H'=>Q .non H',rt:=Q} (start rV vs) H:=by
 obtain⟨_,v,ks,t0,n,rfl,⟨S,rfl,hS⟩,hcom,knd,kfew,klen,n1,n5,kcl,sub0,few0,q⟩:=h
 have hS:H S=some (.dT (cS t0)):=hS
 obtain⟨Dc,_,rfl,_⟩:=id hcom
 refine⟨_,rfl,.ref Dc,ks,n,rfl,hcom,knd,kfew,klen,n1,n5,kcl,?_⟩
 rintro _ H2 ⟨A,kvA,g,rfl,hA,nA,kA,totA,atA⟩ s2
 have kAl:=lz kA
 intro W nW
 show nK K _ [some (.ref S),some (.ref Dc),some (.ref A),some (.ref W),none,none,none,none] (aP H2 W (.dK []))
 have hS2:=s2 _ _ hS
 have nWS:W≠S:=λz=>by rw[z,hS2] at nW;cases nW
 have s3:aM H2 (aP H2 W (.dK [])):=(aM.refl H2).new nW
 have w3:zS H2 (aP H2 W (.dK [])) W []:=⟨aj,dh,dh,(λe he=>by cases he),(λe he=>by cases he)⟩
 generalize aP H2 W (.dK [])=H3 at s3 w3 ⊢
 refine⟨_,rfl,S,_,rfl,s3 _ _ hS2,λob=>?_⟩
 have s3f:∀{H':Hp},aM (aP H3 S (.frz ob (.dT (cS t0)))) H'->H' S=some (.frz ob (.dT (cS t0))):=λs=>gQ s
 refine sx (λi σ' H'=>∃o4 o5 wq,σ'=[some (.ref S),some (.ref Dc),some (.ref A),some (.ref W),o4,o5,none,none]/\zS (aP H2 S (.frz ob (.dT (cS t0)))) H' W wq/\aM (aP H2 S (.frz ob (.dT (cS t0)))) H'/\(∀m b,Wt wq m b↔(b,m)∈t0.take i)/\uX wq=i/\wq.length<=i) ?_ ?_ ?_ ?_
 ·refine⟨none,none,[],rfl,⟨by rw[az nWS];exact w3.at_,w3.nd,w3.lnd,(λe he=>by cases he),(λe he=>by cases he)⟩,λb u hb=>?_,(λm b=>⟨(λ⟨_,_,z,_⟩=>by cases z),(λz=>by rw[eZ] at z;cases z)⟩),rfl,au _⟩
  by_cases c:b=S
  ·rw[c,aj] at hb ⊢;exact hb
  ·rw[az c] at hb ⊢;exact s3 _ _ hb
 ·rintro i σ' H' _ ⟨_,_,_,_,_,s,_⟩;exact s _ _ aj
 ·rintro i k u pb p σ' H4 hk hpb np ⟨o4,o5,wq,rfl,w4,s4,wt4,tt,wl⟩
  obtain⟨⟨b,m⟩,hbm,e⟩:∃x,t0[i]?=some x/\(cB x.1,V.int (x.2:Nat))=(k,u):=by
   unfold cS at hk
   rw[aH] at hk
   cases e:t0[i]? with
   |none=>rw[e] at hk;cases hk
   |some x=>rw[e] at hk;exact⟨x,rfl,Option.some.inj hk⟩
  cases e
  rw[eD] at hpb
  have il:i<t0.length:=(ae.mp hbm).1
  refine⟨p,_,rfl,cE.of aj,rfl,_,_,rfl,_,_,rfl,rfl,?_⟩
  have s5:aM H4 (aP H4 p (.tup [.ref pb,.int (m:Nat)])):=(aM.refl H4).new np
  have w5:=w4.same s5
  show pN K _ [some (.ref S),some (.ref Dc),some (.ref A),some (.ref W),some (.ref pb),some (.int (m:Nat)),none,none] _
  generalize aP H4 p (.tup [.ref pb,.int (m:Nat)])=H5 at s5 w5 ⊢
  have nWf:aP H2 S (.frz ob (.dT (cS t0))) W=none:=by rw[az nWS];exact nW
  refine Cw (K:=K) (λR r=>⟨_,rfl,r⟩) (λR r=>⟨_,rfl,r⟩) w5 (by lia) (s4.trans s5) nWf λl us bs wq1 H6 w6 hm6 hl6 hA6 s6 wt6 k6 len6 tot6 kp6 ls6=>?_
  have hpW:pb≠W:=λz=>by have:=w4.at_;rw[<-z,hpb] at this;cases this
  have ub:us.length<=10000:=by rw[hA6.len];have:=xB hm6;have:bs.length<=uX wq1:=this;lia
  refine⟨.inl ⟨rfl,_,cq.of hl6⟩,_,rfl,l,us,.ref pb,rfl,rfl,hl6,bH (by lia),?_⟩
  have hpb6:=kp6 _ _ hpW (s5 _ _ hpb)
  have w7:=Gm w6 hm6 hl6 hA6 (bj.nil.snoc (v:=.ref pb) (r:=b) ⟨pb,rfl,hpb6⟩)
  refine⟨_,_,kW wq1 m ([]++[b]),rfl,w7,dE s6 (w6.new _ hm6),λk c=>?_,by rw[yv w6.nd hm6,tot6,tt];rfl,by unfold kW;rw[af];lia⟩
  rw[BJ hm6,wt6,wt4,eK hbm,eM,aA,ak,ak]
  constructor
  ·rintro(z|⟨rfl,rfl⟩)
   ·exact .inl z
   ·exact .inr rfl
  ·rintro(z|z)
   ·exact .inl z
   ·cases z;exact .inr ⟨rfl,rfl⟩
 ·rintro σ' H4 ⟨o4,o5,wq,rfl,w4,s4,wt4,tt,wl⟩
  rw[show(cS t0).length=t0.length from af ..] at tt wl wt4
  rw[bf] at wt4
  refine .inr ⟨S,cS t0,cS t0,ob,s3 _ _ hS2,s4 _ _ aj,?_⟩
  have s5:=jW hS2 s4
  have w5:zS H2 (aP H4 S (.dT (cS t0))) W wq:=by
   have t5:Tp H4 (aP H4 S (.dT (cS t0))):=λc xs hc=>by
    rw[az (λy=>by rw[y,s4 _ _ aj] at hc;cases hc)];exact hc
   refine⟨by rw[az nWS];exact w4.at_,w4.nd,w4.lnd,λe he=>?_,λe he=>?_⟩
   ·have:=w4.new e he
    by_cases c:e.2.1=S
    ·rw[c,aj] at this;cases this
    ·rw[az c] at this;exact this
   ·obtain⟨us,h1,h2⟩:=w4.lst e he
    exact⟨us,by rw[az (λy=>by rw[y,s4 _ _ aj] at h1;cases h1)];exact h1,h2.imp λ_ _ z=>ig.mono z t5⟩
  show pM K _ [some (.ref S),some (.ref Dc),some (.ref A),some (.ref W),o4,o5,none,none] _
  generalize aP H4 S (.dT (cS t0))=H5 at s5 w5 ⊢
  intro F nF
  have nFH2:H2 F=none:=s5.free nF
  have nFW:F≠W:=(aJ w5.at_ nF).symm
  have s6:=s5.new (o:=.dT []) nF
  have w6:=w5.same ((aM.refl H5).new (o:=.dT []) nF)
  have hF6:aP H5 F (.dT []) F=some (.dT (cS [])):=aj
  show pL K _ [some (.ref S),some (.ref Dc),some (.ref A),some (.ref W),o4,o5,some (.ref F),none] _
  generalize aP H5 F (.dT [])=H6 at s6 w6 hF6 ⊢
  have tlen:∀t:List (Bt×Nat),(t.map (·.1)).Nodup->(∀b n,(b,n)∈t->b∈ks)->t.length<=7776:=λt nd sb=>by
   have:=j9 nd (zs:=ks) λb hb=>by
    obtain⟨p,hp,rfl⟩:=aE.mp hb
    exact sb p.1 p.2 hp
   rw[af] at this
   lia
  refine⟨λm σ' H'=>∃o4 o5 o7 t wq,σ'=[some (.ref S),some (.ref Dc),some (.ref A),some (.ref W),o4,o5,some (.ref F),o7]/\D8 ks t0 t wq (λ_ _=>False)/\zS H2 H' W wq/\H' F=some (.dT (cS t))/\(∀b n,(b,n)∈t->∀k∈wq.map (·.1),n<=k)/\uX wq+xg ks g t<=50000/\2*(7776-t.length)+wq.length<=m/\m<=30000/\aM H2 H',
   ⟨2*7776+wq.length,o4,o5,none,[],wq,rfl,⟨dh,(λ_ _ h=>by cases h),(λ_ _ h=>by cases h),(λ_ _ _ _ _ h=>by cases h),λb n h=>.inr (.inl ((wt4 n b).mpr h)),λm b h=>?_⟩,w6,hF6,(λ_ _ h=>by cases h),by rw[FK];lia,by show 2*(7776-0)+_<=_;lia,by lia,s6⟩,?_⟩
  ·rcases h with h|h
   ·have:=(wt4 m b).mp h
    exact⟨sub0 b m this,.inl this⟩
   ·cases h
  rintro M σ' H7 ⟨o4,o5,o7,t,wq,rfl,sp,w7,hF7,ord,cap,hM,hMb,s7⟩
  refine⟨_,rfl,W,_,rfl,w7.at_,_,_,rfl,rfl,_,rfl,?_⟩
  have tl7:=tlen t sp.nd sp.sub
  refine di (λhl=>?_) (λhl=>?_)
  ·have wpos:0<wq.length:=by
    have:(qt wq).length=wq.length:=af ..
    rw[this] at hl;lia
   refine⟨λσ' H'=>∃m',m'<M/\∃o4 o5 o7 t wq,σ'=[some (.ref S),some (.ref Dc),some (.ref A),some (.ref W),o4,o5,some (.ref F),o7]/\D8 ks t0 t wq (λ_ _=>False)/\zS H2 H' W wq/\H' F=some (.dT (cS t))/\(∀b n,(b,n)∈t->∀k∈wq.map (·.1),n<=k)/\uX wq+xg ks g t<=50000/\2*(7776-t.length)+wq.length<=m'/\m'<=30000/\aM H2 H',λ_ _ z=>z,?_⟩
   refine⟨_,rfl,W,_,rfl,.inl w7.at_,(λz=>by have:(qt wq).length=wq.length:=af ..;rw[z] at this;simp at this;lia),(λkv hkv=>by obtain⟨e,_,rfl⟩:=aE.mp hkv;exact⟨_,rfl⟩),λmm hm1 hm2=>?_⟩
   obtain⟨v,hv⟩:=hm1
   obtain⟨⟨N,l,bs⟩,hN,eN⟩:=aE.mp hv
   have e1:(N:Int)=mm:=by
    have:=congrArg Prod.fst eN
    injection this
   subst e1
   have minN:∀k∈wq.map (·.1),N<=k:=λk hk=>by
    obtain⟨e,he,rfl⟩:=aE.mp hk
    have:=hm2 (e.1:Int) (.ref e.2.1) (aE.mpr ⟨e,he,rfl⟩)
    lia
   obtain⟨vN,w8,nl8⟩:=IC w7 nW s7 hN
   obtain⟨us,hl7,hA7⟩:=w7.lst _ hN
   have hl7:H7 l=some (.lst us):=hl7
   have hA7:bj (ig H7) us bs:=hA7
   have lW:l≠W:=λz=>by have:=w7.at_;rw[<-z,hl7] at this;cases this
   have lF:l≠F:=λz=>by rw[z,hF7] at hl7;cases hl7
   have lnew:H2 l=none:=w7.new _ hN
   show pK K _ [some (.ref S),some (.ref Dc),some (.ref A),some (.ref W),o4,some (.int (N:Nat)),some (.ref F),o7] H7
   refine⟨_,rfl,W,rfl,.inl ⟨_,.inl w7.at_⟩,_,rfl,_,Sum.inl (N:Int),.ref l,w7.at_,rfl,vN,?_⟩
   have t8:Tp H7 (aP H7 W (.dK (jt (qt wq) (Sum.inl (N:Int))))):=λc xs hc=>by
    rw[az (λy=>by rw[y,w7.at_] at hc;cases hc)];exact hc
   have hl8:aP H7 W (.dK (jt (qt wq) (Sum.inl (N:Int)))) l=some (.lst us):=by rw[az lW];exact hl7
   have hF8:aP H7 W (.dK (jt (qt wq) (Sum.inl (N:Int)))) F=some (.dT (cS t)):=by rw[az nFW];exact hF7
   have s8:aM H2 (aP H7 W (.dK (jt (qt wq) (Sum.inl (N:Int))))):=dE s7 nW
   have hA8:=hA7.imp λ_ _ z=>ig.mono z t8
   show pJ K _ [some (.ref S),some (.ref Dc),some (.ref A),some (.ref W),o4,some (.int (N:Nat)),some (.ref F),some (.ref l)] _
   generalize aP H7 W (.dK (jt (qt wq) (Sum.inl (N:Int))))=H8 at w8 t8 hl8 hF8 s8 hA8 ⊢
   have td:=Gd (wq:=wq) N
   have ld:=EY hN
   have bsl:=xB hN
   have kd:∀k∈(wq.filter λe=>!decide (e.1=N)).map (·.1),N<k:=λk hk=>by
    obtain⟨e,he,rfl⟩:=aE.mp hk
    obtain⟨h1,h2⟩:=bb.mp he
    have:=minN e.1 (aE.mpr ⟨e,h1,rfl⟩)
    have:e.1≠N:=by simpa using h2
    lia
   have wtd:∀m b,Wt wq m b->Wt (wq.filter λe=>!decide (e.1=N)) m b\/(m=N/\b∈bs):=λm b ⟨l',bs',h1,h2⟩=>by
    by_cases c:m=N
    ·subst c
     right
     refine⟨rfl,?_⟩
     have:=(xC (m:=m) w7.nd).1
     obtain⟨i,hi,ei⟩:=aT.mp h1
     obtain⟨j,hj,ej⟩:=aT.mp hN
     have:i=j:=(du (l:=wq.map (·.1)) (by rw[af];exact hi) w7.nd).mp (by
      rw[aH,aH,aa hi,aa hj,ei,ej];rfl)
     subst this
     rw[ei] at ej;cases ej;exact h2
    ·exact .inl ⟨l',bs',bb.mpr ⟨h1,by simpa using c⟩,h2⟩
   have wtd':∀m b,Wt (wq.filter λe=>!decide (e.1=N)) m b->Wt wq m b:=λm b ⟨l',bs',h1,h2⟩=>⟨l',bs',(bb.mp h1).1,h2⟩
   have sp8:D8 ks t0 t (wq.filter λe=>!decide (e.1=N)) (λm b=>m=N/\b∈bs.drop 0):=by
    refine⟨sp.nd,sp.sub,sp.s3,λx hx c hc n hn=>?_,λx n hn=>?_,λm x hm=>?_⟩
    ·rcases sp.i2 x hx c hc n hn with z|z|z
     ·exact .inl z
     ·exact .inr (wtd _ _ z)
     ·cases z
    ·rcases sp.i3 x n hn with z|z|z
     ·exact .inl z
     ·exact .inr (wtd _ _ z)
     ·cases z
    ·rcases hm with z|⟨rfl,z⟩
     ·exact sp.i4 m x (.inl (wtd' _ _ z))
     ·exact sp.i4 m x (.inl ⟨l,bs,hN,z⟩)
   have ord8:∀b n,(b,n)∈t->n<=N:=λb n h=>ord b n h N (aE.mpr ⟨_,hN,rfl⟩)
   generalize (wq.filter λe=>!decide (e.1=N))=wq8 at w8 nl8 td ld kd sp8
   refine .inl ⟨_,rfl,l,rfl,⟨_,cq.of hl8⟩,sy (xs:=us) (λj σ' H'=>∃o4 t wq,σ'=[some (.ref S),some (.ref Dc),some (.ref A),some (.ref W),o4,some (.int (N:Nat)),some (.ref F),some (.ref l)]/\D8 ks t0 t wq (λm b=>m=N/\b∈bs.drop j)/\zS H2 H' W wq/\H' F=some (.dT (cS t))/\(∀b n,(b,n)∈t->n<=N)/\(∀k∈wq.map (·.1),N<k)/\uX wq+xg ks g t<=50000/\2*(7776-t.length)+wq.length<=M-1/\l∉wq.map (·.2.1)/\H' l=some (.lst us)/\bj (ig H') us bs/\aM H2 H')
    ⟨_,t,wq8,rfl,sp8,w8,hF8,ord8,kd,by lia,by lia,nl8,hl8,hA8,s8⟩ ?_ ?_ ?_⟩
   ·rintro j σ' H' _ ⟨_,_,_,_,_,_,_,_,_,_,_,_,h,_⟩;exact cq.of h
   ·rintro j x σ' H9 hx ⟨o4',t9,wq9,rfl,sp9,w9,hF9,ord9,kd9,cap9,ms9,nl9,hl9,hA9,s9⟩
    obtain⟨b,hb,⟨pb,rfl,hpb⟩⟩:=hA9.of_v hx
    have tl9:=tlen t9 sp9.nd sp9.sub
    have dj:bs.drop j=b::bs.drop (j+1):=by
     obtain⟨hi,e⟩:=ae.mp hb
     rw[bM hi,e]
    have hXb:(λm c=>m=N/\c∈bs.drop j) N b:=⟨rfl,by rw[dj];exact bg⟩
    have hx1:∀m c,(m=N/\c∈bs.drop j)->(m=N/\c∈bs.drop (j+1))\/(m=N/\c=b):=λm c ⟨h1,h2⟩=>by
     rw[dj] at h2
     rcases aN.mp h2 with z|z
     ·exact .inr ⟨h1,z⟩
     ·exact .inl ⟨h1,z⟩
    have hx2:∀m c,(m=N/\c∈bs.drop (j+1))->(m=N/\c∈bs.drop j):=λm c ⟨h1,h2⟩=>⟨h1,by rw[dj];exact bh _ h2⟩
    have bk:=(sp9.i4 N b (.inr hXb)).1
    show pI K _ [some (.ref S),some (.ref Dc),some (.ref A),some (.ref W),some (.ref pb),some (.int (N:Nat)),some (.ref F),some (.ref l)] H9
    refine⟨_,rfl,_,rfl,F,_,rfl,mO hF9 hpb rfl,_,rfl,?_⟩
    rw[show(if true=true then !(de (cS t9) (cB b)).isSome else(de (cS t9) (cB b)).isSome)=!decide (b∈t9.map (·.1)) from by rw[<-Ct sp9.nd];rfl]
    refine og (λnb=>?_) (λyb=>?_)
    ·refine⟨_,rfl,_,rfl,_,rfl,F,_,rfl,zV.t hF9 (by rw[eD];exact hpb) (bH (by unfold cS;rw[af];lia)),?_⟩
     rw[Cu nb]
     have t10:Tp H9 (aP H9 F (.dT (cS (t9++[(b,N)])))):=λc xs hc=>by
      rw[az (λy=>by rw[y,hF9] at hc;cases hc)];exact hc
     have w10:zS H2 (aP H9 F (.dT (cS (t9++[(b,N)])))) W wq9:=⟨by rw[az (Ne.symm nFW)];exact w9.at_,w9.nd,w9.lnd,w9.new,λe he=>by
      obtain⟨us',h1,h2⟩:=w9.lst e he
      exact⟨us',by rw[az (λy=>by rw[y,hF9] at h1;cases h1)];exact h1,h2.imp λ_ _ z=>ig.mono z t10⟩⟩
     have hl10:aP H9 F (.dT (cS (t9++[(b,N)]))) l=some (.lst us):=by rw[az lF];exact hl9
     have hF10:aP H9 F (.dT (cS (t9++[(b,N)]))) F=some (.dT (cS (t9++[(b,N)]))):=aj
     have s10:aM H2 (aP H9 F (.dT (cS (t9++[(b,N)])))):=dE s9 nFH2
     have hA10:=hA9.imp λ_ _ z=>ig.mono z t10
     have hpb10:=t10 _ _ hpb
     show pH K _ [some (.ref S),some (.ref Dc),some (.ref A),some (.ref W),some (.ref pb),some (.int (N:Nat)),some (.ref F),some (.ref l)] _
     generalize aP H9 F (.dT (cS (t9++[(b,N)])))=H10 at w10 hl10 hF10 s10 hA10 hpb10 ⊢
     obtain⟨c,hc⟩:=yz bk
     have cl:=(ae.mp hc).1
     have kvc:kvA[c]?=some kvA[c]:=aa (by lia)
     obtain⟨b',hb',ek⟩:=jP kA (i:=c) (k:=kvA[c].1) (v:=kvA[c].2) kvc
     rw[hc] at hb';cases hb'
     obtain⟨la,ua,ba,eu,hla,_,hba,gl,mba⟩:=atA c _ _ b kvc hc
     have vA:de kvA (cB b)=some (.ref la):=Gh (i:=c) (by rw[kA];exact wQ knd) (kvc.trans (congrArg some (Prod.ext ek eu)))
     have gc:=Km (g:=g) hc nb
     have rf:=Di knd (g:=g) (N:=N) hc nb
     refine Cw (K:=K) (m:=N+1) (λR r=>⟨_,rfl,r⟩) (λR r=>⟨_,rfl,.inl ⟨_,_,rfl,rfl,by show R (.int ((N:Int)+1)) H10;rw[show((N:Nat):Int)+1=((N+1:Nat):Int) by lia];exact r⟩⟩) w10 (by lia) s10 nW λl2 us2 bs2 wq11 H11 w11 hm11 hl11 hA11 s11 wt11 k11 len11 tot11 kp11 ls11=>?_
     have hA2:=s11 _ _ hA
     have hpbW:pb≠W:=λz=>by have:=w10.at_;rw[<-z,hpb10] at this;cases this
     have b2l:bs2.length<=uX wq11:=xB hm11
     have lla:H11 la=some (.lst ua):=s11 _ _ hla
     have hba11:=hba.imp λ_ _ z=>ig.mono z (Tp.of_same s11)
     refine⟨.inl ⟨rfl,_,cq.of hl11⟩,_,rfl,_,rfl,A,_,rfl,mO hA2 (kp11 _ _ hpbW hpb10) vA,l2,la,us2,ua,rfl,rfl,hl11,lla,bR (bH (by rw[hA11.len,hba11.len,gl];lia)),?_⟩
     have w12:=Gm w11 hm11 hl11 hA11 hba11
     have l2l:l2≠l:=λz=>by
      rcases ls11 _ hm11 with y|y
      ·have hz:l2∉wq9.map (·.2.1):=by rw[z];exact nl9
       exact hz y
      ·have y:H10 l2=none:=y
       rw[z,hl10] at y;cases y
     have t12:Tp H11 (aP H11 l2 (.lst (us2++ua))):=(Tp.refl H11).lst hl11
     have F11:=kp11 _ _ nFW hF10
     have l11:=kp11 _ _ lW hl10
     have wl12:(kW wq11 (N+1) ba).length=wq11.length:=by unfold kW;rw[af]
     have sp12:D8 ks t0 (t9++[(b,N)]) (kW wq11 (N+1) ba) (λm c=>m=N/\c∈bs.drop (j+1)):=sp9.put nb hXb hx1 hx2 (λk x=>by rw[BJ hm11,wt11]) mba
     have tl12:=tlen _ sp12.nd sp12.sub
     have al:(t9++[(b,N)]).length=t9.length+1:=by rw[ai];rfl
     refine⟨_,t9++[(b,N)],kW wq11 (N+1) ba,rfl,sp12,w12,by rw[az (λy=>by rw[y,hl11] at F11;cases F11)];exact F11,λx n hn=>?_,λk hk=>?_,by rw[yv w11.nd hm11,tot11,gl];lia,by rw[wl12];lia,λz=>?_,by rw[az (Ne.symm l2l)];exact l11,?_,dE s11 (w11.new _ hm11)⟩
     ·rcases aA.mp hn with z|z
      ·exact ord9 x n z
      ·have:=ak.mp z
       cases this;exact au _
     ·rw[ve] at hk
      rcases(k11 k).mp hk with z|z
      ·exact kd9 k z
      ·lia
     ·rw[BI] at z
      obtain⟨e,he,e1⟩:=aE.mp z
      have e1:e.2.1=l:=e1
      rcases ls11 e he with y|y
      ·rw[e1] at y;exact nl9 y
      ·rw[e1,hl10] at y;cases y
     ·refine hA10.imp λ_ _ z=>?_
      obtain⟨pp,e1,hp⟩:=z
      have nw:pp≠W:=λy=>by have:=w10.at_;rw[<-y,hp] at this;cases this
      exact⟨pp,e1,t12 _ _ (kp11 _ _ nw hp)⟩
    ·obtain⟨⟨b',k⟩,hk,e1⟩:=aE.mp yb
     have e1:b'=b:=e1
     subst e1
     exact⟨_,t9,wq9,rfl,sp9.skip hk (ord9 _ _ hk) hx1 hx2,w9,hF9,ord9,kd9,cap9,ms9,nl9,hl9,hA9,s9⟩
   ·rintro σ' H9 ⟨o4',t9,wq9,rfl,sp9,w9,hF9,ord9,kd9,cap9,ms9,nl9,hl9,hA9,s9⟩
    rw[hA9.len,fi] at sp9
    refine⟨M-1,by lia,_,_,_,t9,wq9,rfl,⟨sp9.nd,sp9.sub,sp9.s3,λx hx c hc n hn=>?_,λx n hn=>?_,λm x hm=>sp9.i4 m x (hm.imp id λz=>by cases z)⟩,w9,hF9,λx n hn k hk=>?_,cap9,ms9,by lia,s9⟩
    ·rcases sp9.i2 x hx c hc n hn with z|z|z
     ·exact .inl z
     ·exact .inr (.inl z)
     ·cases z.2
    ·rcases sp9.i3 x n hn with z|z|z
     ·exact .inl z
     ·exact .inr (.inl z)
     ·cases z.2
    ·have:=ord9 x n hn
     have:=kd9 k hk
     lia
  ·have w0:wq=[]:=by
    have h1:(qt wq).length=wq.length:=af ..
    rw[h1] at hl
    exact aS.mp (by lia)
   subst w0
   have nw:∀m b,¬Wt [] m b:=λm b ⟨_,_,z,_⟩=>by cases z
   show pG K _ [some (.ref S),some (.ref Dc),some (.ref A),some (.ref W),o4,o5,some (.ref F),o7] H7
   refine⟨_,rfl,q (.ref F) t H7 ⟨F,rfl,hF7⟩ ⟨sp.nd,sp.sub,λb n h=>?_,λb hb c hc n hn=>?_,sp.s3⟩ (s2.trans s7)⟩
   ·rcases sp.i3 b n h with z|z|z
    ·exact z
    ·exact absurd z (nw _ _)
    ·cases z
   ·rcases sp.i2 b hb c hc n hn with z|z|z
    ·exact z
    ·exact absurd z (nw _ _)
    ·cases z
theorem oI.same{H H':Hp}{v:V}{t:List (Bt×Nat)}(h:oI H v t)(s:aM H H'):oI H' v t:=let⟨D,e,hD⟩:=h;⟨D,e,s _ _ hD⟩
theorem oI.but{H:Hp}{v:V}{t:List (Bt×Nat)}{L:Addr}{us xs:List V}(h:oI H v t)(hL:H L=some (.lst us)):oI (aP H L (.lst xs)) v t:=by
 obtain⟨D,e,hD⟩:=h
 exact⟨D,e,by rw[az (λz=>by rw[z,hL] at hD;cases hD)];exact hD⟩
theorem sF{K:Fg}{p:Addr}{xs:List V}{v:V}{H:Hp}{Q:VK}(h:H p=some (.lst xs))(e:xs[xs.length-1]?=some v)(q:Q v H):eU K (.ref p) (.int (-1)) H Q:=by
 rcases gC xs with z|⟨ys,w,z⟩
 ·rw[z] at e;cases e
 ·rw[gB] at z
  subst z
  rw[ai,aI,cx,ao (au _),a9] at e
  have:w=v:=Option.some.inj e
  subst this
  exact .inl ⟨p,_,-1,w,rfl,rfl,cq.of h,Ed ys w,q⟩
theorem Cm.turn{n:Nat}{b0:Bt}{ws:List Wk}{pss:List (List Str)}{kss:List (List Bt)}(c:Cm n b0 ws pss kss)(pl:pss.length=ws.length+1){k:Nat}{ks:List Bt}(h:kss[k]?=some ks):∃ss ebs,Gw n ss/\ly n ss ebs ks:=by
 have kl:k<kss.length:=(ae.mp h).1
 have cl:=c.len
 cases k with
 |zero=>
  have hp:pss[0]?=some (pss[0]'(by lia)):=aa _
  exact⟨_,_,c.dim _ (aG hp),c.fst ks _ h hp⟩
 |succ k=>
  have hp:pss[k+1]?=some (pss[k+1]'(by lia)):=aa _
  have hw:ws[k]?=some (ws[k]'(by lia)):=aa _
  have hk:kss[k]?=some (kss[k]'(by lia)):=aa _
  exact⟨_,_,c.dim _ (aG hp),c.nxt k _ ks _ _ hk h hw hp⟩
structure L5(n:Nat)(ws:List Wk)(pss:List (List Str))(ord:Bt)(kss:List (List Bt))(i:Nat)(tr:List (List (Bt×Nat))):Prop where
 len:tr.length=i+1
 nd:∀t∈tr,(t.map (·.1)).Nodup
 fin:∀ks t,kss[ws.length]?=some ks->tr[0]?=some t->∃t0,jH ks t0 t/\∀b m,(b,m)∈t0↔b∈ks/\zO ord b=true/\m=0
 mid:∀(j:Nat) ks t t' w ss,j<i->kss[ws.length-1-j]?=some ks->tr[j+1]?=some t->tr[j]?=some t'->ws[ws.length-1-j]?=some w->pss[ws.length-j]?=some ss->∃t0,jH ks t0 t/\∀b m,(b,m)∈t0↔b∈ks/\(jg b w.out ss,m)∈t'
theorem y0{K:Fg}{vs:List V}{H:Hp}{Q:VK}{E:XK}(h:kx K vs H Q E):qP K {nx:=λ_ H'=>Q .non H',rt:=Q} (start jo vs) H:=by
 obtain⟨bp,wp,lt,op,n,b0,ord,ws,last,dd,rfl,src,wks,fw,hop,ol,dims,q⟩:=h
 obtain⟨wvs,hwp,hW⟩:=src.wks
 have wfew:=src.few
 refine⟨_,rfl,_,rfl,wp,lt,ws,last,dd,rfl,wks,fw,λP tvs pss H1 nP hP hT pts s1=>?_⟩
 show lU K _ [some (.ref bp),some (.ref wp),some (.ref lt),some (.ref op),some (.ref P),none,none,none,none,none,none,none] H1
 have pl:=pts.len
 have src1:CI H1 n b0 ws bp wp:=⟨s1 _ _ src.bp,src.len,⟨wvs,s1 _ _ hwp,hW.imp λ_ _ z=>z.tp (Tp.of_same s1)⟩,src.few⟩
 refine⟨_,rfl,_,rfl,_,rfl,bp,wp,P,tvs,n,b0,ws,pss,rfl,src1,hP,hT,pl,dims pss pts,λC cvs kss H2 hC hcA cm s2=>?_⟩
 show ny K _ [some (.ref bp),some (.ref wp),some (.ref lt),some (.ref op),some (.ref P),some (.ref C),none,none,none,none,none,none] H2
 have s02:=s1.trans s2
 have kl:=cm.len
 have cl:cvs.length=ws.length+1:=by rw[hcA.len];exact kl
 obtain⟨_,ks,ec,ek,hcom⟩:=hcA.get (i:=ws.length) (by lia)
 obtain⟨ssM,ebM,dM,tM⟩:=cm.turn pl ek
 obtain⟨D,kvs,rfl,hD,hkeys,hvals⟩:=id hcom
 have kvl:=lz hkeys
 have n1:=dM.pos
 have n5:=dM.n5
 refine⟨_,rfl,1,rfl,sF (v:=.ref D) hC (by rw[cl];exact ec) ⟨D,kvs,rfl,hD,λob E' nE=>?_⟩⟩
 have nEH:H2 E'=none:=by
  by_cases z:E'=D
  ·rw[z,aj] at nE;cases nE
  ·rw[az z] at nE;exact nE
 refine nX (λj σ' H'=>∃o10 us,σ'=[some (.ref bp),some (.ref wp),some (.ref lt),some (.ref op),some (.ref P),some (.ref C),none,none,none,none,o10,none]/\H' E'=some (.lst us)/\bj (ig H') us ((ks.take j).filter λb=>zO ord b)/\aM (aP H2 D (.frz ob (.dT kvs))) H') ⟨none,[],rfl,aj,bj.nil,(aM.refl _).new nE⟩ ?_ ?_ ?_
 ·rintro j σ' H' _ ⟨_,_,_,_,_,s⟩;exact gQ s
 ·rintro j k kv pb σ' H3 hk hpb ⟨o10,us,rfl,hE,hA,s3⟩
  obtain⟨b,hb,rfl⟩:=jP hkeys hk
  rw[eD] at hpb
  have bl:=(tM.inn b (aG hb)).len
  have jl:j<ks.length:=(ae.mp hb).1
  have kf:=tM.few
  have ul:us.length<=j:=by
   rw[hA.len]
   have:=bq (λb=>zO ord b) (ks.take j)
   rw[aR] at this
   lia
  have hop3:H3 op=some (.tup (cL ord)):=wH s3 hD (s02 _ _ hop) λ_ z=>by cases z
  show jI E' _ _ _ [some (.ref bp),some (.ref wp),some (.ref lt),some (.ref op),some (.ref P),some (.ref C),none,none,none,none,some (.ref pb),none] H3
  refine⟨_,rfl,_,rfl,op,pb,ord,b,rfl,hop3,hpb,by rw[ol,bl],by lia,λH4 s4=>⟨_,rfl,?_⟩⟩
  rw[oQ hb]
  cases hh:zO ord b with
  |true=>
   refine qa ⟨_,rfl,us,s4 _ _ hE,bH (by lia),_,us++[.ref pb],rfl,aj,?_,dE (s3.trans s4) nE⟩
   have t5:Tp H4 (aP H4 E' (.lst (us++[.ref pb]))):=(Tp.refl H4).lst (s4 _ _ hE)
   rw[if_pos rfl]
   exact(hA.imp λ_ _ z=>ig.mono z ((Tp.of_same s4).trans t5)).snoc ⟨pb,rfl,t5 _ _ (s4 _ _ hpb)⟩
  |false=>
   refine iE ⟨_,us,rfl,s4 _ _ hE,?_,s3.trans s4⟩
   rw[if_neg (by decide),eL]
   exact hA.imp λ_ _ z=>ig.mono z (.of_same s4)
 rintro σ' H3 ⟨o10,us,_,hE,hA,s3⟩
 rw[kvl,bf] at hA
 refine .inr ⟨D,kvs,kvs,ob,hD,gQ s3,?_⟩
 have s4:=jW hD s3
 have nED:E'≠D:=(aJ hD nEH).symm
 have t4:Tp H3 (aP H3 D (.dT kvs)):=λc xs hc=>by
  rw[az (λz=>by rw[z,gQ s3] at hc;cases hc)];exact hc
 have hE4:aP H3 D (.dT kvs) E'=some (.lst us):=by rw[az nED];exact hE
 have hA4:=hA.imp λ_ _ z=>ig.mono z t4
 show nv K _ [some (.ref bp),some (.ref wp),some (.ref lt),some (.ref op),some (.ref P),some (.ref C),some (.ref E'),none,none,none,none,none] _
 generalize aP H3 D (.dT kvs)=H4 at s4 hE4 hA4 ⊢
 have s04:=s02.trans s4
 have kf:=tM.few
 have fl:(ks.filter λb=>zO ord b).length<=7776:=a8 (bq _ _) kf
 have fnd':(ks.filter λb=>zO ord b).Nodup:=List.Sublist.nodup iK tM.nd
 have fsub:∀b∈ks.filter (λb=>zO ord b),b∈ks/\zO ord b=true:=λb hb=>⟨(bb.mp hb).1,(bb.mp hb).2⟩
 have fsup:∀b∈ks,zO ord b=true->b∈ks.filter (λb=>zO ord b):=λb hb h=>bb.mpr ⟨hb,h⟩
 generalize ks.filter (λb=>zO ord b)=fs at hA4 fl fnd' fsub fsup
 have ulen:us.length=fs.length:=hA4.len
 refine .inl ⟨_,rfl,E',rfl,⟨_,cq.of hE4⟩,λG nG=>?_⟩
 refine jQ (xs:=us) (λj σ' H'=>∃(o10:Option V) (ts:List Addr),σ'=[some (.ref bp),some (.ref wp),some (.ref lt),some (.ref op),some (.ref P),some (.ref C),some (.ref E'),none,none,none,o10,none]/\H' G=some (.lst (ts.map V.ref))/\ts.length=j/\(∀(i:Nat) t b,ts[i]?=some t->fs[i]?=some b->∃x,H' t=some (.tup [.ref x,.int 0])/\H' x=some (.tup (cL b)))/\aM H4 H') ⟨none,[],rfl,aj,rfl,(λi t b h=>by simp at h),(aM.refl _).new nG⟩ ?_ ?_ ?_
 ·rintro j σ' H' _ ⟨_,_,_,_,_,_,s⟩;exact cq.of (s _ _ hE4)
 ·rintro j x σ' H5 hx ⟨o10,ts,rfl,hG,tl,prs,s5⟩
  obtain⟨b,hb,⟨pb,rfl,hpb⟩⟩:=hA4.of_v hx
  have jl:j<fs.length:=(ae.mp hb).1
  refine fm ⟨_,rfl,(by show 2<=sizeLine;decide),λt nt=>?_⟩
  have s6:aM H5 (aP H5 t (.tup [.ref pb,.int 0])):=(aM.refl H5).new nt
  have ht:aP H5 t (.tup [.ref pb,.int 0]) t=some (.tup [.ref pb,.int 0]):=aj
  generalize aP H5 t (.tup [.ref pb,.int 0])=H6 at s6 ht ⊢
  have t7:Tp H6 (aP H6 G (.lst (ts.map V.ref++[.ref t]))):=(Tp.refl H6).lst (s6 _ _ hG)
  refine⟨_,s6 _ _ hG,bH (by rw[af];lia),_,ts++[t],rfl,by rw[aj,aC];rfl,by rw[ai,tl];rfl,λi t' b' h1 h2=>?_,dE (s5.trans s6) nG⟩
  by_cases c:i<j
  ·rw[ar (by lia)] at h1
   obtain⟨x,a1,a2⟩:=prs i t' b' h1 h2
   exact⟨x,t7 _ _ (s6 _ _ a1),t7 _ _ (s6 _ _ a2)⟩
  ·have ij:i=j:=by
    have:=(ae.mp h1).1
    rw[ai,aI] at this
    lia
   subst ij
   rw[ao (by lia),tl,a9] at h1
   rw[hb] at h2;cases h2
   have h1:t=t':=Option.some.inj h1
   subst h1
   exact⟨pb,t7 _ _ ht,t7 _ _ (s6 _ _ (s5 _ _ hpb))⟩
 rintro σ' H5 ⟨o10',ts,_,hG,tl,prs,s5⟩
 rw[ulen] at tl
 have tk:(fs.map λb=>(cB b,V.int ((0:Nat):Int)))=cS (fs.map λb=>(b,0)):=by unfold cS;rw[cU];rfl
 refine⟨G,_,fs.map λb=>(cB b,V.int ((0:Nat):Int)),rfl,hG,by rw[af,af,tl],by rw[af];lia,λj x k v e1 e2=>?_,λS0 nS0=>?_⟩
 ·rw[aH] at e1 e2
  cases et:ts[j]? with
  |none=>rw[et] at e1;cases e1
  |some t=>
   rw[et] at e1;cases e1
   cases ef:fs[j]? with
   |none=>rw[ef] at e2;cases e2
   |some b=>
    rw[ef] at e2;cases e2
    obtain⟨x,a1,a2⟩:=prs j t b et ef
    exact⟨t,x,rfl,a1,by rw[eD];exact a2⟩
 rw[qb (kvs:=[]) (by
  rw[eM,cU]
  exact wQ fnd'),eM,tk]
 have s6:aM H5 (aP H5 S0 (.dT (cS (fs.map λb=>(b,0))))):=(aM.refl H5).new nS0
 have hS6:aP H5 S0 (.dT (cS (fs.map λb=>(b,0)))) S0=some (.dT (cS (fs.map λb=>(b,0)))):=aj
 generalize aP H5 S0 (.dT (cS (fs.map λb=>(b,0))))=H6 at s6 hS6 ⊢
 have s26:=(s4.trans s5).trans s6
 have s06:=s02.trans s26
 refine⟨_,rfl,1,rfl,sF (v:=.ref D) (s26 _ _ hC) (by rw[cl];exact ec) ⟨.ref S0,.ref D,ks,fs.map λb=>(b,0),n,rfl,⟨S0,rfl,hS6⟩,hcom.same s26,tM.nd,kf,λb hb=>(tM.inn b hb).len,n1,n5,tM.cl,λb m hm=>?_,by rw[af];exact fl,λr t H7 hr spr s7=>⟨(by show 1<=sizeLine;decide),λT nT=>?_⟩⟩⟩
 ·obtain⟨c,hc,e⟩:=aE.mp hm
  cases e;exact(fsub _ hc).1
 have s27:=(s26.trans s7).new (o:=.lst [r]) nT
 have hT7:aP H7 T (.lst [r]) T=some (.lst [r]):=aj
 have hr7:=hr.same ((aM.refl H7).new (o:=.lst [r]) nT)
 have nTH2:H2 T=none:=(s26.trans s7).free nT
 show nj K _ [some (.ref bp),some (.ref wp),some (.ref lt),some (.ref op),some (.ref P),some (.ref C),some (.ref E'),some (.ref T),none,none,none,none] _
 generalize aP H7 T (.lst [r])=H8 at s27 hT7 hr7 ⊢
 have tr0:L5 n ws pss ord kss 0 [t]:=⟨rfl,(λt' h=>by rw[ak.mp h];exact spr.nd),(λks' t' h1 h2=>by
  rw[ek] at h1;cases h1;cases h2
  refine⟨_,spr,λb m=>⟨λh=>?_,λ⟨h1,h2,h3⟩=>?_⟩⟩
  ·obtain⟨c,hc,e⟩:=aE.mp h
   cases e
   exact⟨(fsub _ hc).1,(fsub _ hc).2,rfl⟩
  ·subst h3
   exact aE.mpr ⟨b,fsup b h1 h2,rfl⟩),λj _ _ _ _ _ h=>absurd h (dy _)⟩
 refine⟨_,rfl,_,_,rfl,.inr ⟨_,cE.of (s27 _ _ (s02 _ _ hwp)),rfl⟩,_,_,rfl,rfl,1,rfl,1,rfl,_,rfl,by lia,by rw[hW.len];lia,Ez (λi σ' H'=>∃o8 o9 o10 o11 tvs' tr,σ'=[some (.ref bp),some (.ref wp),some (.ref lt),some (.ref op),some (.ref P),some (.ref C),some (.ref E'),some (.ref T),o8,o9,o10,o11]/\H' T=some (.lst tvs')/\bj (oI H') tvs' tr/\L5 n ws pss ord kss i tr/\aM H2 H') ⟨none,none,none,none,[r],[t],rfl,hT7,bj.nil.snoc hr7,tr0,s27⟩ ?_ ?_⟩
 ·rintro i σ' Ha hi ⟨o8,o9,o10,o11,tvs',tr,rfl,hTa,hTA,trt,sa⟩
  have hi:i<ws.length:=by rw[hW.len] at hi;lia
  have tl:=trt.len
  obtain⟨k,hk⟩:∃k,k=ws.length-1-i:=⟨_,rfl⟩
  have ke:((wvs.length:Int)-1)-(i:Int)=((k:Nat):Int):=by rw[hW.len];lia
  show ni K _ [some (.ref bp),some (.ref wp),some (.ref lt),some (.ref op),some (.ref P),some (.ref C),some (.ref E'),some (.ref T),some (.int (((wvs.length:Int)-1)-(i:Int))),o9,o10,o11] Ha
  rw[ke]
  intro S1 nS1
  show nh K _ [some (.ref bp),some (.ref wp),some (.ref lt),some (.ref op),some (.ref P),some (.ref C),some (.ref E'),some (.ref T),some (.int (k:Nat)),some (.ref S1),o10,o11] (aP Ha S1 (.dT []))
  obtain⟨wv,w,ew,ew',hwa⟩:=hW.get (i:=k) (by lia)
  obtain⟨_,ss,es,es',np,rfl,hnp⟩:=hT.get (i:=k+1) (by lia)
  obtain⟨_,ks2,ec2,ek2,hcom2⟩:=hcA.get (i:=k) (by lia)
  obtain⟨ss2,eb2,d2,t2⟩:=cm.turn pl ek2
  obtain⟨D2,kvs2,rfl,hD2,hkeys2,_⟩:=id hcom2
  have kvl2:=lz hkeys2
  have kf2:=t2.few
  obtain⟨tv,t',etv,et',htab⟩:=hTA.get (i:=i) (by lia)
  have tvl:tvs'.length=i+1:=by rw[hTA.len];exact tl
  obtain⟨Dt,rfl,hDt⟩:=id htab
  have hDt:Ha Dt=some (.dT (cS t')):=hDt
  have tnd:=trt.nd t' (aG et')
  have hD2a:=sa _ _ hD2
  have S1D2:S1≠D2:=(aJ hD2a nS1).symm
  have S1Dt:S1≠Dt:=(aJ hDt nS1).symm
  have ss1:aM Ha (aP Ha S1 (.dT [])):=(aM.refl Ha).new nS1
  have hS1:aP Ha S1 (.dT []) S1=some (.dT (cS [])):=aj
  refine⟨_,rfl,_,rfl,mP (v:=.ref D2) (cq.of (ss1 _ _ (sa _ _ hC))) (cw _) (by rw[aZ];exact ec2) ⟨D2,kvs2,rfl,ss1 _ _ hD2a,λob2=>?_⟩⟩
  have nSf:aP Ha D2 (.frz ob2 (.dT kvs2)) S1=none:=by rw[az S1D2];exact nS1
  have nT2:T≠D2:=λz=>by rw[z,hD2a] at hTa;cases hTa
  refine vi (λj σ' H'=>∃o10 o11 tj,σ'=[some (.ref bp),some (.ref wp),some (.ref lt),some (.ref op),some (.ref P),some (.ref C),some (.ref E'),some (.ref T),some (.int (k:Nat)),some (.ref S1),o10,o11]/\H' S1=some (.dT (cS tj))/\(tj.map (·.1)).Nodup/\(∀b m,(b,m)∈tj↔b∈ks2.take j/\(jg b w.out ss,m)∈t')/\tj.length<=j/\(H' Dt=some (.dT (cS t'))\/H' Dt=some (.frz ob2 (.dT (cS t'))))/\aM (aP Ha D2 (.frz ob2 (.dT kvs2))) H') ?_ ?_ ?_ ?_
  ·refine⟨_,_,[],rfl,by rw[az S1D2];exact hS1,dh,(λb m=>⟨(λh=>by cases h),(λh=>by rw[eZ] at h;cases h.1)⟩),au _,?_,λb u hb=>?_⟩
   ·by_cases c:Dt=D2
    ·right
     rw[c] at hDt ⊢
     rw[hD2a] at hDt
     have:=Option.some.inj hDt
     have:kvs2=cS t':=by injection this
     rw[aj,this]
    ·left
     rw[az c];exact ss1 _ _ hDt
   ·by_cases c:b=D2
    ·rw[c,aj] at hb ⊢;exact hb
    ·rw[az c] at hb ⊢;exact ss1 _ _ hb
  ·rintro j σ' H' _ ⟨_,_,_,_,_,_,_,_,_,s⟩;exact gQ s
  ·rintro j kk kv pb σ' Hb hkk hpb ⟨o10,o11,tj,rfl,hSj,ndj,memj,lj,hDtj,sb⟩
   obtain⟨b,hb,rfl⟩:=jP hkeys2 hkk
   rw[eD] at hpb
   have bm:=aG hb
   have bl:=(t2.inn b bm).len
   have jl:j<ks2.length:=(ae.mp hb).1
   have bne:b≠[]:=λz=>by rw[z] at bl;have:(0:Nat)=n:=bl;lia
   have tpb:Tp Ha Hb:=λc xs hc=>wH sb hD2a hc λ_ z=>by cases z
   have lsb:∀c xs,Ha c=some (.lst xs)->Hb c=some (.lst xs):=λc xs hc=>wH sb hD2a hc λ_ z=>by cases z
   have h02:Tp H Ha:=(Tp.of_same s02).trans (Tp.of_same sa)
   show m9 K _ [some (.ref bp),some (.ref wp),some (.ref lt),some (.ref op),some (.ref P),some (.ref C),some (.ref E'),some (.ref T),some (.int (k:Nat)),some (.ref S1),some (.ref pb),o11] Hb
   refine⟨_,rfl,_,rfl,_,rfl,uj (tpb _ _ (h02 _ _ hwp)) (cw _) (by rw[aZ];exact ew) ⟨_,rfl,_,rfl,.inl ⟨_,_,rfl,rfl,mP (v:=.ref np) (cq.of (lsb _ _ (sa _ _ (s2 _ _ hP)))) (by lia) (by rw[show((k:Int)+1).toNat=k+1 by lia];exact es) ⟨pb,np,wv,b,w,ss,rfl,hpb,hwa.tp (h02.trans tpb),tpb _ _ (sa _ _ (s2 _ _ hnp)),bne,by lia,λr' Hc hr' sc=>?_⟩⟩⟩⟩
   show m8 K _ [some (.ref bp),some (.ref wp),some (.ref lt),some (.ref op),some (.ref P),some (.ref C),some (.ref E'),some (.ref T),some (.int (k:Nat)),some (.ref S1),some (.ref pb),some (.ref r')] Hc
   have hTc:=sc _ _ (lsb _ _ hTa)
   have etv':tvs'[tvs'.length-1]?=some (.ref Dt):=by rw[tvl,cx];exact etv
   have rdt:Rd Hc Dt (.dT (cS t')):=hDtj.elim (λz=>.inl (sc _ _ z)) λz=>.inr ⟨_,sc _ _ z⟩
   have dg:∀{o:Option V},de (cS t') (cB (jg b w.out ss))=o->pV Hc Dt (.ref r') o:=λ{o} e=>by
    rw[<-e]
    exact .inr ⟨_,cB (jg b w.out ss),r',rdt,rfl,by rw[eD];exact hr',rfl⟩
   refine⟨_,rfl,_,rfl,1,rfl,sF hTc etv' ⟨Dt,_,rfl,dg rfl,_,rfl,?_⟩⟩
   rw[show(if false=true then !(de (cS t') (cB (jg b w.out ss))).isSome else(de (cS t') (cB (jg b w.out ss))).isSome)=decide (jg b w.out ss∈t'.map (·.1)) from Ct tnd _]
   have nbj:b∉tj.map (·.1):=λz=>by
    obtain⟨p,hp,e⟩:=aE.mp z
    have hp2:(b,p.2)∈tj:=by have e:p.1=b:=e;rw[<-e];exact hp
    have:=((memj b p.2).mp hp2).1
    obtain⟨x,hx,ex⟩:=aT.mp this
    have hx':x<j:=by rw[aR] at hx;lia
    have:(ks2)[x]?=some b:=by
     rw[List.getElem_take] at ex
     rw[aa (by rw[aR] at hx;lia),ex]
    have:=p9 t2.nd this hb
    lia
   refine di (λc=>?_) λc=>?_
   ·obtain⟨⟨x,m⟩,hm,e⟩:=aE.mp c
    have e:x=jg b w.out ss:=e
    subst e
    refine⟨_,rfl,1,rfl,sF hTc etv' ⟨_,rfl,Dt,_,rfl,dg (fg tnd hm),_,rfl,_,rfl,S1,_,rfl,zV.t (sc _ _ hSj) (by rw[eD];exact sc _ _ hpb) (bH (by unfold cS;rw[af];lia)),?_⟩⟩
    rw[Cu nbj]
    refine⟨_,_,tj++[(b,m)],rfl,aj,?_,λx y=>?_,by rw[ai];show _+1<=_;lia,?_,dE (sb.trans sc) nSf⟩
    ·rw[aC]
     exact cV.mpr ⟨ndj,by simp,λx hx y hy=>by rw[ak.mp hy];intro z;exact nbj (by have z:x=b:=z;rw[<-z];exact hx)⟩
    ·rw[aA,memj,eK hb,aA,ak,ak]
     constructor
     ·rintro(z|z)
      ·exact⟨.inl z.1,z.2⟩
      ·cases z;exact⟨.inr rfl,hm⟩
     ·rintro⟨z|rfl,y2⟩
      ·exact .inl ⟨z,y2⟩
      ·exact .inr (by rw[rF tnd y2 hm])
    ·rw[az (Ne.symm S1Dt)]
     exact hDtj.imp (λz=>sc _ _ z) λz=>sc _ _ z
   ·refine⟨_,_,tj,rfl,sc _ _ hSj,ndj,λx y=>?_,by lia,hDtj.imp (λz=>sc _ _ z) λz=>sc _ _ z,sb.trans sc⟩
    rw[memj,eK hb,aA,ak]
    constructor
    ·exact λz=>⟨.inl z.1,z.2⟩
    ·rintro⟨z|rfl,y2⟩
     ·exact⟨z,y2⟩
     ·exact absurd (aE.mpr ⟨_,y2,rfl⟩) c
  ·rintro σ' Hb ⟨o10,o11,tj,rfl,hSj,ndj,memj,lj,hDtj,sb⟩
   rw[kvl2,bf] at memj
   rw[kvl2] at lj
   refine .inr ⟨D2,kvs2,kvs2,ob2,ss1 _ _ hD2a,gQ sb,?_⟩
   have sc:=jW hD2a sb
   have hSc:aP Hb D2 (.dT kvs2) S1=some (.dT (cS tj)):=by rw[az S1D2];exact hSj
   show m7 K _ [some (.ref bp),some (.ref wp),some (.ref lt),some (.ref op),some (.ref P),some (.ref C),some (.ref E'),some (.ref T),some (.int (k:Nat)),some (.ref S1),o10,o11] _
   generalize aP Hb D2 (.dT kvs2)=Hc at sc hSc ⊢
   have s2c:=sa.trans sc
   refine⟨_,rfl,.inl ⟨rfl,_,cq.of (sc _ _ hTa)⟩,_,rfl,_,rfl,_,rfl,mP (v:=.ref D2) (cq.of (s2c _ _ hC)) (cw _) (by rw[aZ];exact ec2) ⟨.ref S1,.ref D2,ks2,tj,n,rfl,⟨S1,rfl,hSc⟩,hcom2.same s2c,t2.nd,kf2,λb hb=>(t2.inn b hb).len,n1,n5,t2.cl,λb m hm=>((memj b m).mp hm).1,by lia,λr' t'' Hd hr' spr' sd=>?_⟩⟩
   have hTd:=sd _ _ (sc _ _ hTa)
   refine⟨T,tvs',r',rfl,rfl,hTd,bH (by rw[tvl];lia),?_⟩
   refine⟨_,_,_,_,tvs'++[r'],tr++[t''],rfl,aj,(hTA.imp λ_ _ z=>oI.but (z.same (sc.trans sd)) hTd).snoc (hr'.but hTd),⟨by rw[ai,tl];rfl,λx hx=>?_,λks' x h1 h2=>?_,λj ks' x x' w' ss' hj h1 h2 h3 h4 h5=>?_⟩,dE (s2c.trans sd) nTH2⟩
   ·rcases aA.mp hx with z|z
    ·exact trt.nd x z
    ·rw[ak.mp z];exact spr'.nd
   ·rw[ar (by lia)] at h2
    exact trt.fin ks' x h1 h2
   ·by_cases c:j<i
    ·rw[ar (by lia)] at h2 h3
     exact trt.mid j ks' x x' w' ss' c h1 h2 h3 h4 h5
    ·have ji:j=i:=by lia
     subst ji
     rw[<-hk,ek2] at h1
     rw[<-hk,ew'] at h4
     rw[show ws.length-j=k+1 by lia,es'] at h5
     rw[ao (by lia),show j+1-tr.length=0 by lia] at h2
     rw[ar (by lia),et'] at h3
     cases h1;cases h3;cases h4;cases h5
     have h2:t''=x:=Option.some.inj h2
     subst h2
     exact⟨tj,spr',memj⟩
 ·rintro σ' Ha ⟨o8,o9,o10,o11,tvs',tr,rfl,hTa,hTA,trt,sa⟩
  have e1:((wvs.length:Int)-1+1).toNat=ws.length:=by rw[hW.len];lia
  rw[e1] at trt
  have tl:=trt.len
  show m5 K _ [some (.ref bp),some (.ref wp),some (.ref lt),some (.ref op),some (.ref P),some (.ref C),some (.ref E'),some (.ref T),o8,o9,o10,o11] Ha
  refine⟨_,rfl,T,tvs',rfl,cq.of hTa,λZ nZ=>?_⟩
  have tvl:tvs'.length=tr.length:=hTA.len
  have rev:bj (oI Ha) tvs'.reverse tr.reverse:=by
   refine⟨by rw[bO,bO,tvl],λi v t'' h1 h2=>?_⟩
   have hi:i<tr.length:=by have:=(ae.mp h2).1;rwa [bO] at this
   rw[bQ (by lia)] at h1
   rw[bQ hi,<-tvl] at h2
   exact hTA.at_ _ v t'' h1 h2
  refine q Z _ pss kss tr.reverse _ aj (rev.imp λ_ _ z=>oI.same z ((aM.refl Ha).new nZ)) pts ⟨cm,by rw[bO];exact tl,λks' x h1 h2=>?_,λk' ks' x x' w' ss' h1 h2 h3 h4 h5=>?_⟩ ((s02.trans sa).new nZ)
  ·rw[bQ (by lia),show tr.length-1-ws.length=0 by lia] at h2
   exact trt.fin ks' x h1 h2
  ·have kl':k'<ws.length:=(ae.mp h4).1
   rw[bQ (by lia)] at h2 h3
   refine trt.mid (ws.length-1-k') ks' x x' w' ss' (by lia) (by rw[show ws.length-1-(ws.length-1-k')=k' by lia];exact h1) (by rw[show ws.length-1-k'+1=tr.length-1-k' by lia];exact h2) (by rw[show ws.length-1-k'=tr.length-1-(k'+1) by lia];exact h3) (by rw[show ws.length-1-(ws.length-1-k')=k' by lia];exact h4) (by rw[show ws.length-(ws.length-1-k')=k'+1 by lia];exact h5)
theorem vn{K:Fg}{tt:TE}{s0 s1 s2 s3 s4 s5 s7 s8 s9:Option V}{pc Dn Dt:Addr}{c:Bt}{t:List (Bt×Nat)}{m:Nat}{ps:List Nat}{H:Hp}{D:kU}(htt:∀Q:VK,Q (.ref Dt) H->tt [s0,s1,s2,s3,s4,s5,some (.ref pc),s7,s8,s9,some (.ref Dn)] H Q)
  (hDt:H Dt=some (.dT (cS t))) (nd:(t.map (·.1)).Nodup) (hpc:H pc=some (.tup (cL c))) (ne:c≠[]) (l5:c.length<=5) (hm:(c,m+1)∈t) (all:∀d∈kts c,∃k,(d,k)∈t) (ex:∃d∈kts c,(d,m)∈t) (hDn:H Dn=some (.lst (ps.map λi=>V.int (i:Nat)))) (few:ps.length<=90000)
  (q:∀(i:Nat) (pc':Addr) (H':Hp),i∈k9 c->(j8 c i,m)∈t->H' pc'=some (.tup (cL (j8 c i)))->H' Dn=some (.lst ((ps++[i]).map λi=>V.int (i:Nat)))->(∀b u,b≠Dn->H b=some u->H' b=some u)->D.nx [s0,s1,s2,s3,s4,s5,some (.ref pc'),s7,s8,s9,some (.ref Dn)] H') :
  bB (gq (rE K "list" dN (av 10) (aq (br (fb K) [] E0 (aq tt (aq (av 6) aO))) aO))) (bU (br (fV K) [] E0 (aq (av 6) (aq (bN (eU K) (av 10) (zU ph (tC (.int 1)))) aO))) (aQ 6)) D [s0,s1,s2,s3,s4,s5,some (.ref pc),s7,s8,s9,some (.ref Dn)] H:=by
 refine⟨_,rfl,.inl ⟨rfl,_,cq.of hDn⟩,htt _ ⟨_,rfl,.ref Dt,pc,c,t,m,rfl,⟨Dt,rfl,hDt⟩,nd,hpc,ne,l5,hm,all,ex,λi H1 hi him sm1=>?_⟩⟩
 have hDn1:=sm1 _ _ hDn
 refine⟨Dn,_,.int (i:Nat),rfl,rfl,hDn1,bH (by rw[af];lia),?_⟩
 have t2:Tp H1 (aP H1 Dn (.lst ((ps.map λi=>V.int (i:Nat))++[.int (i:Nat)]))):=(Tp.refl H1).lst hDn1
 have hDn2:aP H1 Dn (.lst ((ps.map λi=>V.int (i:Nat))++[.int (i:Nat)])) Dn=some (.lst ((ps++[i]).map λi=>V.int (i:Nat))):=by rw[aj,aC];rfl
 have kp2:∀b u,b≠Dn->H b=some u->aP H1 Dn (.lst ((ps.map λi=>V.int (i:Nat))++[.int (i:Nat)])) b=some u:=λb u nb hb=>by rw[az nb];exact sm1 _ _ hb
 have hpc2:=t2 _ _ (sm1 _ _ hpc)
 generalize aP H1 Dn (.lst ((ps.map λi=>V.int (i:Nat))++[.int (i:Nat)]))=H2 at hDn2 kp2 hpc2 ⊢
 refine⟨_,rfl,_,rfl,1,rfl,sF (v:=.int (i:Nat)) hDn2 ?_ ⟨pc,c,i,rfl,hpc2,l5,hi,λr H3 hr sm3=>q i r H3 hi him hr (sm3 _ _ hDn2) λb u nb hb=>sm3 _ _ (kp2 b u nb hb)⟩⟩
 rw[af,ai,aI,cx,aH,ao (au _),a9]
 rfl
theorem tK:∀{b:Bt} {ps:List Nat} {i:Nat},dO b ps->i∈k9 (fY b ps)->dO b (ps++[i])
 |b,[],i,_,h=>⟨h,trivial⟩
 |b,p::r,i,h,hi=>⟨h.1,tK h.2 hi⟩
theorem Dl(b:Bt)(ps:List Nat)(i:Nat):fY b (ps++[i])=j8 (fY b ps) i:=by unfold fY;rw[dU];rfl
theorem A0{K:Fg}{vs:List V}{H:Hp}{Q:VK}{E:XK}(h:jw K vs H Q E):tP K {nx:=λ_ H'=>Q .non H',rt:=Q} (start rS vs) H:=by
 obtain⟨bp,wp,lt,n,b0,ws,last,dd,rfl,src,n1,n5,wks,fw,dims,ex,q⟩:=h
 have ne:b0≠[]:=λz=>by have:=src.len;rw[z] at this;have:(0:Nat)=n:=this;lia
 refine⟨_,rfl,_,rfl,_,rfl,_,rfl,bp,b0,rfl,src.bp,ne,by rw[src.len];exact n5,λop H1 hop s1=>?_⟩
 rw[src.len] at hop
 refine⟨bp,wp,lt,op,n,b0,aV n none,ws,last,dd,rfl,⟨s1 _ _ src.bp,src.len,?_,src.few⟩,?_,fw,hop,by simp,dims,ex,λr gvs gs bs pss kss ts ss t m H2 h1 h2 h3 h4 h5 h6 h7 h8 h9 s2=>q r gvs gs bs pss kss ts ss t m H2 h1 h2 h3 h4 h5 h6 h7 h8 h9 (s1.trans s2)⟩
 ·obtain⟨wvs,a,b⟩:=src.wks
  exact⟨wvs,s1 _ _ a,b.imp λ_ _ z=>z.tp (Tp.of_same s1)⟩
 ·obtain⟨⟨wvs,a,b⟩,c⟩:=wks
  exact⟨⟨wvs,s1 _ _ a,b.imp λ_ _ z=>z.tp (Tp.of_same s1)⟩,s1 _ _ c⟩
structure Cy(ks:List Bt)(t:List (Bt×Nat))(c:Bt)(m:Nat)(ps:List Nat)(d:Bt)(mc:Nat):Prop where
 run:d=fY c ps
 ok:dO c ps
 ink:d∈ks
 num:(d,mc)∈t
 sum:ps.length+mc=m
 vis:∃vis:List Bt,vis.Nodup/\vis.length=ps.length/\∀x∈vis,x∈ks/\∃k,mc<k/\(x,k)∈t
theorem Cy.few{ks:List Bt}{t:List (Bt×Nat)}{c d:Bt}{m mc:Nat}{ps:List Nat}(h:Cy ks t c m ps d mc)(kf:ks.length<=7776):ps.length<=7776:=by
 obtain⟨vis,nd,vl,hv⟩:=h.vis
 have:=j9 nd (zs:=ks) λx hx=>(hv x hx).1
 lia
theorem Cy.next{ks:List Bt}{t:List (Bt×Nat)}{c d:Bt}{m mc i:Nat}{ps:List Nat}(h:Cy ks t c m ps d (mc+1))(nd:(t.map (·.1)).Nodup)(cl:∀b∈ks,∀c∈kts b,c∈ks)(hi:i∈k9 d)(hm:(j8 d i,mc)∈t):Cy ks t c m (ps++[i]) (j8 d i) mc:=by
 obtain⟨vis,vnd,vl,hv⟩:=h.vis
 have hs:=h.sum
 refine⟨by rw[Dl,<-h.run],tK h.ok (by rw[<-h.run];exact hi),cl d h.ink _ (aE.mpr ⟨i,hi,rfl⟩),hm,by rw[ai,aI];lia,vis++[d],?_,by rw[ai,ai,vl];rfl,λx hx=>?_⟩
 ·refine cV.mpr ⟨vnd,by simp,λx hx y hy=>?_⟩
  rw[ak.mp hy]
  intro z
  obtain⟨_,k,hk,hx2⟩:=hv x hx
  have z:x=d:=z
  rw[z] at hx2
  have:=rF nd hx2 h.num
  lia
 ·rcases aA.mp hx with z|z
  ·obtain⟨h1,k,hk,h2⟩:=hv x z
   exact⟨h1,k,by lia,h2⟩
  ·rw[ak.mp z]
   exact⟨h.ink,mc+1,cP _,h.num⟩
theorem Cy.zero{ks:List Bt}{t:List (Bt×Nat)}{c:Bt}{m:Nat}(h:c∈ks)(hm:(c,m)∈t):Cy ks t c m [] c m:=⟨rfl,trivial,h,hm,by simp,[],dh,rfl,λx hx=>by cases hx⟩
structure LF(b:Bt)(ws:List Wk)(pss:List (List Str))(kss:List (List Bt))(m0 i:Nat)(c:Bt)(m:Nat)(gs:List (List Nat))(bs:List Bt):Prop where
 len:gs.length=i
 ln2:bs.length=i
 fst:(bs++[c])[0]?=some b
 ok:∀(k:Nat) ps d,gs[k]?=some ps->bs[k]?=some d->dO d ps
 nxt:∀(k:Nat) ps d d' w ss,gs[k]?=some ps->bs[k]?=some d->(bs++[c])[k+1]?=some d'->ws[k]?=some w->pss[k+1]?=some ss->d'=jg (fY d ps) w.out ss
 sum:(gs.map (·.length)).sum+m=m0
 mem:∀(k:Nat) d ks,bs[k]?=some d->kss[k]?=some ks->d∈ks
theorem LF.next{b:Bt}{ws:List Wk}{pss:List (List Str)}{kss:List (List Bt)}{m0 i:Nat}{c:Bt}{m mc:Nat}{gs:List (List Nat)}{bs:List Bt}(h:LF b ws pss kss m0 i c m gs bs){ps:List Nat}{w:Wk}{ss:List Str}(hw:ws[i]?=some w)(hs:pss[i+1]?=some ss)(ok:dO c ps)(sm:ps.length+mc=m)(ck:∀ks,kss[i]?=some ks->c∈ks):LF b ws pss kss m0 (i+1) (jg (fY c ps) w.out ss) mc (gs++[ps]) (bs++[c]):=by
 have l1:=h.len
 have l2:=h.ln2
 refine⟨by rw[ai,l1];rfl,by rw[ai,l2];rfl,?_,λk ps' d h1 h2=>?_,λk ps' d d' w' ss' h1 h2 h3 h4 h5=>?_,?_,λk d ks h1 h2=>?_⟩
 ·rw[ar (by rw[ai];simp)];exact h.fst
 ·by_cases ck:k<i
  ·rw[ar (by lia)] at h1 h2
   exact h.ok k ps' d h1 h2
  ·have ki:k=i:=by have:=(ae.mp h1).1;rw[ai,aI] at this;lia
   subst ki
   rw[ao (by lia),l1,a9] at h1
   rw[ao (by lia),l2,a9] at h2
   cases h1;cases h2;exact ok
 ·by_cases ck:k<i
  ·rw[ar (by lia)] at h1 h2
   rw[ar (by rw[ai,aI];lia)] at h3
   exact h.nxt k ps' d d' w' ss' h1 h2 h3 h4 h5
  ·have ki:k=i:=by have:=(ae.mp h1).1;rw[ai,aI] at this;lia
   subst ki
   rw[ao (by lia),l1,a9] at h1
   rw[ao (by lia),l2,a9] at h2
   rw[ao (by rw[ai,aI];lia),ai,aI,l2,a9] at h3
   rw[hw] at h4;rw[hs] at h5
   cases h1;cases h2;cases h3;cases h4;cases h5;rfl
 ·rw[aC,fL]
  have:=h.sum
  show _+(ps.length+0)+mc=m0
  lia
 ·by_cases c2:k<i
  ·rw[ar (by lia)] at h1
   exact h.mem k d ks h1 h2
  ·have ki:k=i:=by have:=(ae.mp h1).1;rw[ai,aI] at this;lia
   subst ki
   rw[ao (by lia),l2,a9] at h1
   cases h1;exact ck ks h2
theorem um.but{H H':Hp}{v:V}{ps:List Nat}(h:um H v ps)(t:Tp H H'):um H' v ps:=let⟨p,e,hp⟩:=h;⟨p,e,t _ _ hp⟩
theorem xb{K:Fg}{vs:List V}{H:Hp}{Q:VK}{E:XK}(h:jL K vs H Q E):pE K {nx:=λ_ H'=>Q .non H',rt:=Q} (start oH vs) H:=by
 obtain⟨bp,wp,lt,op,n,b0,ord,ws,last,dd,rfl,src,wks,fw,hop,ol,dims,ex,q⟩:=h
 obtain⟨wvs,hwp,hW⟩:=src.wks
 have wfew:=src.few
 refine⟨_,rfl,_,rfl,wp,lt,ws,last,dd,rfl,wks,fw,λP tvs pss H1 nP hP hT pts s1=>?_⟩
 show kO K _ [some (.ref bp),some (.ref wp),some (.ref lt),some (.ref op),some (.ref P),none,none,none,none,none,none] H1
 have pl:=pts.len
 have wks1:jd H1 wp lt ws last:=by
  obtain⟨⟨wvs,a,b⟩,c⟩:=wks
  exact⟨⟨wvs,s1 _ _ a,b.imp λ_ _ z=>z.tp (Tp.of_same s1)⟩,s1 _ _ c⟩
 refine⟨_,rfl,_,rfl,_,rfl,_,rfl,bp,wp,lt,op,n,b0,ord,ws,last,dd,rfl,⟨s1 _ _ src.bp,src.len,⟨wvs,s1 _ _ hwp,hW.imp λ_ _ z=>z.tp (Tp.of_same s1)⟩,src.few⟩,wks1,fw,s1 _ _ hop,ol,dims,λT tbs pss' kss ts H2 hT2 hTA pts' tb s2=>?_⟩
 cases pts'.one pts
 show kM K _ [some (.ref bp),some (.ref wp),some (.ref lt),some (.ref op),some (.ref P),some (.ref T),none,none,none,none,none] H2
 have s02:=s1.trans s2
 have exT:=ex pss kss ts pts tb
 have cm:=tb.cm
 have kl:=cm.len
 have tl:=tb.len
 obtain⟨_,ss0,e0,e0',np0,rfl,hnp0⟩:=hT.get (i:=0) (by lia)
 have d0:=dims pss pts ss0 (aG e0')
 have n1:=d0.pos
 have n5:=d0.n5
 refine⟨_,rfl,_,rfl,mP (v:=.ref np0) (cq.of (s2 _ _ hP)) (by decide) e0 ⟨bp,np0,b0,ss0,rfl,s02 _ _ src.bp,s2 _ _ hnp0,by rw[src.len];lia,λp0 H3 hp0 s3=>?_⟩⟩
 show kL K _ [some (.ref bp),some (.ref wp),some (.ref lt),some (.ref op),some (.ref P),some (.ref T),some (.ref p0),none,none,none,none] H3
 refine⟨(by show 0<=sizeLine;decide),λL nL=>?_⟩
 have s24:=s3.new (o:=.lst []) nL
 have hL4:aP H3 L (.lst []) L=some (.lst []):=aj
 have hp4:=(aM.refl H3).new (o:=.lst []) nL _ _ hp0
 have nLH2:H2 L=none:=s3.free nL
 show kK K _ [some (.ref bp),some (.ref wp),some (.ref lt),some (.ref op),some (.ref P),some (.ref T),some (.ref p0),some (.ref L),none,none,none] _
 generalize aP H3 L (.lst [])=H4 at s24 hL4 hp4 ⊢
 have hk0:kss[0]?=some (kss[0]'(by lia)):=aa _
 have ht0:ts[0]?=some (ts[0]'(by lia)):=aa _
 generalize kss[0]'(by lia)=ks0 at hk0
 generalize ts[0]'(by lia)=t00 at ht0
 have c0k:b5 b0 ss0∈ks0:=(cm.fst ks0 ss0 hk0 e0').ent _ (ak.mpr rfl)
 obtain⟨m0,hm0⟩:=exT 0 ks0 t00 hk0 ht0 _ c0k
 have tnd:∀(k:Nat) t,ts[k]?=some t->(t.map (·.1)).Nodup:=λk t h=>by
  have kk:k<ts.length:=(ae.mp h).1
  have hk:kss[k]?=some (kss[k]'(by lia)):=aa _
  by_cases c:k=ws.length
  ·subst c
   obtain⟨t0,sp,_⟩:=tb.fin _ t hk h
   exact sp.nd
  ·have h1:ts[k+1]?=some (ts[k+1]'(by lia)):=aa _
   have h2:ws[k]?=some (ws[k]'(by lia)):=aa _
   have h3:pss[k+1]?=some (pss[k+1]'(by lia)):=aa _
   obtain⟨t0,sp,_⟩:=tb.mid k _ t _ _ _ hk h h1 h2 h3
   exact sp.nd
 have tsub:∀(k:Nat) ks t,kss[k]?=some ks->ts[k]?=some t->∀b m,(b,m)∈t->b∈ks:=λk ks t hk h=>by
  have kk:k<ts.length:=(ae.mp h).1
  by_cases c:k=ws.length
  ·subst c
   obtain⟨t0,sp,_⟩:=tb.fin _ t hk h
   exact sp.sub
  ·have h1:ts[k+1]?=some (ts[k+1]'(by lia)):=aa _
   have h2:ws[k]?=some (ws[k]'(by lia)):=aa _
   have h3:pss[k+1]?=some (pss[k+1]'(by lia)):=aa _
   obtain⟨t0,sp,_⟩:=tb.mid k _ t _ _ _ hk h h1 h2 h3
   exact sp.sub
 refine⟨_,rfl,wp,rfl,⟨_,cE.of (s24 _ _ (s02 _ _ hwp))⟩,p8 (xs:=wvs) (λi σ' H'=>∃o8 o9 o10 pc c m gvs gs bs,σ'=[some (.ref bp),some (.ref wp),some (.ref lt),some (.ref op),some (.ref P),some (.ref T),some (.ref pc),some (.ref L),o8,o9,o10]/\H' pc=some (.tup (cL c))/\H' L=some (.lst gvs)/\bj (um H') gvs gs/\LF (b5 b0 ss0) ws pss kss m0 i c m gs bs/\(∃ks t,kss[i]?=some ks/\ts[i]?=some t/\c∈ks/\(c,m)∈t)/\aM H2 H')
  ⟨none,none,none,p0,_,m0,[],[],[],rfl,hp4,hL4,bj.nil,⟨rfl,rfl,rfl,(λk ps d h=>by simp at h),(λk ps d d' w ss h=>by simp at h),by simp,(λk d ks h=>by simp at h)⟩,⟨ks0,t00,hk0,ht0,c0k,hm0⟩,s24⟩ ?_ ?_ ?_⟩
 ·rintro i σ' H' _ ⟨_,_,_,_,_,_,_,_,_,_,_,_,_,_,_,s⟩
  exact cE.of (s _ _ (s02 _ _ hwp))
 ·rintro i wv σ' Ha tt hwv ntt ⟨o8,o9,o10,pc,c,m,gvs,gs,bs,rfl,hpc,hLa,hGA,fo,⟨ks,t,hks,hts,ck,cm'⟩,sa⟩
  obtain⟨w,hw,hwa⟩:=hW.of_v hwv
  have il:i<ws.length:=(ae.mp hw).1
  obtain⟨_,ss,es,es',np,rfl,hnp⟩:=hT.get (i:=i+1) (by lia)
  have hks':kss[i+1]?=some (kss[i+1]'(by lia)):=aa _
  have hts':ts[i+1]?=some (ts[i+1]'(by lia)):=aa _
  generalize kss[i+1]'(by lia)=ks' at hks'
  generalize ts[i+1]'(by lia)=t' at hts'
  obtain⟨t0,sp,st0⟩:=tb.mid i ks t t' w ss hks hts hts' hw es'
  obtain⟨ssk,ebk,dk,tk⟩:=cm.turn pl hks
  have tn:=tnd i t hts
  have tn':=tnd (i+1) t' hts'
  obtain⟨tv,_,etv,e2,⟨Dt,rfl,hDt⟩⟩:=hTA.get (i:=i) (by lia)
  rw[hts] at e2;cases e2
  have hDt:H2 Dt=some (.dT (cS t)):=hDt
  obtain⟨tv',_,etv',e2,⟨Dt',rfl,hDt'⟩⟩:=hTA.get (i:=i+1) (by lia)
  rw[hts'] at e2;cases e2
  have hDt':H2 Dt'=some (.dT (cS t')):=hDt'
  refine⟨tt,_,rfl,cE.of aj,rfl,_,_,rfl,_,_,rfl,rfl,?_⟩
  have sb:aM Ha (aP Ha tt (.tup [.int (i:Nat),wv])):=(aM.refl Ha).new ntt
  show kJ K _ [some (.ref bp),some (.ref wp),some (.ref lt),some (.ref op),some (.ref P),some (.ref T),some (.ref pc),some (.ref L),some (.int (i:Nat)),some wv,o10] _
  generalize aP Ha tt (.tup [.int (i:Nat),wv])=Hb at sb ⊢
  refine⟨(by show 0<=sizeLine;decide),λDn nDn=>?_⟩
  have hDn:aP Hb Dn (.lst []) Dn=some (.lst (([]:List Nat).map λi=>V.int (i:Nat))):=aj
  have sc:aM Hb (aP Hb Dn (.lst [])):=(aM.refl Hb).new nDn
  have s2b:=sa.trans sb
  have nDnH:H2 Dn=none:=s2b.free nDn
  have LDn:L≠Dn:=aJ (sb _ _ hLa) nDn
  have hLc:=sc _ _ (sb _ _ hLa)
  have hpcc:=sc _ _ (sb _ _ hpc)
  have s2c:=s2b.trans sc
  have hGc:=hGA.imp λ_ _ z=>um.but z (Tp.of_same (sb.trans sc))
  show kI K _ [some (.ref bp),some (.ref wp),some (.ref lt),some (.ref op),some (.ref P),some (.ref T),some (.ref pc),some (.ref L),some (.int (i:Nat)),some wv,some (.ref Dn)] _
  generalize aP Hb Dn (.lst [])=Hc at hDn sc hLc hpcc s2c hGc ⊢
  have kf:=tk.few
  have rd:∀{H':Hp},aM H2 H'->H' T=some (.lst tbs)/\H' Dt=some (.dT (cS t))/\H' Dt'=some (.dT (cS t')):=λs=>⟨s _ _ hT2,s _ _ hDt,s _ _ hDt'⟩
  refine⟨λmm σ' H'=>∃pd d ps,σ'=[some (.ref bp),some (.ref wp),some (.ref lt),some (.ref op),some (.ref P),some (.ref T),some (.ref pd),some (.ref L),some (.int (i:Nat)),some wv,some (.ref Dn)]/\H' pd=some (.tup (cL d))/\Cy ks t c m ps d mm/\H' Dn=some (.lst (ps.map λi=>V.int (i:Nat)))/\H' L=some (.lst gvs)/\bj (um H') gvs gs/\aM H2 H',⟨m,pc,c,[],rfl,hpcc,Cy.zero ck cm',hDn,hLc,hGc,s2c⟩,?_⟩
  rintro mc σ' Hd ⟨pd,d,ps,rfl,hpd,gr,hDnd,hLd,hGd,sd⟩
  obtain⟨r1,r2,r3⟩:=rd sd
  have dl:=(tk.inn d gr.ink).len
  have dne:d≠[]:=λz=>by rw[z] at dl;have:(0:Nat)=n:=dl;lia
  have T0d:Tp H Hd:=(Tp.of_same s02).trans (Tp.of_same sd)
  refine⟨_,rfl,_,rfl,mP (v:=.ref Dt) (cq.of r1) (cw _) (by rw[aZ];exact etv) ⟨_,rfl,Dt,_,rfl,mO r2 hpd (fg tn gr.num),?_⟩⟩
  refine⟨_,rfl,_,rfl,.inr (.inl ⟨_,_,rfl,rfl,mP (v:=.ref Dt') (cq.of r1) (by lia) (by rw[show((i:Int)+1).toNat=i+1 by lia];exact etv') ⟨Dt',rfl,.inr ⟨_,.inl r3⟩,?_⟩⟩)⟩
  have hPd:Hd P=some (.lst tvs):=sd _ _ (s2 _ _ hP)
  have hnpd:Hd np=some (.tup (ss.map V.str)):=sd _ _ (s2 _ _ hnp)
  have hwd:D9 Hd wv w:=hwa.tp T0d
  refine⟨_,rfl,_,rfl,_,rfl,_,rfl,.inr (.inl ⟨_,_,rfl,rfl,mP (v:=.ref np) (cq.of hPd) (by lia) (by rw[show((i:Int)+1).toNat=i+1 by lia];exact es) ⟨pd,np,wv,d,w,ss,rfl,hpd,hwd,hnpd,dne,by lia,λr He hr se=>⟨_,mO (se _ _ r3) hr rfl,?_⟩⟩⟩)⟩
  have fl:FR (.int (mc:Nat)) ((de (cS t') (cB (jg d w.out ss))).getD .non)=true:=by
   rcases Classical.em (∃m,(jg d w.out ss,m)∈t') with⟨m,hm⟩|z
   ·rw[fg tn' hm];rfl
   ·rw[pT λm y=>z ⟨m,y⟩];rfl
  refine .inl ⟨fl,_,rfl,og (λnq=>?_) (λyq=>?_)⟩
  ·-- a keep more
   obtain⟨mm,rfl,hex⟩:∃mm,mc=mm+1/\∃x∈kts d,(x,mm)∈t:=by
    rcases sp.s3 d mc gr.num with z|⟨x,hx,mm,hm,e⟩
    ·have:=((st0 d mc).mp z).2
     rw[fg tn' this] at nq
     exact absurd rfl nq
    ·exact⟨mm,e,x,hx,hm⟩
   have sde:=sd.trans se
   obtain⟨q1,q2,q3⟩:=rd sde
   refine⟨λσ' H'=>∃m',m'<mm+1/\∃pd d ps,σ'=[some (.ref bp),some (.ref wp),some (.ref lt),some (.ref op),some (.ref P),some (.ref T),some (.ref pd),some (.ref L),some (.int (i:Nat)),some wv,some (.ref Dn)]/\H' pd=some (.tup (cL d))/\Cy ks t c m ps d m'/\H' Dn=some (.lst (ps.map λi=>V.int (i:Nat)))/\H' L=some (.lst gvs)/\bj (um H') gvs gs/\aM H2 H',λ_ _ z=>z,?_⟩
   refine vn (λQ' qq=>⟨_,rfl,_,rfl,mP (v:=.ref Dt) (cq.of q1) (cw _) (by rw[aZ];exact etv) qq⟩) q2 tn (se _ _ hpd) dne (by lia) gr.num (λx hx=>exT i ks t hks hts x (tk.cl d gr.ink x hx)) hex (se _ _ hDnd) (by have:=gr.few kf;lia) λj pc' H' hj hjm hpc' hDn' kp=>⟨mm,cP _,pc',j8 d j,ps++[j],rfl,hpc',gr.next tn tk.cl hj hjm,hDn',kp _ _ LDn (se _ _ hLd),hGd.imp λ_ _ z=>?_,λb u hb=>?_⟩
   ·obtain⟨p,e,hp⟩:=z
    have hp':=se _ _ hp
    exact⟨p,e,kp _ _ (λy=>by rw[y,se _ _ hDnd] at hp';cases hp') hp'⟩
   ·exact kp b u (λy=>by rw[y,nDnH] at hb;cases hb) (sde _ _ hb)
  ·-- the group is done
   have hmem:(jg d w.out ss,mc)∈t':=by
    rcases Classical.em (∃m,(jg d w.out ss,m)∈t') with⟨m,hm⟩|z
    ·rw[fg tn' hm] at yq
     have yq:V.int (mc:Nat)=V.int (m:Nat):=yq
     injection yq with yq
     have:mc=m:=by lia
     rw[this];exact hm
    ·rw[pT λm y=>z ⟨m,y⟩] at yq;cases yq
   have ck':jg d w.out ss∈ks':=tsub (i+1) ks' t' hks' hts' _ _ hmem
   have sde:=sd.trans se
   show ma K _ [some (.ref bp),some (.ref wp),some (.ref lt),some (.ref op),some (.ref P),some (.ref T),some (.ref pd),some (.ref L),some (.int (i:Nat)),some wv,some (.ref Dn)] He
   refine⟨_,rfl,.inl ⟨rfl,_,cq.of (se _ _ hLd)⟩,_,rfl,Dn,_,rfl,.inl ⟨cq.of (se _ _ hDnd),λg ng=>?_⟩⟩
   have sf:aM He (aP He g (.tup (ps.map λi=>V.int (i:Nat)))):=(aM.refl He).new ng
   have hg:aP He g (.tup (ps.map λi=>V.int (i:Nat))) g=some (.tup (ps.map λi=>V.int (i:Nat))):=aj
   generalize aP He g (.tup (ps.map λi=>V.int (i:Nat)))=Hf at sf hg ⊢
   have hLf:=sf _ _ (se _ _ hLd)
   refine⟨L,gvs,.ref g,rfl,rfl,hLf,bH (by rw[hGd.len,fo.len];lia),?_⟩
   have tg:Tp Hf (aP Hf L (.lst (gvs++[.ref g]))):=(Tp.refl Hf).lst hLf
   have sg:aM H2 (aP Hf L (.lst (gvs++[.ref g]))):=dE (sde.trans sf) nLH2
   have hLg:aP Hf L (.lst (gvs++[.ref g])) L=some (.lst (gvs++[.ref g])):=aj
   have T0f:Tp Hd (aP Hf L (.lst (gvs++[.ref g]))):=(Tp.of_same (se.trans sf)).trans tg
   have hGg:=(hGd.imp λ_ _ z=>um.but z T0f).snoc (v:=.ref g) (r:=ps) ⟨g,rfl,tg _ _ hg⟩
   have hpdg:=T0f _ _ hpd
   have hPg:aP Hf L (.lst (gvs++[.ref g])) P=some (.lst tvs):=sg _ _ (s2 _ _ hP)
   show lZ K _ [some (.ref bp),some (.ref wp),some (.ref lt),some (.ref op),some (.ref P),some (.ref T),some (.ref pd),some (.ref L),some (.int (i:Nat)),some wv,some (.ref Dn)] _
   generalize aP Hf L (.lst (gvs++[.ref g]))=Hg at sg hLg T0f hGg hpdg hPg ⊢
   refine⟨_,rfl,_,rfl,_,rfl,_,rfl,.inr (.inl ⟨_,_,rfl,rfl,mP (v:=.ref np) (cq.of hPg) (by lia) (by rw[show((i:Int)+1).toNat=i+1 by lia];exact es) ⟨pd,np,wv,d,w,ss,rfl,hpdg,hwd.tp T0f,T0f _ _ hnpd,dne,by lia,λr2 Hh hr2 sh=>?_⟩⟩)⟩
   have fo':=fo.next (mc:=mc) hw es' gr.ok gr.sum (λks2 h=>by rw[hks] at h;cases h;exact ck)
   rw[<-gr.run] at fo'
   exact⟨_,_,_,r2,jg d w.out ss,mc,gvs++[.ref g],gs++[ps],bs++[c],rfl,hr2,sh _ _ hLg,hGg.imp λ_ _ z=>um.but z (Tp.of_same sh),fo',⟨ks',t',hks',hts',ck',hmem⟩,sg.trans sh⟩
 ·rintro σ' Ha ⟨o8,o9,o10,pc,c,m,gvs,gs,bs,rfl,hpc,hLa,hGA,fo,⟨ks,t,hks,hts,ck,cm'⟩,sa⟩
  rw[hW.len] at fo hks hts
  obtain⟨t0,sp,st0⟩:=tb.fin ks t hks hts
  obtain⟨ssk,ebk,dk,tk⟩:=cm.turn pl hks
  have tn:=tnd _ t hts
  obtain⟨tv,_,etv,e2,⟨Dt,rfl,hDt⟩⟩:=hTA.get (i:=ws.length) (by lia)
  rw[hts] at e2;cases e2
  have hDt:H2 Dt=some (.dT (cS t)):=hDt
  have tbl:tbs.length=ws.length+1:=by rw[hTA.len];exact tl
  have etv':tbs[tbs.length-1]?=some (.ref Dt):=by rw[tbl,cx];exact etv
  have kf:=tk.few
  show lY K _ [some (.ref bp),some (.ref wp),some (.ref lt),some (.ref op),some (.ref P),some (.ref T),some (.ref pc),some (.ref L),o8,o9,o10] Ha
  refine⟨(by show 0<=sizeLine;decide),λDn nDn=>?_⟩
  have hDn:aP Ha Dn (.lst []) Dn=some (.lst (([]:List Nat).map λi=>V.int (i:Nat))):=aj
  have sc:aM Ha (aP Ha Dn (.lst [])):=(aM.refl Ha).new nDn
  have nDnH:H2 Dn=none:=sa.free nDn
  have LDn:L≠Dn:=aJ hLa nDn
  have s2c:=sa.trans sc
  have hGc:=hGA.imp λ_ _ z=>um.but z (Tp.of_same sc)
  show lX K _ [some (.ref bp),some (.ref wp),some (.ref lt),some (.ref op),some (.ref P),some (.ref T),some (.ref pc),some (.ref L),o8,o9,some (.ref Dn)] _
  generalize aP Ha Dn (.lst [])=Hc at hDn sc s2c hGc ⊢
  refine⟨λmm σ' H'=>∃pd d ps,σ'=[some (.ref bp),some (.ref wp),some (.ref lt),some (.ref op),some (.ref P),some (.ref T),some (.ref pd),some (.ref L),o8,o9,some (.ref Dn)]/\H' pd=some (.tup (cL d))/\Cy ks t c m ps d mm/\H' Dn=some (.lst (ps.map λi=>V.int (i:Nat)))/\H' L=some (.lst gvs)/\bj (um H') gvs gs/\aM H2 H',⟨m,pc,c,[],rfl,sc _ _ hpc,Cy.zero ck cm',hDn,sc _ _ hLa,hGc,s2c⟩,?_⟩
  rintro mc σ' Hd ⟨pd,d,ps,rfl,hpd,gr,hDnd,hLd,hGd,sd⟩
  have r1:=sd _ _ hT2
  have r2:=sd _ _ hDt
  have dl:=(tk.inn d gr.ink).len
  have dne:d≠[]:=λz=>by rw[z] at dl;have:(0:Nat)=n:=dl;lia
  refine⟨_,rfl,1,rfl,sF (v:=.ref Dt) r1 etv' ⟨_,rfl,Dt,_,rfl,mO r2 hpd (fg tn gr.num),.inl ⟨rfl,_,rfl,og (λnq=>?_) (λyq=>?_)⟩⟩⟩
  ·obtain⟨mm,rfl,hex⟩:∃mm,mc=mm+1/\∃x∈kts d,(x,mm)∈t:=by
    rcases sp.s3 d mc gr.num with z|⟨x,hx,mm,hm,e⟩
    ·have:=((st0 d mc).mp z).2.2
     rw[this] at nq
     exact absurd rfl nq
    ·exact⟨mm,e,x,hx,hm⟩
   refine⟨λσ' H'=>∃m',m'<mm+1/\∃pd d ps,σ'=[some (.ref bp),some (.ref wp),some (.ref lt),some (.ref op),some (.ref P),some (.ref T),some (.ref pd),some (.ref L),o8,o9,some (.ref Dn)]/\H' pd=some (.tup (cL d))/\Cy ks t c m ps d m'/\H' Dn=some (.lst (ps.map λi=>V.int (i:Nat)))/\H' L=some (.lst gvs)/\bj (um H') gvs gs/\aM H2 H',λ_ _ z=>z,?_⟩
   refine vn (λQ' qq=>⟨_,rfl,1,rfl,sF (v:=.ref Dt) r1 etv' qq⟩) r2 tn hpd dne (by lia) gr.num (λx hx=>exT _ ks t hks hts x (tk.cl d gr.ink x hx)) hex hDnd (by have:=gr.few kf;lia) λj pc' H' hj hjm hpc' hDn' kp=>⟨mm,cP _,pc',j8 d j,ps++[j],rfl,hpc',gr.next tn tk.cl hj hjm,hDn',kp _ _ LDn hLd,hGd.imp λ_ _ z=>?_,λb u hb=>?_⟩
   ·obtain⟨p,e,hp⟩:=z
    exact⟨p,e,kp _ _ (λy=>by rw[y,hDnd] at hp;cases hp) hp⟩
   ·exact kp b u (λy=>by rw[y,nDnH] at hb;cases hb) (sd _ _ hb)
  ·have mc0:mc=0:=by
    have yq:V.int (mc:Nat)=V.int 0:=yq
    injection yq with yq
    lia
   subst mc0
   have wk:zO ord d=true:=by
    rcases sp.s3 d 0 gr.num with z|⟨x,hx,mm,hm,e⟩
    ·exact((st0 d 0).mp z).2.1
    ·exact absurd e (by lia)
   show lV K _ [some (.ref bp),some (.ref wp),some (.ref lt),some (.ref op),some (.ref P),some (.ref T),some (.ref pd),some (.ref L),o8,o9,some (.ref Dn)] Hd
   refine⟨_,rfl,L,_,rfl,.inl ⟨cq.of hLd,λg1 ng1=>?_⟩⟩
   have se1:aM Hd (aP Hd g1 (.tup gvs)):=(aM.refl Hd).new ng1
   have hg1:aP Hd g1 (.tup gvs) g1=some (.tup gvs):=aj
   generalize aP Hd g1 (.tup gvs)=He at se1 hg1 ⊢
   refine⟨_,rfl,Dn,_,rfl,.inl ⟨cq.of (se1 _ _ hDnd),λg ng=>⟨(by show 1<=sizeLine;decide),λu nu=>?_⟩⟩⟩
   have se2:aM He (aP (aP He g (.tup (ps.map λi=>V.int (i:Nat)))) u (.tup [.ref g])):=((aM.refl He).new ng).new nu
   have hg:aP (aP He g (.tup (ps.map λi=>V.int (i:Nat)))) u (.tup [.ref g]) g=some (.tup (ps.map λi=>V.int (i:Nat))):=(aM.refl _).new nu _ _ aj
   have hu:aP (aP He g (.tup (ps.map λi=>V.int (i:Nat)))) u (.tup [.ref g]) u=some (.tup [.ref g]):=aj
   generalize aP (aP He g (.tup (ps.map λi=>V.int (i:Nat)))) u (.tup [.ref g])=Hf at se2 hg hu ⊢
   have sdf:=se1.trans se2
   have fin:∀(z:Addr) (Hz:Hp),Hz z=some (.tup (gvs++[.ref g]))->aM Hf Hz->Q (.ref z) Hz:=λz Hz hz sz=>by
    have l1:=fo.len
    have l2:=fo.ln2
    refine q z (gvs++[.ref g]) (gs++[ps]) (bs++[c]) pss kss ts ss0 t00 m0 Hz hz ((hGd.imp λ_ _ y=>um.but y (Tp.of_same (sdf.trans sz))).snoc ⟨g,rfl,sz _ _ hg⟩) pts tb e0' ht0 hm0 ⟨by rw[ai,l1];rfl,by rw[ai,l2];rfl,fo.fst,λk ps' d' h1 h2=>?_,λk ps' d' d'' w' ss' h1 h2 h3 h4 h5=>?_,λps' d' h1 h2=>?_,λk d' ks2 h1 h2=>?_⟩ ?_ ((s02.trans sd).trans (sdf.trans sz))
    ·by_cases ck2:k<ws.length
     ·rw[ar (by lia)] at h1 h2
      exact fo.ok k ps' d' h1 h2
     ·have ki:k=ws.length:=by have:=(ae.mp h1).1;rw[ai,aI] at this;lia
      subst ki
      rw[ao (by lia),l1,a9] at h1
      rw[ao (by lia),l2,a9] at h2
      cases h1;cases h2;exact gr.ok
    ·have kl2:k<ws.length:=(ae.mp h4).1
     rw[ar (by lia)] at h1 h2
     exact fo.nxt k ps' d' d'' w' ss' h1 h2 h3 h4 h5
    ·rw[ao (by lia),l1,a9] at h1
     rw[ao (by lia),l2,a9] at h2
     cases h1;cases h2
     rw[<-gr.run];exact wk
    ·by_cases ck2:k<ws.length
     ·rw[ar (by lia)] at h1
      exact fo.mem k d' ks2 h1 h2
     ·have ki:k=ws.length:=by have:=(ae.mp h1).1;rw[ai,aI] at this;lia
      subst ki
      rw[ao (by lia),l2,a9] at h1
      rw[hks] at h2
      cases h1;cases h2;exact ck
    ·rw[aC,fL]
     have:=fo.sum
     have:=gr.sum
     show _+(ps.length+0)=m0
     lia
   have g1f:=se2 _ _ hg1
   by_cases ge:gvs=[]
   ·subst ge
    exact .inl ⟨g1,u,_,rfl,rfl,cE.of g1f,cE.of hu,fin u Hf hu (aM.refl Hf)⟩
   ·refine .inr (.inr (.inr (.inr ⟨g1,u,_,_,rfl,rfl,cE.of g1f,cE.of hu,ge,bR (bH (by rw[hGd.len,fo.len];show _+1<=_;lia)),(λz=>by cases z),λ_ z nz=>fin z _ aj ((aM.refl Hf).new nz)⟩)))
def qo(K:Fg):Sp:=λvs H Q _=>∃(st:Addr) (k:Nat),vs=[.ref st]/\k8 K H st k/\k<=900000/\∀(n:Nat) (H':Hp),1<=n->n<=5->k8 K H' st (k+1)->iz st H H'->Q (.int (n:Nat)) H'
def oz(_:Fg):Sp:=λvs H Q _=>∃(n:Nat) (wp lt nm:Addr) (ws:List Wk) (last ys:List Str),vs=[.int (n:Nat),.ref wp,.ref lt,.ref nm]/\jd H wp lt ws last/\Bx ys last ws/\H nm=some (.lst (ys.map V.str))/\ys.Nodup/\last.length<=n/\
 ∀(wp':Addr) (ws':List Wk) (pss:List (List Str)) (H':Hp),jd H' wp' lt ws' last->Bx ys last ws'->kZ last ws' pss->uy n ws' pss->aM H H'->Q (.ref wp') H'
def tH(K:Fg):Sp:=λvs H Q _=>∃(st nd nm:Addr) (n k:Nat) (ss ys:List Str),vs=[.ref st,.int (n:Nat),.ref nd,.ref nm]/\k8 K H st k/\k<=500000/\nm≠st/\H nm=some (.lst (ys.map V.str))/\ys.length<=20/\H nd=some (.tup (ss.map V.str))/\ss.length<=n/\n<=5/\
 ∀(bp:Addr) (B:Bt) (k':Nat) (H':Hp),H' bp=some (.tup (cL B))->B.length=n->(∀z∈ss,some z∈B)->k8 K H' st k'->k'<=k+20->iz st H H'->Q (.ref bp) H'
def i9(_:Fg):Sp:=λvs H Q _=>∃(bp:Addr) (B:Bt) (x:Option Str),vs=[.ref bp,fX x]/\H bp=some (.tup (cL B))/\B≠[]/\B.length<=10/\∀(r:Addr) (H':Hp),H' r=some (.tup (cL (zT B x)))->aM H H'->Q (.ref r) H'
def rB(_:Fg):Sp:=λvs H Q _=>∃(bp wp lt gp:Addr) (B:Bt) (ws:List Wk) (last dd:List Str) (gvs:List V) (gs:List (List Nat)),vs=[.ref bp,.ref wp,.ref lt,.ref gp]/\H bp=some (.tup (cL B))/\B≠[]/\B.length<=10/\jd H wp lt ws last/\Bx dd last ws/\H gp=some (.tup gvs)/\bj (um H) gvs gs/\rR B ws last gs/\
 ∀(r:Addr) (H':Hp),aM H H'->Q (.ref r) H'
def rC(_:Fg):Sp:=λvs H Q _=>∃(gp:Addr) (gvs:List V) (gs:List (List Nat)),vs=[.ref gp]/\H gp=some (.tup gvs)/\bj (um H) gvs gs/\gs.length<=1000/\∀(H':Hp),aM H H'->Q (.int (((gs.map (·.length)).sum:Nat):Int)) H'
abbrev ET:Nat:=1
abbrev DV:Nat:=2
abbrev C0:Nat:=2
abbrev CA:Nat:=3
abbrev G1:Nat:=2
abbrev Gz:Nat:=3
abbrev uF:Nat:=0
abbrev uo:Nat:=1
abbrev Ju:Nat:=1
abbrev Jc:Nat:=2
abbrev Jx:Nat:=0
abbrev Jf:Nat:=1
abbrev IJ:Nat:=8
abbrev DS:Nat:=9
end Bg
end
section
namespace PySem.W
open PySem PySem.Calls PyProof.Rows PyProof.V PySem.Spec Builtin Builtin.Str Builtin.Int
section
variable{prog:Program}{w:World}{A:Around}{E:Value->Shared->Prop}{s:Shared}{r l:Addr}
end
end PySem.W
namespace L2
open PySem PySem.Spec PyProof.Rows
section
variable{X:Cx}
end
section
variable{X:Cx}
end
section
variable{M:Model}{A:Around}{E:Value->Shared->Prop}{s:Shared}{base:Heap}{env:Env}{outer:List Env}{L e T:Addr}{oe:Obj}{vs:Array Value}
end
open Builtin Builtin.ObjectAttr
section
variable{prog:Program}{w:World}{A:Around}{E:Value->Shared->Prop}{h:Heap}{g:Array GenState}{d:Drawn}{t:Nat}{os:OsState}
variable{nm q:Str}{C N B:Addr}{bs:List Value}{hdct:Bool}{sn:List Str}{sub:List Value}{ab:Bool}{col:Option Bool}{dd:Option Addr}{k0 k1 k2 k3 k5:Option Value}
end
end L2
end
section
namespace L2
open PySem PySem.Spec PyProof.Rows PySem.W
section
variable{prog:Program}{w:World}{A:Around}{E:Value->Shared->Prop}{s:Shared}{K:Fg}{x C D:Addr}{ox od:Obj}{odo:Option Obj}{name:Str}
end
end L2
end
section
namespace L2
open PySem PySem.Spec PyProof.Rows
open Builtin Builtin.ObjectAttr
section
variable{P:Program}{w:World}{H:Hp}{h:Heap}{x C T dx:Addr}{od:Option Addr}{fs:List (Str×V)}
end
section
variable{prog:Program}{w:World}{A:Around}{E:Value->Shared->Prop}{K:Fg}{C x:Addr}{s:Shared}{R:Result->Shared->Prop}
end
section
variable{X:Cx}{pins:List (Addr×Obj)}{σ:St}{H:Hp}{s:Shared}{x C dx:Addr}{fs:List (Str×V)}{f:Str}{v y:V}{u:Value}{A:Around}{E:Value->Shared->Prop}
end
section
variable{X:Cx}{pins:List (Addr×Obj)}{σ:St}{H:Hp}{s:Shared}{x C T T':Addr}{od:Option Addr}{M:Model}{E:Value->Shared->Prop}
end
section
variable{P:Program}{w:World}{K:Fg}{mg:Str->Option Value}{base:Heap}{N:List Str}{qual:Str}{scope:Scope}{f:Addr}{cd:Value}{A:Around}{outer:List Env}{s:Shared}{H:Hp}{E:XK}
end
section
variable{X:Cx}{k:Nat}{f C:Addr}{fd:FuncData}{ps:List Str}{sp:Sp}{x:Str}{p pos apos:Pos}{e o value:Expr}{es:List Expr}{ta tv:TE}{t:TA}
end
section
variable{X:Cx}{pins pins':List (Addr×Obj)}{σ:St}{H:Hp}{s:Shared}{E:Value->Shared->Prop}{x:Addr}
end
section
variable{X:Cx}
end
section
variable{prog:Program}{w:World}{A:Around}{E:Value->Shared->Prop}{s:Shared}{K:Fg}{x C D:Addr}{ox od:Obj}
end
section
variable{prog:Program}{w:World}{A:Around}{R:Result->Shared->Prop}{I:Addr}{fp wr:List Addr}{n:Nat}{P:Nat->Value->Prop}{St:Nat->Heap->Prop}
end
section
variable{prog:Program}{w:World}{A:Around}{E:Value->Shared->Prop}{s:Shared}{l:Addr}{xs:Array (Int×Tok)}
end
section
variable{X:Cx}
end
section
variable{prog:Program}{w:World}{A:Around}{E:Value->Shared->Prop}{s:Shared}
end
section
variable{X:Cx}
end
section
variable{X:Cx}{k:Nat}{C:Addr}{ps:List Str}{sp:Sp}{x:Str}{p pos:Pos}{e o value:Expr}{es:List Expr}{ta tv te:TE}{t:TA}{E:XK}
end
section
variable{P:Program}{w:World}{K:Fg}{mg:Str->Option Value}{base:Heap}{N:List Str}{qual:Str}{scope:Scope}{f:Addr}{cd:Value}{A:Around}{outer:List Env}{s:Shared}{H:Hp}{E:XK}
end
section
variable{X:Cx}
end
end L2
end
section
namespace HT
open PySem PySem.Spec PyProof.Rows
section
variable{prog:Program}{w:World}{A:Around}{E:Value->Shared->Prop}{s:Shared}
end
end HT
namespace L2
open PySem PySem.Spec PyProof.Rows
section
variable{X:Cx}{e st:Expr}{te ts:TE}{pos p2:Pos}
end
section
variable{X:Cx}
theorem fM(ha:QE X a ta)(hb:QE X b tb)(h:wx b:=by exact λ_ _=>rfl):QE X (.Subscript a b pos) (bN (eU X.K) ta tb):=Ln Jr ha hb h
theorem eV{x:Str}(c:b7 X.prog X.w X.K X.mg X.base x ps k sp)(ha:QA X (e::es) t)(hr:gN k X.A:=by exact gN.mono (by assumption) (by decide))(hg:Gl X x:=by rfl)(h1:(x==("__debug__":Str))=false:=by decide)
  (h2:starEach (e::es) X.env=(false,eval e X.env)::starEach es X.env:=by rfl) (h3:(backTo pos (starEach es X.env)).any (·.1)=false:=by rfl):QE X (.Call (.Name x p) (e::es) [] pos) (br sp [] E0 t):=Lm c hr hg ha h1 h2 h3
theorem gn(B:kT X.mg)(ha:QA X (e::es) t)(hg:Gl X "len":=by rfl)(h2:starEach (e::es) X.env=(false,eval e X.env)::starEach es X.env:=by rfl)(h3:(backTo pos (starEach es X.env)).any (·.1)=false:=by rfl):QE X (.Call (.Name "len" p) (e::es) [] pos) (ff (fQ X.K) t):=eE Eh hg B.len_ boot_len ha (by decide) (by decide) h2 h3
theorem ft(i:Nat){x:Str}(he:QE X e te)(hi:X.N[i]?=some x:=by rfl)(hN:X.N.Nodup:=by assumption)(hx:DX X.env.scope x:=by first|exact Or.inl rfl|exact Or.inr rfl)(hs:swapsWith e (some (.Name x pos')) pos.line X.env=pure false:=by rfl)
  (hf:X.fn x=true\/X.env.scope.names.lookup x=some .local:=by first|exact .inl rfl|exact .inr rfl|assumption):QS X (.Assign [.Name x pos'] e pos) (bU te (aQ i)):=Kh hN hi hx he hs hf
theorem iH(i:Nat){x:Str}(hi:X.N[i]?=some x:=by rfl)(hN:X.N.Nodup:=by first|assumption|(dsimp only[cN];decide +kernel))(hx:DX X.env.scope x:=by first|exact Or.inl rfl|exact Or.inr rfl)
  (hf:X.fn x=true\/X.env.scope.names.lookup x=some .local:=by first|exact .inl rfl|exact .inr rfl|assumption):QG X (.Name x pos) (aQ i):=HS hN hi hx hf
theorem wX{s1:Stmt}(hc:QT X c tc)(ha:QS X s1 t):QS X (.If c [s1] [] pos) (fZ tc t d6):=qG hc (aU ha) kj
theorem bP(ha:QE X e te)(hs:starEach [e] X.env=(false,eval e X.env)::starEach [] X.env:=by rfl):QA X [e] (aq te aO):=aB ha gU hs
theorem oZ(ho:QE X o to)(ha:QE X e te)(hbase:attributeBase o "append" X.env (eval o X.env)=eval o X.env:=by rfl)
  (hfew:((backTo cpos (starEach [e] X.env)).all (λx=>!x.1)&&(backToKw cpos (keywordEach [] X.env)).all (λx=>x.1.isSome)&&decide (([e]:List Expr).length+([]:List Keyword).length+(if([]:List Keyword).isEmpty then 0 else 1)<30))=true:=by rfl)
  (hline:(apos.endLine==cpos.line)=true:=by rfl) (hs:starEach [e] X.env=(false,eval e X.env)::starEach [] X.env:=by rfl) (hp:(backTo cpos (starEach [] X.env)).any (·.1)=false:=by rfl) :
  QE X (.Call (.Attribute o "append" apos) [e] [] cpos) (rE X.K "list" dN to (aq te aO)):=vD cQ PySem.F.slot_list_append PySem.F.type_list_append vq ho (bP ha hs) hbase hfew hline hs hp
theorem Mn(ho:QE X o to)(ha:QE X e te)(hbase:attributeBase o "join" X.env (eval o X.env)=eval o X.env:=by rfl)
  (hfew:((backTo cpos (starEach [e] X.env)).all (λx=>!x.1)&&(backToKw cpos (keywordEach [] X.env)).all (λx=>x.1.isSome)&&decide (([e]:List Expr).length+([]:List Keyword).length+(if([]:List Keyword).isEmpty then 0 else 1)<30))=true:=by rfl)
  (hline:(apos.endLine==cpos.line)=true:=by rfl) (hs:starEach [e] X.env=(false,eval e X.env)::starEach [] X.env:=by rfl) (hp:(backTo cpos (starEach [] X.env)).any (·.1)=false:=by rfl) :
  QE X (.Call (.Attribute o "join" apos) [e] [] cpos) (rE X.K "str" (Fx X.K) to (aq te aO)):=vD PySem.F.plainAttrs_str PySem.F.slot_str_join PySem.F.type_str_join G9 ho (bP ha hs) hbase hfew hline hs hp
theorem xE(st:Stmt)(N ext:List Str)(js:List Nat)(it:QI X target iter wi)(hg:∀{cl C s₀ H₀ fp},QG (cN X (N++ext) scope cl C s₀ H₀ fp) target g)(hi:∀{cl C s₀ H₀ fp},CH (cN X (N++ext) scope cl C s₀ H₀ fp) ifs tc)(he:∀{cl C s₀ H₀ fp},QE (cN X (N++ext) scope cl C s₀ H₀ fp) elt te)
  (ok:nO (cG st) N scope (N++ext) js:=by exact⟨rfl,by decide +kernel,by decide +kernel,by decide +kernel,rfl,by decide +kernel⟩) (h1:X.env.scope=cG st:=by rfl) (h2:X.N=N:=by rfl) (h3:(N++ext).length=N.length+k:=by rfl) (h4:X.calm=true:=by rfl)
  (hs:∀x,foldedSetIterable iter X.env x=pure x:=by intro _;rfl):QE X (.ListComp elt [⟨target,iter,ifs,0⟩] scope pos) (d5 js k wi g tc te):=HR ok h1 h2 h3 h4 it (λ_ _ _ _ _=>hg) (λ_ _ _ _ _=>hi) (λ_ _ _ _ _=>he) hs
theorem LY(st:Stmt)(N ext:List Str)(js:List Nat)(i:Nat){y:Str}(it:QI X target iter wi)(hg:∀{cl C s₀ H₀ fp},QG (cN X (N++ext) scope cl C s₀ H₀ fp) target g)(hi:∀{cl C s₀ H₀ fp},CH (cN X (N++ext) scope cl C s₀ H₀ fp) ifs tc)(he:∀{cl C s₀ H₀ fp},QE (cN X (N++ext) scope cl C s₀ H₀ fp) elt te)
  (ok:nO (cG st) N scope (N++ext) js:=by exact⟨rfl,by decide +kernel,by decide +kernel,by decide +kernel,rfl,by decide +kernel⟩) (h1:X.env.scope=cG st:=by rfl) (h2:X.N=N:=by rfl) (h3:(N++ext).length=N.length+k:=by rfl) (h4:X.calm=true:=by rfl)
  (nd:X.N.Nodup:=by assumption) (hy:X.N[i]?=some y:=by rfl) (hl:DX X.env.scope y:=by first|exact Or.inl rfl|exact Or.inr rfl) (hw:swapsWith (.ListComp elt [⟨target,iter,ifs,0⟩] scope pos) (some (.Name y py)) spos.line X.env=pure true:=by rfl)
  (hs:∀x,foldedSetIterable iter X.env x=pure x:=by intro _;rfl) (hf:X.fn y=true\/X.env.scope.names.lookup y=some .local:=by first|exact .inl rfl|exact .inr rfl|assumption):QS X (.Assign [.Name y py] (.ListComp elt [⟨target,iter,ifs,0⟩] scope pos) spos) (bU (d5 js k wi g tc te) (aQ i)):=HY ok h1 h2 h3 h4 it (λ_ _ _ _ _=>hg) (λ_ _ _ _ _=>hi) (λ_ _ _ _ _=>he) nd hy hl hw hs hf
end
end L2
namespace Bg
open PySem PySem.Spec PyProof.Rows L2
def c5(K:Fg)(x:Str)(st:Stmt):Prop:=∃(f:Addr) (oc:Value) (od:Option Addr) (kV doc pm:Value) (an:Option Addr) (cdv ct:Value) (osl:Array (Option Value)),
 bz K mainGlobals x=some (some (.ref f))/\K.lookup f=some ⟨oc,od,.func (dX x x (j7 st) (g9 st) (cG st) .none kV doc pm an cdv ct),osl⟩/\gg K cdv x=true/\e6 K (.ref f)=true
theorem defAt{K:Fg}{x:Str}{st:Stmt}{f:Addr}{oc:Value}{od:Option Addr}{kV doc pm:Value}{an:Option Addr}{cdv ct:Value}{osl:Array (Option Value)}(a:bz K mainGlobals x=some (some (.ref f)))(l:K.lookup f=some ⟨oc,od,.func (dX x x (j7 st) (g9 st) (cG st) .none kV doc pm an cdv ct),osl⟩)(c:gg K cdv x=true)(k:e6 K (.ref f)=true):c5 K x st:=⟨f,oc,od,kV,doc,pm,an,cdv,ct,osl,a,l,c,k⟩
def kF(P:Program)(w:World)(K:Fg)(mg:Str->Option Value)(base:Heap)(N:List Str)(q:Str)(st:Stmt)(k:Nat)(t:TS):Prop:=
 ∀{f:Addr} {cdv:Value} {A:Around} {outer:List Env} {s:Shared} {H:Hp} {E:XK},gN k (A.deeper (envOfC q (cG st) s.heap.objs.size f cdv))->Ag (yj Gr P w K mg base N q (cG st) f cdv A outer s H E).nox (g9 st) t
section
variable{P:Program}{w:World}{K:Fg}{mg:Str->Option Value}{base h:Heap}{x q:Str}{N ps:List Str}{st:Stmt}{k:Nat}{sp:Sp}
theorem lA{t:TS}(d:∀{f:Addr} {cdv:Value} {A:Around} {outer:List Env} {s:Shared} {H:Hp} {E:XK},N.Nodup->(A.deeper (envOfC q (cG st) s.heap.objs.size f cdv)).units<cLine->(A.deeper (envOfC q (cG st) s.heap.objs.size f cdv)).units+1<cLine->gN k (A.deeper (envOfC q (cG st) s.heap.objs.size f cdv))->
  GJ (yj Gr P w K mg base N q (cG st) f cdv A outer s H E).nox (g9 st) t) (nd:N.Nodup:=by decide +kernel):kF P w K mg base N q st k t:=λhr=>(d nd hr.units0 (K0 hr) hr).up
structure L4(x:Str)(N ps:List Str)(st:Stmt)(sp:Sp):Prop where
 S:rg N ps (cG st):=by exact⟨rfl,rfl,rfl,by decide +kernel,rfl,by decide +kernel,by decide +kernel⟩
 len:∀vs H Q E,sp vs H Q E->vs.length=ps.length:=by(intro _ _ _ _ h;(repeat obtain⟨_,h⟩:=h)<;>(subst_vars;rfl))
 bd:∀(kV doc pm:Value) (an:Option Addr) (cdv ct:Value) (us:List Value),us.length=ps.length->bindArgs (dX x x (j7 st) (g9 st) (cG st) .none kV doc pm an cdv ct) ⟨us,[]⟩=pure (ps.zip us):=by
   (intro _ _ _ _ _ _ us hl;first|(obtain⟨_,rfl⟩:=Mg (us:=us) hl;rfl)|(obtain⟨_,_,rfl⟩:=Mh (us:=us) hl;rfl)|(obtain⟨_,_,_,rfl⟩:=Mi (us:=us) hl;rfl)|(obtain⟨_,_,_,_,rfl⟩:=Mj (us:=us) hl;rfl)|(obtain⟨_,_,_,_,_,rfl⟩:=le5 (us:=us) hl;rfl)|(obtain⟨_,_,_,_,_,_,rfl⟩:=le6 (us:=us) hl;rfl)|(obtain⟨_,_,_,_,_,_,_,rfl⟩:=le7 (us:=us) hl;rfl)|(obtain rfl:=le0 (us:=us) hl;rfl))
theorem mj{t:TS}(X:K.In h)(G:h.Ns mainGlobals mg)(l:c5 K x st)(d:kF P w K mg base N x st k t)(r:∀vs H Q E,sp vs H Q E->t {nx:=λ_ H'=>Q .non H',rt:=Q} (start N vs) H)(z:L4 x N ps st sp:=by exact{}):b7 P w K mg base x ps (k+1) sp:=by
 obtain⟨f,oc,od,kV,doc,pm,an,cdv,ct,osl,a,lk,c,kp⟩:=l
 have F:=ED lk c kp
 exact⟨⟨f,_,PySem.W.mg_of X G a,kp,F.binds (ps:=ps) z.bd,F.ok z.S z.len λcdv A outer s H vs Q E hr z=>⟨t,d hr,r vs H Q E z⟩⟩⟩
theorem K6{p:Str}{fa:Addr}{t:TS}(X:K.In h)(G:h.Ns mainGlobals mg)(hfa:mg "law"=some (.ref fa))(l:c5 K "law" st)(d:∀base,kF P w K mg base N "law" st k t)(r:∀vs H Q E,sp vs H Q E->t {nx:=λ_ H'=>Q .non H',rt:=Q} (start N vs) H)(z:L4 "law" N [p] st sp:=by exact{}) :
  ∃fd:FuncData,(∀(s:Shared) (v:Value),BindsTo s fd ⟨[v],[]⟩ [(p,v)])/\∀base:Heap,K.In base->base.Ns mainGlobals mg->uk P w K mg base Gr (k+1) fa fd [p] sp:=by
 obtain⟨f,oc,od,kV,doc,pm,an,cdv,ct,osl,a,lk,c,kp⟩:=l
 have e:=hfa.symm.trans (PySem.W.mg_of X G a)
 cases e
 have F:=ED lk c kp
 exact⟨_,λs v=>.of_eq (z.bd kV doc pm an cdv ct [v] rfl),λbase _ _=>F.ok z.S z.len λcdv A outer s H vs Q E hr z=>⟨t,d base hr,r vs H Q E z⟩⟩
end
end Bg
end
section
namespace L2
open PySem PySem.Spec PyProof.Rows
section
variable{X:Cx}
def IU(K:Fg):List V->Hp->VK->Prop:=λxs H Q=>∃(p:Addr) (ns:List Int),xs=[.ref p]/\cq K H p (ns.map V.int)/\Q (.int ns.sum) H
theorem CO(hc:X.calm=true):ip X (.builtin "sum") (IU X.K):=by
 intro pins s σ H xs us Q I r h
 obtain⟨p,ns,rfl,hq,q⟩:=h
 obtain⟨u,rfl,rx⟩:=jZ r
 cases rx
 obtain⟨its,rv,pl,hz⟩:=I.list hq
 have intsOf:∀(ns:List Int) (its:List Value),bV (ns.map V.int) its->∃xs:List (Int×Tok),(its=xs.map λp=>Value.int p.1 p.2)/\ns=xs.map (·.1):=by
  intro ns
  induction ns with
  |nil=>intro its r;cases r;exact⟨[],rfl,rfl⟩
  |cons n ns ih=>
   intro its r
   cases r with
   |cons r rr=>
    obtain⟨xs,rfl,e⟩:=ih _ rr
    obtain⟨t,rfl⟩:=r
    exact⟨(n,t)::xs,rfl,by rw[e];rfl⟩
 obtain⟨xs,rfl,rfl⟩:=intsOf ns its rv
 refine sum_intListG (xs:=xs.toArray) (I.ok.hd hc) ?_ λh' tk t' hk=>⟨.int _,H,I.kept hk,⟨t',rfl⟩,?_⟩
 ·have e:=pl.isList
  simpa[intItems] using e
 ·rw[preSum_eq,cW (by simp)]
  simpa using q
end
end L2
end
section
namespace Bg
open PySem PySem.Spec PyProof.Rows L2
def md(i:Nat):Stmt:=PySem.Challenge.pw_beltgarth_k67_whole_one_place_more.main.body.getD i (.Pass ⟨0,0,0,0⟩)
abbrev sY:Stmt:=md 1
abbrev oq:Stmt:=md 3
abbrev kq:Stmt:=md 4
abbrev mW:Stmt:=md 6
abbrev lN:Stmt:=md 7
abbrev qK:Stmt:=md 8
abbrev za:Stmt:=md 9
abbrev sX:Stmt:=md 11
abbrev mV:Stmt:=md 12
abbrev jv:Stmt:=md 13
abbrev eA:Stmt:=md 14
abbrev oo:Stmt:=md 15
abbrev fR:Stmt:=md 16
abbrev y9:Stmt:=md 17
abbrev tf:Stmt:=md 18
abbrev lM:Stmt:=md 19
abbrev sZ:Stmt:=md 20
abbrev iI:Stmt:=md 21
abbrev pw:Stmt:=md 22
abbrev jK:Stmt:=md 23
abbrev FP:Stmt:=md 25
abbrev xm:Stmt:=md 26
abbrev zb:Stmt:=md 27
abbrev CF:List Str:=["_law_state"]
abbrev xS:List Str:=["_law_state"]
def zJ(K:Fg):TS:=(c9 (bN (eU K) (gA (aq (tC (.int 1)) (aq (tC (.int 2)) (aq (tC (.int 3)) (aq (tC (.int 2)) (aq (tC (.int 3)) (aq (tC (.int 3)) (aq (tC (.int 2)) (aq (tC (.int 3)) (aq (tC (.int 4)) (aq (tC (.int 4)) (aq (tC (.int 4)) (aq (tC (.int 4)) (aq (tC (.int 1)) (aq (tC (.int 2)) (aq (tC (.int 3)) (aq (tC (.int 5)) aO))))))))))))))))) (br (eB K) [] E0 (aq (av 0) (aq (tC (.int 16)) aO)))))
abbrev B9:Stmt:=md 28
abbrev xn:Stmt:=md 29
abbrev qJ:Stmt:=md 30
abbrev tm:Stmt:=md 31
abbrev qk:Stmt:=md 32
abbrev FQ:Stmt:=md 33
abbrev vG:Stmt:=md 34
abbrev Af:List Str:=["_law_places_here","_law_works_here","_law_last_here","_law_names_here"]
abbrev u5:List Str:=["_law_places_here","_law_works_here","_law_last_here","_law_names_here","_law_far","_law_k"]
def zL(K:Fg):TS:=(c9 (av 1))
def jD(K:Fg):TS:=(bU (br (kr K) [] E0 (aq (av 0) (aq (av 1) (aq (br (jY K) [] E0 (aq (av 1) (aq (av 2) (aq (av 3) aO)))) aO)))) (aQ 4))
def qT(K:Fg):TS:=(bB (bU (bN (ko K) (FY (De K) (av 1) gu (lS (av 5))) (FY (De K) (av 1) (lS (bN (ko K) (av 5) (tC (.int 1)))) gu)) (aQ 1)) (jD K))
def zM(K:Fg):TS:=(bB (bU (ff (Fy) (aq (bN (eU K) (av 4) (tC (.int 1))) (aq (bN (qH) (ff (fQ K) (aq (av 1) aO)) (tC (.int 1))) aO))) (aQ 5)) (qT K))
def qU(K:Fg):TS:=(bB (lT (zi (cg (bN (sT) (av 4) (tC .non))) (cg (bN (uK) (ff (fQ K) (aq (av 1) aO)) (tC (.int 0))))) (zM K)) (zL K))
def vU(K:Fg):TS:=(bB (bU (br (kr K) [] E0 (aq (av 0) (aq (av 1) (aq (br (jY K) [] E0 (aq (av 1) (aq (av 2) (aq (av 3) aO)))) aO)))) (aQ 4)) (qU K))
abbrev xj:Stmt:=md 35
abbrev D1:List Str:=["_law_state","_law_places_here","_law_needs","_law_names_here"]
abbrev v8:List Str:=["_law_state","_law_places_here","_law_needs","_law_names_here","_law_left","_law_belt"]
def vL(K:Fg):TS:=(c9 (ff (dB K) (aq (av 5) aO)))
def Dq(K:Fg):TS:=(gq (rE K "list" dN (av 5) (aq (rE K "list" AZ (av 4) (aq (br (eB K) [] E0 (aq (av 0) (aq (ff (fQ K) (aq (av 4) aO)) aO))) aO)) aO)))
def vM(K:Fg):TS:=(bB (lT (cg (bN (uK) (ff (fQ K) (aq (av 4) aO)) (tC (.int 0)))) (Dq K)) (vL K))
def vO(K:Fg):TS:=(bB (bU (gA aO) (aQ 5)) (vM K))
def Cd(K:Fg):TS:=(bB (bU (bN (c7 K) (ff (xa K) (aq (av 2) aO)) (d5 [] 1 (lB (aq (bN (qH) (av 1) (ff (fQ K) (aq (av 2) aO))) aO)) (aQ 6) jN (br (lR K) [] E0 (aq (av 0) (aq (av 3) aO))))) (aQ 4)) (vO K))
abbrev jJ:Stmt:=md 36
abbrev rY:List Str:=["_law_belt","_law_makes"]
abbrev jF:List Str:=["_law_belt","_law_makes"]
def kG(K:Fg):TS:=(c9 (bN (c7 K) (kz (aq (av 1) aO)) (FY (Ic K) (ff (dB K) (aq (d5 [] 1 (je K (av 0)) (aQ 2) jN (bN (eU K) (gA (aq (av 2) (aq (tC .non) aO))) (ff (IQ) (aq (bN (wY K) (av 2) (av 1)) aO)))) aO)) gu (lS (zU ph (tC (.int 1)))))))
def mY(K:Fg):TS:=(bB (fZ (cg (bN (Dd) (av 1) (tC .non))) (c9 (av 0)) d6) (kG K))
abbrev xk:Stmt:=md 37
abbrev GE:List Str:=["_law_begin_here","_law_works_here","_law_last_here","_law_groups"]
abbrev v9:List Str:=["_law_begin_here","_law_works_here","_law_last_here","_law_groups","_law_belt","_law_k","_law_place"]
def F1(K:Fg):TS:=(c9 (av 4))
def zo(K:Fg):TS:=(bB (fZ (Iw (tB (ff (Ft K) (aq (d5 [] 1 (je K (av 2)) (aQ 7) jN (bN ((C9 K false)) (av 7) (av 4))) aO)))) (c9 (tC .non)) d6) (F1 K))
def zp(K:Fg):TS:=(bU (br (i9 K) [] E0 (aq (av 4) (aq (bN (eU K) (bN (eU K) (av 1) (av 5)) (tC (.int 1))) aO))) (aQ 4))
def zq(K:Fg):TS:=(fZ (cg (bN (AY) (av 5) (ff (fQ K) (aq (av 1) aO)))) (bB (fZ (Iw (tB (ff (Ft K) (aq (d5 [] 1 (je K (bN (eU K) (bN (eU K) (av 1) (av 5)) (tC (.int 0)))) (aQ 7) jN (bN ((C9 K false)) (av 7) (av 4))) aO)))) (c9 (tC .non)) d6) (zp K)) d6)
def zr(K:Fg):TS:=(bU (bN (c7 K) (kz (aq (bN (eU K) (av 4) (av 6)) aO)) (FY (Ic K) (av 4) gu (lS (zU ph (tC (.int 1)))))) (aQ 4))
def zt(K:Fg):TS:=(bB (fZ (cg (bN (Dd) (bN (eU K) (av 4) (av 6)) (tC .non))) (c9 (tC .non)) d6) (zr K))
def zu(K:Fg):TS:=(bB (jM (je K (bN (eU K) (av 3) (av 5))) (aQ 6) (zt K)) (zq K))
def zv(K:Fg):TS:=(bB (jM (lB (aq (bN (c7 K) (ff (fQ K) (aq (av 1) aO)) (tC (.int 1))) aO)) (aQ 5) (zu K)) (zo K))
def F0(K:Fg):TS:=(bB (bU (av 0) (aQ 4)) (zv K))
abbrev A8:Stmt:=md 38
abbrev GH:List Str:=["_law_groups"]
abbrev Ad:List Str:=["_law_groups"]
def Gc(K:Fg):TS:=(c9 (ff (IU K) (aq (d5 [] 1 (je K (av 0)) (aQ 1) jN (ff (fQ K) (aq (av 1) aO))) aO)))
abbrev IW:Stmt:=md 39
abbrev D3:List Str:=["_law_script"]
abbrev IF:List Str:=["_law_script","_law_state","_law_places_here","_law_names_here","_law_works_here","_law_last_here","_law_begin_here","_law_longer","_law_groups"]
def Ce(K:Fg):TS:=(c9 (bN (LZ) (br (rC K) [] E0 (aq (br (jw K) [] E0 (aq (av 7) (aq (av 4) (aq (av 5) aO)))) aO)) (br (rC K) [] E0 (aq (av 8) aO))))
def Cf(K:Fg):TS:=(bB (fZ (LA (cg (bN (Dd) (br (rB K) [] E0 (aq (av 6) (aq (av 4) (aq (av 5) (aq (av 8) aO))))) (tC .non))) (cg (bN (Dd) (br (rB K) [] E0 (aq (av 7) (aq (av 4) (aq (av 5) (aq (av 8) aO))))) (tC .non)))) (c9 (tC (.bl false))) d6) (Ce K))
def Cg(K:Fg):TS:=(bB (fZ (LA (cg (bN (sT) (br (iT K) [] E0 (aq (av 2) (aq (av 4) (aq (av 5) aO)))) (tC .non))) (cg (bN (sT) (br (iT K) [] E0 (aq (bN (c7 K) (av 2) (tC (.int 1))) (aq (av 4) (aq (av 5) aO)))) (tC .non)))) (c9 (tC (.bl false))) d6) (Cf K))
def Ci(K:Fg):TS:=(bB (bU (br (jw K) [] E0 (aq (av 6) (aq (av 4) (aq (av 5) aO)))) (aQ 8)) (Cg K))
def Cj(K:Fg):TS:=(bB (bU (bN (c7 K) (av 6) (kz (aq (br (lR K) [] E0 (aq (av 1) (aq (av 3) aO))) aO))) (aQ 7)) (Ci K))
def Ck(K:Fg):TS:=(bB (bU (br (tH K) [] E0 (aq (av 1) (aq (av 2) (aq (bN (eU K) (br (jY K) [] E0 (aq (av 4) (aq (av 5) (aq (av 3) aO)))) (tC (.int 0))) (aq (av 3) aO))))) (aQ 6)) (Cj K))
def Cn(K:Fg):TS:=(bB (bU (br (oz K) [] E0 (aq (av 2) (aq (av 4) (aq (av 5) (aq (av 3) aO))))) (aQ 4)) (Ck K))
def Co(K:Fg):TS:=(bB (bU (br (xt K) [] E0 (aq (av 1) (aq (av 3) (aq (av 2) aO)))) (aQ 5)) (Cn K))
def Cp(K:Fg):TS:=(bB (bU (br (tJ K) [] E0 (aq (av 1) (aq (av 3) (aq (bN (eU K) (gA (aq (tC (.int 10)) (aq (tC (.int 10)) (aq (tC (.int 10)) (aq (tC (.int 6)) (aq (tC (.int 3)) aO)))))) (bN (qH) (av 2) (tC (.int 1)))) aO)))) (aQ 4)) (Co K))
def zF(K:Fg):TS:=(bB (bU (br (tI K) [] E0 (aq (av 1) (aq (bN (c7 K) (tC (.int 1)) (br (eB K) [] E0 (aq (av 1) (aq (bN (c7 K) (av 2) (tC (.int 2))) aO)))) aO))) (aQ 3)) (Cp K))
def zG(K:Fg):TS:=(bB (bU (ff (Fy) (aq (tC (.int 4)) (aq (br (qo K) [] E0 (aq (av 1) aO)) aO))) (aQ 2)) (zF K))
def IZ(K:Fg):TS:=(bB (bU (gA (aq (av 0) (aq (tC (.int 0)) (aq (tC (.int 0)) aO)))) (aQ 1)) (zG K))
section
variable(P:Program)(w:World)(K:Fg)(mg:Str->Option Value)(base:Heap)
abbrev rM:=b7 P w K mg base "pushed" xU zY (lP K)
abbrev lp:=b7 P w K mg base "without" wu xP (iU K)
abbrev g8:=b7 P w K mg base "wanted_at" si uv (fc K)
abbrev mK:=b7 P w K mg base "any_order" rZ ur (ja K)
abbrev oD:=b7 P w K mg base "followed" uw v5 (jL K)
abbrev rN:=b7 P w K mg base "spread" xV zZ (jx K)
abbrev j4:=b7 P w K mg base "worked" xY Aa (fW K)
abbrev rP:=b7 P w K mg base "weaker" xX z9 (lQ K)
abbrev iM:=b7 P w K mg base "belts_that_come" lx mx (e9 K)
abbrev qy:=b7 P w K mg base "has_all" wo xO (ky K)
abbrev rO:=b7 P w K mg base "turned" xW z0 (jy K)
abbrev oF:=b7 P w K mg base "seen" CD DU (iV K)
abbrev fN:=b7 P w K mg base "places_to_keep" my nR (dC K)
abbrev oE:=b7 P w K mg base "kept" CC DT (fV K)
abbrev j3:=b7 P w K mg base "set_anew" ux v7 (hV K)
abbrev kE:=b7 P w K mg base "belts_ahead" pX qV (gX K)
abbrev mL:=b7 P w K mg base "next_keep" r8 uu (fb K)
abbrev qw:=b7 P w K mg base "counted" wg xM (kx K)
abbrev lh:=b7 P w K mg base "_law_draw" GF Jd (eB K)
abbrev q9:=b7 P w K mg base "_law_thing" D5 GB (lR K)
abbrev qu:=b7 P w K mg base "_law_is_wanted" we xK (ku K)
abbrev rQ:=b7 P w K mg base "_law_points" CG DW (jY K)
abbrev u0:=b7 P w K mg base "_law_crowded" Ae Cz (kr K)
abbrev mJ:=b7 P w K mg base "_law_behind_work" rY uo (i9 K)
abbrev rL:=b7 P w K mg base "fewest" xT zX (jw K)
abbrev DO:=b7 P w K mg base "_law_many" GH Jf (rC K)
abbrev DM:=b7 P w K mg base "_law_done" GE Jc (rB K)
abbrev qx:=b7 P w K mg base "crowded" wj xN (iT K)
abbrev Bu:=b7 P w K mg base "_law_begin" D1 Gz (tH K)
abbrev u4:=b7 P w K mg base "_law_thinned" Af CA (oz K)
abbrev DN:=b7 P w K mg base "_law_last" GG Je (xt K)
abbrev Bw:=b7 P w K mg base "_law_works" D6 GC (tJ K)
abbrev Bv:=b7 P w K mg base "_law_names" D4 GA (tI K)
abbrev xF:=b7 P w K mg base "_law_places" CF DV (qo K)
end
section
variable{P:Program}{w:World}{K:Fg}{mg:Str->Option Value}{base:Heap}
theorem uB(B:kT mg) :kF P w K mg base mM "any_order" mV uG (m4 K):=lA λnd hu hu1 hr=>by exact
 (aU (bK (bE fH (fP (bP dG)) (gn B (bP (qv 0))))))
theorem Au(B:kT mg) :kF P w K mg base rT "pushed" sY AH (tV K):=lA λnd hu hu1 hr=>by exact
 (aU (bK (gm ou (bE bT (fP (bP (qv 1))) (qv 0)) iR (iS (gn B (bP (qv 0)))))))
theorem wG(B:kT mg)(c_p_pushed:rM P w K mg base):kF P w K mg base j5 "set_anew" kq wO (pF K):=lA λnd hu hu1 hr=>by exact
 (aU (bK (eV c_p_pushed (aB (bZ bS rfl B.tuple_ boot_tuple (bP (xE kq j5 ["name"] [] (eR (qv 0)) (iH 2) eT (yX (bA (lG hu) (qv 2) (qv 1) rfl) dG (qv 2))))) (bP (qv 1))))))
theorem Ej(B:kT mg)(c_p_set_anew:j3 P w K mg base):kF P w K mg base xQ "kept" y9 ER (zH K):=lA λnd hu hu1 hr=>by exact
 (aU (bK (eV c_p_set_anew (aB (qv 0) (bP (fM (qv 0) (qv 1)))))))
theorem n6(B:kT mg) :kF P w K mg base fO "places_to_keep" fR oh (jb K):=lA λnd hu hu1 hr=>by exact
 (aF (ft 1 (bE lI (gn B (bP (qv 0))) aK)) (aF (wX (bA kc (fM (qv 0) (qv 1)) dG rfl) (bK (dz (bP (qv 1))))) (aU (bK (xE fR fO ["place","name"] [] (sQ rfl B.enumerate_ (bP (qv 0))) (kg rfl (cR (iH 2) (cR (iH 3) hU))) (kh (bA kc (qv 3) dG rfl)) (qv 2))))))
theorem uC(B:kT mg)(c_p_places_to_keep:fN P w K mg base)(c_p_kept:oE P w K mg base):kF P w K mg base jG "next_keep" jK uH (nJ K):=lA λnd hu hu1 hr=>by exact
 (aU (bK (fM (xE jK jG ["place"] [] (eR (eV c_p_places_to_keep (bP (qv 1)))) (iH 2) (kh (bA (lG hu) (ju hu1 (qv 0) (eV c_p_kept (aB (qv 1) (bP (qv 2)))) (λ_ _=>rfl)) (bE lI (ju hu1 (qv 0) (qv 1) (λ_ _=>rfl)) aK) rfl)) (qv 2)) aK)))
theorem Ek(B:kT mg) :kF P w K mg base xR "seen" za ES (zI K):=lA λnd hu hu1 hr=>by exact
 (aF (ft 2 (dz gU)) (aF (eJ PassesOwn.never rfl (eR (qv 0)) (iH 3) (aU (eh (oZ (qv 2) (yX (QW.pt (qi (bA gR (qv 3) (qv 1) rfl) (ml (bA oW (qv 3) (qv 2) rfl)))) (qv 3) dG))))) (aU (bK (bZ bS rfl B.tuple_ boot_tuple (bP (qv 2)))))))
theorem Ay(B:kT mg)(c_p_set_anew:j3 P w K mg base)(c_p_seen:oF P w K mg base):kF P w K mg base rW "worked" tf AL (uc K):=lA λnd hu hu1 hr=>by exact
 (aF (wX (bA qf (fM (qv 1) aK) dG rfl) (bK (eV c_p_seen (aB (qv 0) (bP (qv 2)))))) (aU (bK (eV c_p_seen (aB (eV c_p_set_anew (aB (qv 0) (bP (fM (qv 1) aK)))) (bP (qv 2)))))))
theorem qX(B:kT mg) :kF P w K mg base iC "belts_ahead" iI q0 (kH K):=lA λnd hu hu1 hr=>by exact
 (aF (ft 1 (bZ (oN rfl (EI hr)) rfl B.dict_ boot_dict (bP (Fp (xE iI iC [] [2] (pe (qv 0)) (iH 2) eT (fP (aB (qv 2) (bP (dz gU))))))))) (aF (lJ (eJ PassesOwn.never rfl (vE (qv 0) ⟨rfl,rfl⟩) (kg rfl (cR (iH 2) (cR (iH 3) hU))) (aU (eJ PassesOwn.never rfl (eR (qv 3)) (iH 4) (aU (eh (oZ (ju hu1 (qv 1) (qv 4) (λ_ _=>rfl)) (qv 2)))))))) (aU (bK (qv 1)))))
theorem Av(B:kT mg)(c_p_belts_ahead:kE P w K mg base):kF P w K mg base rV "spread" sZ AI (tX K):=lA λnd hu hu1 hr=>by exact
 (aF (ft 2 (eV c_p_belts_ahead (bP (qv 1)))) (aF (ft 3 Fn) (aF (lJ (eJ PassesOwn.never rfl (vE (qv 0) ⟨rfl,rfl⟩) (kg rfl (cR (iH 4) (cR (iH 5) hU))) (aU (eh (oZ (yW (qv 3) (qv 5) (dz gU) ⟨rfl,rfl,rfl,rfl⟩) (qv 4)))))) (aF (ft 6 sO) (aF (jU PassesOwn.never (bA mS (eE Ap rfl B.len_ boot_len (bP (qv 3))) aK rfl) (aF (ft 5 (eE (Aq rfl) rfl B.min_ boot_min (bP (qv 3)))) (aF (ft 7 (Fo (qv 3) (qv 5) ⟨rfl,rfl,rfl,rfl⟩)) (aU (eJ PassesOwn.never rfl (eR (qv 7)) (iH 4) (aU (qG (bA (vz hu1) (qv 4) (qv 6) rfl) (aF (oj (qv 5) (qh (qv 6) (qv 4) (tD hu1))) (aU (eh (vD cQ PySem.F.slot_list_extend PySem.F.type_list_extend vt (yW (qv 3) (bE bT (qv 5) aK) (dz gU) ⟨rfl,rfl,rfl,rfl⟩) (bP (ju hu1 (qv 2) (qv 4) (λ_ _=>rfl))))))) kj))))))) (aU (bK (qv 6))))))))
theorem Ax(B:kT mg) :kF P w K mg base nU "weaker" oq AK (tZ K):=lA λnd hu hu1 hr=>by exact
 (aU (bK (eE (jr rfl) rfl B.all_ boot_all (bP (xE oq nU ["name","fellow"] [] (HX rfl B.zip_ (aB (qv 0) (bP (qv 1)))) (kg rfl (cR (iH 2) (cR (iH 3) hU))) eT (Lo (iQ qf (qv 2) dG rfl) (Kg (iQ (lG hu) (qv 2) (qv 3) rfl))))))))
theorem yo(B:kT mg) :kF P w K mg base lq "has_all" lM yK (qR K):=lA λnd hu hu1 hr=>by exact
 (aU (bK (eE (jr rfl) rfl B.all_ boot_all (bP (xE lM lq ["name"] [] (eR (qv 1)) (iH 2) eT (iQ gR (qv 2) (qv 0) rfl))))))
theorem Aw(B:kT mg)(c_p_places_to_keep:fN P w K mg base)(c_p_kept:oE P w K mg base):kF P w K mg base nS "turned" oo AJ (tY K):=lA λnd hu hu1 hr=>by exact
 (aF (ft 1 sO) (aF (ft 2 (bZ j6 rfl B.list_ boot_list (bP (qv 0)))) (aF (jU PassesOwn.never (bA mS (gn B (bP (qv 2))) aK rfl) (aF (ft 3 (Kf cQ gF gG JH (qv 2))) (aU (qG (bA (vz hu1) (qv 3) (qv 1) rfl) (aF (oj (xE oo nS ["place"] [] (eR (eV c_p_places_to_keep (bP (qv 3)))) (iH 4) eT (eV c_p_kept (aB (qv 3) (bP (qv 4))))) (qh (qv 1) (qv 3) (tD hu1))) (aU (eh (vD cQ PySem.F.slot_list_extend PySem.F.type_list_extend vt (qv 2) (bP (ju hu1 (qv 1) (qv 3) (λ_ _=>rfl))))))) kj)))) (aU (bK (qv 1))))))
theorem mC(B:kT mg)(c_p_has_all:qy P w K mg base)(c_p_turned:rO P w K mg base)(c_p_worked:j4 P w K mg base)(c_p_seen:oF P w K mg base):kF P w K mg base d9 "belts_that_come" eA mE (iN K):=lA λnd hu hu1 hr=>by exact
 (aF (ft 3 (dz (bP (eV c_p_turned (bP (dz (bP (eV c_p_seen (aB (qv 0) (bP (fM (qv 2) aK))))))))))) (aF (eJ PassesOwn.never rfl (sQ rfl B.enumerate_ (bP (qv 1))) (kg rfl (cR (iH 4) (cR (iH 5) hU))) (aF (ft 6 (fM (qv 2) (bE bT (qv 4) aK))) (aF (lJ (LY eA d9 ["belt"] [] 7 (pe (fM (qv 3) (qv 4))) (iH 8) eT (eV c_p_worked (aB (qv 8) (aB (qv 5) (bP (qv 6))))))) (aU (eh (oZ (qv 3) (eV c_p_turned (bP (xE eA d9 ["belt"] [] (eR (qv 7)) (iH 8) (kh (sR (eV c_p_has_all (aB (qv 8) (bP (qv 6)))))) (qv 8)))))))))) (aU (bK (qv 3)))))
theorem yp(B:kT mg) :kF P w K mg base lu "without" lN yL (qS K):=lA λnd hu hu1 hr=>by exact
 (aU (bK (bZ bS rfl B.tuple_ boot_tuple (bP (xE lN lu ["one"] [] (eR (qv 0)) (iH 2) (kh (bA (wW hu) (qv 2) (qv 1) rfl)) (qv 2))))))
theorem uD(B:kT mg)(c_p_without:lp P w K mg base):kF P w K mg base mN "wanted_at" mW uI (nM K):=lA λnd hu hu1 hr=>by exact
 (aF (ft 2 (bZ bS rfl B.tuple_ boot_tuple (bP (qF rfl rfl B.sorted_ B.set_ rfl (bP (qv 1)))))) (aF (ft 3 (dz (bP (qv 2)))) (aF (eJ PassesOwn.never rfl (HW rfl B.reversed_ (bP (qv 0))) (iH 4) (aF (ft 2 (bZ bS rfl B.tuple_ boot_tuple (bP (qF rfl rfl B.sorted_ B.set_ rfl (bP (bE i7 (eV c_p_without (aB (qv 2) (bP (fM (qv 4) aK)))) (bZ bS rfl B.tuple_ boot_tuple (bP (fM (qv 4) aK))))))))) (aU (eh (oZ (qv 3) (qv 2)))))) (aU (bK (sP rfl rfl B.list_ B.reversed_ rfl (bP (qv 3))))))))
theorem ym(B:kT mg)(c_p_spread:rN P w K mg base)(c_p_worked:j4 P w K mg base)(c_p_weaker:rP P w K mg base)(c_p_belts_that_come:iM P w K mg base)(c_p_wanted_at:g8 P w K mg base):kF P w K mg base jo "counted" jv yI (qP K):=lA λnd hu hu1 hr=>by exact
 (aF (ft 4 (eV c_p_wanted_at (aB (qv 1) (bP (qv 2))))) (aF (ft 5 (eV c_p_belts_that_come (aB (qv 0) (aB (qv 1) (bP (qv 4)))))) (aF (lJ (LY jv jo [] [10] 6 (pe (fM (qv 5) (jT gY aK))) (iH 10) (kh (sR (eV c_p_weaker (aB (qv 3) (bP (qv 10)))))) (qv 10))) (aF (ft 7 (dz (bP (eV c_p_spread (aB (bZ (oN rfl (EI hr)) rfl B.dict_ boot_dict (bP (xE jv jo [] [10] (eR (qv 6)) (iH 10) eT (fP (aB (qv 10) (bP aK)))))) (bP (fM (qv 5) (jT gY aK)))))))) (aF (eJ PassesOwn.never rfl (C8 rfl B.range_ (aB (bE lI (gn B (bP (qv 1))) aK) (aB (jT gY aK) (bP (jT gY aK))))) (iH 8) (aF (ft 9 sO) (aF (lJ (eJ PassesOwn.never rfl (pe (fM (qv 5) (qv 8))) (iH 10) (aF (ft 11 (eV c_p_worked (aB (qv 10) (aB (fM (qv 1) (qv 8)) (bP (fM (qv 4) (bE bT (qv 8) aK))))))) (aU (wX (bA (JP hu1) (qv 11) (fM (qv 7) (jT gY aK)) rfl) (oj (ju hu1 (fM (qv 7) (jT gY aK)) (qv 11) (λ_ _=>rfl)) (qh (qv 9) (qv 10) (tD hu1)))))))) (aU (eh (oZ (qv 7) (eV c_p_spread (aB (qv 9) (bP (fM (qv 5) (qv 8))))))))))) (aU (bK (sP rfl rfl B.list_ B.reversed_ rfl (bP (qv 7))))))))))
theorem wF(B:kT mg)(c_p_kept:oE P w K mg base)(c_p_next_keep:mL P w K mg base)(c_p_worked:j4 P w K mg base)(c_p_seen:oF P w K mg base)(c_p_counted:qw P w K mg base)(c_p_wanted_at:g8 P w K mg base):kF P w K mg base oH "followed" pw wN (pE K):=lA λnd hu hu1 hr=>by exact
 (aF (ft 4 (eV c_p_wanted_at (aB (qv 1) (bP (qv 2))))) (aF (ft 5 (eV c_p_counted (aB (qv 0) (aB (qv 1) (aB (qv 2) (bP (qv 3))))))) (aF (ft 6 (eV c_p_seen (aB (qv 0) (bP (fM (qv 4) aK))))) (aF (ft 7 (dz gU)) (aF (eJ PassesOwn.never rfl (sQ rfl B.enumerate_ (bP (qv 1))) (kg rfl (cR (iH 8) (cR (iH 9) hU))) (aF (ft 10 (dz gU)) (aF (jU PassesOwn.never (bA (wW hu) (ju hu1 (fM (qv 5) (qv 8)) (qv 6) (λ_ _=>rfl)) (Fm hu1 (fM (qv 5) (bE i7 (qv 8) aK)) (eV c_p_worked (aB (qv 6) (aB (qv 9) (bP (fM (qv 4) (bE i7 (qv 8) aK)))))) ⟨rfl,rfl,rfl,rfl⟩) rfl) (aF (eh (oZ (qv 10) (eV c_p_next_keep (aB (fM (qv 5) (qv 8)) (bP (qv 6)))))) (aU (ft 6 (eV c_p_kept (aB (qv 6) (bP (fM (qv 10) (jT gY aK))))))))) (aF (eh (oZ (qv 7) (bZ bS rfl B.tuple_ boot_tuple (bP (qv 10))))) (aU (ft 6 (eV c_p_worked (aB (qv 6) (aB (qv 9) (bP (fM (qv 4) (bE i7 (qv 8) aK)))))))))))) (aF (ft 10 (dz gU)) (aF (jU PassesOwn.never (bA (wW hu) (ju hu1 (fM (qv 5) (jT gY aK)) (qv 6) (λ_ _=>rfl)) aK rfl) (aF (eh (oZ (qv 10) (eV c_p_next_keep (aB (fM (qv 5) (jT gY aK)) (bP (qv 6)))))) (aU (ft 6 (eV c_p_kept (aB (qv 6) (bP (fM (qv 10) (jT gY aK))))))))) (aU (bK (bE i7 (bZ bS rfl B.tuple_ boot_tuple (bP (qv 7))) (fP (bP (bZ bS rfl B.tuple_ boot_tuple (bP (qv 10)))))))))))))))
theorem As(B:kT mg)(c_p_any_order:mK P w K mg base)(c_p_followed:oD P w K mg base):kF P w K mg base rS "fewest" sX AG (tP K):=lA λnd hu hu1 hr=>by exact
 (aU (bK (eV c_p_followed (aB (qv 0) (aB (qv 1) (aB (qv 2) (bP (eV c_p_any_order (bP (qv 0))))))))))
theorem Jp(B:kT mg) :kF P w K mg base Ad "_law_many" A8 Jx (Gc K):=lA λnd hu hu1 hr=>by exact
 (aU (bK (eE (CO rfl) rfl B.sum_ boot_sum (bP (xE A8 Ad ["_law_group"] [] (eR (qv 0)) (iH 1) eT (gn B (bP (qv 1))))))))
theorem uA(B:kT mg) :kF P w K mg base jF "_law_behind_work" jJ uF (mY K):=lA λnd hu hu1 hr=>by exact
 (aF (wX (bA qf (qv 1) dG rfl) (bK (qv 0))) (aU (bK (bE bT (fP (bP (qv 1))) (gm ou (bZ bS rfl B.tuple_ boot_tuple (bP (xE jJ jF ["_law_thing_here"] [] (eR (qv 0)) (iH 2) eT (fM (dz (aB (qv 2) (bP dG))) (bZ vb rfl B.int_ boot_int (bP (iQ (lG hu) (qv 2) (qv 1) rfl))))))) iR (iS (jT gY aK)))))))
theorem Jl(B:kT mg)(c_behind_work:mJ P w K mg base):kF P w K mg base v9 "_law_done" xk Ju (F0 K):=lA λnd hu hu1 hr=>by exact
 (aF (ft 4 (qv 0)) (aF (eJ PassesOwn.never rfl (fq rfl B.range_ (bP (bE bT (gn B (bP (qv 1))) aK))) (iH 5) (aF (eJ PassesOwn.never rfl (eR (fM (qv 3) (qv 5))) (iH 6) (aF (wX (bA qf (fM (qv 4) (qv 6)) dG rfl) (bK dG)) (aU (ft 4 (bE bT (fP (bP (fM (qv 4) (qv 6)))) (gm ou (qv 4) iR (iS (jT gY aK)))))))) (aU (qG (bA vy (qv 5) (gn B (bP (qv 1))) rfl) (aF (wX (Fq (sR (eE (jr rfl) rfl B.all_ boot_all (bP (xE xk v9 ["_law_name"] [] (eR (fM (fM (qv 1) (qv 5)) aK)) (iH 7) eT (iQ gR (qv 7) (qv 4) rfl)))))) (bK dG)) (aU (ft 4 (eV c_behind_work (aB (qv 4) (bP (fM (fM (qv 1) (qv 5)) aK))))))) kj)))) (aF (wX (Fq (sR (eE (jr rfl) rfl B.all_ boot_all (bP (xE xk v9 ["_law_name"] [] (eR (qv 2)) (iH 7) eT (iQ gR (qv 7) (qv 4) rfl)))))) (bK dG)) (aU (bK (qv 4))))))
theorem yn(B:kT mg)(c_p_without:lp P w K mg base)(c_p_wanted_at:g8 P w K mg base):kF P w K mg base qB "crowded" qK yJ (qQ K):=lA λnd hu hu1 hr=>by exact
 (aF (ft 3 (eV c_p_wanted_at (aB (qv 1) (bP (qv 2))))) (aF (eJ PassesOwn.never rfl (HV rfl B.enumerate_ (bP (qv 3))) (kg rfl (cR (iH 4) (cR (iH 5) hU))) (aF (wX (bA mS (gn B (bP (qv 5))) (qv 0) rfl) (bK (fP (aB gW (aB (qv 4) (bP (qv 5))))))) (aU (qG (QW.pt (qi (bA vy (qv 4) (gn B (bP (qv 1))) rfl) (ml (bA kc (fM (fM (qv 1) (qv 4)) aK) dG rfl)))) (aF (ft 6 (eV c_p_without (aB (fM (qv 3) (bE bT (qv 4) aK)) (bP (fM (fM (qv 1) (qv 4)) aK))))) (aU (wX (bA mS (gn B (bP (qv 6))) (bE lI (qv 0) aK) rfl) (bK (fP (aB gW (aB (qv 4) (bP (qv 6))))))))) kj)))) (aU (bK dG))))
theorem Jm(B:kT mg) :kF P w K mg base DY "_law_draw" FP Jv (F3 K):=lA λnd hu hu1 hr=>by exact
 (aF (oj (gm ou (qv 0) iR (iS aK)) (HU rfl (cR (iH 2) (cR (iH 3) hU)))) (aF (oj (bE bT (qv 3) aK) (qh (qv 0) aK tF)) (aF (qG (QW.pt (qi (bA vy (bE bT (bE BS (qv 3) aK) aK) (gn B (bP (qv 2))) rfl) (ml (bA (lG hu) (bE iG (fM (qv 2) aK) aK) aK rfl)))) (aF (wX (bA (lG hu) (bE iG (qv 3) aK) aK rfl) (oj (fM (qv 2) (bE bT (bE BS (qv 3) aK) aK)) (qh (qv 0) aK tF))) (aU (qG (bA oW (fM (qv 0) aK) (fP (aB aK (bP (jT gY aK)))) rfl) (aF (oj (eE wB rfl B.divmod_ boot_divmod (aB (fM (qv 0) aK) (bP (qv 1)))) (kg rfl (cR (qh (qv 0) aK tF) (cR (iH 4) hU)))) (aU (bK (qv 4)))) kj))) (aU (wX (bA vy (qv 3) (gn B (bP (qv 2))) rfl) (bK (bE iG (fM (qv 2) (qv 3)) (qv 1)))))) (aF (ft 5 (bE bT (bE fH (qv 3) aK) aK)) (aF (wX (bA mS (gn B (bP (qv 2))) aK rfl) (ft 5 (bE bT (qv 5) (bE fH (fM (qv 2) (bE iG (bE fH (qv 3) aK) (gn B (bP (qv 2))))) (bE bT aK (qv 3)))))) (aF (ft 5 (bE iG (bE fH (bE iG (qv 5) aK) (bE bT (qv 3) aK)) aK)) (aF (ft 5 (bE iG (bE fH (qv 5) (qv 5)) aK)) (aU (bK (bE iG (bE iG (bE fH (qv 5) (qv 5)) aK) (qv 1)))))))))))
theorem GU(B:kT mg)(c_draw:lh P w K mg base):kF P w K mg base By "_law_thing" B9 G3 (Cr K):=lA λnd hu hu1 hr=>by exact
 (aU (bK (fM (bE bT (qv 1) (dz (bP dG))) (eV c_draw (aB (qv 0) (bP (bE bT (gn B (bP (qv 1))) aK)))))))
theorem yk(B:kT mg) :kF P w K mg base qA "_law_is_wanted" qJ yH (qO K):=lA λnd hu hu1 hr=>by exact
 (aF (eJ PassesOwn.never rfl (eR (gm xq (qv 0) (iS (qv 2)) iR)) (kg rfl (cR (iH 4) (cR (iH 5) hU))) (aF (wX (bA gR (qv 3) (qv 4) rfl) (bK BX)) (aU (wX (bA (JO hu) (qv 5) (qv 3) rfl) (bK BX))))) (aU (bK (iQ gR (qv 3) (qv 1) rfl))))
theorem Em(B:kT mg)(c_is_wanted:qu P w K mg base):kF P w K mg base rX "_law_points" tm EU (zK K):=lA λnd hu hu1 hr=>by exact
 (aF (ft 3 (dz gU)) (aF (eJ PassesOwn.never rfl (fq rfl B.range_ (bP (bE bT (gn B (bP (qv 0))) aK))) (iH 4) (aU (eh (oZ (qv 3) (bZ bS rfl B.tuple_ boot_tuple (bP (xE tm rX ["_law_name"] [] (eR (eE yc rfl B.sorted_ boot_sorted (bP (qv 2)))) (iH 5) (kh (sR (eV c_is_wanted (aB (qv 0) (aB (qv 1) (aB (qv 4) (bP (qv 5)))))))) (qv 5)))))))) (aU (bK (qv 3)))))
theorem GR(B:kT mg)(c_draw:lh P w K mg base)(c_thing:q9 P w K mg base):kF P w K mg base v8 "_law_begin" xj G1 (Cd K):=lA λnd hu hu1 hr=>by exact
 (aF (ft 4 (bE bT (bZ j6 rfl B.list_ boot_list (bP (qv 2))) (xE xj v8 ["_law_k"] [] (fq rfl B.range_ (bP (bE lI (qv 1) (gn B (bP (qv 2)))))) (iH 6) eT (eV c_thing (aB (qv 0) (bP (qv 3))))))) (aF (ft 5 (dz gU)) (aF (jU PassesOwn.never (bA mS (gn B (bP (qv 4))) aK rfl) (aU (eh (oZ (qv 5) (vD cQ gF gG yP (qv 4) (bP (eV c_draw (aB (qv 0) (bP (gn B (bP (qv 4)))))))))))) (aU (bK (bZ bS rfl B.tuple_ boot_tuple (bP (qv 5))))))))
theorem CQ(B:kT mg) :kF P w K mg base pW "_law_crowded" qk CZ (vP K):=lA λnd hu hu1 hr=>by exact
 (aF (eJ PassesOwn.never rfl (fq rfl B.range_ (bP (gn B (bP (qv 2))))) (iH 3) (aF (wX (bA mS (gn B (bP (fM (qv 2) (qv 3)))) (qv 0) rfl) (bK (fP (aB gW (aB (qv 3) (bP (fM (qv 2) (qv 3)))))))) (aU (qG (QW.pt (qi (bA vy (qv 3) (gn B (bP (qv 1))) rfl) (ml (bA kc (fM (fM (qv 1) (qv 3)) aK) dG rfl)))) (aF (ft 4 (bZ bS rfl B.tuple_ boot_tuple (bP (xE qk pW ["_law_name"] [] (eR (fM (qv 2) (bE bT (qv 3) aK))) (iH 5) (kh (bA (wW hu) (qv 5) (fM (fM (qv 1) (qv 3)) aK) rfl)) (qv 5))))) (aU (wX (bA mS (gn B (bP (qv 4))) (bE lI (qv 0) aK) rfl) (bK (fP (aB gW (aB (qv 3) (bP (qv 4))))))))) kj)))) (aU (bK dG)))
theorem CU(B:kT mg)(c_points:rQ P w K mg base)(c_crowded:u0 P w K mg base):kF P w K mg base u5 "_law_thinned" vG C0 (vU K):=lA λnd hu hu1 hr=>by exact
 (aF (ft 4 (eV c_crowded (aB (qv 0) (aB (qv 1) (bP (eV c_points (aB (qv 1) (aB (qv 2) (bP (qv 3)))))))))) (aF (jU PassesOwn.never (QW.pt (qi (bA kc (qv 4) dG rfl) (ml (bA mS (gn B (bP (qv 1))) aK rfl)))) (aF (ft 5 (eE (p7 rfl) rfl B.min_ boot_min (aB (fM (qv 4) aK) (bP (bE lI (gn B (bP (qv 1))) aK))))) (aF (ft 1 (bE i7 (gm xq (qv 1) iR (iS (qv 5))) (gm xq (qv 1) (iS (bE i7 (qv 5) aK)) iR))) (aU (ft 4 (eV c_crowded (aB (qv 0) (aB (qv 1) (bP (eV c_points (aB (qv 1) (aB (qv 2) (bP (qv 3)))))))))))))) (aU (bK (qv 1)))))
theorem Jo(B:kT mg)(c_draw:lh P w K mg base):kF P w K mg base DZ "_law_last" FQ Jw (F9 K):=lA λnd hu hu1 hr=>by exact
 (aF (ft 3 (bZ j6 rfl B.list_ boot_list (bP (qv 1)))) (aF (ft 4 (dz gU)) (aF (eJ PassesOwn.never rfl (fq rfl B.range_ (bP (eE (p7 rfl) rfl B.min_ boot_min (aB (gn B (bP (qv 1))) (bP (eV c_draw (aB (qv 0) (bP (bE bT (qv 2) aK))))))))) (iH 5) (aU (eh (oZ (qv 4) (vD cQ gF gG yP (qv 3) (bP (eV c_draw (aB (qv 0) (bP (gn B (bP (qv 3)))))))))))) (aU (bK (bZ bS rfl B.tuple_ boot_tuple (bP (qv 4))))))))
theorem GV(B:kT mg)(c_draw:lh P w K mg base)(c_thing:q9 P w K mg base):kF P w K mg base wc "_law_works" xn G4 (Cs K):=lA λnd hu hu1 hr=>by exact
 (aF (ft 3 (dz gU)) (aF (eJ PassesOwn.never rfl (fq rfl B.range_ (bP (eV c_draw (aB (qv 0) (bP (bE bT (qv 2) aK)))))) (iH 4) (aF (ft 5 (fM (dz (aB aK (aB aK (aB aK (aB aK (aB aK (bP aK))))))) (eV c_draw (aB (qv 0) (bP aK))))) (aF (ft 6 (bZ bS rfl B.tuple_ boot_tuple (bP (xE xn wc ["_law_j"] [] (fq rfl B.range_ (bP (qv 5))) (iH 7) eT (fM (qv 1) (eV c_draw (aB (qv 0) (bP (gn B (bP (qv 1))))))))))) (aU (eh (oZ (qv 3) (fP (aB (qv 6) (bP (fM (dz (aB dG (bP (eV c_thing (aB (qv 0) (bP (qv 1))))))) (bZ vb rfl B.int_ boot_int (bP (iQ mS (eV c_draw (aB (qv 0) (bP aK))) aK rfl))))))))))))) (aU (bK (bZ bS rfl B.tuple_ boot_tuple (bP (qv 3)))))))
theorem GS(B:kT mg)(c_draw:lh P w K mg base):kF P w K mg base wb "_law_names" xm G2 (Cq K):=lA λnd hu hu1 hr=>by exact
 (aF (ft 2 gW) (aF (ft 3 (bE bT aK (eV c_draw (aB (qv 0) (bP aK))))) (aF (ft 4 (eV c_draw (aB (qv 0) (bP (qv 3))))) (aF (ft 5 (eV c_draw (aB (qv 0) (bP aK)))) (aF (LY xm wb ["_law_j"] [] 6 (fq rfl B.range_ (bP (qv 3))) (iH 11) eT (fM (qv 2) (bE iG (bE bT (qv 5) (bE fH (bE fH aK (qv 11)) (eV c_draw (aB (qv 0) (bP aK))))) aK))) (aF (ft 7 (dz gU)) (aF (eJ PassesOwn.never rfl (fq rfl B.range_ (bP (qv 1))) (iH 8) (aF (ft 9 (bE bT (bE bT (gm ou (qv 6) iR (iS (qv 4))) (dz (bP (fM (qv 2) (bE iG (bE bT (qv 5) (bE fH aK (qv 8))) aK))))) (gm ou (qv 6) (iS (bE bT (qv 4) aK)) iR))) (aF (ft 10 (Mn gW (qv 9))) (aF (wX (QW.pt (Fs (bA gR (qv 10) (fP (aB gW (aB gW (aB gW (aB gW (aB gW (bP gW))))))) rfl) (AX (QW.pt (qi (bA vy (qv 3) aK rfl) (ml (bA (lG hu) (bE iG (bE bT (qv 3) (qv 8)) aK) aK rfl))))))) (ft 10 (bE bT (qv 10) gW))) (aU (eh (oZ (qv 7) (qv 10)))))))) (aU (bK (qv 7))))))))))
theorem El(B:kT mg)(c_draw:lh P w K mg base):kF P w K mg base xS "_law_places" zb ET (zJ K):=lA λnd hu hu1 hr=>by exact
 (aU (bK (fM (dz (aB aK (aB aK (aB aK (aB aK (aB aK (aB aK (aB aK (aB aK (aB aK (aB aK (aB aK (aB aK (aB aK (aB aK (aB aK (bP aK))))))))))))))))) (eV c_draw (aB (qv 0) (bP aK))))))
theorem KS(B:kT mg)(c_p_fewest:rL P w K mg base)(c_many:DO P w K mg base)(c_done:DM P w K mg base)(c_p_crowded:qx P w K mg base)(c_thing:q9 P w K mg base)(c_points:rQ P w K mg base)(c_begin:Bu P w K mg base)(c_thinned:u4 P w K mg base)(c_last:DN P w K mg base)(c_works:Bw P w K mg base)(c_draw:lh P w K mg base)(c_names:Bv P w K mg base)(c_places:xF P w K mg base):kF P w K mg base IF "law" IW IJ (IZ K):=lA λnd hu hu1 hr=>by exact
 (aF (ft 1 (dz (aB (qv 0) (aB aK (bP aK))))) (aF (ft 2 (eE (p7 rfl) rfl B.min_ boot_min (aB aK (bP (eV c_places (bP (qv 1))))))) (aF (ft 3 (eV c_names (aB (qv 1) (bP (bE bT aK (eV c_draw (aB (qv 1) (bP (bE bT (qv 2) aK))))))))) (aF (ft 4 (eV c_works (aB (qv 1) (aB (qv 3) (bP (fM (dz (aB aK (aB aK (aB aK (aB aK (bP aK)))))) (bE lI (qv 2) aK))))))) (aF (ft 5 (eV c_last (aB (qv 1) (aB (qv 3) (bP (qv 2)))))) (aF (ft 4 (eV c_thinned (aB (qv 2) (aB (qv 4) (aB (qv 5) (bP (qv 3))))))) (aF (ft 6 (eV c_begin (aB (qv 1) (aB (qv 2) (aB (fM (eV c_points (aB (qv 4) (aB (qv 5) (bP (qv 3))))) aK) (bP (qv 3))))))) (aF (ft 7 (bE bT (qv 6) (fP (bP (eV c_thing (aB (qv 1) (bP (qv 3)))))))) (aF (ft 8 (eV c_p_fewest (aB (qv 6) (aB (qv 4) (bP (qv 5)))))) (aF (wX (QW.pt (Fs (bA kc (eV c_p_crowded (aB (qv 2) (aB (qv 4) (bP (qv 5))))) dG rfl) (AX (bA kc (eV c_p_crowded (aB (bE bT (qv 2) aK) (aB (qv 4) (bP (qv 5))))) dG rfl)))) (bK BX)) (aF (wX (QW.pt (Fs (bA qf (eV c_done (aB (qv 6) (aB (qv 4) (aB (qv 5) (bP (qv 8)))))) dG rfl) (AX (bA qf (eV c_done (aB (qv 7) (aB (qv 4) (aB (qv 5) (bP (qv 8)))))) dG rfl)))) (bK BX)) (aU (bK (iQ La (eV c_many (bP (eV c_p_fewest (aB (qv 7) (aB (qv 4) (bP (qv 5))))))) (eV c_many (bP (qv 8))) rfl))))))))))))))
end
end Bg
end
section
namespace Bg
open PySem L2
theorem qI{K:Fg}{st scr:Addr}{m:Int}{k:Nat}{ns:List Int}{c:Int}{H H2:Hp}{Q:VK}{o4 o5:Option V}{nx:St->Hp->Prop}(hk:k<=1000000)(m0:0<m)
  (q:∀(d:Int) (H':Hp),0<=d->d<m->k8 K H' st (k+1)->iz st H H'->Q (.int d) H') (hS:H2 st=some (.lst [.ref scr,.int ((k:Int)+1),.int c])) (hscr:jq K H2 scr ns) (hns:ns.length<=63) (hB:iz st H H2) :
  pD K {nx:=nx,rt:=Q} [some (.ref st),some (.int m),some (.ref scr),some (.int (k:Nat)),o4,o5] H2:=by
 have e1:(((k+1:Nat):Nat):Int)=(k:Int)+1:=by lia
 have S2:k8 K H2 st (k+1):=⟨scr,ns,c,by rw[e1];exact hS,hscr,hns⟩
 refine⟨_,rfl,.inl ⟨_,_,rfl,rfl,.inr ⟨by decide,by decide⟩,.inl ⟨_,_,rfl,rfl,?_⟩⟩⟩
 have rest:∀z:Int,zw K {nx:=nx,rt:=Q} [some (.ref st),some (.int m),some (.ref scr),some (.int (k:Nat)),o4,some (.int z)] H2:=λz=>by
  have b1:0<=z % 2147483629:=cy _ (by decide)
  have b2:z % 2147483629<2147483629:=cu _ (by decide)
  refine⟨_,rfl,_,_,rfl,rfl,(by show(0:Int)<2147483629;decide),_,rfl,.inl ⟨_,_,rfl,rfl,.inl ⟨_,_,rfl,rfl,.inl ⟨by lia,by lia⟩,_,_,rfl,rfl,(by show(0:Int)<2147483629;decide),?_⟩⟩⟩
  generalize hy:z % 2147483629*((k:Int)+3) % 2147483629=y
  have c1:0<=y:=by rw[<-hy];exact cy _ (by decide)
  have c2:y<2147483629:=by rw[<-hy];exact cu _ (by decide)
  refine⟨_,rfl,_,rfl,.inl ⟨_,_,rfl,rfl,.inl ⟨by lia,by lia⟩,_,_,rfl,rfl,(by show(0:Int)<2147483587;decide),?_⟩⟩
  generalize hx:y*y % 2147483587=x
  have d1:0<=x:=by rw[<-hx];exact cy _ (by decide)
  have d2:x<2147483587:=by rw[<-hx];exact cu _ (by decide)
  refine⟨_,rfl,_,rfl,.inl ⟨_,_,rfl,rfl,.inl ⟨by lia,by lia⟩,_,_,rfl,rfl,(by show(0:Int)<1999999973;decide),_,rfl,_,_,rfl,rfl,m0,?_⟩⟩
  exact q _ H2 (cy _ (by lia)) (cu _ m0) S2 hB
 refine⟨_,rfl,_,_,rfl,.inl ⟨_,hscr.sq,rfl⟩,_,_,rfl,rfl,_,rfl,di (λhl=>?_) (λ_=>rest _)⟩
 rw[af] at hl
 have hlp:0<ns.length:=by lia
 refine⟨_,rfl,_,rfl,_,rfl,.inl ⟨_,_,rfl,rfl,.inr ⟨by decide,by decide⟩,_,rfl,_,_,rfl,.inl ⟨_,hscr.sq,rfl⟩,_,_,rfl,rfl,(by rw[af];lia),?_⟩⟩
 have i1:0<=(k:Int)*7 % ((ns.map V.int).length:Nat):=cy _ (by rw[af];lia)
 have i2:(k:Int)*7 % ((ns.map V.int).length:Nat)<((ns.map V.int).length:Nat):=cu _ (by rw[af];lia)
 rw[af] at i1 i2
 have i3:((k:Int)*7 % (ns.length:Nat)).toNat<ns.length:=by lia
 refine mP hscr.sq (by rw[af];exact i1) (v:=.int ns[((k:Int)*7 % (ns.length:Nat)).toNat]) (by simp only[af];rw[aH,aa i3];rfl) ?_
 exact⟨_,rfl,.inl ⟨_,_,rfl,rfl,.inl ⟨_,_,rfl,rfl,.inr ⟨by lia,by lia⟩,.inl ⟨_,_,rfl,rfl,rest _⟩⟩⟩⟩
theorem Kj{K:Fg}{vs:List V}{H:Hp}{Q:VK}{E:XK}(h:eB K vs H Q E):F3 K {nx:=λ_ H'=>Q .non H',rt:=Q} (start DY vs) H:=by
 obtain⟨st,m,k,rfl,S,hk,m0,m1,q⟩:=h
 obtain⟨scr,ns,c,hst,hscr,hns⟩:=S
 refine⟨_,rfl,_,rfl,.inl ⟨st,_,rfl,cq.of hst,λp hp=>?_⟩⟩
 refine⟨p,_,rfl,cq.of aj,rfl,_,_,rfl,_,_,rfl,rfl,?_⟩
 have np:st≠p:=aJ hst hp
 have B1:iz st H (aP H p (.lst (mB [V.ref scr,V.int (k:Nat),V.int c] none (some 2)))):=(iz.refl st H).new hp
 have h1:(aP H p (.lst (mB [V.ref scr,V.int (k:Nat),V.int c] none (some 2)))) st=some (.lst [.ref scr,.int (k:Nat),.int c]):=by rw[az np];exact hst
 have s1:jq K (aP H p (.lst (mB [V.ref scr,V.int (k:Nat),V.int c] none (some 2)))) scr ns:=hscr.mono (.of_but B1 hst)
 generalize aP H p (.lst (mB [V.ref scr,V.int (k:Nat),V.int c] none (some 2)))=H1 at B1 h1 s1 ⊢
 refine⟨_,rfl,.inl ⟨_,_,rfl,rfl,_,rfl,Kq h1 (by decide) (by show 1<3;decide) ?_⟩⟩
 have B2:iz st H (aP H1 st (.lst [.ref scr,.int ((k:Int)+1),.int c])):=B1.trans .upd_at
 have h2:(aP H1 st (.lst [.ref scr,.int ((k:Int)+1),.int c])) st=some (.lst [.ref scr,.int ((k:Int)+1),.int c]):=aj
 have s2:jq K (aP H1 st (.lst [.ref scr,.int ((k:Int)+1),.int c])) scr ns:=s1.mono (.of_but .upd_at h1)
 show zy K _ [some (.ref st),some (.int m),some (.ref scr),some (.int (k:Nat)),none,none] (aP H1 st (.lst [.ref scr,.int ((k:Int)+1),.int c]))
 generalize aP H1 st (.lst [.ref scr,.int ((k:Int)+1),.int c])=H2 at B2 h2 s2 ⊢
 have tail:=@qI K st scr m k ns c H H2 Q none none (λ_ H'=>Q .non H') hk m0 q h2 s2 hns B2
 have dig:∀(c':Int) (H3:Hp),H3 st=some (.lst [.ref scr,.int ((k:Int)+1),.int c'])->jq K H3 scr ns->iz st H H3->
   zx K {nx:=pD K {nx:=λ_ H'=>Q .non H',rt:=Q},rt:=Q} [some (.ref st),some (.int m),some (.ref scr),some (.int (k:Nat)),none,none] H3:=λc' H3 h3 s3 B3=>by
  refine⟨_,rfl,mP (cq.of h3) (by decide) rfl ?_⟩
  refine⟨_,rfl,(by show 2<=sizeLine;decide),λt ht=>⟨t,_,rfl,.inr (cE.of aj),rfl,rfl,_,rfl,?_⟩⟩
  have n3:st≠t:=aJ h3 ht
  have B4:iz st H (aP H3 t (.tup [.int 0,.int (-1)])):=B3.new ht
  have h4:(aP H3 t (.tup [.int 0,.int (-1)])) st=some (.lst [.ref scr,.int ((k:Int)+1),.int c']):=by rw[az n3];exact h3
  have s4:jq K (aP H3 t (.tup [.int 0,.int (-1)])) scr ns:=s3.mono (.of_same ((aM.refl H3).new ht))
  refine K2 (λ_=>?_) (λ_=>?_)
  ·-- _law_state[2],_law_digit=divmod(_law_state[2],_law_many)
   refine⟨_,rfl,.inl ⟨st,_,_,_,rfl,rfl,cq.of h4,wA (by decide) rfl,_,rfl,_,_,rfl,⟨m0,m1⟩,λp2 hp2=>?_⟩⟩
   have n4:st≠p2:=aJ h4 hp2
   refine⟨p2,_,rfl,cE.of aj,rfl,_,_,rfl,_,rfl,Kq (by rw[az n4];exact h4) (by decide) (by show 2<3;decide) ?_⟩
   refine⟨_,_,rfl,rfl,_,rfl,?_⟩
   have B5:=(B4.new (o:=.tup [.int (c' / m),.int (c' % m)]) hp2)
   have s5:jq K (aP (aP H3 t (.tup [.int 0,.int (-1)])) p2 (.tup [.int (c' / m),.int (c' % m)])) scr ns:=s4.mono (.of_same ((aM.refl _).new hp2))
   have h5:(aP (aP H3 t (.tup [.int 0,.int (-1)])) p2 (.tup [.int (c' / m),.int (c' % m)])) st=some (.lst [.ref scr,.int ((k:Int)+1),.int c']):=by rw[az n4];exact h4
   refine q _ _ (cy _ (by lia)) (cu _ m0) ⟨scr,ns,c' / m,?_,s5.mono (.of_but .upd_at h5),hns⟩ (B5.trans .upd_at)
   have e1:(((k+1:Nat):Nat):Int)=(k:Int)+1:=by lia
   rw[aj,e1]
   rfl
  ·exact qI hk m0 q h4 s4 hns B4
 have e1:(((k+1:Nat):Nat):Int)=(k:Int)+1:=by lia
 have elif:fZ (cg (bN AY (av 3) (ff (fQ K) (aq (av 2) aO)))) (c9 (bN jV (bN (eU K) (av 2) (av 3)) (av 1))) d6
   {nx:=pD K {nx:=λ_ H'=>Q V.non H',rt:=Q},rt:=Q} [some (V.ref st),some (V.int m),some (V.ref scr),some (V.int (k:Nat)),none,none] H2:=by
  refine⟨_,rfl,_,rfl,_,_,rfl,.inl ⟨_,s2.sq,rfl⟩,_,_,rfl,rfl,_,rfl,di (λhlt=>?_) (λ_=>tail)⟩
  rw[af] at hlt
  have j2:((k:Nat):Int).toNat<ns.length:=by lia
  refine⟨_,rfl,_,rfl,mP s2.sq (by lia) (v:=.int ns[((k:Nat):Int).toNat]) (by rw[aH,aa j2];rfl) ?_⟩
  refine⟨_,rfl,_,_,rfl,rfl,m0,?_⟩
  exact q _ H2 (cy _ (by lia)) (cu _ m0) ⟨scr,ns,c,by rw[e1];exact h2,s2,hns⟩ B2
 refine⟨_,rfl,_,_,rfl,rfl,⟨by decide,by decide⟩,.inl ⟨_,_,rfl,rfl,_,rfl,_,_,rfl,.inl ⟨_,s2.sq,rfl⟩,_,_,rfl,rfl,_,rfl,di (λhlt=>?_) (λ_=>?_)⟩⟩
 ·rw[af] at hlt
  have hlp:0<ns.length:=by lia
  have i0:(ns.map V.int)[(0:Int).toNat]?=some (.int ns[0]):=by
   show(ns.map V.int)[0]?=_
   rw[aH,aa hlp];rfl
  refine⟨_,rfl,mP s2.sq (by decide) i0 ⟨_,_,rfl,rfl,(by show(0:Int)<2;decide),.inl ⟨rfl,_,rfl,di (λ_=>?_) (λ_=>?_)⟩⟩⟩
  ·-- if _law_k % 12==0
   refine⟨_,rfl,_,_,rfl,rfl,(by show(0:Int)<12;decide),.inl ⟨rfl,_,rfl,di (λ_=>?_) (λ_=>dig c H2 h2 s2 B2)⟩⟩
   have j2:((k:Int) / 12+1).toNat<ns.length:=by lia
   refine⟨_,rfl,_,rfl,_,_,rfl,rfl,⟨by decide,by decide⟩,.inl ⟨_,_,rfl,rfl,mP s2.sq (by lia) (v:=.int ns[((k:Int) / 12+1).toNat]) (by rw[aH,aa j2];rfl) ?_⟩⟩
   refine⟨_,rfl,Kq h2 (by decide) (by show 2<3;decide) ?_⟩
   exact dig _ _ aj (s2.mono (.of_but .upd_at h2)) (B2.trans .upd_at)
  ·exact elif
 ·exact iE elif
end Bg
end
section
namespace Bg
open PySem PySem.Spec PyProof.Rows L2
end Bg
end
section
namespace Bg
open PySem L2
theorem xw{ys:List Str}{i:Nat}{x:V}(hx:(ys.map V.str)[i]?=some x):∃y:Str,ys[i]?=some y/\x=.str y:=by
 rw[aH] at hx
 cases e:ys[i]? with
 |none=>rw[e] at hx;cases hx
 |some n=>rw[e] at hx;exact⟨n,rfl,(Option.some.inj hx).symm⟩
theorem vB(y:Str)(m:Option Str):FR (.str y) (fX m)=true:=by cases m<;>rfl
theorem BU(y:Str)(m:Option Str):decide (V.str y=fX m)=decide (m=some y):=by
 cases m with
 |none=>simp[fX]
 |some z=>
  by_cases e:z=y
  ·subst e;simp[fX]
  ·have:y≠z:=λh=>e h.symm
   simp[fX,e,this]
theorem y7{K:Fg}{vs:List V}{H:Hp}{Q:VK}{E:XK}(h:iU K vs H Q E):qS K {nx:=λ_ H'=>Q .non H',rt:=Q} (start lu vs) H:=by
 obtain⟨t,m,ss,rfl,ht,hl,q⟩:=h
 refine .inr ⟨_,rfl,t,rfl,⟨_,cE.of ht⟩,λD nD=>?_⟩
 refine i6 (xs:=ss.map V.str) (λi σ' H'=>∃o,σ'=[some (.ref t),some (fX m),o]/\H' D=some (.lst (((ss.take i).filter λy=>!decide (m=some y)).map V.str))/\aM H H') ?_ ?_ ?_ ?_
 ·exact⟨none,rfl,aj,(aM.refl H).new nD⟩
 ·rintro i σ' H' _ ⟨o,_,_,s⟩
  exact cE.of (s _ _ ht)
 ·rintro i x σ' H1 hx ⟨o,rfl,hD,s⟩
  obtain⟨y,hy,rfl⟩:=xw hx
  have fl:((ss.take i).filter λy=>!decide (m=some y)).length<=ss.length:=a8 (bq _ _) (by rw[aR];exact gM _ _)
  refine⟨_,rfl,_,rfl,.inl ⟨vB y m,_,rfl,?_⟩⟩
  have tk:(ss.take (i+1)).filter (λy=>!decide (m=some y))=((ss.take i).filter λy=>!decide (m=some y))++if(!decide (m=some y))=true then[y] else[]:=by
   rw[lb,hy,eG]
   congr 1
   show[y].filter _=_
   rw[cO]
   split<;>simp_all
  rw[BU]
  refine og (λhs=>?_) (λhs=>?_)
  ·refine⟨_,rfl,_,hD,bH (by rw[af];lia),_,rfl,?_,λb u e=>by rw[az (aJ e nD)];exact s b u e⟩
   rw[aj,tk,decide_eq_false hs,aC];rfl
  ·refine⟨_,rfl,?_,s⟩
   rw[tk,decide_eq_true hs]
   simpa using hD
 ·rintro σ' H1 ⟨o,_,hD,s⟩
  rw[af,bf] at hD
  exact⟨D,_,rfl,.inl ⟨cq.of hD,λp np=>q p _ aj (s.new np)⟩⟩
theorem ze{K:Fg}{H:Hp}{wp:Addr}{xs:List V}{k:Nat}{Q:VK}(hwp:H wp=some (.tup xs))(hk:k<=xs.length)(h:∀(p:Addr) (H':Hp),H' p=some (.tup (xs.drop k))->aM H H'->Q (.ref p) H') :
  De K (.ref wp) (some (k:Int)) none H Q:=by
 by_cases c:k=0
 ·subst c
  refine .inl ⟨wp,xs,rfl,cE.of hwp,⟨?_,?_⟩,h wp H (by rw[f7];exact hwp) (aM.refl H)⟩
  ·rw[HT.sIx_nat];simp
  ·rw[HT.sIx_none]
 ·refine .inr (.inr ⟨wp,xs,rfl,cE.of hwp,λz=>?_,λp np=>?_⟩)
  ·have:=z.1
   rw[HT.sIx_nat] at this
   lia
  ·rw[yi]
   exact h p _ aj ((aM.refl H).new np)
theorem L6{K:Fg}{H:Hp}{p:Addr}{y:Str}{ls:List Str}{Q:VK}(hp:H p=some (.tup (ls.map V.str)))(h:Q (.bl (decide (y∈ls))) H):C9 K false (.str y) (.ref p) H Q:=by
 refine⟨p,_,rfl,.inr (cE.of hp),rfl,vg ls,?_⟩
 rw[yy]
 exact h
theorem yZ{K:Fg}{vs:List V}{H:Hp}{Q:VK}{E:XK}(h:ku K vs H Q E):qO K {nx:=λ_ H'=>Q .non H',rt:=Q} (start qA vs) H:=by
 obtain⟨wp,lt,k,y,ws,last,rfl,⟨⟨wvs,hwp,hA⟩,hlt⟩,hk,q⟩:=h
 have wl:wvs.length=ws.length:=hA.len
 refine .inr ⟨_,rfl,_,rfl,_,rfl,ze hwp (by lia) λp H1 hp s1=>⟨p,rfl,⟨_,cE.of hp⟩,rk (xs:=wvs.drop k) (λi σ' H'=>∃o4 o5,σ'=[some (.ref wp),some (.ref lt),some (.int (k:Nat)),some (.str y),o4,o5]/\wn last (ws.drop k) y=wn last (ws.drop (k+i)) y/\aM H1 H') ⟨_,_,rfl,rfl,aM.refl _⟩ ?_ ?_ ?_⟩⟩
 ·rintro i σ' H' _ ⟨_,_,_,_,s⟩
  exact cE.of (s _ _ hp)
 ·rintro i x σ' H2 hx ⟨o4,o5,rfl,e,s2⟩
  rw[iY] at hx
  obtain⟨w,ew,a,t,rfl,ha,ht⟩:=hA.of_v hx
  have S:=s1.trans s2
  have ed:ws.drop (k+i)=w::ws.drop (k+(i+1)):=by
   have hlt':k+i<ws.length:=(ae.mp ew).1
   rw[bM hlt',<-(ae.mp ew).2]
   rfl
  rw[ed] at e
  have e':wn last (ws.drop k) y=(decide (y∈w.ins) || (!decide (w.out=some y)&&wn last (ws.drop (k+(i+1))) y)):=e
  refine⟨a,_,rfl,cE.of (S _ _ ha),rfl,_,_,rfl,_,_,rfl,rfl,?_⟩
  show mZ K _ [some (.ref wp),some (.ref lt),some (.int (k:Nat)),some (.str y),some (.ref t),some (fX w.out)] H2
  refine⟨_,rfl,_,rfl,L6 (S _ _ ht) ⟨_,rfl,di (λc=>?_) (λc=>?_)⟩⟩
  ·have:=q H2 S
   rw[e',decide_eq_true c] at this
   exact this
  ·rw[decide_eq_false c,Bool.false_or] at e'
   refine⟨_,rfl,_,rfl,.inr (.inl ⟨by cases w.out<;>rfl,_,rfl,di (λd=>?_) (λd=>?_)⟩)⟩
   ·have:=q H2 S
    have d':w.out=some y:=by cases ho:w.out with
     |none=>rw[ho] at d;cases d
     |some z=>rw[ho] at d;injection d with d;rw[d]
    rw[e',decide_eq_true d'] at this
    exact this
   ·have d':w.out≠some y:=λz=>d (by rw[z];rfl)
    rw[decide_eq_false d',Bool.not_false,Bool.true_and] at e'
    exact⟨_,_,rfl,e',s2⟩
 ·rintro σ' H2 ⟨o4,o5,rfl,e,s2⟩
  have S:=s1.trans s2
  rw[cz,show k+(wvs.length-k)=ws.length by lia,fi] at e
  refine⟨_,rfl,_,rfl,L6 (S _ _ hlt) ?_⟩
  have:=q H2 S
  rw[e] at this
  exact this
theorem KQ{K:Fg}{H:Hp}{a b:Addr}{xs ys:List V}{Q:VK}(ha:H a=some (.tup xs))(hb:H b=some (.tup ys))(hl:xs.length+ys.length<=sizeLine)(h:∀(p:Addr) (H':Hp),H' p=some (.tup (xs++ys))->aM H H'->Q (.ref p) H') :
  ko K (.ref a) (.ref b) H Q:=by
 by_cases c:xs=[]
 ·subst c
  exact .inl ⟨a,b,ys,rfl,rfl,cE.of ha,cE.of hb,h b H hb (aM.refl H)⟩
 ·refine .inr (.inr (.inr (.inr ⟨a,b,xs,ys,rfl,rfl,cE.of ha,cE.of hb,c,hl,λe=>?_,λ_ p np=>h p _ aj ((aM.refl H).new np)⟩)))
  subst e
  exact h a H (by rw[eL];exact ha) (aM.refl H)
theorem zP{dd last:List Str}(hl:∀y∈last,y∈dd):∀{ws:List Wk},(∀w∈ws,∀y∈w.ins,y∈dd)->∀{y:Str},wn last ws y=true->y∈dd
 |[],_,y,h=>hl y (by simpa[wn] using h)
 |w::r,hw,y,h=>by
  have h':(decide (y∈w.ins) || (!decide (w.out=some y)&&wn last r y))=true:=h
  rw[Bool.or_eq_true,Bool.and_eq_true,decide_eq_true_eq] at h'
  rcases h' with h'|h'
  ·exact hw w bg y h'
  ·exact zP hl (λw' m=>hw w' (bh _ m)) h'.2
theorem bj.rev{α:Type}{R:V->α->Prop}{vs:List V}{rs:List α}(h:bj R vs rs):bj R vs.reverse rs.reverse:=by
 refine⟨by rw[bO,bO];exact h.len,λi v r a b=>?_⟩
 have l1:i<vs.length:=by have:=(ae.mp a).1;rwa [bO] at this
 have l2:i<rs.length:=by rw[<-h.len];exact l1
 rw[bQ l1] at a
 rw[bQ l2,<-h.len] at b
 exact h.at_ _ v r a b
theorem GL.mono{H H':Hp}{v:V}{ss:List Str}(h:GL H v ss)(s:∀b xs,H b=some (.tup xs)->H' b=some (.tup xs)):GL H' v ss:=by
 obtain⟨p,e,a⟩:=h
 exact⟨p,e,s _ _ a⟩
structure Mf(H:Hp)(pl:Addr)(last:List Str)(ws:List Wk)(H':Hp)(i:Nat)(t:Addr)(us:List Str)(tvs:List V)(pss:List (List Str)):Prop where
 ht:H' t=some (.tup (us.map V.str))
 ok:Ai last ws (ws.length-i) us
 hp:H' pl=some (.lst tvs)
 all:bj (GL H') tvs pss
 len:pss.length=i+1
 oks:∀(j:Nat) ss,pss[j]?=some ss->Ai last ws (ws.length-j) ss
 sm:aM H H'
theorem uO{K:Fg}{vs:List V}{H:Hp}{Q:VK}{E:XK}(h:fc K vs H Q E):nM K {nx:=λ_ H'=>Q .non H',rt:=Q} (start mN vs) H:=by
 obtain⟨wp,lt,ws,last,dd,rfl,⟨⟨wvs,hwp,hA⟩,hlt⟩,F,q⟩:=h
 have wl:wvs.length=ws.length:=hA.len
 have w100:=F.w100
 have d64:=F.d64
 have win:∀(k:Nat) {y:Str},wn last (ws.drop k) y=true->y∈dd:=λk y h=>zP F.lst (λw m=>(F.ins w (df m)).2) h
 refine⟨_,rfl,lt,true,last,dd,rfl,cE.of hlt,a8 F.l100 (by decide),F.lst,F.d64,λl us nl und umem usrt=>⟨l,_,rfl,.inl ⟨cq.of aj,λt nt=>?_⟩⟩⟩
 have s1:aM H (aP (aP H l (.lst (us.map V.str))) t (.tup (us.map V.str))):=((aM.refl H).new nl).new nt
 have ht1:(aP (aP H l (.lst (us.map V.str))) t (.tup (us.map V.str))) t=some (.tup (us.map V.str)):=aj
 show kS K _ [some (.ref wp),some (.ref lt),some (.ref t),none,none] _
 generalize aP (aP H l (.lst (us.map V.str))) t (.tup (us.map V.str))=H1 at s1 ht1 ⊢
 refine⟨_,rfl,(by show 1<=sizeLine;decide),λpl npl=>?_⟩
 have s2:aM H (aP H1 pl (.lst [.ref t])):=s1.new npl
 have ht2:aP H1 pl (.lst [.ref t]) t=some (.tup (us.map V.str)):=by rw[az (aJ ht1 npl)];exact ht1
 have hp2:aP H1 pl (.lst [.ref t]) pl=some (.lst [.ref t]):=aj
 have Hpl:H pl=none:=by
  cases ee:H pl with
  |none=>rfl
  |some u=>rw[s1 _ _ ee] at npl;cases npl
 show kR K _ [some (.ref wp),some (.ref lt),some (.ref t),some (.ref pl),none] _
 generalize aP H1 pl (.lst [.ref t])=H2 at s2 ht2 hp2 ⊢
 have ok0:Ai last ws ws.length us:=⟨qm usrt,und,λy=>by rw[umem,fi];simp[wn]⟩
 refine⟨_,rfl,wp,wvs,rfl,cE.of (s2 _ _ hwp),GY (xs:=wvs) (λi σ' H'=>∃(t:Addr) (o4:Option V) (us:List Str) (tvs:List V) (pss:List (List Str)),σ'=[some (.ref wp),some (.ref lt),some (.ref t),some (.ref pl),o4]/\Mf H pl last ws H' i t us tvs pss)
  ⟨t,none,us,[.ref t],[us],rfl,ht2,ok0,hp2,⟨rfl,λi v r a b=>?_⟩,rfl,λj ss e=>?_,s2⟩ ?_ ?_ ?_⟩
 ·cases i with
  |zero=>cases a;cases b;exact⟨t,rfl,ht2⟩
  |succ n=>simp at a
 ·cases j with
  |zero=>cases e;exact ok0
  |succ n=>simp at e
 ·rintro i σ' H' _ ⟨_,_,_,_,_,_,W⟩
  exact cE.of (W.sm _ _ hwp)
 ·rintro i x σ' H3 hx ⟨t,o4,us,tvs,pss,rfl,W⟩
  have ilt:i<wvs.length:=by have:=(ae.mp hx).1;rwa [bO] at this
  rw[bQ ilt] at hx
  obtain⟨w,ew,a,ti,rfl,ha,hti⟩:=hA.of_v hx
  have ed:ws.drop (ws.length-(i+1))=w::ws.drop (ws.length-i):=by
   rw[show ws.length-(i+1)=wvs.length-1-i by lia]
   rw[bM (ae.mp ew).1,(ae.mp ew).2,show wvs.length-1-i+1=ws.length-i by lia]
  have ul:us.length<64:=cM (j9 W.ok.nd λy hy=>win _ ((W.ok.mem y).mp hy)) d64
  have S3:=W.sm
  obtain⟨il,iin⟩:=F.ins w (aG ew)
  show kQ K _ [some (.ref wp),some (.ref lt),some (.ref t),some (.ref pl),some (.ref a)] H3
  refine⟨_,rfl,_,rfl,uj (S3 _ _ ha) (by decide) rfl ⟨t,w.out,us,rfl,W.ht,by lia,λp H4 hp4 s4=>⟨_,rfl,uj (s4 _ _ (S3 _ _ ha)) (by decide) rfl ⟨ti,_,rfl,.inr ⟨cE.of (s4 _ _ (S3 _ _ hti)),?_⟩⟩⟩⟩⟩
  have fl:(us.filter λy=>!decide (w.out=some y)).length<=us.length:=bq _ _
  refine KQ hp4 (s4 _ _ (S3 _ _ hti)) (bR (bH (by rw[af,af];lia))) λp5 H5 hp5 s5=>?_
  rw[<-aC] at hp5
  refine⟨p5,true,_,dd,rfl,cE.of hp5,by rw[ai];lia,λy hy=>?_,d64,λl us' nl und umem usrt=>⟨l,_,rfl,.inl ⟨cq.of aj,λt' nt=>?_⟩⟩⟩
  ·rcases aA.mp hy with hy|hy
   ·exact win _ ((W.ok.mem y).mp (bb.mp hy).1)
   ·exact iin y hy
  have s6:aM H3 (aP (aP H5 l (.lst (us'.map V.str))) t' (.tup (us'.map V.str))):=(((s4.trans s5)).new nl).new nt
  have ht6:(aP (aP H5 l (.lst (us'.map V.str))) t' (.tup (us'.map V.str))) t'=some (.tup (us'.map V.str)):=aj
  show kP K _ [some (.ref wp),some (.ref lt),some (.ref t'),some (.ref pl),some (.ref a)] _
  generalize aP (aP H5 l (.lst (us'.map V.str))) t' (.tup (us'.map V.str))=H6 at s6 ht6 ⊢
  have hpl6:=s6 _ _ W.hp
  have tl:tvs.length=i+1:=by rw[W.all.len,W.len]
  have ok':Ai last ws (ws.length-(i+1)) us':=⟨qm usrt,und,λy=>by
   rw[umem,aA,bb,W.ok.mem,ed]
   show _↔(decide (y∈w.ins) || (!decide (w.out=some y)&&wn last (ws.drop (ws.length-i)) y))=true
   rw[Bool.or_eq_true,Bool.and_eq_true,decide_eq_true_eq]
   exact⟨λh=>h.elim (λh=>.inr ⟨h.2,h.1⟩) .inl,λh=>h.elim .inr λh=>.inl ⟨h.2,h.1⟩⟩⟩
  refine⟨_,rfl,.inl ⟨rfl,_,cq.of hpl6⟩,_,rfl,pl,tvs,_,rfl,rfl,hpl6,bH (by lia),t',_,us',tvs++[.ref t'],pss++[us'],rfl,?_⟩
  have up:∀b xs,H6 b=some (.tup xs)->aP H6 pl (.lst (tvs++[.ref t'])) b=some (.tup xs):=λb xs e=>by
   rw[az (BQ e hpl6 (by intro z;cases z))];exact e
  refine⟨up _ _ ht6,ok',aj,⟨by rw[ai,ai,W.all.len];rfl,λj v r e1 e2=>?_⟩,by rw[ai,W.len];rfl,λj ss e=>?_,λb u e=>by rw[az (aJ e Hpl)];exact s6 _ _ (S3 b u e)⟩
  ·rcases b6 j tvs.length with hj|hj
   ·rw[ar hj] at e1
    rw[ar (by rw[<-W.all.len];exact hj)] at e2
    exact(W.all.at_ j v r e1 e2).mono λb xs e=>up _ _ (s6 _ _ e)
   ·rw[ao hj] at e1
    rw[ao (by rw[<-W.all.len];exact hj),<-W.all.len] at e2
    cases ej:j-tvs.length with
    |zero=>rw[ej] at e1 e2;cases e1;cases e2;exact⟨t',rfl,up _ _ ht6⟩
    |succ n=>rw[ej] at e1;simp at e1
  ·rcases b6 j pss.length with hj|hj
   ·rw[ar hj] at e
    exact W.oks j ss e
   ·rw[ao hj] at e
    cases ej:j-pss.length with
    |zero=>
     rw[ej] at e;cases e
     have:j=i+1:=by have:=W.len;lia
     rw[this];exact ok'
    |succ n=>rw[ej] at e;simp at e
 ·rintro σ' H3 ⟨t,o4,us,tvs,pss,rfl,W⟩
  refine⟨_,rfl,pl,tvs,rfl,cq.of W.hp,λl nl=>?_⟩
  have up:∀b xs,H3 b=some (.tup xs)->aP H3 l (.lst tvs.reverse) b=some (.tup xs):=λb xs e=>by
   rw[az (aJ e nl)];exact e
  have Hl:H l=none:=by
   cases ee:H l with
   |none=>rfl
   |some u=>rw[W.sm _ _ ee] at nl;cases nl
  refine q l tvs.reverse pss.reverse _ Hl aj (W.all.rev.imp λ_ _ z=>z.mono up) ⟨by rw[bO,W.len,wl],λk ss e=>?_⟩ (W.sm.new nl)
  have lk:k<pss.length:=by have:=(ae.mp e).1;rwa [bO] at this
  rw[bQ lk] at e
  have:=W.oks _ ss e
  have hl:=W.len
  rw[show ws.length-(pss.length-1-k)=k by lia] at this
  exact this
theorem yg(pl:Int)(ws:List Wk)(pss:List (List Str))(f k:Nat):uz pl ws pss (f+1) k =
  if pl<((pss.getD k []).length:Int) then some (("ahead":Str),k,pss.getD k []) else
  match(ws[k]?).bind (·.out) with
  |some y=>if pl-1<(((pss.getD (k+1) []).filter λz=>!decide (some y=some z)).length:Int) then some (("behind":Str),k,(pss.getD (k+1) []).filter λz=>!decide (some y=some z)) else uz pl ws pss f (k+1)
  |none=>uz pl ws pss f (k+1):=rfl
theorem rm{pss:List (List Str)}{k:Nat}{ss:List Str}(h:pss[k]?=some ss):pss.getD k []=ss:=by
 rw[bu,h];rfl
theorem y3{K:Fg}{vs:List V}{H:Hp}{Q:VK}{E:XK}(h:iT K vs H Q E):qQ K {nx:=λ_ H'=>Q .non H',rt:=Q} (start qB vs) H:=by
 obtain⟨pl,wp,lt,ws,last,dd,pss,rfl,WA,F,P,q⟩:=h
 have w100:=F.w100
 generalize hR0:uz pl ws pss (ws.length+1) 0=R at q
 refine⟨_,rfl,_,rfl,wp,lt,ws,last,dd,rfl,WA,F,λl tvs pss' H1 nl hl hA P' s1=>?_⟩
 cases P'.one P
 obtain⟨⟨wvs,hwp,hW⟩,hlt⟩:=WA
 have wl:wvs.length=ws.length:=hW.len
 have few:∀(k:Nat) ss,pss[k]?=some ss->ss.length<64:=λk ss e=>cM (j9 (P.at_ k ss e).nd λy hy=>zP F.lst (λw m=>(F.ins w (df m)).2) (((P.at_ k ss e).mem y).mp hy)) F.d64
 show nI K _ [some (.int pl),some (.ref wp),some (.ref lt),some (.ref l),none,none,none] H1
 refine⟨_,rfl,l,rfl,⟨_,cq.of hl⟩,EA (xs:=tvs) (λi σ' H'=>∃o4 o5 o6,σ'=[some (.int pl),some (.ref wp),some (.ref lt),some (.ref l),o4,o5,o6]/\R=uz pl ws pss (ws.length+1-i) i/\aM H1 H') ⟨_,_,_,rfl,hR0.symm,aM.refl _⟩ ?_ ?_ ?_⟩
 ·rintro i σ' H' _ ⟨_,_,_,_,_,s⟩
  exact cq.of (s _ _ hl)
 ·rintro i x σ' H2 p hx np ⟨o4,o5,o6,rfl,e,s2⟩
  obtain⟨ss,ess,t,rfl,ht⟩:=hA.of_v hx
  have ilt:i<pss.length:=(ae.mp ess).1
  have plen:=P.len
  have s3:aM H1 (aP H2 p (.tup [.int (i:Nat),.ref t])):=s2.new np
  have hp3:aP H2 p (.tup [.int (i:Nat),.ref t]) p=some (.tup [.int (i:Nat),.ref t]):=aj
  generalize aP H2 p (.tup [.int (i:Nat),.ref t])=H3 at s3 hp3 ⊢
  refine⟨p,_,rfl,cE.of hp3,rfl,_,_,rfl,_,_,rfl,rfl,?_⟩
  have S3:=s1.trans s3
  rw[show ws.length+1-i=(ws.length-i)+1 by lia,yg,rm ess] at e
  show nH K _ [some (.int pl),some (.ref wp),some (.ref lt),some (.ref l),some (.int (i:Nat)),some (.ref t),o6] H3
  refine⟨_,rfl,_,_,rfl,.inr ⟨_,cE.of (s3 _ _ ht),rfl⟩,_,rfl,_,_,rfl,rfl,_,rfl,di (λc=>?_) (λc=>?_)⟩
  ·rw[af] at c
   rw[if_pos c] at e
   refine⟨_,rfl,_,rfl,(by show 3<=sizeLine;decide),λr nr=>q _ _ ?_ (S3.new nr)⟩
   rw[e]
   exact⟨r,t,rfl,aj,by rw[az (aJ (s3 _ _ ht) nr)];exact s3 _ _ ht⟩
  ·rw[af] at c
   rw[if_neg c] at e
   refine⟨_,rfl,_,rfl,_,_,rfl,.inr ⟨_,cE.of (S3 _ _ hwp),rfl⟩,_,_,rfl,rfl,_,rfl,di (λd=>?_) (λd=>iE ?_)⟩
   ·have dlt:i<wvs.length:=by lia
    obtain⟨v,w,ev,ew,a,ti,rfl,ha,hti⟩:=hW.get (i:=i) (by lia)
    rw[ew] at e
    refine⟨_,rfl,_,rfl,uj (S3 _ _ hwp) (by lia) (show wvs[((i:Nat):Int).toNat]?=some (.ref a) by simpa using ev) (uj (S3 _ _ ha) (by decide) rfl ⟨rfl,_,rfl,?_⟩)⟩
    cases ho:w.out with
    |none=>
     rw[show(some w).bind (·.out)=none from ho] at e
     exact iE ⟨_,_,_,rfl,by rw[show ws.length+1-(i+1)=ws.length-i by lia];exact e,s3⟩
    |some y=>
     rw[show(some w).bind (·.out)=some y from ho] at e
     obtain⟨ss2,ess2⟩:∃ss2,pss[i+1]?=some ss2:=⟨_,aa (by lia)⟩
     obtain⟨v2,r2,ev2,er2,t2,rfl,ht2⟩:=hA.get (i:=i+1) (by lia)
     rw[ess2] at er2;cases er2
     rw[rm ess2] at e
     have f2:=few _ _ ess2
     refine qa ⟨_,rfl,_,rfl,.inl ⟨_,_,rfl,rfl,mP (cq.of (s3 _ _ hl)) (by lia) (show tvs[((i:Nat)+1:Int).toNat]?=some (.ref t2) by rw[show((i:Nat)+1:Int).toNat=i+1 by lia];exact ev2) ⟨_,rfl,_,rfl,uj (S3 _ _ hwp) (by lia) (show wvs[((i:Nat):Int).toNat]?=some (.ref a) by simpa using ev) (uj (S3 _ _ ha) (by decide) rfl ⟨t2,some y,ss2,by rw[ho];rfl,s3 _ _ ht2,by lia,λp5 H5 hp5 s5=>?_⟩)⟩⟩⟩
     show nB K _ [some (.int pl),some (.ref wp),some (.ref lt),some (.ref l),some (.int (i:Nat)),some (.ref t),some (.ref p5)] H5
     refine⟨_,rfl,_,_,rfl,.inr ⟨_,cE.of hp5,rfl⟩,_,rfl,_,_,rfl,rfl,_,_,rfl,rfl,_,rfl,di (λg=>?_) (λg=>?_)⟩
     ·rw[af] at g
      replace e:R=if pl-1<(((ss2).filter λz=>!decide (some y=some z)).length:Int) then some (("behind":Str),i,ss2.filter λz=>!decide (some y=some z)) else uz pl ws pss (ws.length-i) (i+1):=e
      rw[if_pos g] at e
      refine⟨_,rfl,_,rfl,(by show 3<=sizeLine;decide),λr nr=>q _ _ ?_ ((S3.trans s5).new nr)⟩
      rw[e]
      exact⟨r,p5,rfl,aj,by rw[az (aJ hp5 nr)];exact hp5⟩
     ·rw[af] at g
      replace e:R=if pl-1<(((ss2).filter λz=>!decide (some y=some z)).length:Int) then some (("behind":Str),i,ss2.filter λz=>!decide (some y=some z)) else uz pl ws pss (ws.length-i) (i+1):=e
      rw[if_neg g] at e
      exact⟨_,_,_,rfl,by rw[show ws.length+1-(i+1)=ws.length-i by lia];exact e,s3.trans s5⟩
   ·have:ws[i]?=none:=aW (by lia)
    rw[this] at e
    exact⟨_,_,_,rfl,by rw[show ws.length+1-(i+1)=ws.length-i by lia];exact e,s3⟩
 ·rintro σ' H2 ⟨o4,o5,o6,rfl,e,s2⟩
  have:tvs.length=ws.length+1:=by rw[hA.len,P.len]
  rw[this,a9] at e
  exact q .non H2 (by rw[e];rfl) (s1.trans s2)
theorem Df{K:Fg}{vs:List V}{H:Hp}{Q:VK}{E:XK}(h:kr K vs H Q E):vP K {nx:=λ_ H'=>Q .non H',rt:=Q} (start pW vs) H:=by
 obtain⟨pl,wp,l,wvs,tvs,ws,pss,rfl,hwp,hW,hl,hA,plen,w100,few,q⟩:=h
 generalize hR0:uz pl ws pss (ws.length+1) 0=R at q
 have wl:wvs.length=ws.length:=hW.len
 have tl:tvs.length=ws.length+1:=by rw[hA.len,plen]
 refine⟨_,rfl,_,_,rfl,.inl ⟨_,cq.of hl,rfl⟩,_,rfl,by lia,by lia,gP (n:=tvs.length) (λi σ' H'=>∃o3 o4,σ'=[some (.int pl),some (.ref wp),some (.ref l),o3,o4]/\R=uz pl ws pss (ws.length+1-i) i/\aM H H') ⟨_,_,rfl,hR0.symm,aM.refl _⟩ ?_ ?_⟩
 ·rintro i σ' H3 hi ⟨o3,o4,rfl,e,S3⟩
  obtain⟨v1,ss,ev1,ess,t,rfl,ht⟩:=hA.get (i:=i) (by lia)
  rw[show ws.length+1-i=(ws.length-i)+1 by lia,yg,rm ess] at e
  show qN K _ [some (.int pl),some (.ref wp),some (.ref l),some (.int ((0:Int)+(i:Nat))),o4] H3
  rw[show((0:Int)+(i:Nat))=(i:Nat) by lia]
  have ixl:∀{H':Hp} {Q':VK},aM H H'->Q' (.ref t) H'->eU K (.ref l) (.int (i:Nat)) H' Q':=λs q'=>mP (cq.of (s _ _ hl)) (by lia) (show tvs[((i:Nat):Int).toNat]?=some (.ref t) by simpa using ev1) q'
  refine⟨_,rfl,_,rfl,ixl S3 ⟨_,_,rfl,.inr ⟨_,cE.of (S3 _ _ ht),rfl⟩,_,rfl,_,_,rfl,rfl,_,rfl,di (λc=>?_) (λc=>?_)⟩⟩
  ·rw[af] at c
   rw[if_pos c] at e
   refine⟨_,rfl,_,rfl,_,rfl,ixl S3 ⟨(by show 3<=sizeLine;decide),λr nr=>q _ _ ?_ (S3.new nr)⟩⟩
   rw[e]
   exact⟨r,t,rfl,aj,by rw[az (aJ (S3 _ _ ht) nr)];exact S3 _ _ ht⟩
  ·rw[af] at c
   rw[if_neg c] at e
   refine⟨_,rfl,_,rfl,_,_,rfl,.inr ⟨_,cE.of (S3 _ _ hwp),rfl⟩,_,_,rfl,rfl,_,rfl,di (λd=>?_) (λd=>iE ?_)⟩
   ·obtain⟨v,w,ev,ew,a,ti,rfl,ha,hti⟩:=hW.get (i:=i) (by lia)
    rw[ew] at e
    have ixw:∀{H':Hp} {Q':VK},aM H H'->Q' (.ref a) H'->eU K (.ref wp) (.int (i:Nat)) H' Q':=λs q'=>uj (s _ _ hwp) (by lia) (show wvs[((i:Nat):Int).toNat]?=some (.ref a) by simpa using ev) q'
    refine⟨_,rfl,_,rfl,ixw S3 (uj (S3 _ _ ha) (by decide) rfl ⟨rfl,_,rfl,?_⟩)⟩
    cases ho:w.out with
    |none=>
     rw[show(some w).bind (·.out)=none from ho] at e
     exact iE ⟨_,_,rfl,by rw[show ws.length+1-(i+1)=ws.length-i by lia];exact e,S3⟩
    |some y=>
     rw[show(some w).bind (·.out)=some y from ho] at e
     obtain⟨v2,ss2,ev2,ess2,t2,rfl,ht2⟩:=hA.get (i:=i+1) (by lia)
     rw[rm ess2] at e
     have f2:=few ss2 (aG ess2)
     refine qa (.inr ⟨_,rfl,_,rfl,.inl ⟨_,_,rfl,rfl,mP (cq.of (S3 _ _ hl)) (by lia) (show tvs[((i:Nat)+1:Int).toNat]?=some (.ref t2) by rw[show((i:Nat)+1:Int).toNat=i+1 by lia];exact ev2) ⟨t2,rfl,⟨_,cE.of (S3 _ _ ht2)⟩,λD nD=>?_⟩⟩⟩)
     refine i6 (xs:=ss2.map V.str) (λj σ' H'=>∃o,σ'=[some (.int pl),some (.ref wp),some (.ref l),some (.int (i:Nat)),o4,o]/\H' D=some (.lst (((ss2.take j).filter λz=>!decide (some y=some z)).map V.str))/\aM H3 H') ?_ ?_ ?_ ?_
     ·exact⟨none,rfl,aj,(aM.refl H3).new nD⟩
     ·rintro j σ' H' _ ⟨o,_,_,s⟩
      exact cE.of (s _ _ (S3 _ _ ht2))
     ·rintro j x σ' H4 hx ⟨o,rfl,hD,s4⟩
      obtain⟨z,hz,rfl⟩:=xw hx
      have fl:((ss2.take j).filter λz=>!decide (some y=some z)).length<=ss2.length:=a8 (bq _ _) (by rw[aR];exact gM _ _)
      refine⟨_,rfl,_,rfl,_,rfl,ixw (S3.trans s4) (uj (s4 _ _ (S3 _ _ ha)) (by decide) rfl (.inl ⟨vB z w.out,_,rfl,?_⟩))⟩
      have tk:(ss2.take (j+1)).filter (λz=>!decide (some y=some z))=((ss2.take j).filter λz=>!decide (some y=some z))++if(!decide (some y=some z))=true then[z] else[]:=by
       rw[lb,hz,eG]
       congr 1
       show[z].filter _=_
       rw[cO]
       split<;>simp_all
      rw[BU,ho]
      refine og (λhs=>?_) (λhs=>?_)
      ·refine⟨_,rfl,_,hD,bH (by rw[af];lia),_,rfl,?_,λb u e=>by rw[az (aJ e nD)];exact s4 b u e⟩
       rw[aj,tk,decide_eq_false hs,aC];rfl
      ·refine⟨_,rfl,?_,s4⟩
       rw[tk,decide_eq_true hs]
       simpa using hD
     ·rintro σ' H4 ⟨o,_,hD,s4⟩
      rw[af,bf] at hD
      refine⟨D,_,rfl,.inl ⟨cq.of hD,λp5 np5=>?_⟩⟩
      have s5:aM H3 (aP H4 p5 (.tup ((ss2.filter λz=>!decide (some y=some z)).map V.str))):=s4.new np5
      have hp5:aP H4 p5 (.tup ((ss2.filter λz=>!decide (some y=some z)).map V.str)) p5=some (.tup ((ss2.filter λz=>!decide (some y=some z)).map V.str)):=aj
      show qM K _ [some (.int pl),some (.ref wp),some (.ref l),some (.int (i:Nat)),some (.ref p5)] _
      generalize aP H4 p5 (.tup ((ss2.filter λz=>!decide (some y=some z)).map V.str))=H5 at s5 hp5 ⊢
      replace e:R=if pl-1<(((ss2).filter λz=>!decide (some y=some z)).length:Int) then some (("behind":Str),i,ss2.filter λz=>!decide (some y=some z)) else uz pl ws pss (ws.length-i) (i+1):=e
      refine⟨_,rfl,_,_,rfl,.inr ⟨_,cE.of hp5,rfl⟩,_,rfl,_,_,rfl,rfl,_,_,rfl,rfl,_,rfl,di (λg=>?_) (λg=>?_)⟩
      ·rw[af] at g
       rw[if_pos g] at e
       refine⟨_,rfl,_,rfl,(by show 3<=sizeLine;decide),λr nr=>q _ _ ?_ ((S3.trans s5).new nr)⟩
       rw[e]
       exact⟨r,p5,rfl,aj,by rw[az (aJ hp5 nr)];exact hp5⟩
      ·rw[af] at g
       rw[if_neg g] at e
       exact⟨_,_,rfl,by rw[show ws.length+1-(i+1)=ws.length-i by lia];exact e,S3.trans s5⟩
   ·have:ws[i]?=none:=aW (by lia)
    rw[this] at e
    exact⟨_,_,rfl,by rw[show ws.length+1-(i+1)=ws.length-i by lia];exact e,S3⟩
 ·rintro σ' H2 ⟨o3,o4,rfl,e,s2⟩
  rw[tl,a9] at e
  exact q .non H2 (by rw[e];rfl) s2
theorem jd.same{H H':Hp}{wp lt:Addr}{ws:List Wk}{last:List Str}(h:jd H wp lt ws last)(s:aM H H'):jd H' wp lt ws last:=by
 obtain⟨⟨wvs,a,b⟩,c⟩:=h
 exact⟨⟨wvs,s _ _ a,b.imp λ_ _ z=>z.tp λb xs e=>s _ _ e⟩,s _ _ c⟩
structure Me(H:Hp)(l:Addr)(last:List Str)(ws:List Wk)(H':Hp)(i:Nat)(tvs:List V)(pss:List (List Str)):Prop where
 hl:H' l=some (.lst tvs)
 all:bj (GL H') tvs pss
 len:pss.length=i
 oks:∀(j:Nat) ss,pss[j]?=some ss->Ai last ws j ss
 sm:aM H H'
theorem FF{K:Fg}{vs:List V}{H:Hp}{Q:VK}{E:XK}(h:jY K vs H Q E):zK K {nx:=λ_ H'=>Q .non H',rt:=Q} (start rX vs) H:=by
 obtain⟨wp,lt,nm,ws,last,ys,rfl,WA,F,hnm,ynd,q⟩:=h
 obtain⟨⟨wvs,hwp,hW⟩,hlt⟩:=id WA
 have wl:wvs.length=ws.length:=hW.len
 have w100:=F.w100
 have d64:=F.d64
 refine⟨(by show 0<=sizeLine;decide),λl nl=>?_⟩
 have s1:aM H (aP H l (.lst [])):=(aM.refl H).new nl
 have hl1:aP H l (.lst []) l=some (.lst []):=aj
 show ue K _ [some (.ref wp),some (.ref lt),some (.ref nm),some (.ref l),none] _
 generalize aP H l (.lst [])=H1 at s1 hl1 ⊢
 refine⟨_,rfl,_,_,rfl,.inr ⟨_,cE.of (s1 _ _ hwp),rfl⟩,.inl ⟨_,_,rfl,rfl,_,rfl,by lia,by lia,gP (n:=wvs.length+1) (λi σ' H'=>∃o4 tvs pss,σ'=[some (.ref wp),some (.ref lt),some (.ref nm),some (.ref l),o4]/\Me H l last ws H' i tvs pss)
  ⟨none,[],[],rfl,hl1,⟨rfl,λi v r a=>by simp at a⟩,rfl,λj ss e=>by simp at e,s1⟩ ?_ ?_⟩⟩
 ·rintro i σ' H2 hi ⟨o4,tvs,pss,rfl,P⟩
  show ud K _ [some (.ref wp),some (.ref lt),some (.ref nm),some (.ref l),some (.int ((0:Int)+(i:Nat)))] H2
  rw[show((0:Int)+(i:Nat))=(i:Nat) by lia]
  refine⟨_,rfl,.inl ⟨rfl,_,cq.of P.hl⟩,.inl ⟨_,rfl,nm,ys,rfl,cq.of (P.sm _ _ hnm),d64,λsl ys' nsl perm srt=>⟨sl,rfl,⟨_,cq.of aj⟩,λD nD=>?_⟩⟩⟩
  have s3:aM H2 (aP H2 sl (.lst (ys'.map V.str))):=(aM.refl H2).new nsl
  have hsl3:aP H2 sl (.lst (ys'.map V.str)) sl=some (.lst (ys'.map V.str)):=aj
  generalize aP H2 sl (.lst (ys'.map V.str))=H3 at s3 hsl3 nD ⊢
  have yl:ys'.length=ys.length:=perm.length_eq
  refine jQ (xs:=ys'.map V.str) (λj σ' H'=>∃(o5:Option V) (us:List Str),σ'=[some (.ref wp),some (.ref lt),some (.ref nm),some (.ref l),some (.int (i:Nat)),o5]/\H' D=some (.lst (us.map V.str))/\us.Sublist (ys'.take j)/\(∀y,y∈us↔y∈ys'.take j/\wn last (ws.drop i) y=true)/\aM H3 H') ?_ ?_ ?_ ?_
  ·exact⟨none,[],rfl,aj,List.Sublist.refl _,λy=>by simp,(aM.refl H3).new nD⟩
  ·rintro j σ' H' _ ⟨_,_,_,_,_,_,s⟩
   exact cq.of (s _ _ hsl3)
  ·rintro j x σ' H4 hx ⟨o5,us,rfl,hD,sub,hu,s4⟩
   obtain⟨y,hy,rfl⟩:=xw hx
   have tk:ys'.take (j+1)=ys'.take j++[y]:=by rw[lb,hy];rfl
   have ul:us.length<=ys'.length:=a8 sub.length_le (by rw[aR];exact gM _ _)
   refine⟨_,rfl,_,rfl,_,rfl,_,rfl,wp,lt,i,y,ws,last,rfl,WA.same ((P.sm.trans s3).trans s4),by lia,λH5 s5=>⟨_,rfl,?_⟩⟩
   cases hb:wn last (ws.drop i) y with
   |true=>
    refine qa ⟨_,rfl,_,s5 _ _ hD,bH (by rw[af];lia),_,us++[y],rfl,?_,?_,λz=>?_,λb u e=>by rw[az (aJ e nD)];exact s5 _ _ (s4 b u e)⟩
    ·rw[aj,aC];rfl
    ·rw[tk];exact sub.append (List.Sublist.refl _)
    ·rw[tk,aA,aA,hu z,ak]
     constructor
     ·rintro(⟨a,b⟩|rfl)
      ·exact⟨.inl a,b⟩
      ·exact⟨.inr rfl,hb⟩
     ·rintro⟨a|a,b⟩
      ·exact .inl ⟨a,b⟩
      ·exact .inr a
   |false=>
    refine iE ⟨_,us,rfl,s5 _ _ hD,?_,λz=>?_,s4.trans s5⟩
    ·rw[tk];exact sub.trans (List.sublist_append_left _ _)
    ·rw[tk,aA,hu z,ak]
     constructor
     ·rintro⟨a,b⟩;exact⟨.inl a,b⟩
     ·rintro⟨a|a,b⟩
      ·exact⟨a,b⟩
      ·subst a;rw[hb] at b;cases b
  ·rintro σ' H4 ⟨o5,us,rfl,hD,sub,hu,s4⟩
   rw[af,bf] at sub hu
   refine⟨D,_,rfl,.inl ⟨cq.of hD,λt nt=>?_⟩⟩
   have s5:aM H2 (aP H4 t (.tup (us.map V.str))):=(s3.trans s4).new nt
   have ht5:aP H4 t (.tup (us.map V.str)) t=some (.tup (us.map V.str)):=aj
   generalize aP H4 t (.tup (us.map V.str))=H5 at s5 ht5 ⊢
   have hl5:=s5 _ _ P.hl
   have tl:tvs.length=i:=by rw[P.all.len,P.len]
   have ok':Ai last ws i us:=⟨(qm srt).sublist sub,(perm.nodup_iff.mpr ynd).sublist sub,λy=>by
    rw[hu,perm.mem_iff]
    exact⟨λh=>h.2,λh=>⟨zP F.lst (λw m=>(F.ins w (df m)).2) h,h⟩⟩⟩
   have up:∀b xs,H5 b=some (.tup xs)->aP H5 l (.lst (tvs++[.ref t])) b=some (.tup xs):=λb xs e=>by
    rw[az (BQ e hl5 (by intro z;cases z))];exact e
   refine⟨l,tvs,_,rfl,rfl,hl5,bH (by lia),_,tvs++[.ref t],pss++[us],rfl,aj,⟨by rw[ai,ai,P.all.len];rfl,λj v r e1 e2=>?_⟩,by rw[ai,P.len];rfl,λj ss e=>?_,λb u e=>by rw[az (aJ e nl)];exact s5 _ _ (P.sm b u e)⟩
   ·rcases b6 j tvs.length with hj|hj
    ·rw[ar hj] at e1
     rw[ar (by rw[<-P.all.len];exact hj)] at e2
     exact(P.all.at_ j v r e1 e2).mono λb xs e=>up _ _ (s5 _ _ e)
    ·rw[ao hj] at e1
     rw[ao (by rw[<-P.all.len];exact hj),<-P.all.len] at e2
     cases ej:j-tvs.length with
     |zero=>rw[ej] at e1 e2;cases e1;cases e2;exact⟨t,rfl,up _ _ ht5⟩
     |succ n=>rw[ej] at e1;simp at e1
   ·rcases b6 j pss.length with hj|hj
    ·rw[ar hj] at e
     exact P.oks j ss e
    ·rw[ao hj] at e
     cases ej:j-pss.length with
     |zero=>
      rw[ej] at e;cases e
      have:j=i:=by have:=P.len;lia
      rw[this];exact ok'
     |succ n=>rw[ej] at e;simp at e
 ·rintro σ' H2 ⟨o4,tvs,pss,rfl,P⟩
  exact⟨_,rfl,q l tvs pss H2 nl P.hl P.all ⟨by rw[P.len,wl],P.oks⟩ P.sm⟩
theorem Ih{K:Fg}{vs:List V}{H:Hp}{Q:VK}{E:XK}(h:lR K vs H Q E):Cr K {nx:=λ_ H'=>Q .non H',rt:=Q} (start By vs) H:=by
 obtain⟨st,nm,k,ys,rfl,S,hk,nst,hnm,yl,q⟩:=h
 refine⟨_,rfl,(by show 1<=sizeLine;decide),λl1 nl1=>.inr (.inr (.inl ⟨nm,l1,_,_,rfl,rfl,by rw[az (aJ hnm nl1)];exact hnm,aj,bR (bH (by rw[af];show ys.length+1<=100000;lia)),λl2 nl2=>?_⟩))⟩
 have n2:l2≠st:=λz=>by obtain⟨_,e⟩:=(S.new (o:=.lst [V.non]) nl1).lst;rw[z,e] at nl2;cases nl2
 have s2:aM H (aP (aP H l1 (.lst [V.non])) l2 (.lst (ys.map V.str++[V.non]))):=((aM.refl H).new nl1).new nl2
 have hl2:aP (aP H l1 (.lst [V.non])) l2 (.lst (ys.map V.str++[V.non])) l2=some (.lst (ys.map V.str++[V.non])):=aj
 generalize aP (aP H l1 (.lst [V.non])) l2 (.lst (ys.map V.str++[V.non]))=H2 at s2 hl2 ⊢
 have S2:=S.same s2
 refine⟨_,rfl,_,rfl,_,_,rfl,.inl ⟨_,cq.of (s2 _ _ hnm),rfl⟩,.inl ⟨_,_,rfl,rfl,st,_,k,rfl,S2,by lia,by lia,by rw[af];lia,λd H3 d0 d1 S3 B3=>?_⟩⟩
 have h3:=B3 _ _ n2 hl2
 rw[af] at d1
 rcases b6 d.toNat ys.length with c|c
 ·refine mP (cq.of h3) d0 (v:=.str ys[d.toNat]) ?_ ?_
  ·rw[ar (by rw[af];exact c),aH,aa c];rfl
  ·exact q (some ys[d.toNat]) H3 (λy e=>by injection e with e;rw[<-e];exact bY c) S3 (λb u n e=>B3 b u n (s2 b u e))
 ·refine mP (cq.of h3) d0 (v:=.non) ?_ ?_
  ·rw[ao (by rw[af];exact c),af,show d.toNat-ys.length=0 by lia];rfl
  ·exact q none H3 (λy e=>by cases e) S3 (λb u n e=>B3 b u n (s2 b u e))
theorem sj{K:Fg}{H H':Hp}{st:Addr}{k:Nat}(S:k8 K H st k)(B:iz st H H'):∀b xs,H b=some (.tup xs)->H' b=some (.tup xs):=λb xs e=>by
 refine B b _ (λz=>?_) e
 obtain⟨_,e'⟩:=S.lst
 rw[z,e'] at e;cases e
theorem FU:∀n:Nat,n<6->∃z:Nat,([V.int 0,V.int 1,V.int 2,V.int 2,V.int 3,V.int 8]:List V)[n]?=some (.int (z:Nat))/\z<=8
 |0,_=>⟨0,rfl,by decide⟩
 |1,_=>⟨1,rfl,by decide⟩
 |2,_=>⟨2,rfl,by decide⟩
 |3,_=>⟨2,rfl,by decide⟩
 |4,_=>⟨3,rfl,by decide⟩
 |5,_=>⟨8,rfl,by decide⟩
 |n+6,h=>absurd h (by lia)
structure LP(K:Fg)(H:Hp)(st L:Addr)(ys:List Str)(H':Hp)(i k k':Nat)(wvs:List V)(ws:List Wk):Prop where
 hL:H' L=some (.lst wvs)
 all:bj (D9 H') wvs ws
 len:ws.length=i
 ok:∀w∈ws,w.ins.length<=8/\∀y∈w.ins,y∈ys
 S:k8 K H' st k'
 few:k'<=k+1+12*i
 B:iz st H H'
theorem Ii{K:Fg}{vs:List V}{H:Hp}{Q:VK}{E:XK}(h:tJ K vs H Q E):Cs K {nx:=λ_ H'=>Q .non H',rt:=Q} (start wc vs) H:=by
 obtain⟨st,nm,m,k,ys,rfl,S,hk,nst,hnm,y1,y20,m100,q⟩:=h
 refine⟨(by show 0<=sizeLine;decide),λL nL=>?_⟩
 have S1:=S.new (o:=.lst []) nL
 have s1:aM H (aP H L (.lst [])):=(aM.refl H).new nL
 have hL1:aP H L (.lst []) L=some (.lst []):=aj
 have nLst:L≠st:=λz=>by obtain⟨_,e⟩:=S.lst;rw[z,e] at nL;cases nL
 show vX K _ [some (.ref st),some (.ref nm),some (.int (m:Nat)),some (.ref L),none,none,none] _
 generalize aP H L (.lst [])=H1 at S1 s1 hL1 ⊢
 refine⟨_,rfl,_,rfl,.inl ⟨_,_,rfl,rfl,st,_,k,rfl,S1,by lia,by lia,by lia,λe H2 e0 e1 S2 B2=>⟨e,rfl,by lia,by lia,gP (n:=e.toNat) (λi σ' H'=>∃(o4 o5 o6:Option V) (k':Nat) (wvs:List V) (ws:List Wk),σ'=[some (.ref st),some (.ref nm),some (.int (m:Nat)),some (.ref L),o4,o5,o6]/\LP K H st L ys H' i k k' wvs ws)
  ⟨none,none,none,k+1,[],[],rfl,B2 _ _ nLst hL1,⟨rfl,λi v r a=>by simp at a⟩,rfl,λw m=>by(cases m),S2,by lia,λb u n e=>B2 b u n (s1 b u e)⟩ ?_ ?_⟩⟩⟩
 ·rintro i σ' H3 hi ⟨o4,o5,o6,k',wvs,ws,rfl,A⟩
  have hi':i<e.toNat:=hi
  have kf:=A.few
  have H3nm:=A.B _ _ nst hnm
  refine⟨(by show 6<=sizeLine;decide),λl4 n4=>?_⟩
  have S4:=A.S.new (o:=.lst [V.int 0,V.int 1,V.int 2,V.int 2,V.int 3,V.int 8]) n4
  have s4:aM H3 (aP H3 l4 (.lst [V.int 0,V.int 1,V.int 2,V.int 2,V.int 3,V.int 8])):=(aM.refl H3).new n4
  have h4:aP H3 l4 (.lst [V.int 0,V.int 1,V.int 2,V.int 2,V.int 3,V.int 8]) l4=some (.lst [V.int 0,V.int 1,V.int 2,V.int 2,V.int 3,V.int 8]):=aj
  have n4st:l4≠st:=λz=>by obtain⟨_,e⟩:=A.S.lst;rw[z,e] at n4;cases n4
  generalize aP H3 l4 (.lst [V.int 0,V.int 1,V.int 2,V.int 2,V.int 3,V.int 8])=H4 at S4 s4 h4 ⊢
  refine⟨_,rfl,st,6,k',rfl,S4,by lia,by decide,by decide,λd H5 d0 d1 S5 B5=>?_⟩
  obtain⟨sz,hsz,sz8⟩:=FU d.toNat (by lia)
  refine mP (cq.of (B5 _ _ n4st h4)) d0 hsz ?_
  have T5:iz st H3 H5:=λb u n e=>B5 b u n (s4 b u e)
  show vW K _ [some (.ref st),some (.ref nm),some (.int (m:Nat)),some (.ref L),some (.int ((0:Int)+(i:Nat))),some (.int (sz:Nat)),o6] H5
  refine⟨_,rfl,_,rfl,by lia,by lia,λD nD=>?_⟩
  have nDst:D≠st:=λz=>by obtain⟨_,e⟩:=S5.lst;rw[z,e] at nD;cases nD
  refine nY (λj σ' H'=>∃(us:List Str) (kk:Nat) (o:Option V),σ'=[some (.ref st),some (.ref nm),some (.int (m:Nat)),some (.ref L),some (.int ((0:Int)+(i:Nat))),some (.int (sz:Nat)),o6,o]/\H' D=some (.lst (us.map V.str))/\us.length=j/\(∀y∈us,y∈ys)/\k8 K H' st kk/\kk<=k'+1+j/\iz st H5 H') ?_ ?_ ?_
  ·exact⟨[],k'+1,none,rfl,aj,rfl,by simp,S5.new nD,by lia,(iz.refl st H5).new nD⟩
  ·rintro j σ' H6 hj ⟨us,kk,o,rfl,hD,ul,uin,S6,hkk,B6⟩
   have hj':j<sz:=by simpa using hj
   have h6nm:=B6 _ _ nst (T5 _ _ nst H3nm)
   refine fm ⟨_,rfl,_,rfl,_,rfl,_,_,rfl,.inl ⟨_,cq.of h6nm,rfl⟩,st,_,kk,rfl,S6,by lia,by rw[af];lia,by rw[af];lia,λd H7 d0 d1 S7 B7=>?_⟩
   rw[af] at d1
   have dl:d.toNat<ys.length:=by lia
   have hD7:=B7 _ _ nDst hD
   refine mP (cq.of (B7 _ _ nst h6nm)) d0 (v:=.str ys[d.toNat]) (by rw[aH,aa dl];rfl) ⟨_,hD7,bH (by rw[af];lia),us++[ys[d.toNat]],kk+1,_,rfl,?_,by rw[ai,ul];rfl,λy hy=>?_,S7.mono .upd_at hD7 (Ne.symm nDst),by lia,λb u n e=>?_⟩
   ·rw[aj,aC];rfl
   ·rcases aA.mp hy with z|z
    ·exact uin y z
    ·rw[ak.mp z];exact bY dl
   ·rw[az (aJ e nD)];exact B7 b u n (B6 b u n e)
  ·rintro σ' H6 ⟨us,kk,o,rfl,hD,ul,uin,S6,hkk,B6⟩
   have ul':us.length=sz:=by simpa using ul
   have hkk':kk<=k'+1+sz:=by simpa using hkk
   refine⟨D,_,rfl,.inl ⟨cq.of hD,λt nt=>?_⟩⟩
   have S6':=S6.new (o:=.tup (us.map V.str)) nt
   have T6:iz st H3 (aP H6 t (.tup (us.map V.str))):=(T5.trans B6).new nt
   have ht6:aP H6 t (.tup (us.map V.str)) t=some (.tup (us.map V.str)):=aj
   show vV K _ [some (.ref st),some (.ref nm),some (.int (m:Nat)),some (.ref L),some (.int ((0:Int)+(i:Nat))),some (.int (sz:Nat)),some (.ref t)] _
   generalize aP H6 t (.tup (us.map V.str))=H7 at S6' T6 ht6 ⊢
   refine⟨_,rfl,.inl ⟨rfl,_,cq.of (T6 _ _ nLst A.hL)⟩,_,rfl,_,rfl,_,rfl,st,nm,kk,ys,rfl,S6',by lia,nst,T6 _ _ nst H3nm,y20,λmo H8 hmo S8 B8=>⟨(by show 2<=sizeLine;decide),λl9 n9=>?_⟩⟩
   have S9:=S8.new (o:=.lst [V.non,fX mo]) n9
   have s9:aM H8 (aP H8 l9 (.lst [V.non,fX mo])):=(aM.refl H8).new n9
   have h9:aP H8 l9 (.lst [V.non,fX mo]) l9=some (.lst [V.non,fX mo]):=aj
   have n9st:l9≠st:=λz=>by obtain⟨_,e⟩:=S8.lst;rw[z,e] at n9;cases n9
   generalize aP H8 l9 (.lst [V.non,fX mo])=H9 at S9 s9 h9 ⊢
   refine⟨_,rfl,st,4,kk+1,rfl,S9,by lia,by decide,by decide,λd H10 d0 d1 S10 B10=>⟨_,_,rfl,rfl,.inr ⟨_,rfl,?_⟩⟩⟩
   have T10:iz st H7 H10:=λb u n e=>B10 b u n (s9 b u (B8 b u n e))
   have tp10:∀b xs,H7 b=some (.tup xs)->H10 b=some (.tup xs):=sj S6' T10
   have fin:∀mo':Option Str,(kz aO:TE)=kz aO->∀(p:Addr),H10 p=none->LP K H st L ys (aP (aP H10 p (.tup [.ref t,fX mo'])) L (.lst (wvs++[.ref p]))) (i+1) k (kk+2) (wvs++[.ref p]) (ws++[⟨us,mo'⟩]):=λmo' _ p np=>by
    have hL10:H10 L=some (.lst wvs):=T10 _ _ nLst (T6 _ _ nLst A.hL)
    have npL:p≠L:=λz=>by rw[z,hL10] at np;cases np
    have up:∀b xs,H10 b=some (.tup xs)->(aP (aP H10 p (.tup [.ref t,fX mo'])) L (.lst (wvs++[.ref p]))) b=some (.tup xs):=λb xs e=>by
     rw[az (BQ e hL10 (by intro z;cases z)),az (aJ e np)];exact e
    refine⟨aj,⟨by rw[ai,ai,A.all.len];rfl,λj v r e1 e2=>?_⟩,by rw[ai,A.len];rfl,λw mw=>?_,?_,by lia,λb u n e=>?_⟩
    ·rcases b6 j wvs.length with hj|hj
     ·rw[ar hj] at e1
      rw[ar (by rw[<-A.all.len];exact hj)] at e2
      exact(A.all.at_ j v r e1 e2).tp λb xs e=>up _ _ (tp10 _ _ (sj A.S T6 _ _ e))
     ·rw[ao hj] at e1
      rw[ao (by rw[<-A.all.len];exact hj),<-A.all.len] at e2
      cases ej:j-wvs.length with
      |zero=>
       rw[ej] at e1 e2;cases e1;cases e2
       exact⟨p,t,rfl,by rw[az npL,aj],up _ _ (tp10 _ _ ht6)⟩
      |succ n=>rw[ej] at e1;simp at e1
    ·rcases aA.mp mw with z|z
     ·exact A.ok w z
     ·rw[ak.mp z];exact⟨by show us.length<=8;lia,uin⟩
    ·exact(S10.new np).mono .upd_at (by rw[az (Ne.symm npL)];exact hL10) (Ne.symm nLst)
    ·have bL:b≠L:=aJ e nL
     rw[az bL]
     have e10:=T10 b u n (T6 b u n (A.B b u n e))
     rw[az (aJ e10 np)];exact e10
   have hL10:H10 L=some (.lst wvs):=T10 _ _ nLst (T6 _ _ nLst A.hL)
   have wl:wvs.length=i:=by rw[A.all.len,A.len]
   have fin2:∀mo':Option Str,∀(p:Addr),H10 p=none->(∃l xs y,V.ref L=.ref l/\[V.ref p]=[y]/\aP H10 p (.tup [.ref t,fX mo']) l=some (.lst xs)/\xs.length<sizeLine/\∃(o4 o5 o6:Option V) (k':Nat) (wvs':List V) (ws':List Wk),[some (V.ref st),some (.ref nm),some (.int (m:Nat)),some (.ref L),some (.int ((0:Int)+(i:Nat))),some (.int (sz:Nat)),some (.ref t)]=[some (.ref st),some (.ref nm),some (.int (m:Nat)),some (.ref L),o4,o5,o6]/\LP K H st L ys (aP (aP H10 p (.tup [.ref t,fX mo'])) l (.lst (xs++[y]))) (i+1) k k' wvs' ws'):=λmo' p np=>
    ⟨L,wvs,_,rfl,rfl,by rw[az (λz=>by rw[<-z,hL10] at np;cases np)];exact hL10,bH (by lia),_,_,_,kk+2,_,_,rfl,fin mo' rfl p np⟩
   cases hb:decide ((0:Int)<d) with
   |true=>exact mP (cq.of (B10 _ _ n9st h9)) (by decide) rfl ⟨(by show 2<=sizeLine;decide),λp np=>fin2 mo p np⟩
   |false=>exact mP (cq.of (B10 _ _ n9st h9)) (by decide) rfl ⟨(by show 2<=sizeLine;decide),λp np=>fin2 none p np⟩
 ·rintro σ' H3 ⟨o4,o5,o6,k',wvs,ws,rfl,A⟩
  have few:=A.few
  refine⟨_,rfl,L,_,rfl,.inl ⟨cq.of A.hL,λwp nwp=>?_⟩⟩
  exact q wp wvs ws k' _ aj (A.all.imp λ_ _ z=>z.tp λb xs e=>by rw[az (aJ e nwp)];exact e) (by rw[A.len];lia) A.ok (A.S.new nwp) (by lia) (A.B.new nwp)
theorem AC{α β:Type}(f:α->β):∀(l:List α) (i:Nat),(l.map f).eraseIdx i=(l.eraseIdx i).map f
 |[],i=>by simp
 |x::l,0=>rfl
 |x::l,i+1=>by
  show f x::(l.map f).eraseIdx i=f x::(l.eraseIdx i).map f
  rw[AC f l i]
structure Md(K:Fg)(H:Hp)(st lf fd:Addr)(ys:List Str)(H':Hp)(i k k':Nat)(ls fs:List Str):Prop where
 hlf:H' lf=some (.lst (ls.map V.str))
 hfd:H' fd=some (.lst (fs.map V.str))
 ll:ls.length+i=ys.length
 fl:fs.length=i
 lin:∀y∈ls,y∈ys
 fin:∀y∈fs,y∈ys
 S:k8 K H' st k'
 few:k'<=k+1+i
 B:iz st H H'
theorem Kk{K:Fg}{vs:List V}{H:Hp}{Q:VK}{E:XK}(h:xt K vs H Q E):F9 K {nx:=λ_ H'=>Q .non H',rt:=Q} (start DZ vs) H:=by
 obtain⟨st,nm,m,k,ys,rfl,S,hk,nst,hnm,y20,m100,q⟩:=h
 refine⟨_,rfl,nm,_,rfl,.inl (cq.of hnm),λlf nlf=>?_⟩
 have S1:=S.new (o:=.lst (ys.map V.str)) nlf
 have s1:aM H (aP H lf (.lst (ys.map V.str))):=(aM.refl H).new nlf
 have hlf1:aP H lf (.lst (ys.map V.str)) lf=some (.lst (ys.map V.str)):=aj
 have nlfst:lf≠st:=λz=>by obtain⟨_,e⟩:=S.lst;rw[z,e] at nlf;cases nlf
 show zE K _ [some (.ref st),some (.ref nm),some (.int (m:Nat)),some (.ref lf),none,none] _
 generalize aP H lf (.lst (ys.map V.str))=H1 at S1 s1 hlf1 ⊢
 refine⟨(by show 0<=sizeLine;decide),λfd nfd=>?_⟩
 have S2:=S1.new (o:=.lst []) nfd
 have s2:aM H1 (aP H1 fd (.lst [])):=(aM.refl H1).new nfd
 have hfd2:aP H1 fd (.lst []) fd=some (.lst []):=aj
 have nfdst:fd≠st:=λz=>by obtain⟨_,e⟩:=S1.lst;rw[z,e] at nfd;cases nfd
 have nff:fd≠lf:=λz=>by rw[z,hlf1] at nfd;cases nfd
 have Hfd:H fd=none:=by
  cases ee:H fd with
  |none=>rfl
  |some u=>rw[s1 _ _ ee] at nfd;cases nfd
 show zz K _ [some (.ref st),some (.ref nm),some (.int (m:Nat)),some (.ref lf),some (.ref fd),none] _
 generalize aP H1 fd (.lst [])=H2 at S2 s2 hfd2 ⊢
 have hlf2:=s2 _ _ hlf1
 refine⟨_,rfl,_,_,rfl,.inl ⟨_,cq.of (s2 _ _ (s1 _ _ hnm)),rfl⟩,_,rfl,_,rfl,.inl ⟨_,_,rfl,rfl,st,_,k,rfl,S2,by lia,by lia,by lia,λe H3 e0 e1 S3 B3=>⟨_,_,rfl,?_⟩⟩⟩
 obtain⟨c,hc,cle,clm⟩:∃c:Nat,(if e<((ys.map V.str).length:Int) then e else((ys.map V.str).length:Int))=(c:Int)/\c<=ys.length/\c<=m:=by
  rw[af]
  by_cases g:e<(ys.length:Int)
  ·exact⟨e.toNat,by rw[if_pos g];lia,by lia,by lia⟩
  ·exact⟨ys.length,by rw[if_neg g],au _,by lia⟩
 rw[hc]
 refine⟨_,rfl,by lia,by lia,gP (n:=c) (λi σ' H'=>∃(o5:Option V) (k':Nat) (ls fs:List Str),σ'=[some (.ref st),some (.ref nm),some (.int (m:Nat)),some (.ref lf),some (.ref fd),o5]/\Md K H st lf fd ys H' i k k' ls fs)
  ⟨none,k+1,ys,[],rfl,B3 _ _ nlfst hlf2,B3 _ _ nfdst hfd2,rfl,rfl,λy h=>h,λy h=>by(cases h),S3,by lia,λb u n e=>B3 b u n (s2 _ _ (s1 b u e))⟩ ?_ ?_⟩
 ·rintro i σ' H4 hi ⟨o5,k',ls,fs,rfl,A⟩
  have kf:=A.few
  have ll:=A.ll
  have lpos:0<ls.length:=by lia
  refine⟨_,rfl,.inl ⟨rfl,_,cq.of A.hfd⟩,_,rfl,.inl ⟨rfl,_,cq.of A.hlf⟩,_,rfl,_,rfl,_,_,rfl,.inl ⟨_,cq.of A.hlf,rfl⟩,st,_,k',rfl,A.S,by lia,by rw[af];lia,by rw[af];lia,λd H5 d0 d1 S5 B5=>?_⟩
  rw[af] at d1
  have dl:d.toNat<ls.length:=by lia
  have h5:=B5 _ _ nlfst A.hlf
  have g5:=B5 _ _ nfdst A.hfd
  refine⟨lf,_,d,d.toNat,.str ls[d.toNat],rfl,rfl,h5,by lia,by lia,?_,by rw[aH,aa dl];rfl,?_⟩
  ·unfold seqIndex?
   rw[if_neg (show ¬(d<0) by lia),af]
   simp[d0,d1]
  ·have ke:(ls.map V.str).eraseIdx d.toNat=(ls.eraseIdx d.toNat).map V.str:=AC _ _ _
   rw[ke]
   have S6:=S5.mono (H':=aP H5 lf (.lst ((ls.eraseIdx d.toNat).map V.str))) .upd_at h5 (Ne.symm nlfst)
   have g6:aP H5 lf (.lst ((ls.eraseIdx d.toNat).map V.str)) fd=some (.lst (fs.map V.str)):=by rw[az nff];exact g5
   have h6:aP H5 lf (.lst ((ls.eraseIdx d.toNat).map V.str)) lf=some (.lst ((ls.eraseIdx d.toNat).map V.str)):=aj
   have T6:iz st H (aP H5 lf (.lst ((ls.eraseIdx d.toNat).map V.str))):=λb u n e=>by rw[az (aJ e nlf)];exact B5 b u n (A.B b u n e)
   generalize aP H5 lf (.lst ((ls.eraseIdx d.toNat).map V.str))=H6 at S6 g6 h6 T6 ⊢
   have fl:=A.fl
   refine⟨fd,_,_,rfl,rfl,g6,bH (by rw[af];lia),_,k'+1,ls.eraseIdx d.toNat,fs++[ls[d.toNat]],rfl,by rw[az (Ne.symm nff)];exact h6,?_,?_,by rw[ai,fl];rfl,λy hy=>A.lin y (List.mem_of_mem_eraseIdx hy),λy hy=>?_,S6.mono .upd_at g6 (Ne.symm nfdst),by lia,λb u n e=>by rw[az (aJ e Hfd)];exact T6 b u n e⟩
   ·rw[aj,aC];rfl
   ·rw[eY,if_pos dl];lia
   ·rcases aA.mp hy with z|z
    ·exact A.fin y z
    ·rw[ak.mp z];exact A.lin _ (bY dl)
 ·rintro σ' H4 ⟨o5,k',ls,fs,rfl,A⟩
  have few:=A.few
  have fl:=A.fl
  refine⟨_,rfl,fd,_,rfl,.inl ⟨cq.of A.hfd,λlt nlt=>?_⟩⟩
  exact q lt fs k' _ aj (by lia) (by lia) A.fin (A.S.new nlt) (by lia) (A.B.new nlt)
abbrev AV:List Nat:=[1,2,3,2,3,3,2,3,4,4,4,4,1,2,3,5]
theorem FE{K:Fg}{vs:List V}{H:Hp}{Q:VK}{E:XK}(h:qo K vs H Q E):zJ K {nx:=λ_ H'=>Q .non H',rt:=Q} (start xS vs) H:=by
 obtain⟨st,k,rfl,S,hk,q⟩:=h
 refine⟨(by show 16<=sizeLine;decide),λl nl=>?_⟩
 have S1:=S.new (o:=.lst (AV.map λz:Nat=>V.int (z:Nat))) nl
 have s1:aM H (aP H l (.lst (AV.map λz:Nat=>V.int (z:Nat)))):=(aM.refl H).new nl
 have hl:aP H l (.lst (AV.map λz:Nat=>V.int (z:Nat))) l=some (.lst (AV.map λz:Nat=>V.int (z:Nat))):=aj
 have nst:l≠st:=λz=>by obtain⟨_,e⟩:=S.lst;rw[z,e] at nl;cases nl
 refine⟨_,rfl,st,16,k,rfl,S1,by lia,by decide,by decide,λd H2 d0 d1 S2 B2=>?_⟩
 have h2:=B2 _ _ nst hl
 have dl:d.toNat<AV.length:=by show d.toNat<16;lia
 have ok:∀z∈AV,1<=z/\z<=5:=by decide
 obtain⟨z1,z5⟩:=ok _ (bY dl)
 exact mP (v:=.int ((AV[d.toNat]'dl:Nat):Int)) (cq.of h2) d0 (by rw[aH,aa dl];rfl) (q _ H2 z1 z5 S2 λb u n e=>B2 b u n (s1 b u e))
theorem KP{K:Fg}{H:Hp}{t c:Addr}{x:V}{ys:List V}{Q:VK}(ht:H t=some (.tup [x]))(hc:H c=some (.tup ys))(hl:ys.length<=1000)(q:∀(p:Addr) (H':Hp),H' p=some (.tup (x::ys))->aM H H'->Q (.ref p) H'):c7 K (.ref t) (.ref c) H Q:=by
 refine .inr (.inr (.inr ⟨t,c,[x],ys,rfl,rfl,cE.of ht,cE.of hc,by simp,bR (bH (by rw[aI];lia)),λz=>?_,λ_ p np=>q p _ aj ((aM.refl H).new np)⟩))
 subst z
 exact q t H ht (aM.refl H)
theorem KR{K:Fg}{H:Hp}{a:Addr}{xs:List V}{Q:VK}(ha:H a=some (.tup xs))(ne:xs≠[])(q:∀(p:Addr),H p=none->Q (.ref p) (aP H p (.tup xs.dropLast))):Ic K (.ref a) none (some (-1)) H Q:=by
 refine .inr ⟨a,xs,rfl,cE.of ha,?_,λp np=>?_⟩
 ·rintro⟨_,z⟩
  have hl:0<xs.length:=dA.mpr ne
  have e:HT.sIx xs.length xs.length (some (-1))=xs.length-1:=by
   show(if(-1:Int)<0 then((-1:Int)+(xs.length:Int)).toNat else min (-1:Int).toNat xs.length)=xs.length-1
   rw[if_pos (by decide)];lia
  lia
 ·rw[Ei ne];exact q p np
theorem oU(b:Bt):(cL b).dropLast=cL b.dropLast:=by unfold cL;rw[List.map_dropLast]
theorem AQ{b:Bt}(h:b≠[]):cL b≠[]:=λz=>h (List.map_eq_nil_iff.mp z)
theorem CL{b:Bt}(y:Str)(h:b≠[]):iD b y=some y::(b.map (Bg.blank y)).dropLast:=by
 obtain⟨d,o,rfl⟩:∃d o,b=d++[o]:=⟨b.dropLast,b.getLast h,(cI h).symm⟩
 unfold iD mT
 simp[List.take_append,cW]
theorem uL{K:Fg}{vs:List V}{H:Hp}{Q:VK}{E:XK}(h:i9 K vs H Q E):mY K {nx:=λ_ H'=>Q .non H',rt:=Q} (start jF vs) H:=by
 obtain⟨bp,B,x,rfl,hB,ne,l10,q⟩:=h
 refine⟨_,rfl,rfl,_,rfl,?_⟩
 rw[rA,BR]
 cases x with
 |none=>exact qa ⟨_,rfl,q bp H hB (aM.refl H)⟩
 |some y=>
  refine iE ?_
  show kG K _ [some (.ref bp),some (.str y)] H
  refine⟨_,rfl,(by show 1<=sizeLine;decide),λt nt=>?_⟩
  have s1:aM H (aP H t (.tup [.str y])):=(aM.refl H).new nt
  have ht:aP H t (.tup [.str y]) t=some (.tup [.str y]):=aj
  generalize aP H t (.tup [.str y])=H1 at s1 ht ⊢
  have hB1:=s1 _ _ hB
  refine .inr ⟨_,rfl,bp,rfl,⟨_,cE.of hB1⟩,λD nD=>?_⟩
  refine i6 (xs:=cL B) (λi σ' H'=>∃o,σ'=[some (.ref bp),some (.str y),o]/\H' D=some (.lst (cL ((B.take i).map (Bg.blank y))))/\aM H1 H') ⟨none,rfl,aj,(aM.refl H1).new nD⟩ ?_ ?_ ?_
  ·rintro i σ' H' _ ⟨_,_,_,s⟩;exact cE.of (s _ _ hB1)
  ·rintro i v σ' H2 hv ⟨o,rfl,hD,s⟩
   obtain⟨oy,ey,rfl⟩:=qe hv
   have li:(cL ((B.take i).map (Bg.blank y))).length<=1000:=by rw[cK,af,aR];lia
   refine fm ⟨_,rfl,(by show 2<=sizeLine;decide),λl nl=>?_⟩
   have s3:aM H2 (aP H2 l (.lst [oV oy,.non])):=(aM.refl H2).new nl
   have hl:aP H2 l (.lst [oV oy,.non]) l=some (.lst [oV oy,.non]):=aj
   generalize aP H2 l (.lst [oV oy,.non])=H3 at s3 hl ⊢
   have fin:∀c:V,c=oV (Bg.blank y oy)->∃ys,H3 D=some (.lst ys)/\ys.length<sizeLine/\∃o1,[some (V.ref bp),some (V.str y),some (oV oy)]=[some (.ref bp),some (.str y),o1]/\aP H3 D (.lst (ys++[c])) D=some (.lst (cL ((B.take (i+1)).map (Bg.blank y))))/\aM H1 (aP H3 D (.lst (ys++[c]))):=by
    rintro c rfl
    refine⟨_,s3 _ _ hD,bH (by lia),_,rfl,?_,dE (s.trans s3) nD⟩
    rw[aj,iW ey,aC];unfold cL;rw[aC];rfl
   refine⟨_,rfl,_,rfl,.inl ⟨A9 oy (some y),.inr ⟨_,rfl,?_⟩⟩⟩
   by_cases c:oy=some y
   ·rw[decide_eq_true (show oV oy=V.str y by rw[c];rfl)]
    exact mP (v:=.non) (cq.of hl) (by decide) rfl (fin _ (by unfold Bg.blank;rw[if_pos c];rfl))
   ·rw[decide_eq_false (show ¬oV oy=V.str y from λz=>c (wV (b:=some y) z))]
    exact mP (v:=oV oy) (cq.of hl) (by decide) rfl (fin _ (by unfold Bg.blank;rw[if_neg c]))
  ·rintro σ' H2 ⟨o,_,hD,s⟩
   rw[cK,bf] at hD
   refine⟨D,_,rfl,.inl ⟨cq.of hD,λP nP=>?_⟩⟩
   have s3:aM H1 (aP H2 P (.tup (cL (B.map (Bg.blank y))))):=s.new nP
   have hP:aP H2 P (.tup (cL (B.map (Bg.blank y)))) P=some (.tup (cL (B.map (Bg.blank y)))):=aj
   generalize aP H2 P (.tup (cL (B.map (Bg.blank y))))=H3 at s3 hP ⊢
   refine⟨1,rfl,_,rfl,KR hP (AQ (by simpa using ne)) λp np=>?_⟩
   have s4:aM H3 (aP H3 p (.tup (cL (B.map (Bg.blank y))).dropLast)):=(aM.refl H3).new np
   refine KP (s4 _ _ (s3 _ _ ht)) aj (by rw[oU,cK,eX,af];lia) λr H' hr s5=>q r H' ?_ (((s1.trans s3).trans s4).trans s5)
   rw[hr,oU]
   show some (HO.tup (cL (some y::(B.map (Bg.blank y)).dropLast)))=_
   rw[<-CL y ne];rfl
theorem Kl{K:Fg}{vs:List V}{H:Hp}{Q:VK}{E:XK}(h:rC K vs H Q E):Gc K {nx:=λ_ H'=>Q .non H',rt:=Q} (start Ad vs) H:=by
 obtain⟨gp,gvs,gs,rfl,hg,hA,few,q⟩:=h
 refine .inr ⟨_,rfl,gp,rfl,⟨_,cE.of hg⟩,λD nD=>?_⟩
 refine i6 (xs:=gvs) (λi σ' H'=>∃o,σ'=[some (.ref gp),o]/\H' D=some (.lst ((((gs.take i).map λg=>((g.length:Nat):Int))).map V.int))/\aM H H') ⟨none,rfl,aj,(aM.refl H).new nD⟩ ?_ ?_ ?_
 ·rintro i σ' H' _ ⟨_,_,_,s⟩;exact cE.of (s _ _ hg)
 ·rintro i v σ' H1 hv ⟨o,rfl,hD,s⟩
  obtain⟨g,eg,p,rfl,hp⟩:=hA.of_v hv
  refine fm ⟨_,rfl,_,_,rfl,.inr ⟨_,cE.of (s _ _ hp),rfl⟩,_,hD,bH (by rw[af,af,aR];lia),_,rfl,?_,dE s nD⟩
  rw[aj,iW eg,aC,aC,af];rfl
 ·rintro σ' H1 ⟨o,_,hD,s⟩
  have gl:gvs.length=gs.length:=hA.len
  rw[gl,bf] at hD
  refine⟨D,_,rfl,cq.of hD,?_⟩
  have e:∀gs:List (List Nat),(gs.map λg=>((g.length:Nat):Int)).sum=(((gs.map (·.length)).sum:Nat):Int):=λgs=>by
   induction gs with
   |nil=>rfl
   |cons g r ih=>rw[bJ,mI,ih,bJ,mI];simp
  rw[e];exact q H1 s
structure L1(K:Fg)(H:Hp)(st lf fd:Addr)(ss:List Str)(n kk:Nat)(H':Hp)(m:Nat)(ls fs:Bt):Prop where
 hlf:H' lf=some (.lst (cL ls))
 hfd:H' fd=some (.lst (cL fs))
 lm:ls.length=m
 ll:ls.length+fs.length=n
 has:∀z∈ss,some z∈ls\/some z∈fs
 S:∃k',k8 K H' st k'/\k'<=kk+fs.length
 B:iz st H H'
theorem Ie{K:Fg}{vs:List V}{H:Hp}{Q:VK}{E:XK}(h:tH K vs H Q E):Cd K {nx:=λ_ H'=>Q .non H',rt:=Q} (start v8 vs) H:=by
 obtain⟨st,nd,nm,n,k,ss,ys,rfl,S,hk,nst,hnm,y20,hnd,sn,n5,q⟩:=h
 refine⟨_,rfl,nd,_,rfl,.inr (cE.of hnd),λl1 nl1=>?_⟩
 have S1:=S.new (o:=.lst (ss.map V.str)) nl1
 have s1:aM H (aP H l1 (.lst (ss.map V.str))):=(aM.refl H).new nl1
 have hl1:aP H l1 (.lst (ss.map V.str)) l1=some (.lst (ss.map V.str)):=aj
 have n1st:l1≠st:=λz=>by obtain⟨_,e⟩:=S.lst;rw[z,e] at nl1;cases nl1
 generalize aP H l1 (.lst (ss.map V.str))=H1 at S1 s1 hl1 ⊢
 have hnd1:=s1 _ _ hnd
 have hnm1:=s1 _ _ hnm
 refine⟨_,rfl,_,rfl,_,_,rfl,.inr ⟨_,cE.of hnd1,rfl⟩,_,_,rfl,rfl,?_⟩
 rw[af]
 refine⟨_,rfl,by lia,by lia,λD nD=>?_⟩
 have nDst:D≠st:=λz=>by obtain⟨_,e⟩:=S1.lst;rw[z,e] at nD;cases nD
 have nD1:D≠l1:=λz=>by rw[z,hl1] at nD;cases nD
 refine nY (λj σ' H'=>∃(us:Bt) (o:Option V),σ'=[some (.ref st),some (.int (n:Nat)),some (.ref nd),some (.ref nm),none,none,o]/\H' D=some (.lst (cL us))/\us.length=j/\k8 K H' st (k+j)/\iz st H1 H') ⟨[],none,rfl,aj,rfl,S1.new nD,(iz.refl st H1).new nD⟩ ?_ ?_
 ·rintro j σ' H2 hj ⟨us,o,rfl,hD,ul,S2,B2⟩
  have hj':j<n-ss.length:=by have:j<((n:Int)-(ss.length:Int)).toNat:=hj;lia
  refine fm ⟨_,rfl,_,rfl,st,nm,k+j,ys,rfl,S2,by lia,nst,B2 _ _ nst hnm1,y20,λm H3 _ S3 B3=>?_⟩
  have hD3:=B3 _ _ nDst hD
  refine⟨_,hD3,bH (by rw[cK];lia),us++[m],_,rfl,?_,by rw[ai,ul];rfl,S3.mono .upd_at hD3 (Ne.symm nDst),λb u nb e=>?_⟩
  ·rw[aj,rA];unfold cL;rw[aC];rfl
  ·rw[az (aJ e nD)];exact B3 b u nb (B2 b u nb e)
 ·rintro σ' H2 ⟨us,o,_,hD,ul,S2,B2⟩
  have ul':us.length=n-ss.length:=by have:us.length=((n:Int)-(ss.length:Int)).toNat:=ul;lia
  have S2:k8 K H2 st (k+us.length):=by rw[ul];exact S2
  have hl2:=B2 _ _ n1st hl1
  have eo:ss.map V.str++cL us=cL (ss.map some++us):=by rw[FW];unfold cL;rw[aC]
  refine .inr (.inr (.inl ⟨l1,D,_,_,rfl,rfl,hl2,hD,bR (bH (by rw[af,cK];lia)),λlf nlf=>?_⟩))
  rw[eo]
  have S3:=S2.new (o:=.lst (cL (ss.map some++us))) nlf
  have B20:iz st H H2:=λb u nb e=>B2 b u nb (s1 b u e)
  have B3:iz st H (aP H2 lf (.lst (cL (ss.map some++us)))):=B20.new nlf
  have hlf:aP H2 lf (.lst (cL (ss.map some++us))) lf=some (.lst (cL (ss.map some++us))):=aj
  have nlfst:lf≠st:=λz=>by obtain⟨_,e⟩:=S2.lst;rw[z,e] at nlf;cases nlf
  have Hlf:H lf=none:=by
   cases ee:H lf with
   |none=>rfl
   |some u=>rw[B2 lf u nlfst (s1 lf u ee)] at nlf;cases nlf
  show vO K _ [some (.ref st),some (.int (n:Nat)),some (.ref nd),some (.ref nm),some (.ref lf),none] _
  generalize aP H2 lf (.lst (cL (ss.map some++us)))=H3 at S3 B3 hlf ⊢
  refine⟨(by show 0<=sizeLine;decide),λfd nfd=>?_⟩
  have S4:=S3.new (o:=.lst []) nfd
  have B4:iz st H (aP H3 fd (.lst [])):=B3.new nfd
  have hfd:aP H3 fd (.lst []) fd=some (.lst []):=aj
  have hlf4:aP H3 fd (.lst []) lf=some (.lst (cL (ss.map some++us))):=by rw[az (aJ hlf nfd)];exact hlf
  have nfdst:fd≠st:=λz=>by obtain⟨_,e⟩:=S3.lst;rw[z,e] at nfd;cases nfd
  have nff:fd≠lf:=λz=>by rw[z,hlf] at nfd;cases nfd
  have Hfd:H fd=none:=by
   cases ee:H fd with
   |none=>rfl
   |some u=>rw[B3 fd u nfdst ee] at nfd;cases nfd
  show vM K _ [some (.ref st),some (.int (n:Nat)),some (.ref nd),some (.ref nm),some (.ref lf),some (.ref fd)] _
  generalize aP H3 fd (.lst [])=H4 at S4 B4 hfd hlf4 ⊢
  refine⟨λm σ' H'=>∃ls fs,σ'=[some (.ref st),some (.int (n:Nat)),some (.ref nd),some (.ref nm),some (.ref lf),some (.ref fd)]/\L1 K H st lf fd ss n (k+us.length) H' m ls fs,⟨_,ss.map some++us,[],rfl,hlf4,hfd,rfl,by rw[ai,af,fK];lia,λz hz=>.inl (aA.mpr (.inl (aE.mpr ⟨z,hz,rfl⟩))),⟨_,S4,au _⟩,B4⟩,?_⟩
  rintro m σ' H5 ⟨ls,fs,rfl,A⟩
  obtain⟨k',S5,kf⟩:=A.S
  have ll:=A.ll
  have lm:=A.lm
  refine⟨_,rfl,_,_,rfl,.inl ⟨_,cq.of A.hlf,rfl⟩,_,_,rfl,rfl,_,rfl,?_⟩
  rw[cK]
  refine di (λc=>?_) (λc=>?_)
  ·have c:(0:Int)<(ls.length:Int):=c
   refine⟨λσ' H'=>∃m',m'<m/\∃ls fs,σ'=[some (.ref st),some (.int (n:Nat)),some (.ref nd),some (.ref nm),some (.ref lf),some (.ref fd)]/\L1 K H st lf fd ss n (k+us.length) H' m' ls fs,λ_ _ z=>z,?_⟩
   refine⟨_,rfl,.inl ⟨rfl,_,cq.of A.hfd⟩,_,rfl,.inl ⟨rfl,_,cq.of A.hlf⟩,_,rfl,_,rfl,_,_,rfl,.inl ⟨_,cq.of A.hlf,rfl⟩,st,_,k',rfl,S5,by lia,by rw[cK];lia,by rw[cK];lia,λd H6 d0 d1 S6 B6=>?_⟩
   rw[cK] at d1
   have dl:d.toNat<ls.length:=by lia
   have h6:=B6 _ _ nlfst A.hlf
   have g6:=B6 _ _ nfdst A.hfd
   refine⟨lf,_,d,d.toNat,oV (ls[d.toNat]'dl),rfl,rfl,h6,by lia,by lia,?_,rq (aa dl),?_⟩
   ·unfold seqIndex?
    rw[if_neg (show ¬(d<0) by lia),cK]
    simp[d0,d1]
   ·have ke:(cL ls).eraseIdx d.toNat=cL (ls.eraseIdx d.toNat):=AC _ _ _
    rw[ke]
    have S7:=S6.mono (H':=aP H6 lf (.lst (cL (ls.eraseIdx d.toNat)))) .upd_at h6 (Ne.symm nlfst)
    have g7:aP H6 lf (.lst (cL (ls.eraseIdx d.toNat))) fd=some (.lst (cL fs)):=by rw[az nff];exact g6
    have h7:aP H6 lf (.lst (cL (ls.eraseIdx d.toNat))) lf=some (.lst (cL (ls.eraseIdx d.toNat))):=aj
    have T7:iz st H (aP H6 lf (.lst (cL (ls.eraseIdx d.toNat)))):=λb u nb e=>by rw[az (aJ e Hlf)];exact B6 b u nb (A.B b u nb e)
    generalize aP H6 lf (.lst (cL (ls.eraseIdx d.toNat)))=H7 at S7 g7 h7 T7 ⊢
    have le:(ls.eraseIdx d.toNat).length=ls.length-1:=by rw[eY,if_pos dl]
    refine⟨fd,_,_,rfl,rfl,g7,bH (by rw[cK];lia),(ls.eraseIdx d.toNat).length,by lia,ls.eraseIdx d.toNat,fs++[ls[d.toNat]'dl],rfl,by rw[az (Ne.symm nff)];exact h7,?_,rfl,by rw[le,ai,aI];lia,λz hz=>?_,⟨k'+1,S7.mono .upd_at g7 (Ne.symm nfdst),by rw[ai,aI];lia⟩,λb u nb e=>by rw[az (aJ e Hfd)];exact T7 b u nb e⟩
    ·rw[aj];unfold cL;rw[aC];rfl
    ·rcases A.has z hz with h|h
     ·by_cases c2:ls[d.toNat]'dl=some z
      ·exact .inr (by rw[c2];simp)
      ·refine .inl ?_
       rw[List.mem_eraseIdx_iff_getElem?]
       obtain⟨i,hi,ei⟩:=aT.mp h
       exact⟨i,λz2=>c2 (by subst z2;exact ei),by rw[aa hi,ei]⟩
     ·exact .inr (aA.mpr (.inl h))
  ·have c:¬(0:Int)<(ls.length:Int):=c
   have l0:ls=[]:=aS.mp (by lia)
   subst l0
   show vL K _ [some (.ref st),some (.int (n:Nat)),some (.ref nd),some (.ref nm),some (.ref lf),some (.ref fd)] H5
   have ll:0+fs.length=n:=ll
   refine⟨_,rfl,fd,_,rfl,.inl ⟨cq.of A.hfd,λp np=>q p fs k' _ aj (by lia) (λz hz=>?_) (S5.new np) (by lia) (A.B.new np)⟩⟩
   rcases A.has z hz with h|h
   ·cases h
   ·exact h
theorem Kr{K:Fg}{H:Hp}{wp:Addr}{xs:List V}{k:Nat}{Q:VK}(hwp:H wp=some (.tup xs))(hk:k<xs.length)(h:∀(p:Addr) (H':Hp),H' p=some (.tup (xs.take k))->aM H H'->Q (.ref p) H') :
  De K (.ref wp) none (some (k:Int)) H Q:=by
 refine .inr (.inr ⟨wp,xs,rfl,cE.of hwp,λz=>?_,λp np=>?_⟩)
 ·have:=z.2
  rw[HT.sIx_nat] at this
  lia
 ·rw[sr]
  exact h p _ aj ((aM.refl H).new np)
theorem bj.cutF{α:Type}{R:V->α->Prop}{vs:List V}{rs:List α}(h:bj R vs rs)(c:Nat):bj R (vs.take c++vs.drop (c+1)) (rs.take c++rs.drop (c+1)):=by
 have hl:=h.len
 refine bj.appF ⟨by rw[aR,aR,hl],λi v r a b=>?_⟩ ⟨by rw[cz,cz,hl],λi v r a b=>?_⟩
 ·rw[iZ] at a b
  by_cases q:i<c
  ·rw[if_pos q] at a b;exact h.at_ i v r a b
  ·rw[if_neg q] at a;cases a
 ·rw[iY] at a b
  exact h.at_ _ v r a b
theorem Ex{K:Fg}{D:kU}{n:Nat}{wp lt nm:Addr}{ws:List Wk}{last ys:List Str}{o4 o5:Option V}{H:Hp}(WA:jd H wp lt ws last)(F:Bx ys last ws)(hnm:H nm=some (.lst (ys.map V.str)))(ynd:ys.Nodup)
  (q:∀(v:V) (pss:List (List Str)) (H':Hp),KC H' v (uz (n:Nat) ws pss (ws.length+1) 0)->kZ last ws pss->aM H H'->D.nx [some (.int (n:Nat)),some (.ref wp),some (.ref lt),some (.ref nm),some v,o5] H'):jD K D [some (.int (n:Nat)),some (.ref wp),some (.ref lt),some (.ref nm),o4,o5] H:=by
 refine⟨_,rfl,_,rfl,_,rfl,_,rfl,_,rfl,wp,lt,nm,ws,last,ys,rfl,WA,F,hnm,ynd,λl tvs pss H1 nl hl hA P s1=>?_⟩
 obtain⟨⟨wv,hw,aw⟩,_⟩:=WA.same s1
 refine⟨(n:Nat),wp,l,wv,tvs,ws,pss,rfl,hw,aw,hl,hA,P.len,F.w100,λss ms=>?_,λv H2 hc s2=>q v pss H2 hc P (s1.trans s2)⟩
 obtain⟨j,hj⟩:=eW ms
 have d64:=F.d64
 exact a8 (j9 (P.at_ j ss hj).nd λy hy=>zP F.lst (λw m=>(F.ins w (df m)).2) (((P.at_ j ss hj).mem y).mp hy)) (by lia)
theorem DG{n:Nat}{last:List Str}{pss:List (List Str)}(P:kZ last [] pss)(hl:last.length<=n):uy n [] pss:=by
 refine⟨λss hs=>?_,λk w y ss h=>by simp at h⟩
 obtain⟨j,hj⟩:=eW hs
 have:=j9 (zs:=last) (P.at_ j ss hj).nd λy hy=>by
  have:=((P.at_ j ss hj).mem y).mp hy
  rw[List.drop_nil] at this
  exact of_decide_eq_true this
 lia
theorem Dg{K:Fg}{vs:List V}{H:Hp}{Q:VK}{E:XK}(h:oz K vs H Q E):vU K {nx:=λ_ H'=>Q .non H',rt:=Q} (start u5 vs) H:=by
 obtain⟨n,wp,lt,nm,ws,last,ys,rfl,WA,F,hnm,ynd,ln,q⟩:=h
 show jD K _ [some (.int (n:Nat)),some (.ref wp),some (.ref lt),some (.ref nm),none,none] H
 refine Ex WA F hnm ynd λv pss H1 hc P s1=>?_
 show qU K _ [some (.int (n:Nat)),some (.ref wp),some (.ref lt),some (.ref nm),some v,none] H1
 refine⟨λm σ' H'=>∃wp ws v pss o5,σ'=[some (.int (n:Nat)),some (.ref wp),some (.ref lt),some (.ref nm),some v,o5]/\ws.length=m/\jd H' wp lt ws last/\Bx ys last ws/\KC H' v (uz (n:Nat) ws pss (ws.length+1) 0)/\kZ last ws pss/\aM H H',⟨_,wp,ws,v,pss,none,rfl,rfl,WA.same s1,F,hc,P,s1⟩,?_⟩
 rintro m σ' H2 ⟨wp,ws,v,pss,o5,rfl,wm,WA,F,hc,P,s2⟩
 refine⟨_,rfl,rfl,_,rfl,?_⟩
 obtain⟨⟨wvs,hwp,hW⟩,hlt⟩:=id WA
 have wl:=hW.len
 cases hr:uz (n:Nat) ws pss (ws.length+1) 0 with
 |none=>
  rw[hr] at hc
  have hv:v=.non:=hc
  subst hv
  exact iE ⟨_,rfl,q wp ws pss H2 WA F P ((oO P.len).mp hr) s2⟩
 |some x=>
  obtain⟨wd,k,ss⟩:=x
  rw[hr] at hc
  obtain⟨p,t,rfl,hp,ht⟩:=hc
  refine qa ?_
  refine⟨_,rfl,_,_,rfl,.inr ⟨_,cE.of hwp,rfl⟩,_,_,rfl,rfl,_,rfl,?_⟩
  refine di (λc=>?_) (λc=>?_)
  ·have c:(0:Int)<(wvs.length:Int):=c
   refine⟨λσ' H'=>∃m',m'<m/\∃wp ws v pss o5,σ'=[some (.int (n:Nat)),some (.ref wp),some (.ref lt),some (.ref nm),some v,o5]/\ws.length=m'/\jd H' wp lt ws last/\Bx ys last ws/\KC H' v (uz (n:Nat) ws pss (ws.length+1) 0)/\kZ last ws pss/\aM H H',λ_ _ z=>z,?_⟩
   refine⟨_,rfl,uj hp (by decide) (v:=.int (k:Nat)) rfl ⟨_,rfl,_,_,rfl,.inr ⟨_,cE.of hwp,rfl⟩,_,_,rfl,rfl,_,_,rfl,?_⟩⟩
   obtain⟨j,hj,jl⟩:∃j:Nat,(if(wvs.length:Int)-1<(k:Int) then(wvs.length:Int)-1 else(k:Int))=(j:Int)/\j<wvs.length:=by
    by_cases g:(wvs.length:Int)-1<(k:Int)
    ·exact⟨wvs.length-1,by rw[if_pos g];lia,by lia⟩
    ·exact⟨k,by rw[if_neg g],by lia⟩
   rw[hj]
   show qT K _ [some (.int (n:Nat)),some (.ref wp),some (.ref lt),some (.ref nm),some (.ref p),some (.int (j:Nat))] H2
   refine⟨_,rfl,_,rfl,_,rfl,Kr hwp jl λp1 H3 hp1 s3=>⟨_,rfl,_,rfl,.inr (.inl ⟨_,_,rfl,rfl,_,rfl,?_⟩)⟩⟩
   rw[show((j:Int)+1)=((j+1:Nat):Int) by lia]
   refine ze (s3 _ _ hwp) (by lia) λp2 H4 hp2 s4=>KQ (s4 _ _ hp1) hp2 (bR (bH (by have:=F.w100;rw[aR,cz];lia))) λp3 H5 hp3 s5=>?_
   have s25:=(s3.trans s4).trans s5
   have wl2:(ws.take j++ws.drop (j+1)).length+1=ws.length:=by rw[ai,aR,cz];lia
   have inw:∀w∈ws.take j++ws.drop (j+1),w∈ws:=λw hw=>by
    rcases aA.mp hw with h|h
    ·exact ie h
    ·exact df h
   have WA2:jd H5 p3 lt (ws.take j++ws.drop (j+1)) last:=⟨⟨_,hp3,(hW.imp λ_ _ z=>z.tp (Tp.of_same s25)).cutF j⟩,s25 _ _ hlt⟩
   have F2:Bx ys last (ws.take j++ws.drop (j+1)):=⟨F.d64,by have:=F.w100;lia,F.l100,λw hw=>F.ins w (inw w hw),F.lst⟩
   show jD K _ [some (.int (n:Nat)),some (.ref p3),some (.ref lt),some (.ref nm),some (.ref p),some (.int (j:Nat))] H5
   refine Ex WA2 F2 (s25 _ _ (s2 _ _ hnm)) ynd λv pss H6 hc P s6=>⟨(ws.take j++ws.drop (j+1)).length,by lia,p3,_,v,pss,_,rfl,rfl,WA2.same s6,F2,hc,P,(s2.trans s25).trans s6⟩
  ·have c:¬(0:Int)<(wvs.length:Int):=c
   exfalso
   have l0:ws=[]:=aS.mp (by lia)
   subst l0
   rw[(oO P.len).mpr (DG P ln)] at hr
   cases hr
theorem Eb{K:Fg}{te:TE}{s0 s1 s2 s3 s5 s6:Option V}{pb tn:Addr}{b:Bt}{ss:List Str}{H:Hp}{Q:Bool->Hp->Prop}(hte:∀R:VK,R (.ref tn) H->te [s0,s1,s2,s3,some (.ref pb),s5,s6] H R)(hb:H pb=some (.tup (cL b)))(hn:H tn=some (.tup (ss.map V.str)))(few:ss.length<=1000)(has:∀z∈ss,some z∈b)(q:∀H',aM H H'->Q true H') :
  tB (ff (Ft K) (aq (d5 [] 1 (je K te) (aQ 7) jN (bN ((C9 K false)) (av 7) (av 4))) aO)) [s0,s1,s2,s3,some (.ref pb),s5,s6] H Q:=by
 refine .inr (hte _ ⟨tn,rfl,⟨_,cE.of hn⟩,λD nD=>?_⟩)
 refine i6 (xs:=ss.map V.str) (λi σ' H'=>∃o,σ'=[s0,s1,s2,s3,some (.ref pb),s5,s6,o]/\H' D=some (.lst ((aV i true).map V.bl))/\aM H H') ⟨none,rfl,aj,(aM.refl H).new nD⟩ ?_ ?_ ?_
 ·rintro i σ' H' _ ⟨_,_,_,s⟩;exact cE.of (s _ _ hn)
 ·rintro i v σ' H1 hv ⟨o,rfl,hD,s⟩
  obtain⟨y,hy,rfl⟩:=zh hv
  have il:i<ss.length:=(ae.mp hy).1
  refine fm ⟨_,rfl,_,rfl,pb,_,rfl,.inr (cE.of (s _ _ hb)),rfl,sL b,?_⟩
  rw[show(if false=true then !AF (V.str y) (cL b) else AF (V.str y) (cL b))=decide (some y∈b) from EM y b,decide_eq_true (has y (aG hy))]
  refine⟨_,hD,bH (by rw[af,gD];lia),_,rfl,?_,dE s nD⟩
  rw[aj,List.replicate_succ',aC];rfl
 ·rintro σ' H1 ⟨o,_,hD,s⟩
  refine⟨D,_,rfl,cq.of hD,_,rfl,?_⟩
  have:(aV (ss.map V.str).length true).all id=true:=by simp
  rw[this]
  exact q H1 s
theorem E4:∀{ps:List Nat} {B:Bt} {j p:Nat},JI B ps->ps[j]?=some p->∃x,(e8 B (ps.take j))[p]?=some (some x)
 |[],B,j,p,_,h=>by simp at h
 |a::r,B,0,p,ok,h=>by cases h;exact ok.1
 |a::r,B,j+1,p,ok,h=>E4 (ps:=r) (B:=xD B a) ok.2 h
theorem Dm(B:Bt)(ps:List Nat)(p:Nat):e8 B (ps++[p])=xD (e8 B ps) p:=by unfold e8;rw[dU];rfl
theorem Ki{K:Fg}{vs:List V}{H:Hp}{Q:VK}{E:XK}(h:rB K vs H Q E):F0 K {nx:=λ_ H'=>Q .non H',rt:=Q} (start v9 vs) H:=by
 obtain⟨bp,wp,lt,gp,B,ws,last,dd,gvs,gs,rfl,hB,ne,l10,WA,F,hg,hG,dn,q⟩:=h
 obtain⟨⟨wvs,hwp,hW⟩,hlt⟩:=id WA
 have wl:=hW.len
 have gl:=hG.len
 have dl:=dn.len
 have w100:=F.w100
 refine⟨_,rfl,?_⟩
 show zv K _ [some (.ref bp),some (.ref wp),some (.ref lt),some (.ref gp),some (.ref bp),none,none] H
 refine⟨_,rfl,_,_,rfl,.inr ⟨_,cE.of hwp,rfl⟩,.inl ⟨_,_,rfl,rfl,_,rfl,by lia,by lia,gP (n:=((wvs.length:Int)+1).toNat) (λi σ' H'=>∃pb o5 o6,σ'=[some (.ref bp),some (.ref wp),some (.ref lt),some (.ref gp),some (.ref pb),o5,o6]/\H' pb=some (.tup (cL (rb B ws gs i)))/\aM H H') ⟨bp,none,none,rfl,hB,aM.refl H⟩ ?_ ?_⟩⟩
 ·rintro i σ' H1 hi ⟨pb,o5,o6,rfl,hpb,s1⟩
  have hi:i<ws.length+1:=by have:i<((wvs.length:Int)+1).toNat:=hi;lia
  have i0:((0:Int)+(i:Nat)).toNat=i:=by lia
  obtain⟨_,ps,eg,eg',pg,rfl,hpg⟩:=hG.get (i:=i) (by lia)
  have ok:=dn.ok i ps eg'
  have rl:=xf (ws:=ws) (gs:=gs) ne i
  have ne':rb B ws gs i≠[]:=λz=>by rw[z] at rl;exact ne (aS.mp rl.symm)
  show zu K _ [some (.ref bp),some (.ref wp),some (.ref lt),some (.ref gp),some (.ref pb),some (.int ((0:Int)+(i:Nat))),o6] H1
  refine .inr ⟨_,rfl,_,rfl,uj (s1 _ _ hg) (by lia) (v:=.ref pg) (by rw[i0];exact eg) ⟨pg,rfl,⟨_,cE.of (s1 _ _ hpg)⟩,rk (xs:=ps.map λi=>V.int (i:Nat)) (λj σ' H'=>∃pb o6,σ'=[some (.ref bp),some (.ref wp),some (.ref lt),some (.ref gp),some (.ref pb),some (.int ((0:Int)+(i:Nat))),o6]/\H' pb=some (.tup (cL (e8 (rb B ws gs i) (ps.take j))))/\aM H H') ⟨pb,o6,rfl,hpb,s1⟩ ?_ ?_ ?_⟩⟩
  ·rintro j σ' H' _ ⟨_,_,_,_,s⟩;exact cE.of (s _ _ hpg)
  ·rintro j v σ' H2 hv ⟨pb,o6,rfl,hpb,s2⟩
   rw[aH] at hv
   obtain⟨p,ep,rfl⟩:=Option.map_eq_some_iff.mp hv
   obtain⟨x,hx⟩:=E4 ok ep
   have hxv:=rq hx
   have ln:(e8 (rb B ws gs i) (ps.take j)).length=B.length:=(lK ne').trans rl
   have ne2:e8 (rb B ws gs i) (ps.take j)≠[]:=λz=>by rw[z] at ln;exact ne (aS.mp ln.symm)
   have pt:((p:Nat):Int).toNat=p:=aZ p
   show zt K _ [some (.ref bp),some (.ref wp),some (.ref lt),some (.ref gp),some (.ref pb),some (.int ((0:Int)+(i:Nat))),some (.int (p:Nat))] H2
   refine⟨_,rfl,_,rfl,uj hpb (cw _) (v:=oV (some x)) (by rw[pt];exact hxv) ⟨rfl,_,rfl,iE ?_⟩⟩
   show zr K _ [some (.ref bp),some (.ref wp),some (.ref lt),some (.ref gp),some (.ref pb),some (.int ((0:Int)+(i:Nat))),some (.int (p:Nat))] H2
   refine⟨_,rfl,_,rfl,uj hpb (cw _) (v:=oV (some x)) (by rw[pt];exact hxv) ⟨(by show 1<=sizeLine;decide),λt nt=>?_⟩⟩
   have s3:aM H2 (aP H2 t (.tup [oV (some x)])):=(aM.refl H2).new nt
   have ht:aP H2 t (.tup [oV (some x)]) t=some (.tup [oV (some x)]):=aj
   generalize aP H2 t (.tup [oV (some x)])=H3 at s3 ht ⊢
   refine⟨_,rfl,1,rfl,_,rfl,KR (s3 _ _ hpb) (AQ ne2) λc nc=>?_⟩
   have s4:aM H3 (aP H3 c (.tup (cL (e8 (rb B ws gs i) (ps.take j))).dropLast)):=(aM.refl H3).new nc
   refine KP (s4 _ _ ht) aj (by rw[oU,cK,eX];lia) λr H' hr s5=>⟨r,_,rfl,?_,((s2.trans s3).trans s4).trans s5⟩
   rw[hr,oU,iW ep,Dm]
   unfold xD
   rw[hx];rfl
  ·rintro σ' H2 ⟨pb,o6,rfl,hpb,s2⟩
   rw[af,bf] at hpb
   have ln:(e8 (rb B ws gs i) ps).length=B.length:=(lK ne').trans rl
   have ne2:e8 (rb B ws gs i) ps≠[]:=λz=>by rw[z] at ln;exact ne (aS.mp ln.symm)
   have er:rb B ws gs (i+1)=zT (e8 (rb B ws gs i) ps) ((ws[i]?).bind (·.out)):=by
    show zT (e8 _ ((gs[i]?).getD [])) _=_
    rw[eg'];rfl
   show zq K _ [some (.ref bp),some (.ref wp),some (.ref lt),some (.ref gp),some (.ref pb),some (.int ((0:Int)+(i:Nat))),o6] H2
   refine⟨_,rfl,_,rfl,_,_,rfl,.inr ⟨_,cE.of (s2 _ _ hwp),rfl⟩,_,_,rfl,rfl,_,rfl,di (λc=>?_) (λc=>?_)⟩
   ·have c:(0:Int)+(i:Nat)<(wvs.length:Int):=c
    have il:i<ws.length:=by lia
    obtain⟨_,w,ew,ew',wa,wt,rfl,hwa,hwt⟩:=hW.get il
    obtain⟨i100,_⟩:=F.ins w (aG ew')
    refine Eb (K:=K) (b:=e8 (rb B ws gs i) ps) (ss:=w.ins) (tn:=wt) (λR hR=>⟨_,rfl,_,rfl,uj (s2 _ _ hwp) (by lia) (v:=.ref wa) (by rw[i0];exact ew) (uj (s2 _ _ hwa) (by decide) (v:=.ref wt) rfl hR)⟩) hpb (s2 _ _ hwt) (by lia) (dn.ins i ps w eg' ew') λH3 s3=>iE ?_
    show zp K _ [some (.ref bp),some (.ref wp),some (.ref lt),some (.ref gp),some (.ref pb),some (.int ((0:Int)+(i:Nat))),o6] H3
    have s23:=s2.trans s3
    refine⟨_,rfl,_,rfl,_,rfl,uj (s23 _ _ hwp) (by lia) (v:=.ref wa) (by rw[i0];exact ew) (uj (s23 _ _ hwa) (by decide) (v:=fX w.out) rfl ⟨pb,e8 (rb B ws gs i) ps,w.out,rfl,s3 _ _ hpb,ne2,by lia,λr H4 hr s4=>⟨r,_,_,rfl,?_,s23.trans s4⟩⟩)⟩
    rw[er,ew'];exact hr
   ·have c:¬(0:Int)+(i:Nat)<(wvs.length:Int):=c
    have il:i=ws.length:=by lia
    refine⟨pb,_,_,rfl,?_,s2⟩
    rw[er,il,aW (au _),<-il];exact hpb
 ·rintro σ' H1 ⟨pb,o5,o6,rfl,hpb,s1⟩
  rw[show((wvs.length:Int)+1).toNat=ws.length+1 by lia] at hpb
  obtain⟨_,ps,eg,eg',pg,rfl,hpg⟩:=hG.get (i:=ws.length) (by lia)
  have er:rb B ws gs (ws.length+1)=e8 (rb B ws gs ws.length) ps:=by
   show zT (e8 _ ((gs[ws.length]?).getD [])) ((ws[ws.length]?).bind (·.out))=_
   rw[eg',aW (au _)];rfl
  rw[er] at hpb
  have l100:=F.l100
  show zo K _ [some (.ref bp),some (.ref wp),some (.ref lt),some (.ref gp),some (.ref pb),o5,o6] H1
  refine Eb (K:=K) (b:=e8 (rb B ws gs ws.length) ps) (ss:=last) (tn:=lt) (λR hR=>⟨_,rfl,hR⟩) hpb (s1 _ _ hlt) (by lia) (dn.fin ps eg') λH3 s3=>iE ?_
  exact⟨_,rfl,q pb H3 (s1.trans s3)⟩
theorem pZ.nd{n:Nat}{b0 ord:Bt}{ws:List Wk}{pss:List (List Str)}{kss:List (List Bt)}{ts:List (List (Bt×Nat))}(tb:pZ n b0 ws pss ord kss ts)(pl:pss.length=ws.length+1){k:Nat}{t:List (Bt×Nat)}(h:ts[k]?=some t):(t.map (·.1)).Nodup:=by
 have kl:=tb.cm.len
 have tl:=tb.len
 have kk:k<ts.length:=(ae.mp h).1
 have hk:kss[k]?=some (kss[k]'(by lia)):=aa _
 by_cases c:k=ws.length
 ·subst c
  obtain⟨t0,sp,_⟩:=tb.fin _ t hk h
  exact sp.nd
 ·have h1:ts[k+1]?=some (ts[k+1]'(by lia)):=aa _
  have h2:ws[k]?=some (ws[k]'(by lia)):=aa _
  have h3:pss[k+1]?=some (pss[k+1]'(by lia)):=aa _
  obtain⟨t0,sp,_⟩:=tb.mid k _ t _ _ _ hk h h1 h2 h3
  exact sp.nd
theorem BK{n:Nat}{B:Bt}{ws:List Wk}{last:List Str}{pss:List (List Str)}(P:kZ last ws pss)(wd:uy n ws pss)(n1:1<=n)(n5:n<=5)(l0:B.length=n)(h0:∀ss,pss[0]?=some ss->∀z∈ss,some z∈B) :
  (∀pss,kZ last ws pss->∀ss∈pss,Gw n ss)/\(∀pss kss ts,kZ last ws pss->pZ n B ws pss (aV n none) kss ts->∀(k:Nat) ks t,kss[k]?=some ks->ts[k]?=some t->∀b∈ks,∃m,(b,m)∈t):=by
 refine⟨λpss' P' ss hs=>?_,λpss' kss ts P' tb k ks t hk ht b hb=>?_⟩
 ·cases P'.one P
  have:=wd.len ss hs
  exact⟨n1,n5,by lia⟩
 ·cases P'.one P
  have:=(ae.mp hk).1
  have:=tb.cm.len
  exact tb.all P wd n1 l0 h0 (ws.length-k) k (by lia) ks t hk ht b hb
theorem Kv{n:Nat}{B:Bt}{ws:List Wk}{last:List Str}{pss:List (List Str)}{kss:List (List Bt)}{ts:List (List (Bt×Nat))}{gs:List (List Nat)}{bs:List Bt}{ss:List Str}(P:kZ last ws pss)(l0:B.length=n)(h0:∀ss,pss[0]?=some ss->∀z∈ss,some z∈B)(tb:pZ n B ws pss (aV n none) kss ts)(hs:pss[0]?=some ss)(fo:LG ws pss kss (aV n none) (b5 B ss) gs bs):mz n B ws pss kss gs bs:=by
 refine⟨by rw[bu,hs];exact fo,λk c ss hc hs=>?_⟩
 have kl:=(ae.mp hc).1
 have l2:=fo.ln2
 have cl:=tb.cm.len
 have hk:kss[k]?=some (kss[k]'(by lia)):=aa _
 exact tb.cm.ful P.len l0 h0 k _ ss hk hs c (fo.mem k c _ hc hk)
theorem Lz{K:Fg}{vs:List V}{H:Hp}{Q:VK}{E:XK}(h:xu K vs H Q E):IZ K {nx:=λ_ H'=>Q .non H',rt:=Q} (start IF vs) H:=by
 obtain⟨scr,zs,rfl,hscr,hzs,q⟩:=h
 refine⟨_,rfl,(by show 3<=sizeLine;decide),λst hst=>?_⟩
 have S1:k8 K (aP H st (.lst [.ref scr,.int 0,.int 0])) st 0:=⟨scr,zs,0,aj,hscr.mono (.of_same ((aM.refl H).new hst)),hzs⟩
 show zG K _ [some (.ref scr),some (.ref st),none,none,none,none,none,none,none] (aP H st (.lst [.ref scr,.int 0,.int 0]))
 generalize aP H st (.lst [.ref scr,.int 0,.int 0])=H1 at S1 ⊢
 refine⟨_,rfl,st,0,rfl,S1,by decide,λn0 H2 n01 n05 S2 B2=>⟨_,_,rfl,?_⟩⟩
 obtain⟨n,hn,n1,n4⟩:∃n:Nat,(if(n0:Int)<4 then(n0:Int) else 4)=(n:Int)/\1<=n/\n<=4:=by
  by_cases g:(n0:Int)<4
  ·exact⟨n0,by rw[if_pos g],n01,by lia⟩
  ·exact⟨4,by rw[if_neg g];rfl,by decide,by decide⟩
 rw[hn]
 show zF K _ [some (.ref scr),some (.ref st),some (.int (n:Nat)),none,none,none,none,none,none] H2
 refine⟨_,rfl,_,rfl,_,rfl,.inl ⟨_,_,rfl,rfl,st,(n:Nat)+2,1,rfl,S2,by decide,by lia,by lia,λd H3 d0 d1 S3 B3=>.inl ⟨_,_,rfl,rfl,?_⟩⟩⟩
 obtain⟨nn,hnn,nn1,nn6⟩:∃nn:Nat,(1:Int)+d=(nn:Int)/\1<=nn/\nn<=6:=⟨(1+d).toNat,by lia,by lia,by lia⟩
 refine⟨st,nn,2,by rw[<-hnn];rfl,S3,by decide,by lia,λnm ys k4 H4 nnm yl ynd ynm hnm S4 hk4 B4=>?_⟩
 have nst:nm≠st:=λz=>by obtain⟨_,e⟩:=S3.lst;rw[z,e] at nnm;cases nnm
 show Cp K _ [some (.ref scr),some (.ref st),some (.int (n:Nat)),some (.ref nm),none,none,none,none,none] H4
 refine⟨_,rfl,_,rfl,(by show 5<=sizeLine;decide),λl5 n5=>?_⟩
 have S5:=S4.new (o:=.lst [V.int 10,V.int 10,V.int 10,V.int 6,V.int 3]) n5
 have h5:aP H4 l5 (.lst [V.int 10,V.int 10,V.int 10,V.int 6,V.int 3]) l5=some (.lst [V.int 10,V.int 10,V.int 10,V.int 6,V.int 3]):=aj
 have nm5:aP H4 l5 (.lst [V.int 10,V.int 10,V.int 10,V.int 6,V.int 3]) nm=some (.lst (ys.map V.str)):=by rw[az (aJ hnm n5)];exact hnm
 generalize aP H4 l5 (.lst [V.int 10,V.int 10,V.int 10,V.int 6,V.int 3])=H5 at S5 h5 nm5 ⊢
 obtain⟨mo,hmo,mo10⟩:∃mo:Nat,([V.int 10,V.int 10,V.int 10,V.int 6,V.int 3]:List V)[((n:Int)-1).toNat]?=some (.int (mo:Nat))/\mo<=10:=by
  match n,n1,n4 with
  |1,_,_=>exact⟨10,rfl,by decide⟩
  |2,_,_=>exact⟨10,rfl,by decide⟩
  |3,_,_=>exact⟨10,rfl,by decide⟩
  |4,_,_=>exact⟨6,rfl,by decide⟩
  |n+5,_,h=>exact absurd h (by lia)
  |0,h,_=>exact absurd h (by lia)
 refine⟨_,rfl,_,_,rfl,rfl,mP (cq.of h5) (by lia) hmo ⟨st,nm,mo,k4,ys,rfl,S5,by lia,nst,nm5,by lia,by lia,by lia,λwp wvs ws k6 H6 hwp hW wl wok S6 hk6 B6=>?_⟩⟩
 show Co K _ [some (.ref scr),some (.ref st),some (.int (n:Nat)),some (.ref nm),some (.ref wp),none,none,none,none] H6
 refine⟨_,rfl,_,rfl,_,rfl,st,nm,n,k6,ys,rfl,S6,by lia,nst,B6 _ _ nst nm5,by lia,by lia,λlt last k7 H7 hlt ll lm lin S7 hk7 B7=>?_⟩
 have tp7:=sj S6 B7
 have hnm7:=B7 _ _ nst (B6 _ _ nst nm5)
 have WA:jd H7 wp lt ws last:=⟨⟨wvs,tp7 _ _ hwp,hW.imp λ_ _ z=>z.tp tp7⟩,hlt⟩
 have F:Bx ys last ws:=⟨by lia,by lia,by lia,λw mw=>⟨a8 (wok w mw).1 (by decide),(wok w mw).2⟩,lin⟩
 show Cn K _ [some (.ref scr),some (.ref st),some (.int (n:Nat)),some (.ref nm),some (.ref wp),some (.ref lt),none,none,none] H7
 refine⟨_,rfl,_,rfl,_,rfl,_,rfl,n,wp,lt,nm,ws,last,ys,rfl,WA,F,hnm7,ynd,lm,λwp ws pss H8 WA F P wd s8=>?_⟩
 have S8:=S7.same s8
 have hnm8:=s8 _ _ hnm7
 show Ck K _ [some (.ref scr),some (.ref st),some (.int (n:Nat)),some (.ref nm),some (.ref wp),some (.ref lt),none,none,none] H8
 refine⟨_,rfl,_,rfl,_,rfl,_,rfl,_,rfl,wp,lt,nm,ws,last,ys,rfl,WA,F,hnm8,ynd,λl9 tvs pss' H9 nl9 hl9 hA P' s9=>?_⟩
 cases P'.one P
 have pl:=P.len
 obtain⟨_,ss,es,es',np,rfl,hnp⟩:=hA.get (i:=0) (by lia)
 have sl:=wd.len ss (aG es')
 refine mP (cq.of hl9) (by decide) es ⟨_,rfl,st,np,nm,n,k7,ss,ys,rfl,S8.same s9,by lia,nst,s9 _ _ hnm8,by lia,hnp,sl,by lia,λbp B k10 H10 hbp Bl Bh S10 hk10 B10=>?_⟩
 have WA10:jd H10 wp lt ws last:=by
  have tp:=sj (S8.same s9) B10
  obtain⟨⟨wvs,a,b⟩,c⟩:=WA.same s9
  exact⟨⟨wvs,tp _ _ a,b.imp λ_ _ z=>z.tp tp⟩,tp _ _ c⟩
 have hnm10:=B10 _ _ nst (s9 _ _ hnm8)
 show Cj K _ [some (.ref scr),some (.ref st),some (.int (n:Nat)),some (.ref nm),some (.ref wp),some (.ref lt),some (.ref bp),none,none] H10
 refine⟨_,rfl,_,rfl,_,rfl,st,nm,k10,ys,rfl,S10,by lia,nst,hnm10,by lia,λtg H11 _ S11 B11=>⟨(by show 1<=sizeLine;decide),λt12 n12=>?_⟩⟩
 have tp11:=sj S10 B11
 have s12:aM H11 (aP H11 t12 (.tup [fX tg])):=(aM.refl H11).new n12
 have ht12:aP H11 t12 (.tup [fX tg]) t12=some (.tup [fX tg]):=aj
 have WA12:jd (aP H11 t12 (.tup [fX tg])) wp lt ws last:=by
  obtain⟨⟨wvs,a,b⟩,c⟩:=WA10
  exact⟨⟨wvs,s12 _ _ (tp11 _ _ a),b.imp λ_ _ z=>(z.tp tp11).tp (Tp.of_same s12)⟩,s12 _ _ (tp11 _ _ c)⟩
 have hbp12:=s12 _ _ (tp11 _ _ hbp)
 generalize aP H11 t12 (.tup [fX tg])=H12 at s12 ht12 WA12 hbp12 ⊢
 have Bne:B≠[]:=λz=>by rw[z] at Bl;have:(0:Nat)=n:=Bl;lia
 refine .inr (.inr (.inr ⟨bp,t12,_,_,rfl,rfl,cE.of hbp12,cE.of ht12,AQ Bne,bR (bH (by rw[cK,aI];lia)),(λz=>by cases z),λ_ lg nlg=>?_⟩))
 have elg:cL B++[fX tg]=cL (B++[tg]):=by rw[rA];unfold cL;rw[aC];rfl
 rw[elg]
 have s13:aM H12 (aP H12 lg (.tup (cL (B++[tg])))):=(aM.refl H12).new nlg
 have hlg:aP H12 lg (.tup (cL (B++[tg]))) lg=some (.tup (cL (B++[tg]))):=aj
 show Ci K _ [some (.ref scr),some (.ref st),some (.int (n:Nat)),some (.ref nm),some (.ref wp),some (.ref lt),some (.ref bp),some (.ref lg),none] _
 generalize aP H12 lg (.tup (cL (B++[tg])))=H13 at s13 hlg ⊢
 have WA13:=WA12.same s13
 have hbp13:=s13 _ _ hbp12
 have h0:∀ss,pss[0]?=some ss->∀z∈ss,some z∈B:=λss' e z hz=>by rw[es'] at e;cases e;exact Bh z hz
 have src:∀{H':Hp} {b:Addr} {C:Bt},jd H' wp lt ws last->H' b=some (.tup (cL C))->CI H' C.length C ws b wp:=λwa hb=>⟨hb,rfl,wa.1,F.w100⟩
 obtain⟨dims,cmp⟩:=BK P wd n1 (by lia) Bl h0
 have src13:=src WA13 hbp13
 rw[Bl] at src13
 refine⟨_,rfl,_,rfl,_,rfl,bp,wp,lt,n,B,ws,last,ys,rfl,src13,n1,by lia,WA13,F,dims,cmp,λgp gvs gs bs pss' kss ts ss' t m H14 hgp hG P' tb es2 et hm fo sm s14=>?_⟩
 cases P'.one P
 rw[es'] at es2
 cases es2
 have wy:=Kv P Bl h0 tb es' fo
 have dn:=wy.done P Bne
 have WA14:=WA13.same s14
 have w100:=F.w100
 show Cg K _ [some (.ref scr),some (.ref st),some (.int (n:Nat)),some (.ref nm),some (.ref wp),some (.ref lt),some (.ref bp),some (.ref lg),some (.ref gp)] H14
 refine⟨_,rfl,_,rfl,_,rfl,(n:Nat),wp,lt,ws,last,ys,pss,rfl,WA14,F,P,λv15 H15 hc15 s15=>?_⟩
 rw[(oO pl).mpr wd] at hc15
 have hc15:v15=.non:=hc15
 subst hc15
 refine⟨rfl,_,rfl,iE ?_⟩
 have wd2:=wd.more
 refine⟨_,rfl,.inl ⟨_,_,rfl,rfl,_,rfl,_,rfl,((n+1:Nat):Int),wp,lt,ws,last,ys,pss,rfl,WA14.same s15,F,P,λv16 H16 hc16 s16=>?_⟩⟩
 rw[(oO pl).mpr wd2] at hc16
 have hc16:v16=.non:=hc16
 subst hc16
 refine⟨rfl,_,rfl,iE ?_⟩
 have s1416:=s15.trans s16
 have WA16:=WA14.same s1416
 have hG16:=hG.imp λ_ _ z=>um.but z (Tp.of_same s1416)
 have hbp16:=s1416 _ _ (s14 _ _ hbp13)
 have hlg16:=s1416 _ _ (s14 _ _ hlg)
 have hgp16:=s1416 _ _ hgp
 have lgl:(B++[tg]).length=n+1:=by rw[ai,Bl];rfl
 show Cf K _ [some (.ref scr),some (.ref st),some (.int (n:Nat)),some (.ref nm),some (.ref wp),some (.ref lt),some (.ref bp),some (.ref lg),some (.ref gp)] H16
 refine⟨_,rfl,_,rfl,_,rfl,_,rfl,bp,wp,lt,gp,B,ws,last,ys,gvs,gs,rfl,hbp16,Bne,by lia,WA16,F,hgp16,hG16,dn,λr17 H17 s17=>⟨rfl,_,rfl,iE ?_⟩⟩
 refine⟨_,rfl,_,rfl,_,rfl,_,rfl,lg,wp,lt,gp,B++[tg],ws,last,ys,gvs,gs,rfl,s17 _ _ hlg16,by simp,by lia,WA16.same s17,F,s17 _ _ hgp16,hG16.imp λ_ _ z=>um.but z (Tp.of_same s17),dn.more Bne tg,λr18 H18 s18=>⟨rfl,_,rfl,iE ?_⟩⟩
 have s1618:=s17.trans s18
 have WA18:=WA16.same s1618
 have hG18:=hG16.imp λ_ _ z=>um.but z (Tp.of_same s1618)
 have hlg18:=s1618 _ _ hlg16
 have hgp18:=s1618 _ _ hgp16
 have h02:∀ss,pss[0]?=some ss->∀z∈ss,some z∈B++[tg]:=λss' e z hz=>aA.mpr (.inl (h0 ss' e z hz))
 obtain⟨dims2,cmp2⟩:=BK P wd2 (by lia) (by lia) lgl h02
 have src18:=src WA18 hlg18
 rw[lgl] at src18
 show Ce K _ [some (.ref scr),some (.ref st),some (.int (n:Nat)),some (.ref nm),some (.ref wp),some (.ref lt),some (.ref bp),some (.ref lg),some (.ref gp)] H18
 refine⟨_,rfl,_,rfl,_,rfl,lg,wp,lt,n+1,B++[tg],ws,last,ys,rfl,src18,by lia,by lia,WA18,F,dims2,cmp2,λgp2 gvs2 gs2 bs2 pss2 kss2 ts2 ss2 t2 m2 H19 hgp2 hG2 P2 tb2 es2 et2 hm2 fo2 sm2 s19=>?_⟩
 cases P2.one P
 rw[es'] at es2
 cases es2
 have le:m2<=m:=by
  have b0:=fo.fst
  obtain⟨m3,l3,hm3⟩:=wy.most tb2 P n1 h0 ws.length 0 rfl _ t2 b0 et2
  rw[<-ql (t:=tg) (h0 ss es')] at hm3
  have:=rF (tb2.nd pl et2) hm2 hm3
  rw[f7] at l3
  lia
 refine⟨gp2,gvs2,gs2,rfl,hgp2,hG2,by have:=fo2.len;lia,λH20 s20=>⟨_,rfl,gp,gvs,gs,rfl,s20 _ _ (s19 _ _ hgp18),hG18.imp λ_ _ z=>um.but z (Tp.of_same (s19.trans s20)),by have:=fo.len;lia,λH21 s21=>⟨_,_,rfl,rfl,?_⟩⟩⟩
 rw[sm,sm2]
 show Q (V.bl (decide (((m2:Nat):Int)<=((m:Nat):Int)))) H21
 rw[decide_eq_true (show((m2:Nat):Int)<=((m:Nat):Int) by lia)]
 exact q H21
end Bg
end
namespace Bg
open PySem PySem.Spec PyProof.Rows L2
section
variable{P:Program}{w:World}{K:Fg}{mg:Str->Option Value}{base:Heap}
end
theorem all_mk{l:PySem.W.OpenLaw}{w:World}{K:Fg}{h:Heap}{mg:Str->Option Value}{fa:Addr}(X:K.In h)(G:h.Ns mainGlobals mg)(hfa:mg "law"=some (.ref fa))
  (l0:c5 K "any_order" mV)
  (l1:c5 K "pushed" sY)
  (l2:c5 K "set_anew" kq)
  (l3:c5 K "kept" y9)
  (l4:c5 K "places_to_keep" fR)
  (l5:c5 K "next_keep" jK)
  (l6:c5 K "seen" za)
  (l7:c5 K "worked" tf)
  (l8:c5 K "belts_ahead" iI)
  (l9:c5 K "spread" sZ)
  (l10:c5 K "weaker" oq)
  (l11:c5 K "has_all" lM)
  (l12:c5 K "turned" oo)
  (l13:c5 K "belts_that_come" eA)
  (l14:c5 K "without" lN)
  (l15:c5 K "wanted_at" mW)
  (l16:c5 K "counted" jv)
  (l17:c5 K "followed" pw)
  (l18:c5 K "fewest" sX)
  (l19:c5 K "_law_many" A8)
  (l20:c5 K "_law_behind_work" jJ)
  (l21:c5 K "_law_done" xk)
  (l22:c5 K "crowded" qK)
  (l23:c5 K "_law_draw" FP)
  (l24:c5 K "_law_thing" B9)
  (l25:c5 K "_law_is_wanted" qJ)
  (l26:c5 K "_law_points" tm)
  (l27:c5 K "_law_begin" xj)
  (l28:c5 K "_law_crowded" qk)
  (l29:c5 K "_law_thinned" vG)
  (l30:c5 K "_law_last" FQ)
  (l31:c5 K "_law_works" xn)
  (l32:c5 K "_law_names" xm)
  (l33:c5 K "_law_places" zb)
  (l34:c5 K "law" IW)
  (z_len:bz K mainGlobals "len"=some none) (z_range:bz K mainGlobals "range"=some none) (z_divmod:bz K mainGlobals "divmod"=some none) (z_max:bz K mainGlobals "max"=some none) (z_min:bz K mainGlobals "min"=some none) (z_sum:bz K mainGlobals "sum"=some none) (z_all:bz K mainGlobals "all"=some none) (z_isinstance:bz K mainGlobals "isinstance"=some none) (z_int:bz K mainGlobals "int"=some none) (z_bool:bz K mainGlobals "bool"=some none) (z_list:bz K mainGlobals "list"=some none) (z_tuple:bz K mainGlobals "tuple"=some none) (z_enumerate:bz K mainGlobals "enumerate"=some none) (z_zip:bz K mainGlobals "zip"=some none) (z_sorted:bz K mainGlobals "sorted"=some none) (z_set:bz K mainGlobals "set"=some none) (z_dict:bz K mainGlobals "dict"=some none) (z_str:bz K mainGlobals "str"=some none) (z_any:bz K mainGlobals "any"=some none) (z_reversed:bz K mainGlobals "reversed"=some none) (z_abs:bz K mainGlobals "abs"=some none) :
  ∃fd:FuncData,(∀(s:Shared) (v:Value),BindsTo s fd ⟨[v],[]⟩ [("_law_script",v)])/\∀base:Heap,K.In base->base.Ns mainGlobals mg->uk l.prog w K mg base Gr DS fa fd D3 (xu K):=by
 have B:kT mg:=⟨aY X G z_len,aY X G z_range,aY X G z_divmod,aY X G z_max,aY X G z_min,aY X G z_sum,aY X G z_all,aY X G z_isinstance,aY X G z_int,aY X G z_bool,aY X G z_list,aY X G z_tuple,aY X G z_enumerate,aY X G z_zip,aY X G z_sorted,aY X G z_set,aY X G z_dict,aY X G z_str,aY X G z_any,aY X G z_reversed,aY X G z_abs⟩
 refine K6 (k:=IJ) X G hfa l34 (λbase=>?_) λ_ _ _ _=>Lz
 have c_p_any_order:mK l.prog w K mg base:=mj X G l0 (uB B) λ_ _ _ _=>uM
 have c_p_pushed:rM l.prog w K mg base:=mj X G l1 (Au B) λ_ _ _ _=>A1
 have c_p_set_anew:j3 l.prog w K mg base:=mj X G l2 (wG B c_p_pushed) λ_ _ _ _=>xc
 have c_p_kept:oE l.prog w K mg base:=mj X G l3 (Ej B c_p_set_anew) λ_ _ _ _=>FC
 have c_p_places_to_keep:fN l.prog w K mg base:=mj X G l4 (n6 B) λ_ _ _ _=>om
 have c_p_next_keep:mL l.prog w K mg base:=mj X G l5 (uC B c_p_places_to_keep c_p_kept) λ_ _ _ _=>uN
 have c_p_seen:oF l.prog w K mg base:=mj X G l6 (Ek B) λ_ _ _ _=>FD
 have c_p_worked:j4 l.prog w K mg base:=mj X G l7 (Ay B c_p_set_anew c_p_seen) λ_ _ _ _=>A5
 have c_p_belts_ahead:kE l.prog w K mg base:=mj X G l8 (qX B) λ_ _ _ _=>q4
 have c_p_spread:rN l.prog w K mg base:=mj X G l9 (Av B c_p_belts_ahead) λ_ _ _ _=>A2
 have c_p_weaker:rP l.prog w K mg base:=mj X G l10 (Ax B) λ_ _ _ _=>A4
 have c_p_has_all:qy l.prog w K mg base:=mj X G l11 (yo B) λ_ _ _ _=>y4
 have c_p_turned:rO l.prog w K mg base:=mj X G l12 (Aw B c_p_places_to_keep c_p_kept) λ_ _ _ _=>A3
 have c_p_belts_that_come:iM l.prog w K mg base:=mj X G l13 (mC B c_p_has_all c_p_turned c_p_worked c_p_seen) λ_ _ _ _=>mF
 have c_p_without:lp l.prog w K mg base:=mj X G l14 (yp B) λ_ _ _ _=>y7
 have c_p_wanted_at:g8 l.prog w K mg base:=mj X G l15 (uD B c_p_without) λ_ _ _ _=>uO
 have c_p_counted:qw l.prog w K mg base:=mj X G l16 (ym B c_p_spread c_p_worked c_p_weaker c_p_belts_that_come c_p_wanted_at) λ_ _ _ _=>y0
 have c_p_followed:oD l.prog w K mg base:=mj X G l17 (wF B c_p_kept c_p_next_keep c_p_worked c_p_seen c_p_counted c_p_wanted_at) λ_ _ _ _=>xb
 have c_p_fewest:rL l.prog w K mg base:=mj X G l18 (As B c_p_any_order c_p_followed) λ_ _ _ _=>A0
 have c_many:DO l.prog w K mg base:=mj X G l19 (Jp B) λ_ _ _ _=>Kl
 have c_behind_work:mJ l.prog w K mg base:=mj X G l20 (uA B) λ_ _ _ _=>uL
 have c_done:DM l.prog w K mg base:=mj X G l21 (Jl B c_behind_work) λ_ _ _ _=>Ki
 have c_p_crowded:qx l.prog w K mg base:=mj X G l22 (yn B c_p_without c_p_wanted_at) λ_ _ _ _=>y3
 have c_draw:lh l.prog w K mg base:=mj X G l23 (Jm B) λ_ _ _ _=>Kj
 have c_thing:q9 l.prog w K mg base:=mj X G l24 (GU B c_draw) λ_ _ _ _=>Ih
 have c_is_wanted:qu l.prog w K mg base:=mj X G l25 (yk B) λ_ _ _ _=>yZ
 have c_points:rQ l.prog w K mg base:=mj X G l26 (Em B c_is_wanted) λ_ _ _ _=>FF
 have c_begin:Bu l.prog w K mg base:=mj X G l27 (GR B c_draw c_thing) λ_ _ _ _=>Ie
 have c_crowded:u0 l.prog w K mg base:=mj X G l28 (CQ B) λ_ _ _ _=>Df
 have c_thinned:u4 l.prog w K mg base:=mj X G l29 (CU B c_points c_crowded) λ_ _ _ _=>Dg
 have c_last:DN l.prog w K mg base:=mj X G l30 (Jo B c_draw) λ_ _ _ _=>Kk
 have c_works:Bw l.prog w K mg base:=mj X G l31 (GV B c_draw c_thing) λ_ _ _ _=>Ii
 have c_names:Bv l.prog w K mg base:=mj X G l32 (GS B c_draw) λ_ _ _ _=>Ig
 have c_places:xF l.prog w K mg base:=mj X G l33 (@El _ _ _ _ _ B c_draw) λ_ _ _ _=>FE
 intro _ _ _ _ _ _ _ hr;exact KS B c_p_fewest c_many c_done c_p_crowded c_thing c_points c_begin c_thinned c_last c_works c_draw c_names c_places hr
theorem Kp{K:Fg}{H:Hp}{a:Addr}{ns:List Int}(o:GD H)(h:cq K H a (ns.map V.int)):jq K H a ns:=by
 rcases h with(h|h)|h
 ·rcases o a with z|⟨ob,xs,z⟩<;>rw[h] at z<;>cases z
 ·exact .inl h
 ·exact .inr h
theorem walk{l:PySem.W.OpenLaw}{q:Program}{loose:List Str}{XP:(Str->Option Value)->Heap->Prop}{YP:World->Heap->Prop}{d:DefRec}{K:Params->Fg}(hn:l.most=some 63)(hdf:d.params.defaults=[])
  (hY:∀(w:World) (h:Heap),YP w h->(K w.params).In h)
  (F:∀(w:World) (mg:Str->Option Value) (fa:Addr) (h:Heap),(K w.params).In h->h.Ns mainGlobals mg->mg d.name=some (.ref fa)->
   ∃fd:FuncData,(∀(s:Shared) (u:Value),BindsTo s fd ⟨[u],[]⟩ [("_law_script",u)])/\∀base:Heap,(K w.params).In base->base.Ns mainGlobals mg->uk l.prog w (K w.params) mg base Gr DS fa fd D3 (xu (K w.params))) :
  PySem.W.WalkO q loose XP YP l.row.toRowW d [] (λf vs=>rJ f vs):=
 L2.walk_of (n:=63) (k:=DS) (x:="_law_script") (CX:=λ_=>Gr) (sp:=λw=>xu (K w.params)) hn (by decide) hdf ⟨rfl,by decide,by decide⟩ hY F (λ_ _ a ns hl hO hS=>⟨a,ns,rfl,Kp hO hS,hl,λ_=>rfl⟩) λ_ _ _ _ _ z=>z
end Bg
open PySem PySem.W PyProof.Rows
def PySem.W.Fast.tw637630271192556852:Unit:=()
def PySem.W.Fast.tw14755736505593716089:Unit:=()
def PySem.W.Fast.tw6338660507079157674:Unit:=()
def PySem.W.Fast.tw11324403568291321859:Unit:=()
def PySem.W.Fast.tw2560693970449291963:Unit:=()
def PySem.W.Fast.tw1033739586393427814:Unit:=()
def PySem.W.Fast.tw4072896425314092826:Unit:=()
def PySem.W.Fast.tw3592190908466513764:Unit:=()
def PySem.W.Fast.tw14278957944101880702:Unit:=()
set_option maxRecDepth 100000 in
set_option maxHeartbeats 0 in
theorem PySem.Challenge.cw_beltgarth_k67_whole_one_place_more_holds : PySem.Challenge.rw_beltgarth_k67_whole_one_place_more.Holds := by
 w_on;o_law;k_head;(case hw=>w_witness2)
 k_fill
 refine Bg.walk (l:=PySem.Challenge.rw_beltgarth_k67_whole_one_place_more) rfl rfl (λw h Y=>PySem.W.kIn_of Y) ?F
 case F=>
  intro w mg fa h KX G hmg
  refine' Bg.all_mk KX G hmg ?l0 ?l1 ?l2 ?l3 ?l4 ?l5 ?l6 ?l7 ?l8 ?l9 ?l10 ?l11 ?l12 ?l13 ?l14 ?l15 ?l16 ?l17 ?l18 ?l19 ?l20 ?l21 ?l22 ?l23 ?l24 ?l25 ?l26 ?l27 ?l28 ?l29 ?l30 ?l31 ?l32 ?l33 ?l34 ?z_len ?z_range ?z_divmod ?z_max ?z_min ?z_sum ?z_all ?z_isinstance ?z_int ?z_bool ?z_list ?z_tuple ?z_enumerate ?z_zip ?z_sorted ?z_set ?z_dict ?z_str ?z_any ?z_reversed ?z_abs
  case z_len|z_range|z_divmod|z_max|z_min|z_sum|z_all|z_isinstance|z_int|z_bool|z_list|z_tuple|z_enumerate|z_zip|z_sorted|z_set|z_dict|z_str|z_any|z_reversed|z_abs=>k_is
  all_goals (refine' Bg.defAt ?a ?l ?c ?k;(case a|l|c|k=>k_is))
