import PyProof.Rows.All
import Wide.All
import OpenK.AllK
import Wide.FinOn
import Lean
import PyProof.EqAt
import PyProof.EqKinds
import PyProof.TupleCall
import PyProof.FactsAll.NoneType_1
import PyProof.WalkInts
import PyProof.SeqI3
import PyProof.SetKind
import PyProof.Rows.SetFrom
import PyProof.FactsAll.set
import PyProof.DictIter
import PyProof.DictWalks
import PyProof.WalksMore
import PyProof.MakeMany
import PyProof.FactsAll.subtypes_4
import KE.KDictSum
import KE.KRevIter
import PyProof.TupleOps
import PyProof.FactsAll.tuple
import PyProof.Rows.Range3
import PyProof.NoPylong
import KE.KIntText
import KE.IntTextLaws
import PySem.Challenge.RW_beltgarth_k64_whole_fewest_done
set_option Elab.async false
set_option autoImplicit true
set_option linter.all false
set_option maxHeartbeats 1000000
set_option maxHeartbeats 3200000
set_option maxHeartbeats 4000000
set_option maxRecDepth 100000
set_option relaxedAutoImplicit true
open List renaming getElem?_eq_getElem->aa,getElem?_eq_some_iff->ae,length_map->af,length_append->ai,mem_singleton->ao,getElem?_append_right->aq,getElem?_append_left->au,size_toArray->ay,mem_of_getElem?->aA,map_append->aB,mem_map->aC,mem_append->aE,getElem?_map->aG,mem_cons->aK,length_singleton->aM,length_take->aP,mem_iff_getElem->aS,replicate->aU,length_eq_zero_iff->aV,mem_append_right->aW,getElem?_eq_none->aZ,take_length->a8,mem_cons_of_mem->a9,mem_cons_self->bf,mem_filter->bh,length_filter_le->bt,mem_append_left->bz,map_cons->bA,length_cons->bD,getD_eq_getElem?_getD->bH,length_reverse->bN,getElem?_reverse->bS,nodup_cons->bU,getElem_mem->b6,drop_eq_getElem_cons->b8,range->cc,not_mem_nil->cu,length_drop->cE,replicate_succ->cJ,nodup_append->cK,nodup_nil->cL,find?_cons->cP,map_map->cQ,filter_cons->cV,getElem?_inj->c5,map_congr_left->c8,mem_of_mem_drop->dv,length_range->dB,length_pos_iff->dF,take_of_length_le->dI,all_eq_true->dN,lookup_cons->dO,getElem?_zip_eq_some->dX,append_nil->dZ,append_assoc->d5,ext_getElem?->d6,flatten_cons->d7,take_zero->eM,filter_append->eR,pairwise_cons->eS,dropLast_concat_getLast->eX,nil_append->eY,getElem?_toArray->e6,mem_iff_getElem?->e7,getElem?_of_mem->fb,length_dropLast->fc,length_eraseIdx->ff,mem_range->fg,any_eq_true->fB,drop_length->fE,getLast?_eq_getElem?->fI,pairwise_iff_getElem->fJ,filterMap_cons->fL,foldl_cons->fQ,forIn_cons->fR,length_nil->fS,range_succ->fU,sum_append->fV,getElem?_take->fY,pairwise_singleton->gd,foldl_append->gy,getElem?_set_self->gA,take_add_one->gB,concat_eq_append->gU,eq_nil_or_concat->gW,length_replicate->gX,any_cons->iu,getElem?_set_ne->iD,mem_of_mem_take->iE,filter_sublist->iV,getElem?_range->iW,drop_zero->jc,forIn_nil->jd,getElem?_drop->je,getElem_take->jx,length->jy,not_lt->jz,pairwise_map->jA,map_take->jR,mem_flatten->j7,length_set->kY,length_zip->kZ,of_mem_zip->k8,take_succ->lX,all_cons->nh,foldl->sH
open PySem.Heap renaming get?_push_of_some->ag,get?_push_size->ax,lt_size->aF,size_push->bC,get?_update_other->bF,get?_update_self->bZ
open Nat renaming le_refl->ar,ne_of_lt->aN,le_trans->a7,lt_of_lt_of_le->bg,sub_self->bo,zero_le->bq,le_of_lt->bW,lt_or_ge->cf,lt_succ_self->cF,ne_of_gt->cR,add_sub_cancel->cT,lt_irrefl->cZ,lt_succ_of_lt->c6,lt_of_le_of_lt->dh,not_lt_zero->dC,le_succ->d8,min_le_right->ia,lt_trans->i5,not_lt->oA,mul_comm->pB
open PySem.W renaming mg_none_of->aX,nsIn->bB,fnOf->d9,keepIn->fh,codeIn->gE,methodObj->jB
open Int renaming toNat_natCast->aY,natCast_nonneg->b9,emod_lt_of_pos->cA,emod_nonneg->cB
open Array renaming getElem?_eq_getElem->a6,length_toList->bE,getElem?_toList->bK,getElem?_eq_none->dH,getElem?_eq_some_iff->dQ,toArray_toList->iC,toList_append->iU,forIn_toList->jb,toList->pA
open PyProof.Rows renaming callWith_type1->br,slot_tuple_getitem->c9
open PySem renaming mem_of_lookup->cw,wpAny_setField_rec->cM,strKind->iw,call->sI
open PySem.F renaming plainAttrs_list->cW,plain_extend_loop->dY,plainAttrs_dict->eO,args_tuple_add_2->fM,entry_tuple_add->gf,slot_tuple_add->gD,slot_dict_get->gY,slot_list_pop->gZ,type_list_pop->g0
open Option renaming isSome_iff_exists->du,map_eq_some_iff->eT,getD_some->fF,isSome_map->gC,map_some->iO,getD_none->j8
abbrev Fg := PySem.W.Frag
section
namespace Bg
theorem N0{α:Type}{P:List α->Prop}{us:List α}(h:us.length=0)(k:P []):P us:=by cases us with|nil=>exact k|cons a r=>cases h
theorem NN{α:Type}{P:List α->Prop}{us:List α}(h:us.length=1)(k:∀x0,P [x0]):P us:=by cases us with|nil=>cases h|cons a r=>exact N0 (P:=λr=>P (a::r)) (Nat.succ.inj h) (k a)
theorem NO{α:Type}{P:List α->Prop}{us:List α}(h:us.length=2)(k:∀x0 x1,P [x0,x1]):P us:=by cases us with|nil=>cases h|cons a r=>exact NN (P:=λr=>P (a::r)) (Nat.succ.inj h) (k a)
theorem NP{α:Type}{P:List α->Prop}{us:List α}(h:us.length=3)(k:∀x0 x1 x2,P [x0,x1,x2]):P us:=by cases us with|nil=>cases h|cons a r=>exact NO (P:=λr=>P (a::r)) (Nat.succ.inj h) (k a)
theorem N1{α:Type}{P:List α->Prop}{us:List α}(h:us.length=4)(k:∀x0 x1 x2 x3,P [x0,x1,x2,x3]):P us:=by cases us with|nil=>cases h|cons a r=>exact NP (P:=λr=>P (a::r)) (Nat.succ.inj h) (k a)
theorem NV{α:Type}{us:List α}(h:us.length=1):∃x0,us=[x0]:=NN (P:=λus=>∃x0,us=[x0]) h λx0=>⟨x0,rfl⟩
theorem NW{α:Type}{us:List α}(h:us.length=2):∃x0 x1,us=[x0,x1]:=NO (P:=λus=>∃x0 x1,us=[x0,x1]) h λx0 x1=>⟨x0,x1,rfl⟩
theorem NX{α:Type}{us:List α}(h:us.length=3):∃x0 x1 x2,us=[x0,x1,x2]:=NP (P:=λus=>∃x0 x1 x2,us=[x0,x1,x2]) h λx0 x1 x2=>⟨x0,x1,x2,rfl⟩
theorem NZ{α:Type}{us:List α}(h:us.length=4):∃x0 x1 x2 x3,us=[x0,x1,x2,x3]:=N1 (P:=λus=>∃x0 x1 x2 x3,us=[x0,x1,x2,x3]) h λx0 x1 x2 x3=>⟨x0,x1,x2,x3,rfl⟩
end Bg
end
section
namespace L2
open PySem PySem.Spec PyProof.Rows
abbrev lT:=Sum Int Str
def nK:lT->Value->Bool
 |.inl k,v=>Value.isInt k v
 |.inr x,v=>Value.isStrOf x v
def MC(w:World):lT->Int
 |.inl k=>hashInt k
 |.inr x=>hashStr w x
theorem dw:∀{k:lT} {v:Value},nK k v=true->(∃i t,k=Sum.inl i/\v=Value.int i t)\/(∃x t,k=Sum.inr x/\v=Value.str x t)
 |.inl i,v,h=>by
  obtain⟨t,e⟩:=Value.isInt_shape (k:=i) (v:=v) h
  exact .inl ⟨i,t,rfl,e⟩
 |.inr x,v,h=>by
  obtain⟨t,e⟩:=Value.isStrOf_shape (x:=x) (v:=v) h
  exact .inr ⟨x,t,rfl,e⟩
theorem Eo(i:Int)(t:Tok):nK (.inl i) (.int i t)=true:=by simp[nK,Value.isInt]
theorem Ep(x:Str)(t:Tok):nK (.inr x) (.str x t)=true:=by simp[nK,Value.isStrOf]
theorem K6(a b:Int):decide ((Sum.inl a:lT)=Sum.inl b)=(a==b):=by
 by_cases e:a=b
 ·subst e;simp
 ·have h:¬(Sum.inl a:lT)=Sum.inl b:=λq=>e (Sum.inl.inj q)
  rw[decide_eq_false h]
  exact(beq_eq_false_iff_ne.mpr e).symm
theorem La(a b:Str):decide ((Sum.inr a:lT)=Sum.inr b)=decide (a=b):=by
 by_cases e:a=b
 ·subst e;simp
 ·have h:¬(Sum.inr a:lT)=Sum.inr b:=λq=>e (Sum.inr.inj q)
  rw[decide_eq_false h,decide_eq_false e]
theorem K7(a:Int)(b:Str):decide ((Sum.inl a:lT)=Sum.inr b)=false:=decide_eq_false (λq=>nomatch q)
theorem K9(a:Str)(b:Int):decide ((Sum.inr a:lT)=Sum.inl b)=false:=decide_eq_false (λq=>nomatch q)
def eA(prog:Program)(w:World):PySem.KeyKind prog w lT where
 is:=nK
 hash:=MC w
 inj:=λv a b ha hb=>by
  rcases dw ha with⟨i,t,rfl,rfl⟩|⟨x,t,rfl,rfl⟩
  ·rcases dw hb with⟨j,u,rfl,e⟩|⟨y,u,rfl,e⟩
   ·injection e with e1 _;rw[e1]
   ·exact nomatch e
  ·rcases dw hb with⟨j,u,rfl,e⟩|⟨y,u,rfl,e⟩
   ·exact nomatch e
   ·injection e with e1 _;rw[e1]
 byValue:=λk v h=>by
  rcases dw h with⟨i,t,rfl,rfl⟩|⟨x,t,rfl,rfl⟩<;>rfl
 pyHash:=λhv h=>by
  rcases dw hv with⟨i,t,rfl,rfl⟩|⟨x,t,rfl,rfl⟩
  ·exact wpAny_pyHash_int h
  ·exact wpAny_pyHash_str h
 eqBool:=λhu hv h=>by
  rcases dw hu with⟨i,t,rfl,rfl⟩|⟨x,t,rfl,rfl⟩
  ·rcases dw hv with⟨j,u,rfl,rfl⟩|⟨y,u,rfl,rfl⟩
   ·rw[K6] at h;exact wpAny_eqBool_int h
   ·rw[K7] at h;exact SeqAt.EqAt.int_str i t y u _ _ _ _ h
  ·rcases dw hv with⟨j,u,rfl,rfl⟩|⟨y,u,rfl,rfl⟩
   ·rw[K9] at h;exact SeqAt.EqAt.str_int x t j u _ _ _ _ h
   ·rw[La] at h;exact wpAny_eqBool_str h
 «strs»:=λk x t v h=>by
  rcases dw h with⟨i,u,rfl,e⟩|⟨y,u,rfl,e⟩
  ·exact nomatch e
  ·injection e with e1 _
   subst e1
   cases v<;>rfl
theorem zM(prog:Program)(w:World)(i:Int)(t:Tok):(eA prog w).is (.inl i) (.int i t)=true:=Eo i t
theorem zN(prog:Program)(w:World)(x:Str)(t:Tok):(eA prog w).is (.inr x) (.str x t)=true:=Ep x t
section
variable{prog:Program}{w:World}{A:Around}{E:Value->Shared->Prop}{s:Shared}
theorem pM(n:String):(some (Value.builtin n)==some Value.none)=false:=by rfl
theorem Gb{Q:Int->Shared->Prop}(h:Q 0xFCA86420 {s with toks:=s.toks+1}):wpAny (model prog w) A (pyHash .none) Q E s:=by
 unfold pyHash
 have hT:s.TypeIs .none "NoneType":=rfl
 refine wpAny_bind ?_
 have hv:[Value.none].any Value.onHeap=false:=rfl
 rw[cRoomFor,if_neg (by rw[hv];exact Bool.false_ne_true)];refine wpAny_pure ?_
 refine wpAny_bind (wpAny_specialOf hT F.slot_NoneType_hash.lookup ?_)
 show wpAny _ _ (if(some (Value.builtin "NoneType.__hash__")==some Value.none)=true then _ else _) Q E s
 rw[if_neg (by rw[pM];exact Bool.false_ne_true)]
 refine wpAny_bind (wpAny_specialOf hT F.slot_NoneType_hash.lookup ?_)
 show wpAny _ _ (callSpecialIfBoundUnlessNone? .none "__hash__" _ >>= _) Q E s
 refine wpAny_bind (wpAny_callSpecialIfBoundUnlessNone?_slot hT F.slot_NoneType_hash
  (wpAny_call_entry F.slot_NoneType_hash hT F.entry_NoneType_hash
   (show wpAny _ _ (do ret (<-mkInt 0xFCA86420)) _ _ s from wpAny_ret_mkInt ?_) (F.args_NoneType_hash_1 _)))
 show wpAny _ _ (if(decide (-(2:Int) ^ 63<=0xFCA86420)&&decide ((0xFCA86420:Int)<2 ^ 63))=true then _ else _) Q E _
 rw[if_pos (by decide)]
 exact wpAny_pure h
end
abbrev bY:=Option lT
def Kt:bY->Value->Bool
 |none,.none=>true
 |none,_=>false
 |some k,v=>nK k v
def NB(w:World):bY->Int
 |none=>0xFCA86420
 |some k=>MC w k
theorem eB:∀{k:bY} {v:Value},Kt k v=true->(k=none/\v=Value.none)\/∃k',k=some k'/\nK k' v=true
 |some k',v,h=>.inr ⟨k',rfl,h⟩
 |none,.none,_=>.inl ⟨rfl,rfl⟩
theorem Lb(a:lT):decide ((some a:bY)=none)=false:=decide_eq_false (λq=>nomatch q)
theorem K8(a:lT):decide ((none:bY)=some a)=false:=decide_eq_false (λq=>nomatch q)
theorem Lc(a b:lT):decide ((some a:bY)=some b)=decide (a=b):=by
 by_cases e:a=b
 ·subst e;simp
 ·rw[decide_eq_false e,decide_eq_false (λq=>e (Option.some.inj q))]
theorem v9{k:lT}:nK k .none=false:=by cases k<;>rfl
def cS(prog:Program)(w:World):PySem.KeyKind prog w bY where
 is:=Kt
 hash:=NB w
 inj:=λv a b ha hb=>by
  rcases eB ha with⟨rfl,rfl⟩|⟨a',rfl,ha⟩
  ·rcases eB hb with⟨rfl,_⟩|⟨b',rfl,hb2⟩
   ·rfl
   ·rw[v9] at hb2;cases hb2
  ·rcases eB hb with⟨rfl,rfl⟩|⟨b',rfl,hb⟩
   ·exact absurd (show nK a' .none=true from ha) (by rw[v9];decide)
   ·rw[(eA prog w).inj v a' b' ha hb]
 byValue:=λk v h=>by
  rcases eB h with⟨rfl,rfl⟩|⟨k',rfl,h⟩
  ·rfl
  ·exact(eA prog w).byValue k' v h
 pyHash:=λhv h=>by
  rcases eB hv with⟨rfl,rfl⟩|⟨k',rfl,hk⟩
  ·exact Gb h
  ·exact(eA prog w).pyHash (k:=k') hk h
 eqBool:=λhu hv h=>by
  rcases eB hu with⟨rfl,rfl⟩|⟨a',rfl,ha⟩
  ·rcases eB hv with⟨rfl,rfl⟩|⟨b',rfl,hb⟩
   ·exact SeqAt.EqAt.same _ _ _ _ _ (by simpa using h)
   ·rw[K8] at h
    rcases dw hb with⟨j,u,rfl,rfl⟩|⟨y,u,rfl,rfl⟩
    ·exact SeqAt.EqAt.none_int j u _ _ _ _ h
    ·exact SeqAt.EqAt.none_str y u _ _ _ _ h
  ·rcases eB hv with⟨rfl,rfl⟩|⟨b',rfl,hb⟩
   ·rw[Lb] at h
    rcases dw ha with⟨j,u,rfl,rfl⟩|⟨y,u,rfl,rfl⟩
    ·exact SeqAt.EqAt.int_none j u _ _ _ _ h
    ·exact SeqAt.EqAt.str_none y u _ _ _ _ h
   ·rw[Lc] at h
    exact(eA prog w).eqBool (a:=a') (b:=b') ha hb h
 «strs»:=λk x t v h=>by
  rcases eB h with⟨rfl,e⟩|⟨k',rfl,h⟩
  ·exact nomatch e
  ·exact(eA prog w).strs k' x t v h
section
variable{prog:Program}{w:World}{K:Type}[DecidableEq K](knd:KeyKind prog w K)
def di(h:Heap)(k:K×List K)(a:Addr):Prop:=∃o v b n,h.get? a=some o/\o.cls=.type "tuple"/\o.data=.seq #[v,.ref b] n/\knd.is k.1 v=true/\IsTupleKey knd h k.2 b
variable{knd}
theorem di.typeIs{s:Shared}{k:K×List K}{a:Addr}(x:di knd s.heap k a):s.TypeIs (.ref a) "tuple":=let⟨o,_,_,_,ho,hc,_⟩:=x;⟨o,ho,hc⟩
theorem di.inj{h:Heap}{a:Addr}{x y:K×List K}(hx:di knd h x a)(hy:di knd h y a):x=y:=by
 obtain⟨o,v,b,n,ho,_,hd,h1,h2⟩:=hx
 obtain⟨o',v',b',n',ho',_,hd',h1',h2'⟩:=hy
 obtain rfl:o=o':=Option.some.inj (ho.symm.trans ho')
 rw[hd] at hd'
 injection hd' with e _
 have e:[v,Value.ref b]=[v',Value.ref b']:=congrArg pA e
 injection e with e1 e2
 injection e2 with e2 _
 injection e2 with e2
 subst e1 e2
 exact Prod.ext (knd.inj _ _ _ h1 h1') (h2.inj h2')
theorem di.keeps{h h':Heap}{k:K×List K}{a d:Addr}{o:Obj}{es ep}(x:di knd h k a)(ho:h.get? d=some o)(hd:o.data=.dict es ep)(hs:Heap.SameBut d h h'):di knd h' k a:=by
 obtain⟨o',v,b,n,ho',hc,hd',h1,h2⟩:=x
 have hne:a≠d:=by
  rintro rfl
  obtain rfl:o'=o:=Option.some.inj (ho'.symm.trans ho)
  rw[hd] at hd';exact nomatch hd'
 exact⟨o',v,b,n,(hs.2 a hne).trans ho',hc,hd',h1,h2.keeps ho hd hs⟩
def tO(knd:KeyKind prog w K)(k:K×List K):Int:=reduceHash (Builtin.Tuple.tupleHashOf [knd.hash k.1,tupleKeyHash knd k.2])
variable{A:Around}{E:Value->Shared->Prop}{s:Shared}
theorem qF{k:K×List K}{a:Addr}{Q:Int->Shared->Prop}(hu:A.units+1<cLine)(hk:di knd s.heap k a)(h:Q (tO knd k) {s with toks:=s.toks+(k.2.length+3)}) :
  wpAny (model prog w) A (pyHash (.ref a)) Q E s:=by
 have hT:=hk.typeIs
 obtain⟨o,v,b,n,ho,_,hd,h1,h2⟩:=hk
 unfold pyHash
 first|unfold pyHashByItsType|skip
 first|refine wpAny_bind (wpAny_cRoomFor_or (.inr (by lia)) ?_)|skip
 refine wpAny_bind (wpAny_specialOf hT F.slot_tuple_hash.lookup ?_)
 show wpAny _ _ (if(some (Value.builtin "tuple.__hash__")==some Value.none)=true then _ else _) Q E s
 rw[if_neg (by rw[beq_builtin_none];exact Bool.false_ne_true)]
 refine wpAny_bind (wpAny_specialOf hT F.slot_tuple_hash.lookup ?_)
 show wpAny _ _ (callSpecialIfBoundUnlessNone? (.ref a) "__hash__" _ >>= _) Q E s
 refine wpAny_bind (wpAny_callSpecialIfBoundUnlessNone?_slot hT F.slot_tuple_hash (wpAny_call_entry F.slot_tuple_hash hT F.entry_tuple_hash ?_ (F.args_tuple_hash_1 _)))
 show wpAny _ _ (Builtin.Tuple.tupleItemsOf (.ref a) >>= _) _ _ s
 refine wpAny_bind (wpAny_tupleItemsOf ho hd ?_)
 refine wpAny_bind ?_
 rw[<-jb]
 refine wpAny_forIn_list _
  (λrest (bb:Array Int) s'=>(rest=[v,.ref b]/\bb.toList=[]/\s'=s)\/(rest=[.ref b]/\bb.toList=[knd.hash k.1]/\s'={s with toks:=s.toks+1})\/(rest=[]/\bb.toList=[knd.hash k.1,tupleKeyHash knd k.2]/\s'={s with toks:=s.toks+1+(k.2.length+1)}))
  _ ?_ ?_ _ _ (.inl ⟨rfl,rfl,rfl⟩)
 ·rintro x rest bb s' (⟨e,hb,rfl⟩|⟨e,hb,rfl⟩|⟨e,_⟩)
  ·injection e with e1 e2
   subst e1 e2
   refine wpAny_bind (knd.pyHash h1 ?_)
   first
    |exact wpAny_pure (.inr (.inl ⟨rfl,by simp[hb],rfl⟩))
    |exact wpAny_bind (wpAny_pure (wpAny_pure (.inr (.inl ⟨rfl,by simp[hb],rfl⟩))))
  ·injection e with e1 e2
   subst e1 e2
   refine wpAny_bind (wpAny_pyHash_tuple (ks:=k.2) (by show A.units+1<cLine;lia) h2 ?_)
   first
    |exact wpAny_pure (.inr (.inr ⟨rfl,by simp[hb],rfl⟩))
    |exact wpAny_bind (wpAny_pure (wpAny_pure (.inr (.inr ⟨rfl,by simp[hb],rfl⟩))))
  ·cases e
 ·rintro bb s' (⟨e,_⟩|⟨e,_⟩|⟨_,hb,rfl⟩)
  ·cases e
  ·cases e
  ·show wpAny _ _ (retInt (Builtin.Tuple.tupleHashOf bb.toList)) _ _ _
   rw[hb]
   refine wpAny_ret_mkInt ?_
   show wpAny _ _ (if(decide (-(2:Int) ^ 63<=Builtin.Tuple.tupleHashOf [knd.hash k.1,tupleKeyHash knd k.2])&&decide (Builtin.Tuple.tupleHashOf [knd.hash k.1,tupleKeyHash knd k.2]<2 ^ 63))=true then _ else _) Q E _
   unfold tO reduceHash at h
   have et:s.toks+(k.2.length+3)=s.toks+1+(k.2.length+1)+1:=by lia
   rw[et] at h
   by_cases hr:(decide (-(2:Int) ^ 63<=Builtin.Tuple.tupleHashOf [knd.hash k.1,tupleKeyHash knd k.2])&&decide (Builtin.Tuple.tupleHashOf [knd.hash k.1,tupleKeyHash knd k.2]<2 ^ 63))=true
   ·rw[if_pos hr]
    rw[if_pos hr] at h
    exact wpAny_pure h
   ·rw[if_neg hr]
    rw[if_neg hr] at h
    exact wpAny_bind (wpAny_rule (wpAny_pure h))
theorem xZ{x y:K×List K}{a b:Addr}{P:Fin->Shared->Prop}(hu:A.units<cLine)(hx:di knd s.heap x a)(hy:di knd s.heap y b)(h:P (.done (.ret (.bool (decide (x=y))))) s) :
  wpAny (model prog w) A (Builtin.«tuple.__eq__» ⟨[.ref a,.ref b],[]⟩) P E s:=by
 have hTb:=hy.typeIs
 obtain⟨oa,va,ba,na,hoa,_,hda,ha1,ha2⟩:=hx
 obtain⟨ob,vb,bb,nb,hob,_,hdb,hb1,hb2⟩:=hy
 show wpAny _ _ (isInstance (.ref b) (.type "tuple") >>= _) _ _ s
 refine wpAny_bind (wpAny_isInstance hTb isSubtype_tuple_tuple ?_)
 simp only[Bool.not_true,Bool.false_eq_true,if_false]
 refine wpAny_bind (wpAny_tupleItemsOf hoa hda ?_)
 refine wpAny_bind (wpAny_tupleItemsOf hob hdb ?_)
 refine wpAny_bind ?_
 have dx:decide (x=y)=(decide (x.1=y.1)&&decide (x.2=y.2)):=by
  by_cases c1:x.1=y.1
  ·by_cases c2:x.2=y.2
   ·rw[decide_eq_true c1,decide_eq_true c2,decide_eq_true (Prod.ext c1 c2)];rfl
   ·rw[decide_eq_true c1,decide_eq_false c2,decide_eq_false λz=>c2 (congrArg Prod.snd z)];rfl
  ·rw[decide_eq_false c1,decide_eq_false λz=>c1 (congrArg Prod.fst z)];rfl
 refine wpAny_forIn_list _
  (λrest r s'=>r.1=none/\s'=s/\(rest=[(va,vb),(.ref ba,.ref bb)]\/(rest=[(.ref ba,.ref bb)]/\x.1=y.1)\/(rest=[]/\x=y)))
  _ ?_ ?_ _ _ ⟨rfl,rfl,.inl rfl⟩
 ·rintro⟨u,v⟩ rest r s' ⟨hr,rfl,e|⟨e,e1⟩|⟨e,_⟩⟩
  ·injection e with e1 e2
   injection e1 with e3 e4
   subst e3 e4 e2
   refine wpAny_bind (knd.eqBool (a:=x.1) (b:=y.1) ha1 hb1 ?_)
   by_cases hk:x.1=y.1
   ·rw[decide_eq_true hk]
    simp only[Bool.not_true,Bool.false_eq_true,if_false]
    exact wpAny_pure ⟨rfl,rfl,.inr (.inl ⟨trivial,hk⟩)⟩
   ·rw[decide_eq_false hk]
    simp only[Bool.not_false,if_true]
    rw[dx,decide_eq_false hk] at h
    exact wpAny_bind (wpAny_pure (wpAny_pure (wpAny_pure h)))
  ·injection e with e2 e3
   injection e2 with e4 e5
   subst e4 e5 e3
   refine wpAny_bind (wpAny_eqBool_tuple (x:=x.2) (y:=y.2) hu ha2 hb2 ?_)
   by_cases hk:x.2=y.2
   ·rw[decide_eq_true hk]
    simp only[Bool.not_true,Bool.false_eq_true,if_false]
    exact wpAny_pure ⟨rfl,rfl,.inr (.inr ⟨trivial,Prod.ext e1 hk⟩)⟩
   ·rw[decide_eq_false hk]
    simp only[Bool.not_false,if_true]
    rw[dx,decide_eq_false hk,Bool.and_false] at h
    exact wpAny_bind (wpAny_pure (wpAny_pure (wpAny_pure h)))
  ·cases e
 ·rintro⟨r1,r2⟩ s' ⟨hr,rfl,e|⟨e,_⟩|⟨_,e⟩⟩
  ·cases e
  ·cases e
  ·simp only at hr
   subst hr
   refine wpAny_pure ?_
   rw[decide_eq_true e] at h
   exact h
theorem qE{x y:K×List K}{a b:Addr}{Q:Bool->Shared->Prop}(hu:A.units+1<cLine)(hx:di knd s.heap x a)(hy:di knd s.heap y b)(h:Q (decide (x=y)) s) :
  wpAny (model prog w) A (eqBool (.ref a) (.ref b)) Q E s:=by
 unfold eqBool
 try with_reducible refine wpAny_holding ?_
 show wpAny _ _ (if(Value.ref a==Value.ref b)=true then _ else _) Q E s
 by_cases hab:(Value.ref a==Value.ref b)=true
 ·rw[if_pos hab]
  have e:a=b:=by have:=eq_of_beq hab;injection this
  subst e
  obtain rfl:=hx.inj hy
  exact wpAny_bind (wpAny_rule (wpAny_pure (by simpa using h)))
 ·rw[if_neg hab]
  exact wpAny_bind (wpAny_richCompare_same_room (op:=.Eq) hx.typeIs hy.typeIs F.slot_tuple_eq
   (wpAny_call_entry F.slot_tuple_eq hx.typeIs F.entry_tuple_eq (xZ (by show A.units+1<cLine;lia) hx hy ⟨_,rfl,(λe=>nomatch e),wpAny_truthy_bool h⟩) (F.args_tuple_eq_2 _ _)) (by lia))
theorem zZ{n:Nat}{ks:List K}{a:Addr}{Q:Bool->Shared->Prop}(hk:IsTupleKey knd s.heap ks a)(h:Q true s):wpAny (model prog w) A (eqIsQuiet (n+1) (.ref a)) Q E s:=by
 have hT:=hk.typeIs
 obtain⟨o,items,n,ho,_,hd,hi⟩:=hk
 unfold eqIsQuiet
 refine wpAny_bind (wpAny_specialOf hT F.slot_tuple_eq.lookup ?_)
 show wpAny _ _ (isInstance (.ref a) (.type "tuple") >>= _) _ _ s
 refine wpAny_bind (wpAny_isInstance hT isSubtype_tuple_tuple ?_)
 simp only[Bool.not_true,Bool.false_eq_true,if_false]
 refine wpAny_bind (wpAny_seqItems ho hd ?_)
 refine wpAny_bind ?_
 show wpAny _ _ (forIn items _ _) _ _ s
 rw[<-jb]
 refine wpAny_forIn_list _ (λrest r s'=>r.1=none/\s'=s/\∀v∈rest,carriedByValue v=true) _ ?_ ?_ _ _ ⟨rfl,rfl,hi.byValue⟩
 ·rintro v rest r s' ⟨hr,rfl,hall⟩
  rw[eqIsQuiet_byValue _ (hall v bf)]
  refine wpAny_bind (wpAny_pure ?_)
  simp only[Bool.not_true,Bool.false_eq_true,if_false]
  exact wpAny_pure ⟨rfl,rfl,λu hu'=>hall u (a9 _ hu')⟩
 ·rintro⟨r1,r2⟩ s' ⟨hr,rfl,_⟩
  simp only at hr
  subst hr
  exact wpAny_pure h
theorem B0{k:K×List K}{a:Addr}{Q:Bool->Shared->Prop}(hk:di knd s.heap k a)(h:Q true s):wpAny (model prog w) A (eqIsQuiet 8 (.ref a)) Q E s:=by
 have hT:=hk.typeIs
 obtain⟨o,v,b,n,ho,_,hd,h1,h2⟩:=hk
 unfold eqIsQuiet
 refine wpAny_bind (wpAny_specialOf hT F.slot_tuple_eq.lookup ?_)
 show wpAny _ _ (isInstance (.ref a) (.type "tuple") >>= _) _ _ s
 refine wpAny_bind (wpAny_isInstance hT isSubtype_tuple_tuple ?_)
 simp only[Bool.not_true,Bool.false_eq_true,if_false]
 refine wpAny_bind (wpAny_seqItems ho hd ?_)
 refine wpAny_bind ?_
 show wpAny _ _ (forIn #[v,Value.ref b] _ _) _ _ s
 rw[<-jb]
 refine wpAny_forIn_list _ (λrest r s'=>r.1=none/\s'=s/\∀v∈rest,carriedByValue v=true\/v=.ref b) _ ?_ ?_ _ _ ⟨rfl,rfl,λu hu=>?_⟩
 ·rintro v rest r s' ⟨hr,rfl,hall⟩
  have fin:wpAny (model prog w) A (eqIsQuiet 7 v) (λx s2=>x=true/\s2=s') E s':=by
   rcases hall v bf with c|c
   ·rw[eqIsQuiet_byValue _ c]
    exact wpAny_pure ⟨rfl,rfl⟩
   ·subst c
    exact zZ h2 ⟨rfl,rfl⟩
  refine wpAny_bind (wpAny_mono fin (λx s2 hx=>?_) λ_ _ z=>z)
  obtain⟨rfl,rfl⟩:=hx
  simp only[Bool.not_true,Bool.false_eq_true,if_false]
  exact wpAny_pure ⟨rfl,rfl,λu hu'=>hall u (a9 _ hu')⟩
 ·rintro⟨r1,r2⟩ s' ⟨hr,rfl,_⟩
  simp only at hr
  subst hr
  exact wpAny_pure h
 ·have hu:u∈[v,Value.ref b]:=hu
  rcases aK.mp hu with rfl|hu
  ·exact .inl (knd.byValue _ _ h1)
  ·exact .inr (ao.mp hu)
end
def kj{prog:Program}{w:World}{K:Type}[DecidableEq K](knd:KeyKind prog w K):HeapKind prog w (K×List K) where
 is:=di knd
 hash:=tO knd
 draws:=λk=>k.2.length+3
 room:=λA=>A.units+1<cLine
 inj:=λhx hy=>hx.inj hy
 keeps:=λx ho hd hs=>x.keeps ho hd hs
 pyHash:=λhu hk h=>qF hu hk h
 eqBool:=λhu hx hy h=>qE hu hx hy h
 quiet:=λhk h=>B0 hk h
inductive V where
 |non|bl (b:Bool)|int (i:Int)|str (x:Str)|byt (b:Array UInt8)|flt (b:UInt64)|ref (a:Addr)|ty (n:String)
 deriving DecidableEq
def cg:V->Value->Prop
 |.non,u=>u=Value.none
 |.bl b,u=>u=Value.bool b
 |.int i,u=>∃t,u=Value.int i t
 |.str x,u=>∃t,u=Value.str x t
 |.byt b,u=>∃t,u=Value.bytes b t
 |.flt b,u=>∃t,u=Value.float b t
 |.ref a,u=>u=Value.ref a
 |.ty n,u=>u=Value.type n
abbrev bX:List V->List Value->Prop:=Paired cg
theorem bX.length{xs:List V}{us:List Value}(r:bX xs us):xs.length=us.length:=Paired.length r
theorem bX.get:∀{xs:List V} {us:List Value} {i:Nat} {x:V},bX xs us->xs[i]?=some x->∃u,us[i]?=some u/\cg x u
 |_,_,_,_,.nil,e=>by simp at e
 |_,_,0,_,.cons r _,e=>by simp at e;subst e;exact⟨_,rfl,r⟩
 |_,_,i+1,x,.cons _ t,e=>by
  obtain⟨u,h1,h2⟩:=bX.get (i:=i) (x:=x) t (by simpa using e)
  exact⟨u,by simpa using h1,h2⟩
theorem bX.set{x:V}{u:Value}(r:cg x u):∀{xs:List V} {us:List Value} (i:Nat),bX xs us->bX (xs.set i x) (us.set i u)
 |_,_,_,.nil=>.nil
 |_,_,0,.cons _ t=>.cons r t
 |_,_,i+1,.cons q t=>.cons q (bX.set r i t)
theorem bX.append:∀{xs ys:List V} {us ws:List Value},bX xs us->bX ys ws->bX (xs++ys) (us++ws)
 |_,_,_,_,.nil,s=>s
 |_,_,_,_,.cons r t,s=>.cons r (bX.append t s)
theorem bX.take:∀{xs:List V} {us:List Value} (n:Nat),bX xs us->bX (xs.take n) (us.take n)
 |_,_,0,_=>.nil
 |_,_,_+1,.nil=>.nil
 |_,_,n+1,.cons r t=>.cons r (bX.take n t)
theorem bX.drop:∀{xs:List V} {us:List Value} (n:Nat),bX xs us->bX (xs.drop n) (us.drop n)
 |_,_,0,r=>r
 |_,_,_+1,.nil=>.nil
 |_,_,n+1,.cons _ t=>bX.drop n t
def oG:Option V->Option Value->Prop
 |some v,some u=>cg v u
 |none,none=>True
 |_,_=>False
def KV{κ:Type}:List (κ×V)->List (κ×Value)->Prop:=Paired λ(p:κ×V) (q:κ×Value)=>p.1=q.1/\cg p.2 q.2
def kV:lT->V
 |.inl i=>.int i
 |.inr x=>.str x
def kN:bY->V
 |none=>.non
 |some k=>kV k
inductive HO where
  |lst (xs:List V)
  |tup (xs:List V)
  |dK (kvs:List (lT×V))|dT (kvs:List (List bY×V))|dP (kvs:List ((bY×List bY)×V))
  |set (S:Int->Bool) (n:Nat)
  |ins (C dx:Addr) (fs:List (Str×V))
  |own (x:Addr)
  |xd (fs:List (Str×V))
  |met (f x:Addr)
  |rng (lo hi:Int)
  |frz (o:Obj) (u:HO)
  |tbl (ps:Array Value)
  |ext (φ:Heap->Prop)
abbrev Hp:=Addr->Option HO
def aQ(H:Hp)(a:Addr)(o:HO):Hp:=λb=>if b=a then some o else H b
theorem aj{H:Hp}{a:Addr}{o:HO}:aQ H a o a=some o:=by unfold aQ;rw[if_pos rfl]
theorem az{H:Hp}{a b:Addr}{o:HO}(h:b≠a):aQ H a o b=H b:=by unfold aQ;rw[if_neg h]
theorem zP{H:Hp}{a b:Addr}{o u:HO}(h:H a=some o)(h':H b=some u)(d:o≠u):a≠b:=by
 intro e;subst e;rw[h] at h';exact d (Option.some.inj h')
theorem aJ{H:Hp}{a b:Addr}{o:HO}(h:H a=some o)(h':H b=none):a≠b:=by
 intro e;subst e;rw[h] at h';cases h'
def jU(h:Heap)(a:Addr)(items:Array Value):Prop:=∃o,h.get? a=some o/\(o.cls=.type "tuple"/\o.dict=none)/\∃n,o.data=.seq items n
theorem jU.tup{h:Heap}{a:Addr}{items:Array Value}(x:jU h a items):IsTup h a items:=let⟨o,e,c,n⟩:=x;⟨o,e,c.1,n⟩
theorem jU.lt{h:Heap}{a:Addr}{items:Array Value}(x:jU h a items):a<h.objs.size:=let⟨_,e,_⟩:=x;aF e
theorem jU.new(h:Heap)(items:Array Value):jU (h.push {cls:=.type "tuple",data:=.seq items}) h.objs.size items:=⟨_,ax _ rfl,⟨rfl,rfl⟩,_,rfl⟩
section
variable(P:Program)(w:World)
def dR(H:Hp)(h:Heap)(a:Addr):HO->Prop
 |.lst xs=>xs.length<=sizeLine/\∃(its:List Value) (n:Nat),bX xs its/\h.get? a=some {cls:=.type "list",data:=.seq its.toArray n}
 |.tup xs=>xs.length<=sizeLine/\∃its:List Value,bX xs its/\jU h a its.toArray
 |.dK kvs=>kvs.length<=sizeLine/\(a==sysModules)=false/\∃vs,KV kvs vs/\h.DictOf (eA P w) a vs
 |.dT kvs=>kvs.length<=sizeLine/\(a==sysModules)=false/\∃xs:List (List bY×Addr×Value),
   Paired (λ(p:List bY×V) (q:List bY×Addr×Value)=>p.1=q.1/\H q.2.1=some (.tup (p.1.map kN))/\cg p.2 q.2.2) kvs xs/\
   ∃o es ep,h.get? a=some o/\o.ExactDict/\o.data=.dict es ep/\es.toList=xs.map (entryOfKey (tupleKind (cS P w)))/\(xs.map (·.1)).Nodup
 |.dP kvs=>kvs.length<=sizeLine/\(a==sysModules)=false/\∃xs:List ((bY×List bY)×Addr×Value),
   Paired (λ(p:(bY×List bY)×V) (q:(bY×List bY)×Addr×Value)=>p.1=q.1/\(∃b,H q.2.1=some (.tup [kN p.1.1,.ref b])/\H b=some (.tup (p.1.2.map kN)))/\cg p.2 q.2.2) kvs xs/\
   ∃o es ep,h.get? a=some o/\o.ExactDict/\o.data=.dict es ep/\es.toList=xs.map (entryOfKey (kj (cS P w)))/\(xs.map (·.1)).Nodup
 |.set S n=>h.SetOf (intKind P w) a S n
 |.ins C dx fs=>H dx=some (.own a)/\fs.length<=1000/\dx≠a/\h.get? a=some (PySem.W.instObj C dx)/\
   ∃mA,h.Ns1 dx mA/\(∀f,oG (fs.lookup f) (mA f))/\PySem.Within mA (fs.map (·.1))
 |.own _=>∃o,h.get? a=some o
 |.xd fs=>∃mA,h.Ns1 a mA/\∀f,oG (fs.lookup f) (mA f)
 |.rng lo hi=>∃t u v,h.get? a=some {cls:=.type "range",data:=.fields #[.int lo t,.int hi u,.int 1 v]}
 |.frz o u=>h.get? a=some o/\dR H h a u
 |.tbl ps=>h.get? a=some {cls:=.none,data:=.fields ps}
 |.met f x=>h.get? a=some (jB (.ref f) (.ref x))
 |.ext φ=>φ h/\(∃o,h.get? a=some o)/\∀h1 h2:Heap,φ h1->(∀o,h1.get? a=some o->h2.get? a=some o)->φ h2
def ny(H:Hp)(h:Heap):Prop:=∀a o,H a=some o->dR P w H h a o
end
section
variable{P:Program}{w:World}{H H':Hp}{h h':Heap}{a:Addr}{o:HO}
theorem dR.lt(x:dR P w H h a o):a<h.objs.size:=by
 cases o with
 |lst xs=>obtain⟨_,_,_,_,e⟩:=x;exact aF e
 |tup xs=>obtain⟨_,_,_,p⟩:=x;exact p.lt
 |dK kvs=>obtain⟨_,_,_,_,o,_,_,e,_⟩:=x;exact aF e
 |dT kvs=>obtain⟨_,_,_,_,o,_,_,e,_⟩:=x;exact aF e
 |dP kvs=>obtain⟨_,_,_,_,o,_,_,e,_⟩:=x;exact aF e
 |set S n=>obtain⟨o,_,_,_,e,_⟩:=x;exact aF e
 |ins C dx fs=>obtain⟨_,_,_,e,_⟩:=x;exact aF e
 |own y=>obtain⟨_,e⟩:=x;exact aF e
 |xd fs=>obtain⟨_,⟨_,_,_,e,_⟩,_⟩:=x;exact aF e
 |rng lo hi=>obtain⟨_,_,_,e⟩:=x;exact aF e
 |frz ob u=>obtain⟨e,_⟩:=x;exact aF e
 |tbl ps=>exact aF (show h.get? a=some _ from x)
 |met f y=>exact aF (show h.get? a=some _ from x)
 |ext φ=>obtain⟨_,⟨_,e⟩,_⟩:=x;exact aF e
theorem Paired.mapP{α β:Type}{F G:α->β->Prop}:∀{l₁:List α} {l₂:List β},Paired F l₁ l₂->(∀a b,F a b->G a b)->Paired G l₁ l₂
 |_,_,.nil,_=>.nil
 |_,_,.cons r t,f=>.cons (f _ _ r) (Paired.mapP t f)
theorem dR.stay(x:dR P w H h a o)(k:∀b u,(b=a\/H b=some (.own a))->h.get? b=some u->h'.get? b=some u)
  (ho:∀b,H b=some (.own a)->H' b=some (.own a)) (ht:∀b xs,H b=some (.tup xs)->H' b=some (.tup xs)):dR P w H' h' a o:=by
 induction o with
 |lst xs=>obtain⟨z,its,n,r,e⟩:=x;exact⟨z,its,n,r,k _ _ (.inl rfl) e⟩
 |tup xs=>obtain⟨z,its,r,ob,e,c⟩:=x;exact⟨z,its,r,ob,k _ _ (.inl rfl) e,c⟩
 |dK kvs=>obtain⟨z,y,vs,r,ob,es,ep,e,c⟩:=x;exact⟨z,y,vs,r,ob,es,ep,k _ _ (.inl rfl) e,c⟩
 |dT kvs=>
  obtain⟨z,y,xs,r,ob,es,ep,e,c⟩:=x
  exact⟨z,y,xs,Paired.mapP r λp q z=>⟨z.1,ht _ _ z.2.1,z.2.2⟩,ob,es,ep,k _ _ (.inl rfl) e,c⟩
 |dP kvs=>
  obtain⟨z,y,xs,r,ob,es,ep,e,c⟩:=x
  exact⟨z,y,xs,Paired.mapP r λp q z=>⟨z.1,let⟨b,h1,h2⟩:=z.2.1;⟨b,ht _ _ h1,ht _ _ h2⟩,z.2.2⟩,ob,es,ep,k _ _ (.inl rfl) e,c⟩
 |set S n=>obtain⟨ob,es,ep,t,e,c⟩:=x;exact⟨ob,es,ep,t,k _ _ (.inl rfl) e,c⟩
 |ins C dx fs=>
  obtain⟨d,z,ne,e,mA,⟨od,es,ep,e2,c⟩,r⟩:=x
  exact⟨ho _ d,z,ne,k _ _ (.inl rfl) e,mA,⟨od,es,ep,k _ _ (.inr d) e2,c⟩,r⟩
 |own y=>obtain⟨ob,e⟩:=x;exact⟨ob,k _ _ (.inl rfl) e⟩
 |xd fs=>obtain⟨mA,⟨od,es,ep,e,c⟩,r⟩:=x;exact⟨mA,⟨od,es,ep,k _ _ (.inl rfl) e,c⟩,r⟩
 |rng lo hi=>obtain⟨t,u,v,e⟩:=x;exact⟨t,u,v,k _ _ (.inl rfl) e⟩
 |frz ob u ih=>obtain⟨e,q⟩:=x;exact⟨k _ _ (.inl rfl) e,ih q⟩
 |tbl ps=>
  have e:h.get? a=some {cls:=.none,data:=.fields ps}:=x
  show h'.get? a=some {cls:=.none,data:=.fields ps}
  exact k a _ (.inl rfl) e
 |met f y=>
  have e:h.get? a=some (jB (.ref f) (.ref y)):=x
  show h'.get? a=some (jB (.ref f) (.ref y))
  exact k a _ (.inl rfl) e
 |ext φ=>obtain⟨p,⟨o,e⟩,st⟩:=x;exact⟨st _ _ p λo q=>k _ _ (.inl rfl) q,⟨o,k _ _ (.inl rfl) e⟩,st⟩
theorem ny.lt(x:ny P w H h)(e:H a=some o):a<h.objs.size:=(x a o e).lt
theorem ny.fresh(x:ny P w H h)(e:h.objs.size<=a):H a=none:=by
 cases q:H a with
 |none=>rfl
 |some u=>exact absurd (bg (x.lt q) e) (cZ _)
theorem ny.kept(x:ny P w H h)(k:∀b u,h.get? b=some u->h'.get? b=some u):ny P w H h':=λa o e=>
 (x a o e).stay (λb u _ q=>k b u q) (λ_ q=>q) λ_ _ q=>q
theorem ny.laid(x:ny P w H h)(k:∀b u,h.get? b=some u->h'.get? b=some u)(hp:h.objs.size<=a)(new:dR P w (aQ H a o) h' a o):ny P w (aQ H a o) h':=λb u e=>by
 have hn:=x.fresh hp
 by_cases hb:b=a
 ·subst hb;rw[aj] at e;cases e;exact new
 ·rw[az hb] at e
  exact(x b u e).stay (λc v _ q=>k c v q) (λc q=>by rw[az (aJ q hn)];exact q) λc xs q=>by rw[az (aJ q hn)];exact q
end
def Rd(H:Hp)(a:Addr)(u:HO):Prop:=H a=some u\/∃o,H a=some (.frz o u)
theorem Rd.ok{P:Program}{w:World}{H:Hp}{h:Heap}{a:Addr}{u:HO}(r:Rd H a u)(x:ny P w H h):dR P w H h a u:=by
 rcases r with r|⟨o,r⟩
 ·exact x a u r
 ·obtain⟨_,q⟩:=x a _ r
  exact q
def Mm:Option HO->Prop
 |some (.lst _)=>True
 |some (.dK _)=>True
 |some (.dT _)=>True
 |some (.dP _)=>True
 |some (.set _ _)=>True
 |some (.ins _ _ _)=>True
 |some (.ext _)=>True
 |_=>False
section
variable{P:Program}{w:World}{H:Hp}{h h':Heap}{x e:Addr}{o':HO}
theorem ny.write(ok:ny P w H h)(mu:Mm (H x))(he:e=x\/H e=some (.own x))(k:∀b u,b≠e->h.get? b=some u->h'.get? b=some u)(heo:∃u,h'.get? e=some u)
  (new:dR P w (aQ H x o') h' x o'):ny P w (aQ H x o') h':=λb u q=>by
 have nown:∀c y,H c=some (.own y)->c≠x:=λc y r z=>by subst z;rw[r] at mu;exact mu
 have ntup:∀c xs,H c=some (.tup xs)->c≠x:=λc xs r z=>by subst z;rw[r] at mu;exact mu
 by_cases hb:b=x
 ·subst hb;rw[aj] at q;cases q;exact new
 ·rw[az hb] at q
  by_cases hbe:b=e
  ·have q':H b=some (.own x):=by
    rcases he with z|z
    ·exact absurd (hbe.trans z) hb
    ·rw[hbe];exact z
   rw[q] at q';cases q'
   obtain⟨v,hv⟩:=heo
   exact⟨v,by rw[hbe];exact hv⟩
  ·refine(ok b u q).stay (λc v hc r=>k c v ?_ r) (λc r=>by rw[az (nown c b r)];exact r) λc xs r=>by rw[az (ntup c xs r)];exact r
   rcases hc with rfl|hc
   ·exact hbe
   ·rintro rfl
    rcases he with z|z
    ·exact nown c b hc z
    ·rw[hc] at z;cases z;exact hb rfl
end
structure Un(fs ex:List Addr)(H H':Hp)(h h':Heap):Prop where
 keep:∀b o,h.get? b=some o->H b=none->b∉fs->b∉ex->h'.get? b=some o
 slot:∀b o,h.get? b=some o->H b=none->b∈fs->b∉ex->∃sl,h'.get? b=some {o with slots:=sl}
 free:∀b o,h.get? b=some o->H b=none->b∉ex->H' b=none
 there:∀b o,h.get? b=some o->b∉ex->∃o',h'.get? b=some o'
 tups:∀b xs,H b=some (.tup xs)->H' b=some (.tup xs)
 frzs:∀b o u,H b=some (.frz o u)->H' b=some (.frz o u)
 tbls:∀b ps,H b=some (.tbl ps)->∃more,H' b=some (.tbl (ps++more))
section
variable{fs fs' ex ex':List Addr}{H H1 H2:Hp}{h h1 h2 h':Heap}{a x e:Addr}{o:HO}
theorem Un.any(u:Un fs ex H H1 h h1){b:Addr}{ob:Obj}(q:h.get? b=some ob)(n:H b=none)(hx:b∉ex):∃sl,h1.get? b=some {ob with slots:=sl}:=by
 by_cases hb:b∈fs
 ·exact u.slot b ob q n hb hx
 ·exact⟨ob.slots,u.keep b ob q n hb hx⟩
theorem Un.kept(k:∀b u,h.get? b=some u->h'.get? b=some u):Un fs ex H H h h':=
 ⟨λb ob q _ _ _=>k b ob q,λb ob q _ _ _=>⟨ob.slots,k b ob q⟩,λ_ _ _ n _=>n,λb ob q _=>⟨ob,k b ob q⟩,λ_ _ q=>q,λ_ _ _ q=>q,λ_ ps q=>⟨#[],by rw[q];simp⟩⟩
theorem Un.refl:Un fs ex H H h h:=Un.kept λ_ _ q=>q
theorem Un.laid(k:∀b u,h.get? b=some u->h'.get? b=some u)(hp:h.objs.size<=a)(hn:H a=none):Un fs ex H (aQ H a o) h h' where
 keep:=λb u q _ _ _=>k b u q
 slot:=λb u q _ _ _=>⟨u.slots,k b u q⟩
 free:=λb u q n _=>by rw[az (aN (bg (aF q) hp))];exact n
 there:=λb u q _=>⟨u,k b u q⟩
 tups:=λb xs q=>by rw[az (aJ q hn)];exact q
 frzs:=λb u xs q=>by rw[az (aJ q hn)];exact q
 tbls:=λb ps q=>⟨#[],by rw[az (aJ q hn),q];simp⟩
theorem Un.write(mu:Mm (H x))(he:e=x\/H e=some (.own x))(k:∀b u,b≠e->h.get? b=some u->h'.get? b=some u)(heo:∃u,h'.get? e=some u):Un fs ex H (aQ H x o) h h':=by
 have hx:∀b,H b=none->b≠x:=λb n z=>by subst z;rw[n] at mu;exact mu
 have hb:∀b,H b=none->b≠e:=λb n z=>by
  subst z
  rcases he with r|r
  ·exact hx b n r
  ·rw[n] at r;cases r
 have hm:∀b u,H b=some u->¬Mm (some u)->b≠x:=λb u q nm z=>by subst z;rw[q] at mu;exact nm mu
 refine⟨λb u q n _ _=>k b u (hb b n) q,λb u q n _ _=>⟨u.slots,k b u (hb b n) q⟩,λb u q n _=>by rw[az (hx b n)];exact n,λb u q _=>?_,
  λb xs q=>by rw[az (hm b _ q λz=>z)];exact q,λb u xs q=>by rw[az (hm b _ q λz=>z)];exact q,λb ps q=>⟨#[],by rw[az (hm b _ q λz=>z),q];simp⟩⟩
 by_cases hbe:b=e
 ·subst hbe;exact heo
 ·exact⟨u,k b u hbe q⟩
end
def Nr(h:Heap)(H:Hp):List Addr:=(cc h.objs.size).filter λa=>(H a).isSome
def xJ(h:Heap)(H:Hp):Heap:=PySem.W.hideAll h (Nr h H)
theorem Ek(h:Heap)(H:Hp):(xJ h H).objs.size=h.objs.size:=PySem.W.hideAll_size _ _
theorem Gc{h:Heap}{H:Hp}{b:Addr}{o:Obj}(e:h.get? b=some o)(n:H b=none):(xJ h H).get? b=some o:=
 PySem.W.hideAll_get _ e λhm=>by
  have q:(H b).isSome=true:=(bh.mp hm).2
  rw[n] at q;simp at q
theorem Jr{h:Heap}{H:Hp}{b:Addr}{o:Obj}(e:(xJ h H).get? b=some o):h.get? b=some o/\H b=none:=by
 have e':h.get? b=some o:=PySem.W.of_hideAll (Nr h H) e
 refine⟨e',?_⟩
 cases q:H b with
 |none=>rfl
 |some x=>
  have hm:b∈Nr h H:=bh.mpr ⟨fg.mpr (aF e'),by simp[q]⟩
  have z:(xJ h H).get? b=none:=PySem.W.hideAll_none (Nr h H) hm
  rw[z] at e;cases e
structure Mod(K:Fg)(mg:Str->Option Value)(base:Heap):Prop where
 kin:K.In base
 glob:base.Ns mainGlobals mg
 blt:∃mb,base.Ns builtinsNs mb/\∀x:Str,x≠"__name__"->mb x=bootBuiltins x
 nolimit:base.NoLimit
structure Cx where
 prog:Program
 w:World
 K:Fg
 mg:Str->Option Value
 base:Heap
 A:Around
 N:List Str
 s₀:Shared
 H₀:Hp
 env:Env
 outer:List Env
 stack:List Env
 ex:List Addr
 fn:Str->Bool
 calm:Bool
 pn:List (Addr×Obj)
 xe:Value->Shared->Prop
def F8(l:List Env):List Addr:=l.filterMap (·.frame)
abbrev Cx.fs(X:Cx):List Addr:=F8 X.outer
def Np(sc:Scope)(x:Str):Prop:=sc.names.lookup x=some .local\/sc.names.lookup x=some .cell\/sc.names.lookup x=some .free
def Fm(sc:Scope)(x:Str):Prop:=sc.names.lookup x=some .local\/sc.names.lookup x=some .cell
def Nv(env:Env)(h:Heap)(m:Str->Option Value)(x:Str)(u:Value):Prop:=
 (env.kindOf x=some .local/\m x=some u)\/((env.kindOf x=some .cell\/env.kindOf x=some .free)/\∃c,env.cells.lookup x=some c/\h.IsCell c (some u))
structure Cx.Ok(X:Cx):Prop where
 mod:Mod X.K X.mg X.base
 kind:X.env.scope.kind=.function
 glob:X.env.globals=mainGlobals
 blt:X.env.builtins=builtinsNs
 above:X.s₀.heap.objs.size<=X.env.locals
 inj:∀x y c,X.env.cells.lookup x=some c->X.env.cells.lookup y=some c->x=y
 has:∀x,(X.env.kindOf x=some .cell\/X.env.kindOf x=some .free)->∃c,X.env.cells.lookup x=some c
 cab:∀x c,X.fn x=true->X.env.cells.lookup x=some c->X.s₀.heap.objs.size<=c
 hd:X.calm=true->X.A.handled=none
 frames:X.A.frames=some X.stack
 stk:X.stack=X.outer\/(X.stack=X.env::X.outer/\X.env.frame=some X.env.locals)
 exf:∀b∈X.ex,b≠X.env.locals/\∀x c,X.env.cells.lookup x=some c->c≠b
 bs:∀b o,X.base.get? b=some o->X.s₀.heap.get? b=some o/\X.H₀ b=none
 bsz:X.base.objs.size<=X.s₀.heap.objs.size
 noex:∀b o,X.base.get? b=some o->b∉X.ex
 exfs:∀b∈X.ex,b∉X.fs
 funs:X.s₀.heap.FunFrames X.base X.outer
 frf:∀b∈X.fs,X.H₀ b=none
structure bw(X:Cx)(pins:List (Addr×Obj))(σ:List (Option V))(H:Hp)(s:Shared):Prop where
 ok:X.Ok
 os:s.os=X.s₀.os
 bare:AllBare s.gens
 base:Un X.fs X.ex X.H₀ H X.s₀.heap s.heap
 loc:∃m,s.heap.Ns X.env.locals m/\∀(i:Nat) (x:Str) (v:V),X.N[i]?=some x->σ[i]?=some (some v)->Np X.env.scope x->∃u,cg v u/\Nv X.env s.heap m x u
 cell:∀x c,X.env.cells.lookup x=some c->∃v,s.heap.IsCell c v
 free:H X.env.locals=none
 freeC:∀x c,X.env.cells.lookup x=some c->H c=none
 pin:∀p∈X.pn++pins,s.heap.get? p.1=some p.2/\H p.1=none/\p.1≠X.env.locals/\p.1∉X.fs/\∀v,p.2.data≠.cell v
 hok:ny X.prog X.w H s.heap
 len:σ.length=X.N.length
section
variable{X:Cx}{pins:List (Addr×Obj)}{σ:List (Option V)}{H H':Hp}{s:Shared}{h':Heap}
theorem Cx.Ok.nofr(ok:X.Ok){b:Addr}{o:Obj}(e:X.base.get? b=some o):b∉X.fs:=λhb=>by
 have:=(ok.funs.mem hb).1
 rw[e] at this;cases this
theorem bw.bs(I:bw X pins σ H s):∀b o,X.base.get? b=some o->s.heap.get? b=some o/\H b=none:=λb o e=>
 ⟨I.base.keep b o (I.ok.bs b o e).1 (I.ok.bs b o e).2 (I.ok.nofr e) (I.ok.noex b o e),I.base.free b o (I.ok.bs b o e).1 (I.ok.bs b o e).2 (I.ok.noex b o e)⟩
theorem bw.bk(I:bw X pins σ H s):∀b o,X.base.get? b=some o->s.heap.get? b=some o:=λb o e=>(I.bs b o e).1
theorem bw.mod(I:bw X pins σ H s):Mod X.K X.mg X.base:=I.ok.mod
theorem bw.kIn(I:bw X pins σ H s):X.K.In s.heap:=I.ok.mod.kin.keeps I.bk
theorem bw.lt(I:bw X pins σ H s):X.env.locals<s.heap.objs.size:=let⟨_,hn,_⟩:=I.loc;hn.lt
theorem bw.sz(I:bw X pins σ H s):X.s₀.heap.objs.size<=s.heap.objs.size:=a7 I.ok.above (bW I.lt)
theorem bw.nofs(I:bw X pins σ H s){a:Addr}(h:s.heap.objs.size<=a):a∉X.fs:=λhb=>by
 obtain⟨_,o,ho,_⟩:=I.ok.funs.mem hb
 exact absurd (bg (aF ho) (a7 I.sz h)) (cZ _)
theorem bw.cne(I:bw X pins σ H s):∀x c,X.env.cells.lookup x=some c->c≠X.env.locals:=λx c e z=>by
 obtain⟨v,o,ho,hd⟩:=I.cell x c e
 obtain⟨m,⟨o',es,ep,ho',hd',_⟩,_⟩:=I.loc
 rw[z,ho'] at ho;cases ho;rw[hd'] at hd;cases hd
theorem bw.funs(I:bw X pins σ H s):s.heap.FunFrames X.base X.outer:=by
 have all:∀(l:List Env),(∀b∈F8 l,b∈X.fs)->X.s₀.heap.FunFrames X.base l->s.heap.FunFrames X.base l:=by
  intro l
  induction l with
  |nil=>intro _ _;trivial
  |cons env r ih=>
   intro hs hl
   obtain⟨hk,⟨L,o,hf,hn,ho,hd⟩,hr⟩:=hl
   have hL:L∈X.fs:=hs L (by unfold F8;rw[fL,hf];exact bf)
   obtain⟨sl,e⟩:=I.base.slot L o ho (I.ok.frf L hL) hL λz=>I.ok.exfs L z hL
   exact⟨hk,⟨L,_,hf,hn,e,hd⟩,ih (λb hb=>hs b (by unfold F8;rw[fL,hf];exact a9 _ hb)) hr⟩
 exact all X.outer (λ_ hb=>hb) I.ok.funs
theorem bw.stack(I:bw X pins σ H s):s.heap.FunFrames X.base X.stack:=by
 rcases I.ok.stk with e|⟨e,hf⟩
 ·rw[e];exact I.funs
 ·rw[e]
  obtain⟨m,hn,_⟩:=I.loc
  refine .cons (by rw[I.ok.kind];decide) hf hn ?_ I.funs
  exact Heap.get?_none_of_le (a7 I.ok.bsz I.ok.above)
theorem bw.stkSub(I:bw X pins σ H s):∀b∈F8 X.stack,b∈X.env.locals::X.fs:=λb hb=>by
 rcases I.ok.stk with e|⟨e,hf⟩
 ·rw[e] at hb;exact a9 _ hb
 ·rw[e] at hb
  unfold F8 at hb
  rw[fL,hf] at hb
  exact hb
theorem bw.stkFree(I:bw X pins σ H s):∀b∈F8 X.stack,H b=none:=λb hb=>by
 rcases aK.mp (I.stkSub b hb) with e|hb
 ·rw[e];exact I.free
 ·obtain⟨_,o,ho,_⟩:=I.ok.funs.mem hb
  exact I.base.free b o ho (I.ok.frf b hb) λz=>I.ok.exfs b z hb
theorem bw.step{g':Array GenState}{t':Nat}{d':Drawn}{ch:List Addr}(I:bw X pins σ H s)
  (hch:∀b∈ch,(b∈X.ex\/X.s₀.heap.objs.size<=b)/\b≠X.env.locals/\(∀x c,X.env.cells.lookup x=some c->c≠b)/\∀p∈X.pn++pins,p.1≠b)
  (keep:∀b o,b≠X.env.locals->b∉X.fs->b∉ch->s.heap.get? b=some o->H b=none->h'.get? b=some o)
  (slot:∀b o,b≠X.env.locals->b∈X.fs->b∉ch->s.heap.get? b=some o->H b=none->∃sl,h'.get? b=some {o with slots:=sl}) (free:∀b o,b∉ch->s.heap.get? b=some o->H b=none->H' b=none)
  (there:∀b o,b∉ch->s.heap.get? b=some o->∃o',h'.get? b=some o')
  (tups:∀b xs,H b=some (.tup xs)->H' b=some (.tup xs)) (frzs:∀b o u,H b=some (.frz o u)->H' b=some (.frz o u)) (tbls:∀b ps,H b=some (.tbl ps)->∃more,H' b=some (.tbl (ps++more)))
  (ns:∀m,s.heap.Ns X.env.locals m->h'.Ns X.env.locals m) (hok:ny X.prog X.w H' h') (hg:AllBare g') :
  bw X pins σ H' {s with heap:=h',gens:=g',drawn:=d',toks:=t'}:=by
 have neL:∀b o,X.s₀.heap.get? b=some o->b≠X.env.locals:=λb o e=>aN (bg (aF e) I.ok.above)
 have neC:∀b o,X.s₀.heap.get? b=some o->b∉X.ex->b∉ch:=λb o e hx hb=>by
  rcases(hch b hb).1 with z|z
  ·exact hx z
  ·exact absurd (bg (aF e) z) (cZ _)
 have cellK:∀x c,X.env.cells.lookup x=some c->∀v,s.heap.IsCell c v->h'.IsCell c v:=λx c e v ⟨o,ho,hd⟩=>by
  have nch:c∉ch:=λz=>(hch c z).2.2.1 x c e rfl
  by_cases hc:c∈X.fs
  ·obtain⟨sl,q⟩:=slot c o (I.cne x c e) hc nch ho (I.freeC x c e)
   exact⟨_,q,hd⟩
  ·exact⟨o,keep c o (I.cne x c e) hc nch ho (I.freeC x c e),hd⟩
 refine⟨I.ok,I.os,hg,⟨λb o e n hb hx=>?_,λb o e n hb hx=>?_,λb o e n hx=>?_,λb o e hx=>?_,λb xs e=>tups b xs (I.base.tups b xs e),λb o xs e=>frzs b o xs (I.base.frzs b o xs e),λb ps e=>?_⟩,?_,λx c e=>?_,?_,λx c e=>?_,λp hp=>?_,hok,I.len⟩
 ·exact keep b o (neL b o e) hb (neC b o e hx) (I.base.keep b o e n hb hx) (I.base.free b o e n hx)
 ·obtain⟨sl,e1⟩:=I.base.slot b o e n hb hx
  obtain⟨sl',e2⟩:=slot b _ (neL b o e) hb (neC b o e hx) e1 (I.base.free b o e n hx)
  exact⟨sl',e2⟩
 ·obtain⟨o',e1⟩:=I.base.there b o e hx
  exact free b o' (neC b o e hx) e1 (I.base.free b o e n hx)
 ·obtain⟨o',e1⟩:=I.base.there b o e hx
  exact there b o' (neC b o e hx) e1
 ·obtain⟨m1,e1⟩:=I.base.tbls b ps e
  obtain⟨m2,e2⟩:=tbls b _ e1
  exact⟨m1++m2,by rw[e2,Array.append_assoc]⟩
 ·obtain⟨m,hn,hl⟩:=I.loc
  refine⟨m,ns m hn,λi x v e1 e2 e3=>?_⟩
  obtain⟨u,r,l⟩:=hl i x v e1 e2 e3
  refine⟨u,r,?_⟩
  rcases l with l|⟨k,c,e,z⟩
  ·exact .inl l
  ·exact .inr ⟨k,c,e,cellK x c e _ z⟩
 ·obtain⟨v,z⟩:=I.cell x c e
  exact⟨v,cellK x c e v z⟩
 ·obtain⟨m,⟨o,_,_,ho,_⟩,_⟩:=I.loc
  exact free _ o (λz=>(hch _ z).2.1 rfl) ho I.free
 ·obtain⟨v,o,ho,hd⟩:=I.cell x c e
  exact free c o (λz=>(hch c z).2.2.1 x c e rfl) ho (I.freeC x c e)
 ·obtain⟨e,n,ne,nf,d⟩:=I.pin p hp
  have nch:p.1∉ch:=λz=>(hch p.1 z).2.2.2 p hp rfl
  exact⟨keep p.1 p.2 ne nf nch e n,free p.1 p.2 nch e n,ne,nf,d⟩
theorem bw.un{t':Nat}(I:bw X pins σ H s)(u:Un X.fs [] H H' s.heap h')(hok:ny X.prog X.w H' h'):bw X pins σ H' {s with heap:=h',toks:=t'}:=by
 obtain⟨m,⟨o,es,ep,ho,r⟩,_⟩:=id I.loc
 obtain⟨sl,hL⟩:=u.any ho I.free (by simp)
 exact I.step (g':=s.gens) (d':=s.drawn) (ch:=[]) (λ_ z=>nomatch z) (λb o _ hb _ e n=>u.keep b o e n hb (by simp)) (λb o _ hb _ e n=>u.slot b o e n hb (by simp)) (λb o _ e n=>u.free b o e n (by simp)) (λb o _ e=>u.there b o e (by simp)) u.tups u.frzs u.tbls (λm' hm=>by
  obtain⟨o',es',ep',ho',r'⟩:=hm
  rw[ho] at ho';cases ho'
  exact⟨_,es',ep',hL,r'⟩) hok I.bare
theorem bw.call{g':Array GenState}{t':Nat}{d':Drawn}{ch:List Addr}(I:bw X pins σ H s)(u:Un (F8 X.stack) ch H H' s.heap h')(hok:ny X.prog X.w H' h')(hg:AllBare g')
  (hch:∀b∈ch,(b∈X.ex\/X.s₀.heap.objs.size<=b)/\b≠X.env.locals/\(∀x c,X.env.cells.lookup x=some c->c≠b)/\∀p∈X.pn++pins,p.1≠b) :
  bw X pins σ H' {s with heap:=h',gens:=g',drawn:=d',toks:=t'}:=by
 obtain⟨m,⟨o,es,ep,ho,r⟩,_⟩:=id I.loc
 obtain⟨sl,hL⟩:=u.any ho I.free λz=>(hch _ z).2.1 rfl
 exact I.step (ch:=ch) hch (λb o hL hb hc e n=>u.keep b o e n (λz=>(aK.mp (I.stkSub b z)).elim hL hb) hc) (λb o _ _ hc e n=>u.any e n hc) (λb o hc e n=>u.free b o e n hc) (λb o hc e=>u.there b o e hc) u.tups u.frzs u.tbls (λm' hm=>by
  obtain⟨o',es',ep',ho',r'⟩:=hm
  rw[ho] at ho';cases ho'
  exact⟨_,es',ep',hL,r'⟩) hok hg
theorem bw.turned{t':Nat}{it:Addr}(I:bw X pins σ H s)(k:∀b o,b≠it->s.heap.get? b=some o->h'.get? b=some o)(hn:H it=none)(hL:it≠X.env.locals)
  (h1:it∈X.ex\/X.s₀.heap.objs.size<=it) (h2:∀x c,X.env.cells.lookup x=some c->c≠it) (h3:∀p∈X.pn++pins,p.1≠it):bw X pins σ H {s with heap:=h',toks:=t'}:=by
 have nit:∀b u,H b=some u->b≠it:=λb u e z=>by rw[z,hn] at e;cases e
 refine I.step (g':=s.gens) (d':=s.drawn) (ch:=[it]) (λb hb=>?_) (λb o _ _ hc e _=>k b o (λz=>hc (by simp[z])) e) (λb o _ _ hc e _=>⟨o.slots,k b o (λz=>hc (by simp[z])) e⟩) (λ_ _ _ _ n=>n)
  (λb o hc e=>⟨o,k b o (λz=>hc (by simp[z])) e⟩) (λ_ _ e=>e) (λ_ _ _ e=>e) (λb ps e=>⟨#[],by rw[e];simp⟩) (λm hm=>?_) (λb u e=>?_) I.bare
 ·have e:b=it:=by simpa using hb
  subst e
  exact⟨h1,hL,h2,h3⟩
 ·obtain⟨o,es,ep,ho,r⟩:=hm
  exact⟨o,es,ep,k _ o (Ne.symm hL) ho,r⟩
 ·refine(I.hok b u e).stay (λc v hc q=>k c v ?_ q) (λ_ q=>q) λ_ _ q=>q
  rcases hc with z|z
  ·rw[z];exact nit b u e
  ·exact nit c _ z
theorem bw.tok(I:bw X pins σ H s)(t:Nat):bw X pins σ H {s with toks:=t}:=I.un (h':=s.heap) (t':=t) Un.refl I.hok
theorem bw.kept{t':Nat}(I:bw X pins σ H s)(k:∀b u,s.heap.get? b=some u->h'.get? b=some u):bw X pins σ H {s with heap:=h',toks:=t'}:=I.un (Un.kept k) (I.hok.kept k)
theorem bw.laid{a:Addr}{o:HO}{t':Nat}(I:bw X pins σ H s)(k:∀b u,s.heap.get? b=some u->h'.get? b=some u)(hp:s.heap.objs.size<=a)(new:dR X.prog X.w (aQ H a o) h' a o) :
  bw X pins σ (aQ H a o) {s with heap:=h',toks:=t'}:=I.un (Un.laid k hp (I.hok.fresh hp)) (I.hok.laid k hp new)
theorem bw.write{x e:Addr}{o:HO}{t':Nat}(I:bw X pins σ H s)(mu:Mm (H x))(he:e=x\/H e=some (.own x))(k:∀b u,b≠e->s.heap.get? b=some u->h'.get? b=some u)(heo:∃u,h'.get? e=some u)
  (new:dR X.prog X.w (aQ H x o) h' x o):bw X pins σ (aQ H x o) {s with heap:=h',toks:=t'}:=I.un (Un.write mu he k heo) (I.hok.write mu he k heo new)
theorem bw.pins_of{pins':List (Addr×Obj)}(I:bw X pins σ H s)(h:∀p∈pins',s.heap.get? p.1=some p.2/\H p.1=none/\p.1≠X.env.locals/\p.1∉X.fs/\∀v,p.2.data≠.cell v):bw X pins' σ H s:=
 ⟨I.ok,I.os,I.bare,I.base,I.loc,I.cell,I.free,I.freeC,λp hp=>(aE.mp hp).elim (λz=>I.pin p (bz _ z)) (h p),I.hok,I.len⟩
theorem zR{N:List Str}(hN:N.Nodup){i j:Nat}{x:Str}(a:N[i]?=some x)(b:N[j]?=some x):i=j:=by
 obtain⟨h1,e1⟩:=ae.mp a
 obtain⟨h2,e2⟩:=ae.mp b
 exact(List.getElem_inj hN).mp (e1.trans e2.symm)
theorem wI{M:Model}{A:Around}{E:Value->Shared->Prop}{i:Nat}{x:Str}{v:V}{u:Value}{Q:Unit->Shared->Prop}(I:bw X pins σ H s)(hN:X.N.Nodup)(hi:X.N[i]?=some x)(hx:Fm X.env.scope x)(r:cg v u)
  (h:∀s',bw X pins (σ.set i (some v)) H s'->(∃a,Heap.SameBut a s.heap s'.heap/\(a=X.env.locals\/X.env.cells.lookup x=some a))->Q () s') (hf:X.fn x=true\/X.env.scope.names.lookup x=some .local:=by first|exact .inl rfl|exact .inr rfl|assumption):wpAny M A (storeName X.env x u) Q E s:=by
 obtain⟨m,hn,hl⟩:=id I.loc
 have hcls:(X.env.scope.kind==.class || (X.env.scope.kind==.module&&X.env.locals != X.env.globals))=false:=by rw[I.ok.kind];rfl
 have hiσ:i<σ.length:=by rw[I.len];exact(ae.mp hi).1
 have cne:=I.cne
 have tracked:∀{a:Addr} {h':Heap},(∃o,s.heap.get? a=some o/\H a=none)->Heap.SameBut a s.heap h'->ny X.prog X.w H h':=λ{a h'} ha hs b ob e=>by
  obtain⟨_,_,hfree⟩:=ha
  refine(I.hok b ob e).stay (λc w' hc q=>(hs.2 c ?_).trans q) (λ_ q=>q) λ_ _ q=>q
  rintro rfl
  rcases hc with rfl|hc
  ·rw[hfree] at e;cases e
  ·rw[hfree] at hc;cases hc
 rcases hx with hk|hk
 ·refine wpAny_storeName_local hk hn (λh' hn' hs=>?_) hcls
  obtain⟨oL,_,_,hoL,_⟩:=id hn
  refine h _ ⟨I.ok,I.os,I.bare,⟨λb o e n hb hx=>?_,λb o e n hb hx=>?_,I.base.free,λb o e hx=>?_,I.base.tups,I.base.frzs,I.base.tbls⟩,⟨_,hn',λj y v' e1 e2 e3=>?_⟩,λy c e=>?_,I.free,I.freeC,λp hp=>?_,tracked ⟨oL,hoL,I.free⟩ hs,by simpa using I.len⟩ ⟨_,hs,.inl rfl⟩
  ·exact(hs.2 b (aN (bg (aF e) I.ok.above))).trans (I.base.keep b o e n hb hx)
  ·obtain⟨sl,e1⟩:=I.base.slot b o e n hb hx
   exact⟨sl,(hs.2 b (aN (bg (aF e) I.ok.above))).trans e1⟩
  ·obtain⟨o',e1⟩:=I.base.there b o e hx
   exact⟨o',(hs.2 b (aN (bg (aF e) I.ok.above))).trans e1⟩
  ·by_cases hj:j=i
   ·subst hj
    rw[hi] at e1;cases e1
    rw[gA hiσ] at e2
    cases e2
    exact⟨u,r,.inl ⟨hk,by simp⟩⟩
   ·rw[iD (Ne.symm hj)] at e2
    obtain⟨u',r',q⟩:=hl j y v' e1 e2 e3
    refine⟨u',r',?_⟩
    rcases q with⟨k,e⟩|⟨k,c,e,z⟩
    ·refine .inl ⟨k,?_⟩
     have:y≠x:=λe=>hj (zR hN e1 (e ▸ hi))
     simp[this,e]
    ·exact .inr ⟨k,c,e,z.sameBut hs (cne y c e)⟩
  ·obtain⟨w',z⟩:=I.cell y c e
   exact⟨w',z.sameBut hs (cne y c e)⟩
  ·obtain⟨e,n,ne,nf,d⟩:=I.pin p hp
   exact⟨(hs.2 p.1 ne).trans e,n,ne,nf,d⟩
 ·have hfn:X.fn x=true:=by
   rcases hf with z|z
   ·exact z
   ·rw[z] at hk;cases hk
  obtain⟨c,hc⟩:=I.ok.has x (.inl hk)
  obtain⟨w',z⟩:=I.cell x c hc
  refine wpAny_storeName_cell I.ok.kind hk hc z (λh' hc' hs=>?_)
  obtain⟨oc,hoc,hocd⟩:=id z
  refine h {s with heap:=h'} ⟨I.ok,I.os,I.bare,⟨λb o e n hb hx=>?_,λb o e n hb hx=>?_,I.base.free,λb o e hx=>?_,I.base.tups,I.base.frzs,I.base.tbls⟩,⟨m,hn.sameBut hs (Ne.symm (cne x c hc)),λj y v' e1 e2 e3=>?_⟩,λy c' e=>?_,I.free,I.freeC,λp hp=>?_,tracked ⟨oc,hoc,I.freeC x c hc⟩ hs,by simpa using I.len⟩ ⟨c,hs,.inr hc⟩
  ·exact(hs.2 b (aN (bg (aF e) (I.ok.cab x c hfn hc)))).trans (I.base.keep b o e n hb hx)
  ·obtain⟨sl,e1⟩:=I.base.slot b o e n hb hx
   exact⟨sl,(hs.2 b (aN (bg (aF e) (I.ok.cab x c hfn hc)))).trans e1⟩
  ·obtain⟨o',e1⟩:=I.base.there b o e hx
   exact⟨o',(hs.2 b (aN (bg (aF e) (I.ok.cab x c hfn hc)))).trans e1⟩
  ·by_cases hj:j=i
   ·subst hj
    rw[hi] at e1;cases e1
    rw[gA hiσ] at e2
    cases e2
    exact⟨u,r,.inr ⟨.inl hk,c,hc,hc'⟩⟩
   ·rw[iD (Ne.symm hj)] at e2
    obtain⟨u',r',q⟩:=hl j y v' e1 e2 e3
    refine⟨u',r',?_⟩
    rcases q with q|⟨k,c',e,z'⟩
    ·exact .inl q
    ·refine .inr ⟨k,c',e,z'.sameBut hs ?_⟩
     rintro rfl
     exact hj (zR hN e1 (I.ok.inj _ _ _ e hc ▸ hi))
  ·by_cases hcc:c'=c
   ·subst hcc;exact⟨_,hc'⟩
   ·obtain⟨w2,z2⟩:=I.cell y c' e
    exact⟨w2,z2.sameBut hs hcc⟩
  ·obtain⟨e,n,ne,nf,d⟩:=I.pin p hp
   refine⟨(hs.2 p.1 ?_).trans e,n,ne,nf,d⟩
   intro q
   rw[q,hoc] at e
   have q':oc=p.2:=Option.some.inj e
   exact d w' (by rw[<-q'];exact hocd)
theorem Aq{M:Model}{A:Around}{E:Value->Shared->Prop}{i:Nat}{x:Str}{v:V}{u:Value}{Q:Unit->Shared->Prop}(I:bw X pins σ H s)(hN:X.N.Nodup)(hi:X.N[i]?=some x)(hx:Fm X.env.scope x)(r:cg v u)
  (h:∀s',bw X pins (σ.set i (some v)) H s'->Q () s') (hf:X.fn x=true\/X.env.scope.names.lookup x=some .local:=by first|exact .inl rfl|exact .inr rfl|assumption):wpAny M A (storeName X.env x u) Q E s:=
 wI I hN hi hx r (λs' I' _=>h s' I') hf
theorem bw.call'{s':Shared}{ch:List Addr}(I:bw X pins σ H s)(ho:s'.os=s.os)(u:Un (F8 X.stack) ch H H' s.heap s'.heap)(hok:ny X.prog X.w H' s'.heap)(hg:AllBare s'.gens)
  (hch:∀b∈ch,(b∈X.ex\/X.s₀.heap.objs.size<=b)/\b≠X.env.locals/\(∀x c,X.env.cells.lookup x=some c->c≠b)/\∀p∈X.pn++pins,p.1≠b):bw X pins σ H' s':=by
 obtain⟨h',g',d',t',o'⟩:=s'
 have e:o'=s.os:=ho
 subst e
 exact I.call (g':=g') (t':=t') (d':=d') u hok hg hch
end
abbrev XK:=Value->Option Addr->Hp->Prop
abbrev St:=List (Option V)
abbrev VK:=V->Hp->Prop
abbrev TE:=St->Hp->VK->Prop
abbrev TT:=St->Hp->(Bool->Hp->Prop)->Prop
abbrev TA:=St->Hp->(List V->Hp->Prop)->Prop
structure lM where
 nx:St->Hp->Prop
 rt:VK
 bk:St->Hp->Prop:=λ_ _=>False
 ct:St->Hp->Prop:=λ_ _=>False
abbrev TS:=lM->St->Hp->Prop
def EP(X:Cx)(pins:List (Addr×Obj))(σ:St)(Q:VK)(u:Value)(s':Shared):Prop:=∃v H',bw X pins σ H' s'/\cg v u/\Q v H'
def TP(X:Cx)(pins:List (Addr×Obj))(σ:St)(Q:Bool->Hp->Prop)(b:Bool)(s':Shared):Prop:=∃H',bw X pins σ H' s'/\Q b H'
def AP(X:Cx)(pins:List (Addr×Obj))(σ:St)(Q:List V->Hp->Prop)(us:List Value)(s':Shared):Prop:=∃vs H',bw X pins σ H' s'/\bX vs us/\Q vs H'
def SP(X:Cx)(pins:List (Addr×Obj))(D:lM)(f:Flow)(s':Shared):Prop:=
 match f with
 |.next=>∃σ' H',bw X pins σ' H' s'/\D.nx σ' H'
 |.brk=>∃σ' H',bw X pins σ' H' s'/\D.bk σ' H'
 |.cont=>∃σ' H',bw X pins σ' H' s'/\D.ct σ' H'
 |.ret u=>∃v σ' H',bw X pins σ' H' s'/\cg v u/\D.rt v H'
def PE(X:Cx)(e:Expr)(t:TE):Prop:=
 ∀(pins:List (Addr×Obj)) (s:Shared) (σ:St) (H:Hp) (Q:VK),bw X pins σ H s->t σ H Q->wpAny (model X.prog X.w) X.A (eval e X.env) (EP X pins σ Q) X.xe s
def PT(X:Cx)(e:Expr)(t:TT):Prop:=
 ∀(pins:List (Addr×Obj)) (s:Shared) (σ:St) (H:Hp) (Q:Bool->Hp->Prop),bw X pins σ H s->t σ H Q->wpAny (model X.prog X.w) X.A (isTrue e X.env (eval e X.env)) (TP X pins σ Q) X.xe s
def PW(X:Cx)(e:Expr)(t:TT):Prop:=
 ∀(whole:Sem Value) (pins:List (Addr×Obj)) (s:Shared) (σ:St) (H:Hp) (Q:Bool->Hp->Prop),bw X pins σ H s->t σ H Q->wpAny (model X.prog X.w) X.A (isTrue e X.env whole) (TP X pins σ Q) X.xe s
theorem PW.pt{X:Cx}{e:Expr}{t:TT}(h:PW X e t):PT X e t:=h _
def PA(X:Cx)(es:List Expr)(t:TA):Prop:=
 ∀(pos:Pos) (pins:List (Addr×Obj)) (s:Shared) (σ:St) (H:Hp) (Q:List V->Hp->Prop),bw X pins σ H s->t σ H Q->wpAny (model X.prog X.w) X.A (spliced (backTo pos (starEach es X.env))) (AP X pins σ Q) X.xe s
def PS(X:Cx)(st:Stmt)(t:TS):Prop:=
 ∀(pins:List (Addr×Obj)) (s:Shared) (σ:St) (H:Hp) (D:lM),bw X pins σ H s->t D σ H->wpAny (model X.prog X.w) X.A (exec st X.env) (SP X pins D) X.xe s
def Bf(X:Cx)(st:List Stmt)(t:TS):Prop:=
 ∀(pins:List (Addr×Obj)) (s:Shared) (σ:St) (H:Hp) (D:lM),bw X pins σ H s->t D σ H->wpAny (model X.prog X.w) X.A (execs st X.env) (SP X pins D) X.xe s
theorem d4{α:Type}{t:Sem α}{Q Q':α->Shared->Prop}{M:Model}{A:Around}{E:Value->Shared->Prop}{s:Shared}(h:wpAny M A t Q E s)(hQ:∀a s,Q a s->Q' a s):wpAny M A t Q' E s:=wpAny_mono h hQ λ_ _ x=>x
section
variable{X:Cx}
def av(i:Nat):TE:=λσ H Q=>∃v,σ[i]?=some (some v)/\Q v H
def tC(v:V):TE:=λ_ H Q=>Q v H
theorem LA{i:Nat}{x:Str}{pos:Pos}(hN:X.N[i]?=some x)(hv:Np X.env.scope x)(hd:(x==("__debug__":Str))=false:=by decide)(hcd:(x==("__classdict__":Str))=false:=by decide):PE X (.Name x pos) (av i):=by
 intro pins s σ H Q I h
 obtain⟨v,e,h⟩:=h
 obtain⟨m,hn,hl⟩:=I.loc
 obtain⟨u,r,l⟩:=hl i x v hN e hv
 have fin:EP X pins σ Q u s:=⟨v,H,I,r,h⟩
 rcases l with⟨hk,hm⟩|⟨hk,c,hc,hcell⟩
 ·exact wpAny_Name (wpAny_loadName_local I.ok.kind hk hn hm fin) hd
 ·rcases hk with hk|hk
  ·exact wpAny_Name (wpAny_loadName_cell I.ok.kind hk hc hcell fin) hd
  ·exact wpAny_Name (wpAny_loadName_free I.ok.kind hk hc hcell fin hcd) hd
theorem Lu{i j pos}:PE X (.Constant (.int i) j pos) (tC (.int i)):=λ_ _ _ H _ I h=>wpAny_Constant_int ⟨.int i,H,I.tok _,⟨_,rfl⟩,h⟩
theorem MN{b j pos}:PE X (.Constant (.bool b) j pos) (tC (.bl b)):=λ_ _ _ H _ I h=>Constant_bool ⟨.bl b,H,I,rfl,h⟩
theorem Lw{j pos}:PE X (.Constant .none j pos) (tC .non):=λ_ _ _ H _ I h=>Constant_none ⟨.non,H,I,rfl,h⟩
theorem Ly{x j pos}:PE X (.Constant (.str x) j pos) (tC (.str x)):=λ_ _ _ H _ I h=>Calls.Constant_str ⟨.str x,H,I.tok _,⟨_,rfl⟩,h⟩
def Gl(X:Cx)(x:Str):Prop:=X.env.kindOf x=some .globalImplicit
theorem Jl{E:Value->Shared->Prop}{pins:List (Addr×Obj)}{s:Shared}{σ:St}{H:Hp}{x:Str}{u:Value}{pos:Pos}{Q:Value->Shared->Prop}(I:bw X pins σ H s)(hg:Gl X x)(hm:X.mg x=some u)(h:Q u s)
  (hd:(x==("__debug__":Str))=false:=by decide):wpAny (model X.prog X.w) X.A (eval (.Name x pos) X.env) Q E s:=
 Calls.Name_function_global I.ok.kind hg (Calls.loadGlobal_global (by rw[I.ok.glob];exact I.mod.glob.keeps I.bk) hm h) hd
theorem iq{E:Value->Shared->Prop}{pins:List (Addr×Obj)}{s:Shared}{σ:St}{H:Hp}{x:Str}{u:Value}{pos:Pos}{Q:Value->Shared->Prop}(I:bw X pins σ H s)(hg:Gl X x)(hm:X.mg x=none)(hv:bootBuiltins x=some u)(h:Q u s)
  (hn:x≠"__name__":=by decide) (hd:(x==("__debug__":Str))=false:=by decide):wpAny (model X.prog X.w) X.A (eval (.Name x pos) X.env) Q E s:=by
 obtain⟨mb,h1,h2⟩:=I.mod.blt
 exact Calls.Name_function_global I.ok.kind hg (Calls.loadGlobal_builtin (by rw[I.ok.glob];exact I.mod.glob.keeps I.bk) hm (by rw[I.ok.blt];exact h1.keeps I.bk) ((h2 x hn).trans hv) h) hd
theorem Jx{x:Str}{v:V}{u:Value}{pos:Pos}(hg:Gl X x)(hm:X.mg x=none)(hv:bootBuiltins x=some u)(r:cg v u)(hn:x≠"__name__":=by decide)(hd:(x==("__debug__":Str))=false:=by decide):PE X (.Name x pos) (tC v):=
 λ_ _ _ H _ I h=>iq I hg hm hv ⟨v,H,I,r,h⟩ hn hd
variable{a b:Expr}{ta tb:TE}{pos:Pos}
def tB(t:TE):TT:=λσ H Q=>t σ H λx H1=>∃c,x=.bl c/\Q c H1
theorem LL{e:Expr}{t:TE}(h:PE X e t)(he:∀whole,isTrue e X.env whole=(do let v <-whole;standAt e.pos;holding [v] (truthy v)):=by intro _;rfl):PT X e (tB t):=by
 intro pins s σ H Q I hw
 refine isTrue_plain (d4 (h pins s σ H _ I hw) λv s1 ⟨x,H1,I1,r1,q1⟩=>?_) (he _)
 obtain⟨d,rfl,q⟩:=q1
 cases r1
 exact wpAny_truthy_bool ⟨H1,I1,q⟩
variable{tA tB':TT}{rest:List Expr}
def Ct(t u:TT):TT:=λσ H Q=>t σ H λc H1=>if c=true then u σ H1 Q else Q false H1
def L7(t u:TT):TT:=λσ H Q=>t σ H λc H1=>if c=true then Q true H1 else u σ H1 Q
def yw(t:TT):TT:=λσ H Q=>t σ H λc H1=>Q (!c) H1
theorem JT(ha:PT X a tA):PW X (.BoolOp .And [a] pos) tA:=by
 intro wh pins s σ H Q I h
 refine isTrue_and (d4 (ha pins s σ H Q I h) λc s1 e=>?_)
 cases c with
 |true=>exact isTrue_and_nil e
 |false=>exact e
theorem LO(ha:PT X a tA):PW X (.BoolOp .Or [a] pos) tA:=by
 intro wh pins s σ H Q I h
 refine isTrue_or (d4 (ha pins s σ H Q I h) λc s1 e=>?_)
 cases c with
 |false=>exact isTrue_or_nil e
 |true=>exact e
theorem LN(ha:PT X a tA)(hb:PW X (.BoolOp .And (b::rest) pos) tB'):PW X (.BoolOp .And (a::b::rest) pos) (Ct tA tB'):=by
 intro wh pins s σ H Q I h
 refine isTrue_and (d4 (ha pins s σ H _ I h) λc s1 ⟨H1,I1,q1⟩=>?_)
 cases c with
 |true=>exact hb wh pins s1 σ H1 Q I1 q1
 |false=>exact⟨H1,I1,q1⟩
theorem MV(ha:PT X a tA)(hb:PW X (.BoolOp .Or (b::rest) pos) tB'):PW X (.BoolOp .Or (a::b::rest) pos) (L7 tA tB'):=by
 intro wh pins s σ H Q I h
 refine isTrue_or (d4 (ha pins s σ H _ I h) λc s1 ⟨H1,I1,q1⟩=>?_)
 cases c with
 |true=>exact⟨H1,I1,q1⟩
 |false=>exact hb wh pins s1 σ H1 Q I1 q1
theorem LK(ha:PT X a tA):PT X (.UnaryOp .Not a pos) (yw tA):=by
 intro pins s σ H Q I h
 exact isTrue_not (ha pins s σ H (λc H1=>Q (!c) H1) I h)
def HM(ta tb:TE):TE:=λσ H Q=>ta σ H λx H1=>∃c,x=.bl c/\if c=true then tb σ H1 Q else Q (.bl false) H1
def L8(ta tb:TE):TE:=λσ H Q=>ta σ H λx H1=>∃c,x=.bl c/\if c=true then Q (.bl true) H1 else tb σ H1 Q
theorem Lx{op}{t:TE}(h:PE X a t):PE X (.BoolOp op [a] pos) t:=λpins s σ H Q I hw=>BoolOp_one (h pins s σ H Q I hw)
theorem Lr(ha:PE X a ta)(hb:PE X (.BoolOp .And (b::rest) pos) tb):PE X (.BoolOp .And (a::b::rest) pos) (HM ta tb):=by
 intro pins s σ H Q I h
 refine BoolOp_and (d4 (ha pins s σ H _ I h) λv s1 ⟨x,H1,I1,r1,q1⟩=>?_)
 obtain⟨c,rfl,q1⟩:=q1
 cases r1
 refine wpAny_truthy_bool ?_
 cases c with
 |true=>exact hb pins s1 σ H1 Q I1 q1
 |false=>exact⟨.bl false,H1,I1,rfl,q1⟩
theorem MS(ha:PE X a ta)(hb:PE X (.BoolOp .Or (b::rest) pos) tb):PE X (.BoolOp .Or (a::b::rest) pos) (L8 ta tb):=by
 intro pins s σ H Q I h
 refine BoolOp_or (d4 (ha pins s σ H _ I h) λv s1 ⟨x,H1,I1,r1,q1⟩=>?_)
 obtain⟨c,rfl,q1⟩:=q1
 cases r1
 refine wpAny_truthy_bool ?_
 cases c with
 |false=>exact hb pins s1 σ H1 Q I1 q1
 |true=>exact⟨.bl true,H1,I1,rfl,q1⟩
def Nq(t:TT)(ta tb:TE):TE:=λσ H Q=>t σ H λc H1=>if c=true then ta σ H1 Q else tb σ H1 Q
theorem GK{c:Expr}(hc:PT X c tA)(ha:PE X a ta)(hb:PE X b tb):PE X (.IfExp c a b pos) (Nq tA ta tb):=by
 intro pins s σ H Q I h
 refine wpAny_IfExp (d4 (hc pins s σ H _ I h) λd s1 ⟨H1,I1,q1⟩=>?_)
 cases d with
 |true=>exact ha pins s1 σ H1 Q I1 q1
 |false=>exact hb pins s1 σ H1 Q I1 q1
end
def cx(K:Fg)(H:Hp)(a:Addr)(xs:List V):Prop:=
 Rd H a (.lst xs)\/
  ∃(o:Obj) (its:Array Value) (n:Nat),K.lookup a=some o/\o.cls=.type "list"/\o.dict=none/\o.data=.seq its n/\its.size<=sizeLine/\bX xs its.toList
def cz(K:Fg)(H:Hp)(a:Addr)(xs:List V):Prop:=
 Rd H a (.tup xs)\/
  ∃(o:Obj) (its:Array Value) (n:Nat),K.lookup a=some o/\o.cls=.type "tuple"/\o.data=.seq its n/\its.size<=sizeLine/\bX xs its.toList
def Nz:Value->Option V
 |.none=>some .non
 |.bool b=>some (.bl b)
 |.int i _=>some (.int i)
 |.str x _=>some (.str x)
 |.bytes b _=>some (.byt b)
 |.float b _=>some (.flt b)
 |.ref a=>some (.ref a)
 |.type n=>some (.ty n)
 |_=>none
theorem cg.abs{x:V}{u:Value}(r:cg x u):Nz u=some x:=by
 cases x with
 |non=>cases r;rfl
 |bl _=>cases r;rfl
 |int _=>obtain⟨t,rfl⟩:=r;rfl
 |str _=>obtain⟨t,rfl⟩:=r;rfl
 |byt _=>obtain⟨t,rfl⟩:=r;rfl
 |flt _=>obtain⟨t,rfl⟩:=r;rfl
 |ref _=>cases r;rfl
 |ty _=>cases r;rfl
theorem cg.inj{x y:V}{u:Value}(r:cg x u)(q:cg y u):x=y:=Option.some.inj (r.abs.symm.trans q.abs)
theorem bX.inj:∀{xs ys:List V} {us:List Value},bX xs us->bX ys us->xs=ys
 |_,_,_,.nil,.nil=>rfl
 |_,_,_,.cons r t,.cons r' t'=>by rw[r.inj r',bX.inj t t']
section
variable{X:Cx}{pins:List (Addr×Obj)}{σ:St}{H:Hp}{s:Shared}{a:Addr}{xs ys:List V}
theorem cx.of{K:Fg}(h:H a=some (.lst xs)):cx K H a xs:=.inl (.inl h)
theorem cz.of{K:Fg}(h:H a=some (.tup xs)):cz K H a xs:=.inl (.inl h)
theorem bw.list(I:bw X pins σ H s)(h:cx X.K H a xs):∃its:List Value,bX xs its/\PlainL s.heap a its.toArray/\xs.length<=sizeLine:=by
 rcases h with h|⟨o,its,n,hk,hc,hd,hs,hz,r⟩
 ·obtain⟨z,its,n,r,e⟩:=h.ok I.hok
  exact⟨its,r,⟨_,n,e,rfl,rfl,rfl⟩,z⟩
 ·refine⟨its.toList,r,⟨o,n,I.kIn a o hk,hc,hd,by simpa using hs⟩,?_⟩
  have e:=r.length
  simp only[bE] at e
  lia
theorem bw.tuple(I:bw X pins σ H s)(h:cz X.K H a xs):∃its:List Value,bX xs its/\IsTup s.heap a its.toArray/\xs.length<=sizeLine:=by
 rcases h with h|⟨o,its,n,hk,hc,hs,hz,r⟩
 ·obtain⟨z,its,r,p⟩:=h.ok I.hok
  exact⟨its,r,p.tup,z⟩
 ·refine⟨its.toList,r,⟨o,I.kIn a o hk,hc,n,by simpa using hs⟩,?_⟩
  have e:=r.length
  simp only[bE] at e
  lia
theorem bw.list_inj(I:bw X pins σ H s)(h:cx X.K H a xs)(h':cx X.K H a ys):xs=ys:=by
 obtain⟨its,r,⟨o,n,e,_,_,d⟩,_⟩:=I.list h
 obtain⟨its',r',⟨o',n',e',_,_,d'⟩,_⟩:=I.list h'
 rw[e] at e';cases e'
 rw[d] at d'
 injection d' with d1 _
 have:its=its':=by simpa using congrArg pA d1
 subst this
 exact r.inj r'
theorem bw.tuple_inj(I:bw X pins σ H s)(h:cz X.K H a xs)(h':cz X.K H a ys):xs=ys:=by
 obtain⟨its,r,⟨o,e,_,n,d⟩,_⟩:=I.tuple h
 obtain⟨its',r',⟨o',e',_,n',d'⟩,_⟩:=I.tuple h'
 rw[e] at e';cases e'
 rw[d] at d'
 injection d' with d1 _
 have:its=its':=by simpa using congrArg pA d1
 subst this
 exact r.inj r'
end
abbrev Cx.wish(X:Cx)(E:Value->Shared->Prop):Cx:={X with xe:=E}
abbrev Cx.nox(X:Cx):Cx:=X.wish λ_ _=>False
theorem Cx.Ok.wish{X:Cx}(ok:X.Ok)(E:Value->Shared->Prop):(X.wish E).Ok:=
 ⟨ok.mod,ok.kind,ok.glob,ok.blt,ok.above,ok.inj,ok.has,ok.cab,ok.hd,ok.frames,ok.stk,ok.exf,ok.bs,ok.bsz,ok.noex,ok.exfs,ok.funs,ok.frf⟩
theorem Cx.Ok.unwish{X:Cx}{E:Value->Shared->Prop}(ok:(X.wish E).Ok):X.Ok:=
 ⟨ok.mod,ok.kind,ok.glob,ok.blt,ok.above,ok.inj,ok.has,ok.cab,ok.hd,ok.frames,ok.stk,ok.exf,ok.bs,ok.bsz,ok.noex,ok.exfs,ok.funs,ok.frf⟩
section
variable{X:Cx}{pins:List (Addr×Obj)}{σ:St}{H:Hp}{s:Shared}{E:Value->Shared->Prop}
theorem bw.wish(I:bw X pins σ H s)(E:Value->Shared->Prop):bw (X.wish E) pins σ H s:=⟨I.ok.wish E,I.os,I.bare,I.base,I.loc,I.cell,I.free,I.freeC,I.pin,I.hok,I.len⟩
theorem bw.unwish(I:bw (X.wish E) pins σ H s):bw X pins σ H s:=⟨I.ok.unwish,I.os,I.bare,I.base,I.loc,I.cell,I.free,I.freeC,I.pin,I.hok,I.len⟩
theorem SP.unwish{D:lM}{f:Flow}{s':Shared}(h:SP (X.wish E) pins D f s'):SP X pins D f s':=by
 cases f with
 |next=>obtain⟨σ',H',I,q⟩:=h;exact⟨σ',H',I.unwish,q⟩
 |brk=>obtain⟨σ',H',I,q⟩:=h;exact⟨σ',H',I.unwish,q⟩
 |cont=>obtain⟨σ',H',I,q⟩:=h;exact⟨σ',H',I.unwish,q⟩
 |ret u=>obtain⟨v,σ',H',I,r,q⟩:=h;exact⟨v,σ',H',I.unwish,r,q⟩
theorem Bf.nox{st:List Stmt}{t:TS}(h:Bf X.nox st t):Bf X st t:=λpins s σ H D I hw=>
 wpAny_mono (h pins s σ H D (I.wish _) hw) (λ_ _ q=>q.unwish) λ_ _ z=>False.elim z
end
section
variable{X:Cx}{st:Stmt}{rest:List Stmt}{t u:TS}{e:Expr}{te:TE}{pos:Pos}
def eE:TS:=λD σ H=>D.nx σ H
def bx(t u:TS):TS:=λD σ H=>t {D with nx:=u D} σ H
theorem JQ:Bf X [] eE:=λ_ _ σ H _ I h=>wpAny_execs_nil ⟨σ,H,I,h⟩
theorem GR(h1:PS X st t)(h2:Bf X rest u):Bf X (st::rest) (bx t u):=by
 intro pins s σ H D I h
 refine wpAny_execs_cons (d4 (h1 pins s σ H {D with nx:=u D} I h) λf s1 q=>?_)
 cases f with
 |next=>
  obtain⟨σ',H',I',q⟩:=q
  exact h2 pins s1 σ' H' D I' q
 |ret v=>exact q
 |brk=>exact q
 |cont=>exact q
theorem JR(h1:PS X st t):Bf X [st] t:=by
 intro pins s σ H D I h
 refine wpAny_execs_cons (d4 (h1 pins s σ H D I h) λf s1 q=>?_)
 cases f with
 |next=>exact wpAny_execs_nil q
 |ret v=>exact q
 |brk=>exact q
 |cont=>exact q
theorem bw.quiet{pins:List (Addr×Obj)}{σ:St}{H:Hp}{s:Shared}(I:bw X pins σ H s):interactive X.env=false:=by simp[interactive,I.ok.kind]
def gn(te:TE):TS:=λD σ H=>te σ H λ_ H1=>D.nx σ H1
theorem JP(he:PE X e te)(hs:swapsWith e none pos.line X.env=pure false:=by rfl):PS X (.Expr e pos) (gn te):=by
 intro pins s σ H D I h
 exact wpAny_Expr_any (d4 (he pins s σ H _ I h) λv s1 ⟨x,H1,I1,r1,q1⟩=>⟨σ,H1,I1,q1⟩) I.quiet hs
def de(te:TE):TS:=λD σ H=>te σ H D.rt
theorem LI(he:PE X e te):PS X (.Return (some e) pos) (de te):=by
 intro pins s σ H D I h
 exact wpAny_Return_some (d4 (he pins s σ H _ I h) λv s1 ⟨x,H1,I1,r1,q1⟩=>⟨x,σ,H1,I1,r1,q1⟩)
def gu(c:TT)(t u:TS):TS:=λD σ H=>c σ H λb H1=>if b=true then t D σ H1 else u D σ H1
theorem MU{c:Expr}{a b:List Stmt}{tc:TT}(hc:PT X c tc)(ha:Bf X a t)(hb:Bf X b u):PS X (.If c a b pos) (gu tc t u):=by
 intro pins s σ H D I h
 refine wpAny_If (d4 (hc pins s σ H _ I h) λd s1 ⟨H1,I1,q1⟩=>?_)
 cases d with
 |true=>exact ha pins s1 σ H1 D I1 q1
 |false=>exact hb pins s1 σ H1 D I1 q1
end
abbrev TG:=V->St->Hp->(St->Hp->Prop)->Prop
abbrev D8:=List V->St->Hp->(St->Hp->Prop)->Prop
def PG(X:Cx)(target:Expr)(t:TG):Prop:=
 ∀(pins:List (Addr×Obj)) (s:Shared) (σ:St) (H:Hp) (v:V) (u:Value) (Q:St->Hp->Prop),bw X pins σ H s->cg v u->t v σ H Q->
  wpAny (model X.prog X.w) X.A (assign target X.env u) (λ_ s'=>∃σ' H',bw X pins σ' H' s'/\Q σ' H') X.xe s
def Mc(X:Cx)(ts:List Expr)(t:D8):Prop:=
 ∀(pins:List (Addr×Obj)) (s:Shared) (σ:St) (H:Hp) (vs:List V) (us:List Value) (Q:St->Hp->Prop),bw X pins σ H s->bX vs us->t vs σ H Q->
  wpAny (model X.prog X.w) X.A (assignInOrder ((assignEach ts X.env).map (·.2)) us) (λ_ s'=>∃σ' H',bw X pins σ' H' s'/\Q σ' H') X.xe s
abbrev IM:=V->V->V->Hp->(Hp->Prop)->Prop
def Fx(X:Cx)(t:IM):Prop:=
 ∀(pins:List (Addr×Obj)) (s:Shared) (σ:St) (H:Hp) (o i v:V) (ov iv u:Value) (Q:Hp->Prop),bw X pins σ H s->cg o ov->cg i iv->cg v u->t o i v H Q->
  wpAny (model X.prog X.w) X.A (setItem ov iv u) (λ_ s'=>∃H',bw X pins σ H' s'/\Q H') X.xe s
section
variable{X:Cx}{pos:Pos}
def aR(i:Nat):TG:=λv σ H Q=>Q (σ.set i (some v)) H
theorem JC{i:Nat}{x:Str}(hN:X.N.Nodup)(hi:X.N[i]?=some x)(hx:Fm X.env.scope x)(hf:X.fn x=true\/X.env.scope.names.lookup x=some .local:=by first|exact .inl rfl|exact .inr rfl|assumption):PG X (.Name x pos) (aR i):=by
 intro pins s σ H v u Q I r h
 exact wpAny_assign_Name (Aq I hN hi hx r (λs' I'=>⟨_,H,I',h⟩) hf)
def pT:D8:=λvs σ H Q=>vs=[]/\Q σ H
def eQ(t:TG)(u:D8):D8:=λvs σ H Q=>∃v r,vs=v::r/\t v σ H λσ' H'=>u r σ' H' Q
theorem JE:Mc X [] pT:=by
 intro pins s σ H vs us Q I r h
 obtain⟨e,h⟩:=h
 subst e
 cases r
 exact assignInOrder_nil ⟨σ,H,I,h⟩
theorem GM{e:Expr}{es:List Expr}{t:TG}{u:D8}(h1:PG X e t)(h2:Mc X es u)
  (hs:(assignEach (e::es) X.env).map (·.2)=assign e X.env::(assignEach es X.env).map (·.2):=by rfl):Mc X (e::es) (eQ t u):=by
 intro pins s σ H vs us Q I r h
 obtain⟨v,vr,e1,h⟩:=h
 subst e1
 cases r with
 |cons r rr=>
  rw[hs]
  refine assignInOrder_cons (d4 (h1 pins s σ H _ _ _ I r h) λ_ s1 ⟨σ1,H1,I1,q1⟩=>?_)
  exact h2 pins s1 σ1 H1 _ _ Q I1 rr q1
def qK(K:Fg)(n:Nat)(t:D8):TG:=λv σ H Q=>∃a xs,v=.ref a/\cz K H a xs/\xs.length=n/\t xs σ H Q
theorem LC{es:List Expr}{k:Nat}{t:D8}{n:Nat}(hc:X.calm=true)(h:Mc X es t)
  (hn:(assignEach es X.env).length=n:=by rfl) (hst:(assignEach es X.env).findIdx? (·.1)=none:=by rfl):PG X (.Tuple es k pos) (qK X.K n t):=by
 intro pins s σ H v u Q I r hw
 obtain⟨a,xs,e1,hq,hl,hw⟩:=hw
 subst e1
 cases r
 obtain⟨its,rv,ht,hz⟩:=I.tuple hq
 refine assign_Tuple_tuple (I.ok.hd hc) ht (by simp[hn,<-hl,rv.length]) hst λh' hx=>?_
 have I1:bw X pins σ H {s with heap:=h'}:=I.kept (t':=s.toks) λb o e=>hx b o (aN (aF e)) e
 exact h pins _ σ H xs _ Q I1 (by simpa using rv) hw
def xH(to ti:TE)(t:IM):TG:=λv σ H Q=>to σ H λo H1=>ti σ H1 λi H2=>t o i v H2 λH3=>Q σ H3
theorem LB{o i:Expr}{to ti:TE}{t:IM}(ho:PE X o to)(hi:PE X i ti)(hs:Fx X t)
  (ha:∀v,assign (.Subscript o i pos) X.env v=(do
   let ov <-holding [v] (eval o X.env)
   let iv <-holding [v,ov] (eval i X.env)
   standAt pos
   holding [v,ov,iv] (setItem ov iv v)
   release [v,ov,iv] []):=by intro _;rfl):PG X (.Subscript o i pos) (xH to ti t):=by
 intro pins s σ H v u Q I r h
 rw[ha]
 refine wpAny_bind (wpAny_holding (d4 (ho pins s σ H _ I h) λov s1 ⟨x,H1,I1,r1,q1⟩=>?_))
 refine wpAny_bind (wpAny_holding (d4 (hi pins s1 σ H1 _ I1 q1) λiv s2 ⟨y,H2,I2,r2,q2⟩=>?_))
 refine wpAny_bind (wpAny_standAt (wpAny_bind (wpAny_holding (d4 (hs pins s2 σ H2 x y v ov iv u _ I2 r1 r2 r q2) λ_ s3 ⟨H3,I3,q3⟩=>?_))))
 exact wpAny_release ⟨σ,H3,I3,q3⟩
def bT(te:TE)(g:TG):TS:=λD σ H=>te σ H λx H1=>g x σ H1 D.nx
theorem LG{tg e:Expr}{te:TE}{g:TG}(he:PE X e te)(hg:PG X tg g)(hs:swapsWithSole [tg] e pos.line X.env=pure false:=by rfl)(hw:swappedStores [tg] e X.env=pure none:=by rfl)
  (h1:(assignEach [tg] X.env).map (·.2)=[assign tg X.env]:=by rfl):PS X (.Assign [tg] e pos) (bT te g):=by
 intro pins s σ H D I h
 refine wpAny_Assign_stores (d4 (he pins s σ H _ I h) λv s1 ⟨x,H1,I1,r1,q1⟩=>?_) hs hw
 rw[h1]
 exact d4 (hg pins s1 σ H1 x v _ I1 r1 q1) λ_ s2 q=>q
theorem LJ{i:Nat}{x:Str}{e:Expr}{te:TE}{pos':Pos}(hN:X.N.Nodup)(hi:X.N[i]?=some x)(hx:Fm X.env.scope x)(he:PE X e te)(hs:swapsWith e (some (.Name x pos')) pos.line X.env=pure false:=by rfl)(hf:X.fn x=true\/X.env.scope.names.lookup x=some .local:=by first|exact .inl rfl|exact .inr rfl|assumption) :
  PS X (.Assign [.Name x pos'] e pos) (bT te (aR i)):=by
 intro pins s σ H D I h
 refine wpAny_Assign_Name (d4 (he pins s σ H _ I h) λv s1 ⟨y,H1,I1,r1,q1⟩=>?_) hs
 exact Aq I1 hN hi hx r1 (λs2 I2=>⟨_,H1,I2,q1⟩) hf
end
section
variable{X:Cx}{pos:Pos}
def mF(c:TT)(tb:TS):TS:=λD σ H=>∃W:Nat->St->Hp->Prop,(∃m,W m σ H)/\∀m σ H,W m σ H->
 c σ H λb H1=>if b=true then ∃N:St->Hp->Prop,(∀σ' H',N σ' H'->∃m',m'<m/\W m' σ' H')/\tb {D with nx:=N,ct:=N,bk:=D.nx} σ H1 else D.nx σ H1
theorem GQ{c:Expr}{body:List Stmt}{tc:TT}{tb:TS}(hp:PassesOwn (model X.prog X.w) X.A X.env X.xe)(hc:PT X c tc)(hb:Bf X body tb):PS X (.While c body [] pos) (mF tc tb):=by
 intro pins s σ H D I h
 obtain⟨W,⟨m0,w0⟩,turn⟩:=h
 refine wpAny_While (codeAny_whileLoop (λn s'=>∃σ' H',bw X pins σ' H' s'/\W n σ' H') ?_ m0 ⟨σ,H,I,w0⟩)
 rintro n s1 ⟨σ1,H1,I1,w1⟩
 refine wpAny_passesOwn hp (d4 (hc pins s1 σ1 H1 _ I1 (turn n σ1 H1 w1)) λb s2 ⟨H2,I2,q2⟩=>?_)
 cases b with
 |true=>
  obtain⟨N,hN,q2⟩:=q2
  rw[if_pos rfl]
  refine wpAny_passesOwn hp (d4 (hb pins s2 σ1 H2 _ I2 q2) λf s3 q3=>?_)
  cases f with
  |next=>
   obtain⟨σ3,H3,I3,n3⟩:=q3
   obtain⟨m',hm,w3⟩:=hN σ3 H3 n3
   exact⟨m',hm,σ3,H3,I3,w3⟩
  |cont=>
   obtain⟨σ3,H3,I3,n3⟩:=q3
   obtain⟨m',hm,w3⟩:=hN σ3 H3 n3
   exact⟨m',hm,σ3,H3,I3,w3⟩
  |brk=>exact q3
  |ret v=>exact q3
 |false=>
  rw[if_neg Bool.false_ne_true]
  exact wpAny_execs_nil ⟨σ1,H2,I2,q2⟩
end
structure It where
 go:Nat->Hp->Prop
 yld:Nat->Hp->V->Hp->Prop
 stop:Nat->Hp->Prop
def oC(X:Cx)(pins:List (Addr×Obj))(H:Hp)(b:Addr):Prop:=
 H b=none/\b≠X.env.locals/\b∉X.fs/\(b∈X.ex\/X.s₀.heap.objs.size<=b)/\(∀x c,X.env.cells.lookup x=some c->c≠b)/\∀p∈X.pn++pins,p.1≠b
theorem bw.fpOk{X:Cx}{pins:List (Addr×Obj)}{σ:St}{H H':Hp}{s:Shared}{b:Addr}(I:bw X pins σ H s)(hb:s.heap.objs.size<=b)(hn:H' b=none):oC X pins H' b:=by
 refine⟨hn,cR (bg I.lt hb),I.nofs hb,.inr (a7 I.sz hb),λx c e z=>?_,λp hp z=>?_⟩
 ·obtain⟨v,q⟩:=I.cell x c e
  exact absurd (bg q.lt (by rw[z];exact hb)) (cZ _)
 ·exact absurd (bg (aF (I.pin p hp).1) (by rw[z];exact hb)) (cZ _)
structure rT(P:Program)(w:World)(K:Fg)(tg:Expr)(J:It)(fp:List Addr)(it:Addr)(tn:Nat->Heap->Prop):Prop where
 mem:it∈fp
 obj:∀i h,tn i h->∀b∈fp,∃o,h.get? b=some o/\∀v,o.data≠.cell v
 keep:∀i h h',tn i h->(∀b∈fp,∀o,h.get? b=some o->h'.get? b=some o)->tn i h'
 item:∀(X:Cx),X.prog=P->X.w=w->X.K=K->X.calm=true->∀(i:Nat) (pins:List (Addr×Obj)) (s:Shared) (σ:St) (H:Hp) (E:Value->Shared->Prop),bw X pins σ H s->(∀b∈fp,oC X pins H b)->tn i s.heap->J.go i H->
  wpAny (model P w) X.A (pyNext (.ref it)) (λr s1=>∃u,r=some u/\
   wpAny (model P w) X.A (letOwnedTupleGo tg (.ref it) u) (λ_ s2=>∃x H',bw X pins σ H' s2/\cg x u/\J.yld i H x H'/\tn (i+1) s2.heap/\∀b∈fp,H' b=none) E s1) E s
 done:∀(X:Cx),X.prog=P->X.w=w->X.K=K->X.calm=true->∀(i:Nat) (pins:List (Addr×Obj)) (s:Shared) (σ:St) (H:Hp) (E:Value->Shared->Prop),bw X pins σ H s->(∀b∈fp,oC X pins H b)->tn i s.heap->J.stop i H->
  wpAny (model P w) X.A (pyNext (.ref it)) (λr s1=>r=none/\bw X pins σ H s1) E s
 self:∀(A:Around) (i:Nat) (s:Shared) (Q:Value->Shared->Prop) (E:Value->Shared->Prop),tn i s.heap->Q (.ref it) s->wpAny (model P w) A (pyIter (.ref it)) Q E s
abbrev TI:=St->Hp->(It->Hp->Prop)->Prop
def NI(X:Cx)(pins:List (Addr×Obj))(σ:St)(tg:Expr)(R:It->Hp->Prop)(itv:Value)(s2:Shared):Prop:=
 ∃(it:Addr) (fp:List Addr) (tn:Nat->Heap->Prop) (J:It) (H':Hp),itv=.ref it/\bw X pins σ H' s2/\rT X.prog X.w X.K tg J fp it tn/\tn 0 s2.heap/\(∀b∈fp,oC X pins H' b)/\R J H'
def PI(X:Cx)(tg iter:Expr)(wi:TI):Prop:=
 ∀(pins:List (Addr×Obj)) (s:Shared) (σ:St) (H:Hp) (R:It->Hp->Prop),bw X pins σ H s->wi σ H R->
  wpAny (model X.prog X.w) X.A (eval iter X.env) (λv s1=>wpAny (model X.prog X.w) X.A (pyIter v) (NI X pins σ tg R) X.xe s1) X.xe s
theorem v3{M:Model}{A:Around}{E:Value->Shared->Prop}{s:Shared}{tg:Expr}{it:Addr}{u:Value}{o:Obj}{n:String}{vs:Array Value}{Q:Unit->Shared->Prop}(ho:s.heap.get? it=some o)(hc:o.cls=.type n)(hd:o.data=.fields vs)
  (hn:["enumerate","zip","dict_itemiterator","dict_reverseitemiterator","odict_iterator","itertools.zip_longest","itertools.pairwise"].contains n=false) (hQ:Q () s):wpAny M A (letOwnedTupleGo tg (.ref it) u) Q E s:=by
 unfold letOwnedTupleGo
 cases tg<;>first
  |exact wpAny_pure hQ
  |(cases u<;>first
    |exact wpAny_pure hQ
    |(refine wpAny_bind (wpAny_load ho ?_)
      rw[hc,hd]
      show wpAny M A (if(["enumerate","zip","dict_itemiterator","dict_reverseitemiterator","odict_iterator","itertools.zip_longest","itertools.pairwise"].contains n&&vs[0]?==some (rawInt _))=true then _ else _) Q E s
      rw[if_neg (by intro h;rw[hn,Bool.false_and] at h;cases h)]
      exact wpAny_pure hQ))
def Kn(K:Fg)(a:Addr):It:=
 ⟨λi H=>∃xs x,cx K H a xs/\xs[i]?=some x,λi H x H'=>H'=H/\∀xs,cx K H a xs->xs[i]?=some x,λi H=>∃xs,cx K H a xs/\xs.length<=i⟩
def Ff(K:Fg)(a:Addr):It:=
 ⟨λi H=>∃xs x,cz K H a xs/\xs[i]?=some x,λi H x H'=>H'=H/\∀xs,cz K H a xs->xs[i]?=some x,λi H=>∃xs,cz K H a xs/\xs.length<=i⟩
def IB(lo:Int)(n:Nat):It:=⟨λi _=>i<n,λi H x H'=>H'=H/\x=.int (lo+i),λi _=>n<=i⟩
theorem EV{P:Program}{w:World}{K:Fg}{tg:Expr}(a it:Addr):rT P w K tg (Kn K a) [it] it (λi h=>h.IsListIter it a i) where
 mem:=by simp
 obj:=λi h st b hb=>by
  have e:b=it:=by simpa using hb
  subst e
  obtain⟨o,e,c,d⟩:=st
  exact⟨o,e,λv z=>by rw[d] at z;cases z⟩
 keep:=λi h h' st k=>st.at λo e=>k it (by simp) o e
 item:=by
  intro X hP hw hK hc i pins s σ H E I hf st hg
  subst hP hw hK
  obtain⟨xs,x,hq,hx⟩:=hg
  obtain⟨its,rv,p,hz⟩:=I.list hq
  obtain⟨u,hu,ru⟩:=rv.get hx
  obtain⟨f0,f1,f2,f3,f4,f5⟩:=hf it (by simp)
  refine wpAny_pyNext_list_item st p.isList (x:=u) (by simpa using hu) λh' st' sb=>?_
  have I1:bw X pins σ H {s with heap:=h'}:=I.turned (t':=s.toks) (λb o hb e=>(sb.2 b hb).trans e) f0 f1 f3 f4 f5
  obtain⟨o,e,c,d⟩:=id st'
  exact⟨u,rfl,v3 (s:={s with heap:=h'}) e c d (by decide) ⟨x,H,I1,ru,⟨rfl,λys hy=>by rw[I.list_inj hy hq];exact hx⟩,st',λb hb=>(hf b hb).1⟩⟩
 done:=by
  intro X hP hw hK hc i pins s σ H E I hf st hg
  subst hP hw hK
  obtain⟨xs,hq,hx⟩:=hg
  obtain⟨its,rv,p,hz⟩:=I.list hq
  obtain⟨f0,f1,f2,f3,f4,f5⟩:=hf it (by simp)
  have hl:=rv.length
  exact wpAny_pyNext_list_end (I.ok.hd hc) st p.isList (by simp;lia) λh' eb=>⟨rfl,I.turned (t':=s.toks) (λb o hb e=>eb b o hb e) f0 f1 f3 f4 f5⟩
 self:=λ_ _ _ _ _ st h=>wpAny_pyIter_listiter st h
theorem CJ{P:Program}{w:World}{K:Fg}{tg:Expr}(a it:Addr):rT P w K tg (Ff K a) [it] it (λi h=>h.IsTupleIter it a i) where
 mem:=by simp
 obj:=λi h st b hb=>by
  have e:b=it:=by simpa using hb
  subst e
  obtain⟨o,e,c,d⟩:=st
  exact⟨o,e,λv z=>by rw[d] at z;cases z⟩
 keep:=λi h h' st k=>st.at λo e=>k it (by simp) o e
 item:=by
  intro X hP hw hK hc i pins s σ H E I hf st hg
  subst hP hw hK
  obtain⟨xs,x,hq,hx⟩:=hg
  obtain⟨its,rv,p,hz⟩:=I.tuple hq
  obtain⟨u,hu,ru⟩:=rv.get hx
  obtain⟨f0,f1,f2,f3,f4,f5⟩:=hf it (by simp)
  refine wpAny_pyNext_tuple_item st (show s.heap.IsTuple a its.toArray from p) (x:=u) (by simpa using hu) λh' st' sb=>?_
  have I1:bw X pins σ H {s with heap:=h'}:=I.turned (t':=s.toks) (λb o hb e=>(sb.2 b hb).trans e) f0 f1 f3 f4 f5
  obtain⟨o,e,c,d⟩:=id st'
  exact⟨u,rfl,v3 (s:={s with heap:=h'}) e c d (by decide) ⟨x,H,I1,ru,⟨rfl,λys hy=>by rw[I.tuple_inj hy hq];exact hx⟩,st',λb hb=>(hf b hb).1⟩⟩
 done:=by
  intro X hP hw hK hc i pins s σ H E I hf st hg
  subst hP hw hK
  obtain⟨xs,hq,hx⟩:=hg
  obtain⟨its,rv,p,hz⟩:=I.tuple hq
  obtain⟨f0,f1,f2,f3,f4,f5⟩:=hf it (by simp)
  have hl:=rv.length
  exact wpAny_pyNext_tuple_end (I.ok.hd hc) st (show s.heap.IsTuple a its.toArray from p) (by simp;lia) λh' eb=>⟨rfl,I.turned (t':=s.toks) (λb o hb e=>eb b o hb e) f0 f1 f3 f4 f5⟩
 self:=λ_ _ _ _ _ st h=>wpAny_pyIter_tupleiter st h
theorem CI{P:Program}{w:World}{K:Fg}{tg:Expr}(it:Addr)(lo:Int)(n:Nat):rT P w K tg (IB lo n) [it] it (λi h=>IsRangeIter h it (lo+(i:Nat)*1) ((n:Int)-(i:Nat)) 1) where
 mem:=by simp
 obj:=λi h st b hb=>by
  have e:b=it:=by simpa using hb
  subst e
  exact⟨_,st,λv z=>by
   have z':Data.fields _=Data.cell v:=z
   cases z'⟩
 keep:=λi h h' st k=>k it (by simp) _ st
 item:=by
  intro X hP hw hK hc i pins s σ H E I hf st hg
  subst hP hw hK
  obtain⟨f0,f1,f2,f3,f4,f5⟩:=hf it (by simp)
  have W:=Walks.range (prog:=X.prog) (w:=X.w) (I.ok.hd hc) it lo 1 n
  refine W.item i s _ _ hg st λv h' tk hv st' kk=>?_
  obtain⟨t,rfl⟩:=hv
  have I1:bw X pins σ H {s with heap:=h',toks:=tk}:=I.turned (λb o hb e=>kk b o (by simpa using hb) e) f0 f1 f3 f4 f5
  refine⟨_,rfl,v3 (s:={s with heap:=h',toks:=tk}) (n:="range_iterator") st' rfl rfl (by decide) ⟨.int (lo+i),H,I1,⟨t,?_⟩,⟨rfl,rfl⟩,st',λb hb=>(hf b hb).1⟩⟩
  rw[Int.mul_one]
 done:=by
  intro X hP hw hK hc i pins s σ H E I hf st hg
  subst hP hw hK
  obtain⟨f0,f1,f2,f3,f4,f5⟩:=hf it (by simp)
  exact wpAny_pyNext_range_end (I.ok.hd hc) st (by have:n<=i:=hg;lia) λh' eb=>⟨rfl,I.turned (t':=s.toks) (λb o hb e=>eb b o hb e) f0 f1 f3 f4 f5⟩
 self:=λ_ _ _ _ _ st h=>wpAny_pyIter_rangeiter st h
section
variable{X:Cx}{tg:Expr}
def Kp(K:Fg)(tl:TE):TI:=λσ H R=>tl σ H λx H1=>∃a,x=.ref a/\(∃xs,cx K H1 a xs)/\R (Kn K a) H1
def MA(K:Fg)(tl:TE):TI:=λσ H R=>tl σ H λx H1=>∃a,x=.ref a/\(∃xs,cz K H1 a xs)/\R (Ff K a) H1
theorem JG{l:Expr}{tl:TE}(hl:PE X l tl):PI X tg l (Kp X.K tl):=by
 intro pins s σ H R I h
 refine d4 (hl pins s σ H _ I h) λv s1 ⟨x,H1,I1,r1,q1⟩=>?_
 obtain⟨a,e,⟨xs,hq⟩,q⟩:=q1
 subst e
 cases r1
 obtain⟨its,rv,p,hz⟩:=I1.list hq
 refine wpAny_pyIter_list p.isList ?_
 refine⟨s1.heap.objs.size,[s1.heap.objs.size],_,_,H1,rfl,I1.kept (t':=s1.toks) λb o e=>ag _ e,EV a _,⟨_,ax _ rfl,rfl,rfl⟩,λb hb=>?_,q⟩
 have e:b=s1.heap.objs.size:=by simpa using hb
 subst e
 exact I1.fpOk (ar _) (I1.hok.fresh (ar _))
theorem LF{l:Expr}{tl:TE}(hl:PE X l tl):PI X tg l (MA X.K tl):=by
 intro pins s σ H R I h
 refine d4 (hl pins s σ H _ I h) λv s1 ⟨x,H1,I1,r1,q1⟩=>?_
 obtain⟨a,e,⟨xs,hq⟩,q⟩:=q1
 subst e
 cases r1
 obtain⟨its,rv,p,hz⟩:=I1.tuple hq
 refine wpAny_pyIter_tuple (show s1.heap.IsTuple a its.toArray from p) ?_
 refine⟨s1.heap.objs.size,[s1.heap.objs.size],_,_,H1,rfl,I1.kept (t':=s1.toks) λb o e=>ag _ e,CJ a _,⟨_,ax _ rfl,rfl,rfl⟩,λb hb=>?_,q⟩
 have e:b=s1.heap.objs.size:=by simpa using hb
 subst e
 exact I1.fpOk (ar _) (I1.hok.fresh (ar _))
theorem Hq{pins:List (Addr×Obj)}{σ:St}{H:Hp}{s:Shared}{R:It->Hp->Prop}{E:Value->Shared->Prop}{lo hi:Int}{t u v:Tok}{tk:Nat}(I:bw X pins σ H s)(h1:-(2 ^ 62)<=lo)(h2:lo<2 ^ 62)(h3:-(2 ^ 62)<=hi)(h4:hi<2 ^ 62)
  (q:R (IB lo (hi-lo).toNat) H):wpAny (model X.prog X.w) X.A (pyIter (.ref s.heap.objs.size)) (NI X pins σ tg R) E {s with heap:=s.heap.push {cls:=.type "range",data:=.fields #[.int lo t,.int hi u,.int 1 v]},toks:=tk}:=by
 refine wpAny_pyIter_range (IsRange.new ..) (small_one h1 h2 h3 h4) ?_
 have I1:bw X pins σ H {s with heap:=s.heap.push {cls:=.type "range",data:=.fields #[.int lo t,.int hi u,.int 1 v]},toks:=tk}:=I.kept λb o e=>ag _ e
 refine⟨(s.heap.push {cls:=.type "range",data:=.fields #[.int lo t,.int hi u,.int 1 v]}).objs.size,[(s.heap.push {cls:=.type "range",data:=.fields #[.int lo t,.int hi u,.int 1 v]}).objs.size],_,_,H,rfl,
  I1.kept (t':=tk) λb o e=>ag _ e,CI _ lo (hi-lo).toNat,?_,λb hb=>?_,q⟩
 ·have e1:lo+((0:Nat):Int)*1=lo:=by simp
  have e2:(((hi-lo).toNat:Nat):Int)-((0:Nat):Int)=Builtin.Range.rangeSize lo hi 1:=by rw[rangeSize_one];split<;>lia
  show IsRangeIter _ _ (lo+((0:Nat):Int)*1) ((((hi-lo).toNat:Nat):Int)-((0:Nat):Int)) 1
  rw[e1,e2]
  exact ax _ rfl
 ·have e:b=(s.heap.push {cls:=.type "range",data:=.fields #[.int lo t,.int hi u,.int 1 v]}).objs.size:=by simpa using hb
  subst e
  exact I1.fpOk (ar _) (I1.hok.fresh (ar _))
def mi(ta:TA):TI:=λσ H R=>ta σ H λvs H1=>∃j:Int,vs=[.int j]/\-(2 ^ 62)<=j/\j<2 ^ 62/\R (IB 0 j.toNat) H1
theorem Eu{a:Expr}{ta:TA}{p pos:Pos}(hg:Gl X "range")(hm:X.mg "range"=none)(ha:PA X [a] ta)(hs:starEach [a] X.env=[(false,eval a X.env)]:=by rfl):PI X tg (.Call (.Name "range" p) [a] [] pos) (mi ta):=by
 intro pins s σ H R I h
 refine Call_ (iq I hg hm boot_range (br (d4 (ha pos pins s σ H _ I h) λus s1 ⟨vs,H1,I1,r1,q1⟩=>?_) hs rfl))
 obtain⟨j,e,q1,q2,q⟩:=q1
 subst e
 cases r1 with
 |cons r rr=>
  cases rr
  obtain⟨t,rfl⟩:=r
  exact call_range_1 (Hq I1 (by lia) (by lia) q1 q2 (by simpa using q))
def iT(wi:TI)(g:TG)(tb:TS):TS:=λD σ H=>wi σ H λJ H1=>∃W:Nat->Nat->St->Hp->Prop,(∃m,W 0 m σ H1)/\∀i m σ H,W i m σ H->
 (J.stop i H/\D.nx σ H)\/(J.go i H/\∃N:St->Hp->Prop,(∀σ' H',N σ' H'->∃m',m'<m/\W (i+1) m' σ' H')/\∀x H',J.yld i H x H'->g x σ H' λσ2 H2=>tb {D with nx:=N,ct:=N,bk:=D.nx} σ2 H2)
def tP(fp:List Addr)(h:Heap):List (Addr×Obj):=fp.filterMap λb=>(h.get? b).map λo=>(b,o)
theorem kK{fp:List Addr}{h:Heap}{b:Addr}{o:Obj}(hb:b∈fp)(e:h.get? b=some o):(b,o)∈tP fp h:=List.mem_filterMap.mpr ⟨b,hb,by rw[e];rfl⟩
theorem Es{fp:List Addr}{h:Heap}{p:Addr×Obj}(hp:p∈tP fp h):p.1∈fp/\h.get? p.1=some p.2:=by
 obtain⟨b,hb,e⟩:=List.mem_filterMap.mp hp
 cases q:h.get? b with
 |none=>rw[q] at e;cases e
 |some o=>
  rw[q] at e
  have e':(b,o)=p:=Option.some.inj e
  subst e'
  exact⟨hb,q⟩
theorem bw.pinned{pins:List (Addr×Obj)}{σ:St}{H:Hp}{s:Shared}{fp:List Addr}(I:bw X pins σ H s)(hf:∀b∈fp,oC X pins H b)(ho:∀b∈fp,∃o,s.heap.get? b=some o/\∀v,o.data≠.cell v):bw X (pins++tP fp s.heap) σ H s:=
 I.pins_of λp hp=>(aE.mp hp).elim (λz=>I.pin p (aW _ z)) λz=>by
  obtain⟨hb,e⟩:=Es z
  obtain⟨f0,f1,f2,_⟩:=hf p.1 hb
  obtain⟨o,e',d⟩:=ho p.1 hb
  rw[e] at e';cases e'
  exact⟨e,f0,f1,f2,d⟩
theorem bw.unpinned{pins pl:List (Addr×Obj)}{σ:St}{H:Hp}{s:Shared}(I:bw X (pins++pl) σ H s):bw X pins σ H s:=I.pins_of λp hp=>I.pin p (aW _ (bz _ hp))
theorem LH{iter:Expr}{body:List Stmt}{wi:TI}{g:TG}{tb:TS}{pos:Pos}(hp:PassesOwn (model X.prog X.w) X.A X.env X.xe)(hc:X.calm=true)(hi:PI X tg iter wi)(hg:PG X tg g)(hb:Bf X body tb)
  (hs:∀x,foldedSetIterable iter X.env x=pure x:=by intro _;rfl):PS X (.For tg iter body [] pos) (iT wi g tb):=by
 intro pins s σ H D I h
 refine wpAny_For (d4 (hi pins s σ H _ I h) λv s1 h1=>d4 h1 λitv s2 h2=>?_) hs
 obtain⟨it,fp,tn,J,H2,e,I2,T,st2,f2,W,⟨m0,w0⟩,turn⟩:=h2
 subst e
 have stat:∀{H':Hp},(∀b∈fp,H' b=none)->∀b∈fp,oC X pins H' b:=λhn b hb=>⟨hn b hb,(f2 b hb).2⟩
 refine codeAny_forLoop_any (λn s'=>∃i σ' H',bw X pins σ' H' s'/\tn i s'.heap/\(∀b∈fp,H' b=none)/\W i n σ' H') ?_ m0 ⟨0,σ,H2,I2,st2,λb hb=>(f2 b hb).1,w0⟩
 rintro n s3 ⟨i,σ3,H3,I3,st3,fr3,w3⟩
 rcases turn i n σ3 H3 w3 with⟨stop,qn⟩|⟨go,N,hN,step⟩
 ·refine wpAny_passesOwn hp (d4 (T.done X rfl rfl rfl hc i pins s3 σ3 H3 X.xe I3 (stat fr3) st3 stop) λr s4 ⟨hr,I4⟩=>?_)
  subst hr
  exact wpAny_execs_nil ⟨σ3,H3,I4,qn⟩
 ·refine wpAny_passesOwn hp (d4 (T.item X rfl rfl rfl hc i pins s3 σ3 H3 X.xe I3 (stat fr3) st3 go) λr s4 ⟨u,hr,h4⟩=>?_)
  subst hr
  refine wpAny_passesOwn hp (d4 h4 λ_ s5 ⟨x,H5,I5,r5,y5,st5,fr5⟩=>?_)
  have I5':=I5.pinned (stat fr5) (T.obj _ _ st5)
  refine wpAny_passesOwn hp (d4 (hg _ s5 σ3 H5 x u _ I5' r5 (step x H5 y5)) λ_ s6 ⟨σ6,H6,I6,q6⟩=>?_)
  refine wpAny_passesOwn hp (d4 (hb _ s6 σ6 H6 _ I6 q6) λf s7 q7=>?_)
  have again:∀{σ7:St} {H7:Hp},bw X (pins++tP fp s5.heap) σ7 H7 s7->N σ7 H7->∃m,m<n/\∃i σ' H',bw X pins σ' H' s7/\tn i s7.heap/\(∀b∈fp,H' b=none)/\W i m σ' H':=λ{σ7 H7} I7 n7=>by
   obtain⟨m',hm,w7⟩:=hN σ7 H7 n7
   refine⟨m',hm,i+1,σ7,H7,I7.unpinned,T.keep _ _ _ st5 λb hb o e=>(I7.pin (b,o) (aW _ (aW _ (kK hb e)))).1,λb hb=>?_,w7⟩
   obtain⟨o,e,d⟩:=T.obj _ _ st5 b hb
   exact(I7.pin (b,o) (aW _ (aW _ (kK hb e)))).2.1
  cases f with
  |next=>obtain⟨σ7,H7,I7,n7⟩:=q7;exact again I7 n7
  |cont=>obtain⟨σ7,H7,I7,n7⟩:=q7;exact again I7 n7
  |brk=>obtain⟨σ7,H7,I7,q7⟩:=q7;exact⟨σ7,H7,I7.unpinned,q7⟩
  |ret v=>obtain⟨x7,σ7,H7,I7,r7,q7⟩:=q7;exact⟨x7,σ7,H7,I7.unpinned,r7,q7⟩
end
theorem tF{K:Fg}{a:Addr}{xs:List V}{g:TG}{tb:TS}{D:lM}{σ:St}{H:Hp}(Pv:Nat->St->Hp->Prop)(h0:Pv 0 σ H)(hl:∀i σ H,i<=xs.length->Pv i σ H->cx K H a xs)
  (hs:∀i x σ H,xs[i]?=some x->Pv i σ H->g x σ H λσ2 H2=>tb {D with nx:=Pv (i+1),ct:=Pv (i+1),bk:=D.nx} σ2 H2) (hd:∀σ H,Pv xs.length σ H->D.nx σ H) :
  ∃W:Nat->Nat->St->Hp->Prop,(∃m,W 0 m σ H)/\∀i m σ H,W i m σ H->
   ((Kn K a).stop i H/\D.nx σ H)\/((Kn K a).go i H/\∃N:St->Hp->Prop,(∀σ' H',N σ' H'->∃m',m'<m/\W (i+1) m' σ' H')/\∀x H',(Kn K a).yld i H x H'->g x σ H' λσ2 H2=>tb {D with nx:=N,ct:=N,bk:=D.nx} σ2 H2):=by
 refine⟨λi m σ H=>m=xs.length-i/\i<=xs.length/\Pv i σ H,⟨xs.length,by simp,bq _,h0⟩,?_⟩
 rintro i m σ H ⟨rfl,hi,p⟩
 have q:=hl i σ H hi p
 by_cases hlt:i<xs.length
 ·refine .inr ⟨⟨xs,xs[i],q,by simp[hlt]⟩,Pv (i+1),λσ' H' p'=>⟨xs.length-(i+1),by lia,rfl,hlt,p'⟩,λx H' y=>?_⟩
  obtain⟨e,y⟩:=y
  subst e
  exact hs i x σ _ (y xs q) p
 ·have e:i=xs.length:=by lia
  subst e
  exact .inl ⟨⟨xs,q,ar _⟩,hd σ H p⟩
theorem mR{K:Fg}{a:Addr}{xs:List V}{g:TG}{tb:TS}{D:lM}{σ:St}{H:Hp}(Pv:Nat->St->Hp->Prop)(h0:Pv 0 σ H)(hl:∀i σ H,i<=xs.length->Pv i σ H->cz K H a xs)
  (hs:∀i x σ H,xs[i]?=some x->Pv i σ H->g x σ H λσ2 H2=>tb {D with nx:=Pv (i+1),ct:=Pv (i+1),bk:=D.nx} σ2 H2) (hd:∀σ H,Pv xs.length σ H->D.nx σ H) :
  ∃W:Nat->Nat->St->Hp->Prop,(∃m,W 0 m σ H)/\∀i m σ H,W i m σ H->
   ((Ff K a).stop i H/\D.nx σ H)\/((Ff K a).go i H/\∃N:St->Hp->Prop,(∀σ' H',N σ' H'->∃m',m'<m/\W (i+1) m' σ' H')/\∀x H',(Ff K a).yld i H x H'->g x σ H' λσ2 H2=>tb {D with nx:=N,ct:=N,bk:=D.nx} σ2 H2):=by
 refine⟨λi m σ H=>m=xs.length-i/\i<=xs.length/\Pv i σ H,⟨xs.length,by simp,bq _,h0⟩,?_⟩
 rintro i m σ H ⟨rfl,hi,p⟩
 have q:=hl i σ H hi p
 by_cases hlt:i<xs.length
 ·refine .inr ⟨⟨xs,xs[i],q,by simp[hlt]⟩,Pv (i+1),λσ' H' p'=>⟨xs.length-(i+1),by lia,rfl,hlt,p'⟩,λx H' y=>?_⟩
  obtain⟨e,y⟩:=y
  subst e
  exact hs i x σ _ (y xs q) p
 ·have e:i=xs.length:=by lia
  subst e
  exact .inl ⟨⟨xs,q,ar _⟩,hd σ H p⟩
theorem ig{lo:Int}{n:Nat}{g:TG}{tb:TS}{D:lM}{σ:St}{H:Hp}(Pv:Nat->St->Hp->Prop)(h0:Pv 0 σ H)
  (hs:∀i σ H,i<n->Pv i σ H->g (.int (lo+i)) σ H λσ2 H2=>tb {D with nx:=Pv (i+1),ct:=Pv (i+1),bk:=D.nx} σ2 H2) (hd:∀σ H,Pv n σ H->D.nx σ H) :
  ∃W:Nat->Nat->St->Hp->Prop,(∃m,W 0 m σ H)/\∀i m σ H,W i m σ H->
   ((IB lo n).stop i H/\D.nx σ H)\/((IB lo n).go i H/\∃N:St->Hp->Prop,(∀σ' H',N σ' H'->∃m',m'<m/\W (i+1) m' σ' H')/\∀x H',(IB lo n).yld i H x H'->g x σ H' λσ2 H2=>tb {D with nx:=N,ct:=N,bk:=D.nx} σ2 H2):=by
 refine⟨λi m σ H=>m=n-i/\i<=n/\Pv i σ H,⟨n,by simp,bq _,h0⟩,?_⟩
 rintro i m σ H ⟨rfl,hi,p⟩
 by_cases hlt:i<n
 ·refine .inr ⟨hlt,Pv (i+1),λσ' H' p'=>⟨n-(i+1),by lia,rfl,hlt,p'⟩,λx H' y=>?_⟩
  obtain⟨e,y⟩:=y
  subst e y
  exact hs i σ _ hlt p
 ·have e:i=n:=by lia
  subst e
  exact .inl ⟨ar _,hd σ H p⟩
abbrev R2:=V->V->Hp->VK->Prop
def iY(X:Cx)(f:Value->Value->Sem Value)(r:R2):Prop:=
 ∀(pins:List (Addr×Obj)) (s:Shared) (σ:St) (H:Hp) (x y:V) (v u:Value) (Q:VK),bw X pins σ H s->cg x v->cg y u->r x y H Q->
  wpAny (model X.prog X.w) X.A (f v u) (EP X pins σ Q) X.xe s
def Nn(X:Cx)(f:Value->Sem Value)(r:V->Hp->VK->Prop):Prop:=
 ∀(pins:List (Addr×Obj)) (s:Shared) (σ:St) (H:Hp) (x:V) (v:Value) (Q:VK),bw X pins σ H s->cg x v->r x H Q->
  wpAny (model X.prog X.w) X.A (f v) (EP X pins σ Q) X.xe s
def g8(X:Cx)(f:Value)(r:List V->Hp->VK->Prop):Prop:=
 ∀(pins:List (Addr×Obj)) (s:Shared) (σ:St) (H:Hp) (xs:List V) (us:List Value) (Q:VK),bw X pins σ H s->bX xs us->r xs H Q->
  wpAny (model X.prog X.w) X.A (call f us) (EP X pins σ Q) X.xe s
def bO(r:R2)(ta tb:TE):TE:=λσ H Q=>ta σ H λx H1=>tb σ H1 λy H2=>r x y H2 Q
def As(r:V->Hp->VK->Prop)(ta:TE):TE:=λσ H Q=>ta σ H λx H1=>r x H1 Q
def rI(C:Int->Int->Prop)(g:Int->Int->V):R2:=λx y H Q=>∃i j,x=.int i/\y=.int j/\C i j/\Q (g i j) H
def E4(g:Int->Int->V):R2:=λx y H Q=>∃i j,x=.int i/\y=.int j/\Q (g i j) H
def rU(g:Int->V):V->Hp->VK->Prop:=λx H Q=>∃i,x=.int i/\Q (g i) H
section
variable{X:Cx}{a b c:Expr}{ta tb tc:TE}{pos:Pos}
theorem KO(ha:PE X a ta)(hb:PE X b tb){pins:List (Addr×Obj)}{s:Shared}{σ:St}{H:Hp}{R:V->V->Hp->Prop}(I:bw X pins σ H s)
  (h:ta σ H λx H1=>tb σ H1 λy H2=>R x y H2) {Q:Value->Shared->Prop} {f:Value->Value->Sem Value}
  (hf:∀v u s2 x y H2,bw X pins σ H2 s2->cg x v->cg y u->R x y H2->wpAny (model X.prog X.w) X.A (f v u) Q X.xe s2) :
  wpAny (model X.prog X.w) X.A (eval a X.env) (λv s₁=>wpAny (model X.prog X.w) X.A (eval b X.env) (λu s₂=>wpAny (model X.prog X.w) X.A (f v u) Q X.xe s₂) X.xe s₁) X.xe s:=by
 refine d4 (ha pins s σ H _ I h) λv s1 ⟨x,H1,I1,r1,q1⟩=>?_
 refine d4 (hb pins s1 σ H1 _ I1 q1) λu s2 ⟨y,H2,I2,r2,q2⟩=>?_
 exact hf v u s2 x y H2 I2 r1 r2 q2
theorem MR{op:Operator}{r:R2}(ho:iY X (binaryOp op) r)(ha:PE X a ta)(hb:PE X b tb):PE X (.BinOp a op b pos) (bO r ta tb):=by
 intro pins s σ H Q I h
 exact wpAny_BinOp (KO ha hb I h λv u s2 x y H2 I2 rx ry q=>ho pins s2 σ H2 x y v u Q I2 rx ry q)
theorem MT{op:UnaryOp}{r:V->Hp->VK->Prop}(ho:Nn X (unaryOp op) r)(ha:PE X a ta):PE X (.UnaryOp op a pos) (As r ta):=by
 intro pins s σ H Q I h
 exact UnaryOp_ (d4 (ha pins s σ H _ I h) λv s1 ⟨x,H1,I1,r1,q1⟩=>ho pins s1 σ H1 x v Q I1 r1 q1)
theorem NC{f:Value->Value->Sem Value}{C:Int->Int->Prop}{g:Int->Int->Int}
  (rule:∀(i j:Int) (t u:Tok) (s:Shared) (Q:Value->Shared->Prop) (E:Value->Shared->Prop),C i j->Q (.int (g i j) s.toks) {s with toks:=s.toks+1}->wpAny (model X.prog X.w) X.A (f (.int i t) (.int j u)) Q E s) :
  iY X f (rI C λi j=>.int (g i j)):=by
 intro pins s σ H x y v u Q I rx ry h
 obtain⟨i,j,rfl,rfl,hc,q⟩:=h
 obtain⟨t,rfl⟩:=rx
 obtain⟨t',rfl⟩:=ry
 exact rule i j t t' s _ _ hc ⟨.int (g i j),H,I.tok _,⟨_,rfl⟩,q⟩
theorem MH{f:Value->Value->Sem Value}{g:Int->Int->Int}
  (rule:∀(i j:Int) (t u:Tok) (s:Shared) (Q:Value->Shared->Prop) (E:Value->Shared->Prop),Q (.int (g i j) s.toks) {s with toks:=s.toks+1}->wpAny (model X.prog X.w) X.A (f (.int i t) (.int j u)) Q E s) :
  iY X f (E4 λi j=>.int (g i j)):=by
 intro pins s σ H x y v u Q I rx ry h
 obtain⟨i,j,rfl,rfl,q⟩:=h
 obtain⟨t,rfl⟩:=rx
 obtain⟨t',rfl⟩:=ry
 exact rule i j t t' s _ _ ⟨.int (g i j),H,I.tok _,⟨_,rfl⟩,q⟩
theorem Lg{f:Value->Value->Sem Value}{g:Int->Int->Bool}
  (rule:∀(i j:Int) (t u:Tok) (s:Shared) (Q:Value->Shared->Prop) (E:Value->Shared->Prop),Q (.bool (g i j)) s->wpAny (model X.prog X.w) X.A (f (.int i t) (.int j u)) Q E s) :
  iY X f (E4 λi j=>.bl (g i j)):=by
 intro pins s σ H x y v u Q I rx ry h
 obtain⟨i,j,rfl,rfl,q⟩:=h
 obtain⟨t,rfl⟩:=rx
 obtain⟨t',rfl⟩:=ry
 exact rule i j t t' s _ _ ⟨.bl (g i j),H,I,rfl,q⟩
def Mf(i j:Int):Prop:=0<j/\j<1073741824
def Iz(i j:Int):Prop:=(-(2 ^ 64)<i/\i<2 ^ 64)\/(-(2 ^ 64)<j/\j<2 ^ 64)
theorem Iz.ok{i j:Int}(h:Iz i j):IntMulOk i j:=by
 rcases h with⟨h1,h2⟩|⟨h1,h2⟩
 ·exact .of_left (intBits_le_64 h1 h2)
 ·exact .of_right (intBits_le_64 h1 h2)
theorem Lh:iY X (binaryOp .Add) (E4 λi j=>.int (i+j)):=MH λ_ _ _ _ _ _ _ q=>add_int q
theorem oU:iY X (binaryOp .Sub) (E4 λi j=>.int (i-j)):=MH λ_ _ _ _ _ _ _ q=>sub_int q
theorem Ln:iY X (binaryOp .Mult) (rI Iz λi j=>.int (i*j)):=NC λ_ _ _ _ _ _ _ hc q=>mul_int q hc.ok
theorem Dl:iY X (binaryOp .FloorDiv) (rI Mf λi j=>.int (i / j)):=NC λi j _ _ _ _ _ hc q=>by
 have h1:(0:Int)<j:=hc.1
 have h2:j<1073741824:=hc.2
 exact floordiv_int (by lia) (by rw[Int.fdiv_eq_ediv_of_nonneg i (by lia)];exact q) (.inl (PyProof.noPylong_small (by lia)))
theorem iR:iY X (binaryOp .Mod) (rI (λ_ j=>0<j) λi j=>.int (i % j)):=NC λi j _ _ _ _ _ hc q=>by
 have h1:(0:Int)<j:=hc
 exact mod_int' (by lia) (by rw[Int.fmod_eq_emod_of_nonneg i (by lia)];exact q)
theorem N3{f:Value->Sem Value}{g:Int->Int}
  (rule:∀(i:Int) (t:Tok) (s:Shared) (Q:Value->Shared->Prop) (E:Value->Shared->Prop),Q (.int (g i) s.toks) {s with toks:=s.toks+1}->wpAny (model X.prog X.w) X.A (f (.int i t)) Q E s) :
  Nn X f (rU λi=>.int (g i)):=by
 intro pins s σ H x v Q I rx h
 obtain⟨i,rfl,q⟩:=h
 obtain⟨t,rfl⟩:=rx
 exact rule i t s _ _ ⟨.int (g i),H,I.tok _,⟨_,rfl⟩,q⟩
theorem gP:Nn X (unaryOp .USub) (rU λi=>.int (-i)):=N3 λ_ _ _ _ _ q=>neg_int q
end
def HG:V->V->Bool
 |.non,.non=>true|.non,.int _=>true|.int _,.non=>true|.non,.bl _=>true|.bl _,.non=>true|.non,.str _=>true|.str _,.non=>true
 |.int _,.int _=>true|.bl _,.bl _=>true|.str _,.str _=>true|.byt _,.byt _=>true
 |.int _,.str _=>true|.str _,.int _=>true|.bl _,.str _=>true|.str _,.bl _=>true
 |_,_=>false
def NQ:R2:=λx y H Q=>HG x y=true/\Q (.bl (decide (x=y))) H
def NR:R2:=λx y H Q=>HG x y=true/\Q (.bl (!decide (x=y))) H
theorem C2{i j:Int}:decide (V.int i=V.int j)=(i==j):=by
 rw[Bool.eq_iff_iff]
 simp
theorem FS{i j:Bool}:decide (V.bl i=V.bl j)=(i==j):=by
 rw[Bool.eq_iff_iff]
 simp
theorem C3{i j:Str}:decide (V.str i=V.str j)=(i==j):=by
 rw[Bool.eq_iff_iff]
 simp
theorem C1{i j:Array UInt8}:decide (V.byt i=V.byt j)=(i.toList==j.toList):=by
 rw[Bool.eq_iff_iff]
 cases i
 cases j
 simp
section
variable{X:Cx}{a b c:Expr}{ta tb tc:TE}{pos:Pos}
theorem cO{pins:List (Addr×Obj)}{σ:St}{H:Hp}{s:Shared}{Q:VK}{k k':Bool}(I:bw X pins σ H s)(q:Q (.bl k) H)(e:k=k'):EP X pins σ Q (.bool k') s:=by
 subst e
 exact⟨.bl k,H,I,rfl,q⟩
theorem MI:iY X (compareOp .Eq) NQ:=by
 intro pins s σ H x y v u Q I rx ry h
 obtain⟨hs,q⟩:=h
 cases x with
 |non=>
  cases rx
  cases y with
  |non=>cases ry;exact PySem.EqNone.eq_none_none (cO I q (by simp))
  |bl j=>cases ry;exact PySem.EqNone.eq_none_bool (cO I q (by simp))
  |int j=>obtain⟨t',rfl⟩:=ry;exact PySem.EqNone.eq_none_int (cO I q (by simp))
  |str j=>obtain⟨t',rfl⟩:=ry;exact PySem.EqNone.eq_none_str (cO I q (by simp))
  |_=>exact absurd (show false=true from hs) Bool.false_ne_true
 |bl i=>
  cases rx
  cases y with
  |non=>cases ry;exact PySem.EqNone.eq_bool_none (cO I q (by simp))
  |bl j=>cases ry;exact eq_bool (cO I q FS)
  |str j=>obtain⟨t',rfl⟩:=ry;exact PySem.EqMixed.eq_bool_str (cO I q (by simp))
  |_=>exact absurd (show false=true from hs) Bool.false_ne_true
 |int i=>
  obtain⟨t,rfl⟩:=rx
  cases y with
  |non=>cases ry;exact PySem.EqNone.eq_int_none (cO I q (by simp))
  |int j=>obtain⟨t',rfl⟩:=ry;exact eq_int (cO I q C2)
  |str j=>obtain⟨t',rfl⟩:=ry;exact PySem.EqMixed.eq_int_str (cO I q (by simp))
  |_=>exact absurd (show false=true from hs) Bool.false_ne_true
 |str i=>
  obtain⟨t,rfl⟩:=rx
  cases y with
  |non=>cases ry;exact PySem.EqNone.eq_str_none (cO I q (by simp))
  |bl j=>cases ry;exact PySem.EqMixed.eq_str_bool (cO I q (by simp))
  |int j=>obtain⟨t',rfl⟩:=ry;exact PySem.EqMixed.eq_str_int (cO I q (by simp))
  |str j=>obtain⟨t',rfl⟩:=ry;exact eq_str (cO I q C3)
  |_=>exact absurd (show false=true from hs) Bool.false_ne_true
 |byt i=>
  obtain⟨t,rfl⟩:=rx
  cases y with
  |byt j=>obtain⟨t',rfl⟩:=ry;exact PySem.W.eq_bytes (cO I q C1)
  |_=>exact absurd (show false=true from hs) Bool.false_ne_true
 |_=>cases y<;>exact absurd (show false=true from hs) Bool.false_ne_true
theorem ML:iY X (compareOp .NotEq) NR:=by
 intro pins s σ H x y v u Q I rx ry h
 obtain⟨hs,q⟩:=h
 cases x with
 |non=>
  cases rx
  cases y with
  |non=>cases ry;exact PySem.EqNone.ne_none_none (cO I q (by simp))
  |bl j=>cases ry;exact PySem.EqNone.ne_none_bool (cO I q (by simp))
  |int j=>obtain⟨t',rfl⟩:=ry;exact PySem.EqNone.ne_none_int (cO I q (by simp))
  |str j=>obtain⟨t',rfl⟩:=ry;exact PySem.EqNone.ne_none_str (cO I q (by simp))
  |_=>exact absurd (show false=true from hs) Bool.false_ne_true
 |bl i=>
  cases rx
  cases y with
  |non=>cases ry;exact PySem.EqNone.ne_bool_none (cO I q (by simp))
  |bl j=>cases ry;exact ne_bool (cO I q (congrArg not FS))
  |str j=>obtain⟨t',rfl⟩:=ry;exact PySem.EqMixed.ne_bool_str (cO I q (by simp))
  |_=>exact absurd (show false=true from hs) Bool.false_ne_true
 |int i=>
  obtain⟨t,rfl⟩:=rx
  cases y with
  |non=>cases ry;exact PySem.EqNone.ne_int_none (cO I q (by simp))
  |int j=>obtain⟨t',rfl⟩:=ry;exact ne_int (cO I q (congrArg not C2))
  |str j=>obtain⟨t',rfl⟩:=ry;exact PySem.EqMixed.ne_int_str (cO I q (by simp))
  |_=>exact absurd (show false=true from hs) Bool.false_ne_true
 |str i=>
  obtain⟨t,rfl⟩:=rx
  cases y with
  |non=>cases ry;exact PySem.EqNone.ne_str_none (cO I q (by simp))
  |bl j=>cases ry;exact PySem.EqMixed.ne_str_bool (cO I q (by simp))
  |int j=>obtain⟨t',rfl⟩:=ry;exact PySem.EqMixed.ne_str_int (cO I q (by simp))
  |str j=>obtain⟨t',rfl⟩:=ry;exact ne_str (cO I q (congrArg not C3))
  |_=>exact absurd (show false=true from hs) Bool.false_ne_true
 |byt i=>
  obtain⟨t,rfl⟩:=rx
  cases y with
  |byt j=>obtain⟨t',rfl⟩:=ry;exact PySem.W.ne_bytes (cO I q (congrArg not C1))
  |_=>exact absurd (show false=true from hs) Bool.false_ne_true
 |_=>cases y<;>exact absurd (show false=true from hs) Bool.false_ne_true
theorem wu:iY X (compareOp .Lt) (E4 λi j=>.bl (decide (i<j))):=Lg λ_ _ _ _ _ _ _ q=>lt_int q
theorem MK:iY X (compareOp .LtE) (E4 λi j=>.bl (decide (i<=j))):=Lg λ_ _ _ _ _ _ _ q=>le_int q
theorem rA:iY X (compareOp .Gt) (E4 λi j=>.bl (decide (j<i))):=Lg λ_ _ _ _ _ _ _ q=>gt_int q
theorem tN:iY X (compareOp .Is) (λx y H Q=>y=.non/\Q (.bl (decide (x=.non))) H):=by
 intro pins s σ H x y v u Q I rx ry h
 obtain⟨rfl,q⟩:=h
 cases ry
 refine is_none_gen (cO I q ?_)
 cases x<;>first
  |(cases rx;rfl)
  |(obtain⟨t,rfl⟩:=rx;rfl)
theorem sy:iY X (compareOp .IsNot) (λx y H Q=>y=.non/\Q (.bl (!decide (x=.non))) H):=by
 intro pins s σ H x y v u Q I rx ry h
 obtain⟨rfl,q⟩:=h
 cases ry
 refine isnot_none_gen (cO I q ?_)
 cases x<;>first
  |(cases rx;rfl)
  |(obtain⟨t,rfl⟩:=rx;rfl)
theorem iY.or{f:Value->Value->Sem Value}{r r':R2}(h:iY X f r)(h':iY X f r'):iY X f (λx y H Q=>r x y H Q\/r' x y H Q):=by
 intro pins s σ H x y v u Q I rx ry q
 rcases q with q|q
 ·exact h pins s σ H x y v u Q I rx ry q
 ·exact h' pins s σ H x y v u Q I rx ry q
theorem Jz{op:CmpOp}{r:R2}(ho:iY X (compareOp op) r)(ha:PE X a ta)(hb:PE X b tb)(hm:behindInMarks op b=false):PE X (.Compare a [op] [b] pos) (bO r ta tb):=by
 intro pins s σ H Q I h
 exact wpAny_Compare1 (KO ha hb I h λv u s2 x y H2 I2 rx ry q=>ho pins s2 σ H2 x y v u Q I2 rx ry q) hm
def cC(t:TE):TT:=λσ H Q=>t σ H λx H'=>∃k,x=.bl k/\Q k H'
theorem JS{op:CmpOp}{r:R2}(ho:iY X (compareOp op) r)(ha:PE X a ta)(hb:PE X b tb)(hm:behindInMarks op b=false):PT X (.Compare a [op] [b] pos) (cC (bO r ta tb)):=by
 intro pins s σ H Q I h
 refine wpAny_isTrue_Compare1 (d4 (ha pins s σ H _ I h) λv s1 ⟨x,H1,I1,r1,q1⟩=>d4 (hb pins s1 σ H1 _ I1 q1) λu s2 ⟨y,H2,I2,r2,q2⟩=>
  d4 (ho pins s2 σ H2 x y v u _ I2 r1 r2 q2) λc s3 ⟨z,H3,I3,r3,k,e,q3⟩=>?_) hm
 subst e
 cases r3
 exact wpAny_truthy_bool ⟨H3,I3,q3⟩
def Cu(r r':R2)(ta tb tc:TE):TE:=λσ H Q=>ta σ H λx H1=>tb σ H1 λy H2=>r x y H2 λz H3=>∃k,z=.bl k/\
 (if k=true then tc σ H3 λw' H4=>r' y w' H4 Q else Q (.bl false) H3)
theorem GS{op op':CmpOp}{r r':R2}(ho:iY X (compareOp op) r)(ho':iY X (compareOp op') r')(ha:PE X a ta)(hb:PE X b tb)(hc:PE X c tc)
  (hm:lastMarks [op,op'] [b,c]=false:=by with_unfolding_all rfl):PT X (.Compare a [op,op'] [b,c] pos) (cC (Cu r r' ta tb tc)):=by
 intro pins s σ H Q I h
 refine isTrue_chain (d4 (ha pins s σ H _ I h) λv s1 ⟨x,H1,I1,r1,q1⟩=>test_link (d4 (hb pins s1 σ H1 _ I1 q1) λu s2 ⟨y,H2,I2,r2,q2⟩=>
  d4 (ho pins s2 σ H2 x y v u _ I2 r1 r2 q2) λd s3 ⟨z,H3,I3,r3,k,e,q3⟩=>?_)) hm
 subst e
 cases r3
 refine wpAny_truthy_bool ?_
 cases k with
 |false=>
  obtain⟨k',e',q'⟩:=q3
  cases e'
  exact ite_ff ⟨H3,I3,q'⟩
 |true=>
  refine ite_tt (test_last (d4 (hc pins s3 σ H3 _ I3 q3) λw' s4 ⟨z',H4,I4,r4,q4⟩=>d4 (ho' pins s4 σ H4 y z' u w' _ I4 r2 r4 q4) λd' s5 ⟨z2,H5,I5,r5,k2,e2,q5⟩=>?_))
  subst e2
  cases r5
  exact wpAny_truthy_bool ⟨H5,I5,q5⟩
theorem tI:(sizeLine:Nat)<2 ^ 63:=by rw[sizeLine_eq];decide
theorem BV:iY X (binaryOp .Add) (λx y H Q=>∃i j,x=.str i/\y=.str j/\i.length+j.length<=sizeLine/\Q (.str (i++j)) H):=by
 intro pins s σ H x y v u Q I rx ry h
 obtain⟨i,j,rfl,rfl,hz,q⟩:=h
 obtain⟨t,rfl⟩:=rx
 obtain⟨t',rfl⟩:=ry
 exact add_str (λt' tk=>⟨.str (i++j),H,I.tok _,⟨_,rfl⟩,q⟩) hz
theorem kz{x:V}{us:List Value}(r:bX [x] us):∃u,us=[u]/\cg x u:=by
 cases r with
 |cons r1 r2=>cases r2;exact⟨_,rfl,r1⟩
theorem DV{x y:V}{us:List Value}(r:bX [x,y] us):∃u w',us=[u,w']/\cg x u/\cg y w':=by
 cases r with
 |cons r1 r2=>
  cases r2 with
  |cons r3 r4=>cases r4;exact⟨_,_,rfl,r1,r3⟩
theorem vS(hc:X.calm=true):g8 X (.builtin "min") (λxs H Q=>∃i j,xs=[.int i,.int j]/\Q (.int (if j<i then j else i)) H):=by
 intro pins s σ H xs us Q I r h
 obtain⟨i,j,rfl,q⟩:=h
 obtain⟨u,w',rfl,⟨t,rfl⟩,⟨t',rfl⟩⟩:=DV r
 refine min_two_ints (I.ok.hd hc) λh' tk k=>⟨_,H,I.kept k,?_,q⟩
 by_cases hj:j<i
 ·rw[if_pos hj,if_pos hj];exact⟨_,rfl⟩
 ·rw[if_neg hj,if_neg hj];exact⟨_,rfl⟩
theorem qJ:g8 X (.type "int") (λxs H Q=>(∃i,xs=[.int i]/\Q (.int i) H)\/∃k,xs=[.bl k]/\Q (.int (if k then 1 else 0)) H):=by
 intro pins s σ H xs us Q I r h
 rcases h with⟨i,rfl,q⟩|⟨k,rfl,q⟩
 ·obtain⟨u,rfl,t,rfl⟩:=kz r
  exact call_int_int ⟨.int i,H,I,⟨_,rfl⟩,q⟩
 ·obtain⟨u,rfl,r1⟩:=kz r
  cases r1
  exact call_int_bool ⟨.int (if k then 1 else 0),H,I.tok _,⟨_,rfl⟩,q⟩
def Mj(K:Fg)(x:V)(H:Hp)(n:Nat):Prop:=
 match x with
 |.str y=>y.length<=sizeLine/\n=y.length
 |.byt y=>y.size<=sizeLine/\n=y.size
 |.ref p=>(∃xs,cx K H p xs/\n=xs.length)\/∃xs,cz K H p xs/\n=xs.length
 |_=>False
theorem FL:g8 X (.builtin "len") (λxs H Q=>∃x n,xs=[x]/\Mj X.K x H n/\Q (.int n) H):=by
 intro pins s σ H xs us Q I r h
 obtain⟨x,n,rfl,e,q⟩:=h
 obtain⟨u,rfl,rx⟩:=kz r
 have hl:=tI
 have hs:sizeLine=16777216:=sizeLine_eq
 cases x with
 |str y=>
  obtain⟨t,rfl⟩:=rx
  obtain⟨hy,e'⟩:y.length<=sizeLine/\n=y.length:=e
  subst e'
  exact len_str (by lia) ⟨.int _,H,I.tok _,⟨_,rfl⟩,q⟩
 |byt y=>
  obtain⟨t,rfl⟩:=rx
  obtain⟨hy,e'⟩:y.size<=sizeLine/\n=y.size:=e
  subst e'
  exact PySem.W.len_bytes (by lia) ⟨.int _,H,I.tok _,⟨_,rfl⟩,q⟩
 |ref p=>
  cases rx
  have e':(∃xs,cx X.K H p xs/\n=xs.length)\/∃xs,cz X.K H p xs/\n=xs.length:=e
  rcases e' with⟨xs,hx,e'⟩|⟨xs,hx,e'⟩
  ·subst e'
   obtain⟨its,r',pl,hz⟩:=I.list hx
   have hlen:=r'.length
   exact Calls.call_len_list pl.isList (by simp only[ay];lia) ⟨.int xs.length,H,I.tok _,⟨_,by simp only[ay];rw[hlen]⟩,q⟩
  ·subst e'
   obtain⟨its,r',pl,hz⟩:=I.tuple hx
   have hlen:=r'.length
   exact len_tuple pl (by simp only[ay];lia) ⟨.int xs.length,H,I.tok _,⟨_,by simp only[ay];rw[hlen]⟩,q⟩
 |_=>exact(show False from e).elim
end
section
variable{prog:Program}{w:World}{A:Around}{E:Value->Shared->Prop}{s:Shared}{K:Fg}{x dx C f:Addr}{mA:Str->Option Value}{name:Str}{v:Value}
end
theorem oG.some_of{v:V}{o:Option Value}(r:oG (some v) o):∃u,o=some u/\cg v u:=by
 cases o with
 |none=>exact(show False from r).elim
 |some u=>exact⟨u,rfl,r⟩
section
variable{P:Program}{w:World}{H H':Hp}{h h':Heap}{a C dx:Addr}{fs fs':List (Str×V)}
end
section
variable{X:Cx}{pins:List (Addr×Obj)}{σ:St}{H:Hp}{s:Shared}{a C dx:Addr}{fs:List (Str×V)}{f:Str}{v:V}{A:Around}{E:Value->Shared->Prop}
end
section
variable{X:Cx}{o e value:Expr}{f:Str}{pos pos' tpos:Pos}{ta tv:TE}
end
section
variable{X:Cx}{pins:List (Addr×Obj)}{σ:St}{H:Hp}{s:Shared}{A:Around}{E:Value->Shared->Prop}{Q:Value->Shared->Prop}{c:Value}{b:Bool}
end
structure ic(k:Nat)(A:Around):Prop where
 hd:A.handled=none
 dp:A.depth+3*k+5<recursionLimit
 un:A.units+16*k+200<cLine
theorem ic.mono{j k:Nat}{A:Around}(r:ic k A)(h:j<=k):ic j A:=⟨r.hd,by have:=r.dp;lia,by have:=r.un;lia⟩
theorem ic.deeper{k:Nat}{A:Around}(r:ic (k+1) A)(env:Env):ic k (A.deeper env):=
 ⟨r.hd,by have:=r.dp;show A.depth+1+3*k+5<_;lia,by have:=r.un;show A.units+3+16*k+200<_;lia⟩
theorem ic.depth{k:Nat}{A:Around}(r:ic k A):A.depth<recursionLimit:=by have:=r.dp;lia
theorem ic.units{k:Nat}{A:Around}(r:ic k A):A.units+64<cLine:=by have:=r.un;lia
theorem ic.units0{k:Nat}{A:Around}(r:ic k A):A.units<cLine:=by have:=r.un;lia
def aO:TA:=λ_ H Q=>Q [] H
def ak(ta:TE)(tr:TA):TA:=λσ H Q=>ta σ H λx H1=>tr σ H1 λxs H2=>Q (x::xs) H2
section
variable{X:Cx}{e:Expr}{es:List Expr}{te:TE}{t:TA}{pos:Pos}
theorem Lq:PA X [] aO:=λ_ _ _ _ H Q I h=>Calls.spliced_nil ⟨[],H,I,.nil,h⟩
theorem Jw(ha:PE X e te)(hr:PA X es t)(hs:starEach (e::es) X.env=(false,eval e X.env)::starEach es X.env:=by rfl):PA X (e::es) (ak te t):=by
 intro pos pins s σ H Q I h
 rw[hs]
 show wpAny _ _ (spliced ((false,eval e X.env)::backTo pos (starEach es X.env))) _ _ s
 refine Calls.spliced_cons (d4 (ha pins s σ H _ I h) λu s1 ⟨x,H1,I1,r1,q1⟩=>?_)
 exact d4 (hr pos pins s1 σ H1 _ I1 q1) λus s2 ⟨xs,H2,I2,r2,q2⟩=>⟨x::xs,H2,I2,.cons r1 r2,q2⟩
def lQ(t:TA):TE:=λσ H Q=>t σ H λxs H1=>xs.length<=sizeLine/\∀p,H1 p=none->Q (.ref p) (aQ H1 p (.tup xs))
def gx(t:TA):TE:=λσ H Q=>t σ H λxs H1=>xs.length<=sizeLine/\∀p,H1 p=none->Q (.ref p) (aQ H1 p (.lst xs))
theorem Lz{x1}(h:PA X es t):PE X (.Tuple es x1 pos) (lQ t):=by
 intro pins s σ H Q I hq
 refine wpAny_Tuple_spliced (d4 (h pos pins s σ H _ I hq) λus s1 ⟨xs,H1,I1,r,z,q⟩=>⟨by rw[<-r.length];exact z,?_⟩)
 have hf:H1 s1.heap.objs.size=none:=I1.hok.fresh (ar _)
 refine⟨.ref s1.heap.objs.size,aQ H1 s1.heap.objs.size (.tup xs),I1.laid (t':=s1.toks) (λb u e=>ag _ e) (ar _) ?_,rfl,q _ hf⟩
 exact⟨z,us,r,⟨_,ax _ rfl,⟨rfl,rfl⟩,_,rfl⟩⟩
theorem Lv(h:PA X es t):PE X (.List es pos) (gx t):=by
 intro pins s σ H Q I hq
 refine wpAny_List_spliced (d4 (h pos pins s σ H _ I hq) λus s1 ⟨xs,H1,I1,r,z,q⟩=>⟨by rw[<-r.length];exact z,?_⟩)
 have hf:H1 s1.heap.objs.size=none:=I1.hok.fresh (ar _)
 refine⟨.ref s1.heap.objs.size,aQ H1 s1.heap.objs.size (.lst xs),I1.laid (t':=s1.toks) (λb u e=>ag _ e) (ar _) ?_,rfl,q _ hf⟩
 exact⟨z,us,0,r,ax _ rfl⟩
end
abbrev Sp:=List V->Hp->VK->XK->Prop
abbrev E6:=List Env->Hp->Shared->XK->Value->Shared->Prop
structure IA(P:Program)(w:World)(K:Fg)(mg:Str->Option Value)(base:Heap)(A:Around)(outer:List Env)(s:Shared)(H:Hp):Prop where
 frames:A.frames=some outer
 mod:Mod K mg base
 bs:∀b o,base.get? b=some o->s.heap.get? b=some o/\H b=none
 bsz:base.objs.size<=s.heap.objs.size
 funs:s.heap.FunFrames base outer
 frf:∀b∈F8 outer,H b=none
 hok:ny P w H s.heap
 bare:AllBare s.gens
def CE(outer:List Env)(P:Program)(w:World)(H:Hp)(s:Shared)(Q:VK)(u:Value)(s':Shared):Prop:=
 ∃v H',s'.os=s.os/\AllBare s'.gens/\Un (F8 outer) [] H H' s.heap s'.heap/\ny P w H' s'.heap/\cg v u/\Q v H'
def CR(CX:E6)(outer:List Env)(P:Program)(w:World)(H:Hp)(s:Shared)(Q:VK)(E:XK)(r:Result)(s':Shared):Prop:=
 match r with
 |.ok (.ret u)=>CE outer P w H s Q u s'
 |.ok _=>False
 |.error e=>CX outer H s E e s'
structure uU(P:Program)(w:World)(K:Fg)(mg:Str->Option Value)(base:Heap)(CX:E6)(k:Nat)(f:Addr)(fd:FuncData)(ps:List Str)(sp:Sp):Prop where
 len:∀vs H Q E,sp vs H Q E->vs.length=ps.length
 run:∀(A:Around) (outer:List Env) (s:Shared) (H:Hp) (args:Args) (us:List Value) (vs:List V) (Q:VK) (E:XK),ic k A->IA P w K mg base A outer s H->BindsTo s fd args (ps.zip us)->bX vs us->sp vs H Q E->
  codeAny (model P w) A (.call (.ref f) args) (CR CX outer P w H s Q E) s
section
variable{X:Cx}{pins:List (Addr×Obj)}{σ:St}{H:Hp}{s s':Shared}
theorem bw.env0(I:bw X pins σ H s):IA X.prog X.w X.K X.mg X.base X.A X.stack s H:=
 ⟨I.ok.frames,I.ok.mod,I.bs,a7 I.ok.bsz I.sz,I.stack,I.stkFree,I.hok,I.bare⟩
theorem bw.after{Q:VK}{u:Value}(I:bw X pins σ H s)(h:CE X.stack X.prog X.w H s Q u s'):EP X pins σ Q u s':=by
 obtain⟨v,H',os,bare,un,hok,r,q⟩:=h
 obtain⟨hh,g,d,t,os'⟩:=s'
 obtain rfl:os'=s.os:=os
 exact⟨v,H',I.call (h':=hh) (g':=g) (d':=d) (t':=t) (ch:=[]) un hok bare (λb z=>absurd z (by simp)),r,q⟩
end
def bu(sp:Sp)(dvs:List V)(E:XK)(t:TA):TE:=λσ H Q=>t σ H λvs H1=>sp (vs++dvs) H1 Q E
def vI(K:Fg)(fd:FuncData)(ps:List Str)(ds:List Value):Prop:=
 ∀(s:Shared) (us:List Value),K.In s.heap->(us++ds).length=ps.length->BindsTo s fd ⟨us,[]⟩ (ps.zip (us++ds))
theorem vI.all{K:Fg}{fd:FuncData}{ps:List Str}(h:∀us:List Value,us.length=ps.length->bindArgs fd ⟨us,[]⟩=pure (ps.zip us)):vI K fd ps []:=λs us _ hl=>by
 rw[dZ] at hl ⊢
 exact .of_eq (h us hl)
def Bi(CX:E6)(X:Cx)(E:XK):Prop:=∀(pins:List (Addr×Obj)) (σ:St) (H:Hp) (s:Shared) (e:Value) (s':Shared),bw X pins σ H s->CX X.stack H s E e s'->X.xe e s'
section
variable{X:Cx}{CX:E6}{k:Nat}{f C:Addr}{fd:FuncData}{ps:List Str}{sp:Sp}{dvs:List V}{ds:List Value}{E:XK}{x m:Str}{p pos apos:Pos}{e o:Expr}{es:List Expr}{ta:TE}{t:TA}
theorem LZ{pins:List (Addr×Obj)}{σ:St}{H:Hp}{s:Shared}{Q:VK}{us:List Value}{vs:List V}(F:uU X.prog X.w X.K X.mg X.base CX k f fd ps sp)(hr:ic k X.A)(hb:vI X.K fd ps ds)(hd:bX dvs ds)(hx:Bi CX X E)
  (I:bw X pins σ H s) (r:bX vs us) (h:sp (vs++dvs) H Q E):wpAny (model X.prog X.w) X.A (call (.ref f) us) (EP X pins σ Q) X.xe s:=by
 have r2:bX (vs++dvs) (us++ds):=r.append hd
 have hl:(us++ds).length=ps.length:=by rw[<-r2.length];exact F.len _ _ _ _ h
 refine wpAny_call (codeAny_mono (F.run X.A X.stack s H ⟨us,[]⟩ (us++ds) (vs++dvs) Q E hr I.env0 (hb s us I.kIn hl) r2 h) λr s' hq=>?_)
 cases r with
 |error e=>exact hx pins σ H s e s' I hq
 |ok fl=>
  cases fl with
  |ret u=>exact I.after hq
  |next=>exact False.elim hq
  |brk=>exact False.elim hq
  |cont=>exact False.elim hq
theorem Jy(F:uU X.prog X.w X.K X.mg X.base CX k f fd ps sp)(hr:ic k X.A)(hg:Gl X x)(hm:X.mg x=some (.ref f))(hk:fh X.K (.ref f)=true)(hb:vI X.K fd ps ds)(hd:bX dvs ds)(hx:Bi CX X E)
  (ha:PA X (e::es) t) (hdb:(x==("__debug__":Str))=false:=by decide) (he:starEach (e::es) X.env=(false,eval e X.env)::starEach es X.env:=by rfl) (hpl:(backTo pos (starEach es X.env)).any (·.1)=false:=by rfl) :
  PE X (.Call (.Name x p) (e::es) [] pos) (bu sp dvs E t):=by
 intro pins s σ H Q I h
 refine wpAny_Call_Name_kw (Jl I hg hm ?_ hdb)
 refine PySem.W.callWith_K (h₀:=X.base) I.ok.mod.kin hk (d4 (ha pos pins s σ H _ I h) λus s1 ⟨vs,H1,I1,r,q⟩=>⟨I1.kIn,?_⟩) he hpl
 exact LZ F hr hb hd hx I1 r q
end
section
variable{X:Cx}{CX:E6}{k:Nat}{f C:Addr}{fd:FuncData}{ps ks:List Str}{sp:Sp}{E:XK}{x m:Str}{p pos apos kpos:Pos}{e o:Expr}{es:List Expr}{kws:List Keyword}{te ta:TE}{t tk:TA}{nm:Option Str}
variable{g:List Value->List Value->List Value}{gV:List V->List V->List V}
end
structure so(N P:List Str)(sc:Scope):Prop where
 kind:sc.kind=.function
 co:sc.isCoroutine=false
 gen:sc.isGenerator=false
 nd:N.Nodup
 pre:N.take P.length=P
 par:∀x∈P,sc.names.lookup x=some .local\/sc.names.lookup x=some .cell
 nofree:∀y∈sc.names,y.2≠.free
theorem vR{kindOf:Str->Option NameKind}{x:Str}:∀{binds:List (Str×Value)} {m:Str->Option Value},(∀v,(x,v)∉binds)->bindL kindOf binds m x=m x
 |[],_,_=>rfl
 |(n,v)::r,m,h=>by
  unfold bindL
  rw[vR λw hw=>h w (a9 _ hw)]
  split
  ·have:x≠n:=by rintro rfl;exact h v bf
   simp[this]
  ·rfl
theorem vP{kindOf:Str->Option NameKind}{x:Str}:∀{binds:List (Str×Value)} {m:Str->Option Value},(∀v,(x,v)∉binds)->bindC kindOf binds m x=m x
 |[],_,_=>rfl
 |(n,v)::r,m,h=>by
  unfold bindC
  rw[vP λw hw=>h w (a9 _ hw)]
  split
  ·rfl
  ·have:x≠n:=by rintro rfl;exact h v bf
   simp[this]
theorem vQ{kindOf:Str->Option NameKind}{x:Str}{v:Value}:∀{P:List Str} {vs:List Value} {i:Nat} {m:Str->Option Value},P.Nodup->P[i]?=some x->vs[i]?=some v->kindOf x=some .local->
  bindL kindOf (P.zip vs) m x=some v
 |[],_,_,_,_,h,_,_=>by simp at h
 |_::_,[],_,_,_,_,h,_=>by simp at h
 |p::P,w::vs,0,m,nd,h1,h2,hk=>by
  simp at h1 h2;subst h1;subst h2
  show bindL kindOf ((p,w)::P.zip vs) m p=_
  unfold bindL
  rw[vR λv hv=>(bU.mp nd).1 (k8 hv).1,if_pos hk]
  simp
 |p::P,w::vs,i+1,m,nd,h1,h2,hk=>by
  show bindL kindOf ((p,w)::P.zip vs) m x=_
  unfold bindL
  exact vQ (i:=i) (bU.mp nd).2 (by simpa using h1) (by simpa using h2) hk
theorem vO{kindOf:Str->Option NameKind}{x:Str}{v:Value}:∀{P:List Str} {vs:List Value} {i:Nat} {m:Str->Option Value},P.Nodup->P[i]?=some x->vs[i]?=some v->kindOf x≠some .local->
  bindC kindOf (P.zip vs) m x=some v
 |[],_,_,_,_,h,_,_=>by simp at h
 |_::_,[],_,_,_,_,h,_=>by simp at h
 |p::P,w::vs,0,m,nd,h1,h2,hk=>by
  simp at h1 h2;subst h1;subst h2
  show bindC kindOf ((p,w)::P.zip vs) m p=_
  unfold bindC
  rw[vP λv hv=>(bU.mp nd).1 (k8 hv).1,if_neg hk]
  simp
 |p::P,w::vs,i+1,m,nd,h1,h2,hk=>by
  show bindC kindOf ((p,w)::P.zip vs) m x=_
  unfold bindC
  exact vO (i:=i) (bU.mp nd).2 (by simpa using h1) (by simpa using h2) hk
def start(N:List Str)(vs:List V):St:=vs.map some++aU (N.length-vs.length) none
def zd(CX:E6)(P:Program)(w:World)(K:Fg)(mg:Str->Option Value)(base:Heap)(N:List Str)(qual:Str)(scope:Scope)(f:Addr)(cd:Value)(A:Around)(outer:List Env)(s:Shared)(H:Hp)(E:XK):Cx where
 prog:=P
 w:=w
 K:=K
 mg:=mg
 base:=base
 A:=A.deeper (envOfC qual scope s.heap.objs.size f cd)
 N:=N
 s₀:=s
 H₀:=H
 env:=envOfC qual scope s.heap.objs.size f cd
 outer:=outer
 stack:=envOfC qual scope s.heap.objs.size f cd::outer
 ex:=[]
 calm:=true
 fn:=λ_=>true
 pn:=[]
 xe:=λe s'=>wpAny (model P w) (A.deeper (envOfC qual scope s.heap.objs.size f cd)) (leaving (envOfC qual scope s.heap.objs.size f cd) e) (λ_ s''=>CX outer H s E e s'') (λe' s''=>CX outer H s E e' s'') s'
theorem y7{sc:Scope}{n:Nat}{x:Str}(h:sc.names.lookup x=some .cell):∃c,(cellsFrom n sc.names []).lookup x=some c:=by
 have q:=PySem.W.cellsFrom_some sc.names n [] (.inl h)
 exact du.mp q
theorem El{CX:E6}{P:Program}{w:World}{K:Fg}{mg:Str->Option Value}{base:Heap}{N ps:List Str}{qual:Str}{scope:Scope}{f:Addr}{cd:Value}{A:Around}{outer:List Env}{s s1:Shared}{H:Hp}{E:XK}{us:List Value}{vs:List V}
  (S:so N ps scope) (hd:A.handled=none) (e0:IA P w K mg base A outer s H) (hl:vs.length=ps.length) (r:bX vs us)
  (x:InCallC s s.heap.objs.size (bindL (envOfC qual scope s.heap.objs.size f cd).kindOf (ps.zip us) λ_=>none) (cellsFrom (s.heap.objs.size+1) scope.names []) (bindC (envOfC qual scope s.heap.objs.size f cd).kindOf (ps.zip us) λ_=>none) s1) :
  bw (zd CX P w K mg base N qual scope f cd A outer s H E) [] (start N vs) H s1:=by
 have hpl:ps.length<=N.length:=by have:=congrArg jy S.pre;rw[aP] at this;lia
 obtain⟨h1,tk,rfl,hk⟩:=x.done
 have noA:∀b:Addr,b∉(zd CX P w K mg base N qual scope f cd A outer s H E).ex:=λb z=>absurd (show b∈([]:List Addr) from z) (by simp)
 refine⟨⟨e0.mod,S.kind,rfl,rfl,ar _,λy z c h1 h2=>?_,λy hy=>?_,λy c _ h=>?_,λ_=>hd,Around.frames_deeper e0.frames,.inr ⟨rfl,rfl⟩,λb z=>absurd z (noA b),e0.bs,e0.bsz,λb _ _=>noA b,λb z=>absurd z (noA b),e0.funs,e0.frf⟩,
  rfl,e0.bare,Un.kept hk,⟨_,x.toInCall.ns,λi y v h1 h2 h3=>?_⟩,λy c h=>⟨_,x.cell y c h⟩,e0.hok.fresh (ar _),λy c h=>?_,λp hp=>absurd (show p∈([]:List (Addr×Obj)) from hp) (by simp),e0.hok.kept hk,?_⟩
 ·exact name_of_addr x.apart (cw h1) (cw h2)
 ·have hy:scope.names.lookup y=some .cell\/scope.names.lookup y=some .free:=hy
  rcases hy with hy|hy
  ·exact y7 hy
  ·exact absurd rfl (S.nofree _ (cw hy))
 ·exact bW (x.above y c (cw h))
 ·have hi:i<vs.length:=by
   unfold start at h2
   by_cases hi:i<vs.length
   ·exact hi
   ·rw[aq (by simpa using hi)] at h2
    rw[List.getElem?_replicate] at h2
    split at h2<;>cases h2
  have ha:vs[i]?=some v:=by
   unfold start at h2
   rw[au (by simpa using hi),aG] at h2
   cases e:vs[i]? with
   |none=>rw[e] at h2;cases h2
   |some a=>rw[e] at h2;cases h2;rfl
  obtain⟨u,hu,rv⟩:=r.get ha
  have hp:ps[i]?=some y:=by
   rw[<-S.pre,List.getElem?_take_of_lt (by lia)];exact h1
  have ndP:ps.Nodup:=by rw[<-S.pre];exact S.nd.sublist (List.take_sublist _ _)
  refine⟨u,rv,?_⟩
  rcases S.par y (aA hp) with k|k
  ·exact .inl ⟨k,vQ ndP hp hu k⟩
  ·obtain⟨c,e⟩:=y7 (n:=s.heap.objs.size+1) k
   refine .inr ⟨.inl k,c,e,?_⟩
   have q:=x.cell y c e
   rw[vO ndP hp hu (by show scope.names.lookup y≠_;rw[k];decide)] at q
   exact q
 ·exact e0.hok.fresh (bW (x.above y c (cw h)))
 ·unfold start
  show _=N.length
  rw[ai,af,gX]
  lia
theorem My{CX:E6}{P:Program}{w:World}{K:Fg}{mg:Str->Option Value}{base:Heap}{k:Nat}{f:Addr}{name qual:Str}{params:Arguments}{body:List Stmt}{scope:Scope}{dV kV doc pm cdv ct oc:Value}{an od:Option Addr}
  {osl:Array (Option Value)} {N ps:List Str} {sp:Sp} (lk:K.lookup f=some ⟨oc,od,.func (d9 name qual params body scope dV kV doc pm an cdv ct),osl⟩) (hcd:gE K cdv qual=true) (S:so N ps scope)
  (len:∀vs H Q E,sp vs H Q E->vs.length=ps.length)
  (hbody:∀(A:Around) (outer:List Env) (s:Shared) (H:Hp) (vs:List V) (Q:VK) (E:XK),ic k (A.deeper (envOfC qual scope s.heap.objs.size f cdv))->sp vs H Q E->
   ∃t,Bf (zd CX P w K mg base N qual scope f cdv A outer s H E) body t/\t {nx:=λ_ H'=>Q .non H',rt:=Q} (start N vs) H) :
  uU P w K mg base CX (k+1) f (d9 name qual params body scope dV kV doc pm an cdv ct) ps sp:=by
 refine⟨len,λA outer s H args us vs Q E hr e0 hb r hsp=>?_⟩
 have hl:=len _ _ _ _ hsp
 have KX:K.In s.heap:=e0.mod.kin.keeps λb o e=>(e0.bs b o e).1
 have lim:s.heap.NoLimit:=e0.mod.nolimit.keeps λb o e=>(e0.bs b o e).1
 have hkind:∀y∈ps.zip us,scope.names.lookup y.1=some .local\/(scope.names.lookup y.1=some .cell/\((cellsFrom (s.heap.objs.size+1) scope.names []).lookup y.1).isSome=true):=λ⟨n,v⟩ hy=>by
  rcases S.par n (k8 hy).1 with q|q
  ·exact .inl q
  ·exact .inr ⟨q,PySem.W.cellsFrom_some _ _ _ (.inl q)⟩
 refine codeAny_call_function hr.depth (KX _ _ lk) rfl S.co S.gen rfl (PySem.W.codeRec_of KX hcd) (hb _ _ _ _ ?_)
 refine wpAny_newFunctionEnv_cells S.kind hkind λenv he s1 x=>?_
 subst he
 refine⟨lim.keeps x.toInCall.keep,codeAny_func ?_⟩
 obtain⟨t,ht,hq⟩:=hbody A outer s H vs Q E (hr.deeper _) hsp
 have I:bw (zd CX P w K mg base N qual scope f cdv A outer s H E) [] (start N vs) H s1:=El S hr.hd e0 hl r x
 refine wpAny_mono (ht [] s1 (start N vs) H _ I hq) (λfl s' hs=>?_) λe s' hs=>hs
 have fin:∀{σ':St} {H':Hp} {v:V} {u:Value},bw (zd CX P w K mg base N qual scope f cdv A outer s H E) [] σ' H' s'->cg v u->Q v H'->CE outer P w H s Q u s':=
  λ{σ' H' v u} J rv q=>⟨v,H',J.os,J.bare,J.base,J.hok,rv,q⟩
 cases fl with
 |ret u=>
  obtain⟨v,σ',H',J,rv,q⟩:=hs
  exact fin J rv q
 |next=>
  obtain⟨σ',H',J,q⟩:=hs
  exact fin (v:=V.non) (u:=Value.none) J rfl q
 |brk=>
  obtain⟨_,_,_,q⟩:=hs
  exact False.elim q
 |cont=>
  obtain⟨_,_,_,q⟩:=hs
  exact False.elim q
section
variable{X:Cx}{x:Str}{p pos:Pos}{e:Expr}{es:List Expr}{t:TA}{id T:String}{r:List V->Hp->VK->Prop}
def eW(r:List V->Hp->VK->Prop)(t:TA):TE:=λσ H Q=>t σ H λvs H1=>r vs H1 Q
theorem GC(hc:g8 X (.builtin id) r)(hg:Gl X x)(hm:X.mg x=none)(hv:bootBuiltins x=some (.builtin id))(ha:PA X (e::es) t)(hn:x≠"__name__":=by decide)(hdb:(x==("__debug__":Str))=false:=by decide)
  (he:starEach (e::es) X.env=(false,eval e X.env)::starEach es X.env:=by rfl) (hpl:(backTo pos (starEach es X.env)).any (·.1)=false:=by rfl):PE X (.Call (.Name x p) (e::es) [] pos) (eW r t):=by
 intro pins s σ H Q I h
 refine wpAny_Call_Name_kw (iq I hg hm hv ?_ hn hdb)
 exact PyProof.Rows.callWith_builtin1 (d4 (ha pos pins s σ H _ I h) λus s1 ⟨vs,H1,I1,r1,q1⟩=>hc pins s1 σ H1 vs us Q I1 r1 q1) he hpl
theorem Et(hc:g8 X (.type T) r)(hg:Gl X x)(hm:X.mg x=none)(hv:bootBuiltins x=some (.type T))(ha:PA X (e::es) t)(hn:x≠"__name__":=by decide)(hdb:(x==("__debug__":Str))=false:=by decide)
  (he:starEach (e::es) X.env=(false,eval e X.env)::starEach es X.env:=by rfl) (hpl:(backTo pos (starEach es X.env)).any (·.1)=false:=by rfl):PE X (.Call (.Name x p) (e::es) [] pos) (eW r t):=by
 intro pins s σ H Q I h
 refine wpAny_Call_Name_kw (iq I hg hm hv ?_ hn hdb)
 exact br (d4 (ha pos pins s σ H _ I h) λus s1 ⟨vs,H1,I1,r1,q1⟩=>hc pins s1 σ H1 vs us Q I1 r1 q1) he hpl
end
end L2
namespace HT
open PySem PyProof.Rows
section
open PySem.SeqAt
open PySem.AutoSeq1 (wpAny_loadPart')
open PySem.MeetsSeq PySem.MeetsSeq2 PySem.MeetsSeq3
end
section
variable{prog:Program}{w:World}{A:Around}{E:Value->Shared->Prop}{s:Shared}
theorem cat_tup{t b:Addr}{vs ws:List Value}{Q:Value->Shared->Prop}(ht:IsTup s.heap t vs.toArray)(hb:IsTup s.heap b ws.toArray)(hv:vs≠[])
  (h1:ws=[]->Q (.ref t) s) (h2:ws≠[]->Q (.ref s.heap.objs.size) {s with heap:=s.heap.push {cls:=.type "tuple",data:=.seq (vs++ws).toArray}})
  (hsz:vs.length+ws.length<=sizeLine):wpAny (model prog w) A (binaryOp .Add (.ref t) (.ref b)) Q E s:=by
 obtain⟨⟨cls,dd,data,sl⟩,ho,hc,n,hd⟩:=id ht
 obtain⟨⟨cls2,dd2,data2,sl2⟩,ho2,hc2,n2,hd2⟩:=id hb
 simp only at hc hd hc2 hd2
 subst hc hd hc2 hd2
 have e:vs.toArray++ws.toArray=(vs++ws).toArray:=by simp
 by_cases hw:ws=[]
 ·exact concat_meets ⟨_,ho,rfl⟩ ⟨_,ho2,rfl⟩ noFill_tuple_add seq_tuple_add gD gf (fM _ _)
   (tuple_addW1 t b vs.toArray ws.toArray n n2 dd dd2 sl sl2 (by simpa using hv) (by simp[hw])) ⟨ho,ho2,h1 hw⟩
 ·refine concat_meets ⟨_,ho,rfl⟩ ⟨_,ho2,rfl⟩ noFill_tuple_add seq_tuple_add gD gf (fM _ _)
   (tuple_addW2 t b vs.toArray ws.toArray n n2 dd dd2 sl sl2 (by simpa using hv) (by simpa using hw) (by rw[ay,ay];exact hsz)) ⟨ho,ho2,?_⟩
  rw[e]
  exact h2 hw
def sIx(n d:Nat):Option Int->Nat
 |none=>d
 |some v=>if v<0 then(v+(n:Int)).toNat else min v.toNat n
theorem sIx_none(n d:Nat):sIx n d none=d:=rfl
theorem sIx_nat(n d k:Nat):sIx n d (some (k:Int))=min k n:=by
 show(if(k:Int)<0 then((k:Int)+(n:Int)).toNat else min (k:Int).toNat n)=min k n
 rw[if_neg (by lia),aY]
theorem L0(n d:Nat)(hd:d<=n)(o:Option Int):sIx n d o<=n:=by
 cases o with
 |none=>exact hd
 |some v=>
  show(if v<0 then(v+(n:Int)).toNat else min v.toNat n)<=n
  by_cases hv:v<0
  ·rw[if_pos hv];lia
  ·rw[if_neg hv];exact ia _ _
theorem CZ(v:Int)(n d:Nat):(if v<0 then max (v+(n:Int)) 0 else min v (n:Int))=((sIx n d (some v):Nat):Int):=by
 show(if v<0 then max (v+(n:Int)) 0 else min v (n:Int))=(((if v<0 then(v+(n:Int)).toNat else min v.toNat n):Nat):Int)
 by_cases hv:v<0
 ·simp only[if_pos hv];lia
 ·simp only[if_neg hv];lia
theorem Bn(lo hi:Option Int)(n:Nat):Builtin.Slice.sliceAdjust lo hi 1 (n:Int)=(((sIx n 0 lo:Nat):Int),((sIx n n hi:Nat):Int)):=by
 have h1:¬((1:Int)<0):=by lia
 unfold Builtin.Slice.sliceAdjust
 simp only[h1,if_false]
 refine Prod.ext ?_ ?_
 ·cases lo with
  |none=>rfl
  |some v=>exact CZ v n 0
 ·cases hi with
  |none=>rfl
  |some v=>exact CZ v n n
theorem BX(i j:Nat):Builtin.Slice.slicePlaces (i:Int) (j:Int) 1=j-i:=by
 unfold Builtin.Slice.slicePlaces
 have h1:(1:Int)>0:=by lia
 simp only[h1,if_true,Int.ediv_one]
 split<;>lia
theorem uv{v:Value}{o:Option Int}{Q:Option Int->Shared->Prop}(p:IsPart v o)(h:Q o s):wpAny (model prog w) A (Builtin.Slice.slicePartIndex v) Q E s:=by
 cases p with
 |none=>exact slicePart_none h
 |int i t=>exact slicePart_int h
theorem ku{sl:Addr}{vl vu:Value}{lo hi:Option Int}{n:Nat}{Q:Int×Int×Nat->Shared->Prop}(hs:s.heap.IsSliceOf sl vl vu .none)(pl:IsPart vl lo)(pu:IsPart vu hi)
  (h:Q (((sIx n 0 lo:Nat):Int),1,sIx n n hi-sIx n 0 lo) s):wpAny (model prog w) A (Builtin.Slice.sliceApplied (.ref sl) (pure (n:Int))) Q E s:=by
 obtain⟨os,hos,hcs,hds⟩:=id hs
 unfold Builtin.Slice.sliceApplied Builtin.Slice.sliceFields
 refine wpAny_bind (wpAny_bind (wpAny_field hos hds (x:=vl) rfl (wpAny_bind (wpAny_field hos hds (x:=vu) rfl (wpAny_bind (wpAny_field hos hds (x:=.none) rfl (wpAny_pure ?_)))))))
 refine wpAny_bind (slicePart_none ?_)
 show wpAny _ _ (if((1:Int)==0)=true then _ else _) _ _ s
 rw[if_neg (by decide)]
 refine wpAny_bind (uv pl (wpAny_bind (uv pu (wpAny_bind (wpAny_pure ?_)))))
 show wpAny _ _ (match Builtin.Slice.sliceAdjust lo hi 1 (n:Int) with|(lo,hi)=>pure (lo,(1:Int),Builtin.Slice.slicePlaces lo hi 1)) _ _ s
 rw[Bn lo hi n]
 show wpAny _ _ (pure (((sIx n 0 lo:Nat):Int),(1:Int),Builtin.Slice.slicePlaces ((sIx n 0 lo:Nat):Int) ((sIx n n hi:Nat):Int) 1)) _ _ s
 rw[BX]
 exact wpAny_pure h
theorem GO(xs:Array Value)(i k:Nat):((cc k).filterMap λ(m:Nat)=>xs[((i:Int)+(m:Int)*1).toNat]?).toArray=((xs.toList.drop i).take k).toArray:=by
 have e:(λ(m:Nat)=>xs[((i:Int)+(m:Int)*1).toNat]?)=λm=>xs[i+m]?:=by
  funext m
  have:((i:Int)+(m:Int)*1).toNat=i+m:=by lia
  rw[this]
 rw[e]
 have:=pick_run xs i k
 rw[List.filterMap_map] at this
 have e2:((λx=>xs[x]?) ∘ λx=>i+x)=λm=>xs[i+m]?:=rfl
 rw[e2] at this
 rw[this]
theorem getItem_tuple_cut{t sl:Addr}{items:Array Value}{vl vu:Value}{lo hi:Option Int}{Q:Value->Shared->Prop}(ht:IsTup s.heap t items)(hs:s.heap.IsSliceOf sl vl vu .none)(pl:IsPart vl lo)(pu:IsPart vu hi)
  (hw:¬(sIx items.size 0 lo=0/\sIx items.size items.size hi=items.size))
  (h:Q (.ref s.heap.objs.size) {s with heap:=s.heap.push {cls:=.type "tuple",data:=.seq ((items.toList.drop (sIx items.size 0 lo)).take (sIx items.size items.size hi-sIx items.size 0 lo)).toArray}})
  (hsz:items.size<=sizeLine):wpAny (model prog w) A (getItem (.ref t) (.ref sl)) Q E s:=by
 have htake:sizeOk (.seq ((items.toList.drop (sIx items.size 0 lo)).take (sIx items.size items.size hi-sIx items.size 0 lo)).toArray):=by
  show((items.toList.drop (sIx items.size 0 lo)).take (sIx items.size items.size hi-sIx items.size 0 lo)).toArray.size<=sizeLine
  rw[ay,aP,cE,bE]
  lia
 have hj:sIx items.size items.size hi<=items.size:=L0 _ _ (ar _) hi
 obtain⟨os,hos,hcs,hds⟩:=id hs
 have hTs:s.TypeIs (.ref sl) "slice":=⟨os,hos,hcs⟩
 unfold getItem
 try with_reducible refine wpAny_holding ?_
 first|refine wpAny_bind (wpAny_pure ?_)|skip
 refine wpAny_bind (wpAny_sequenceKey ht.typeIs (by decide) ?_)
 refine wpAny_bind (wpAny_callSpecial?_slot (name:=Str.ofString "__getitem__") ht.typeIs c9
  (wpAny_call_entry c9 ht.typeIs entry_tuple_getitem ?_ (args_tuple_getitem _ _)))
 show wpAny _ _ (Builtin.Tuple.tupleItemsOf (.ref t) >>= _) _ _ s
 refine wpAny_bind (tupleItemsOf_ ht ?_)
 refine wpAny_bind (wpAny_typeOf hTs ?_)
 rw[if_pos (by decide)]
 refine wpAny_bind (ku hs pl pu ?_)
 have hno:¬((((sIx items.size 0 lo:Nat):Int)==0&&(1:Int)==1&&(sIx items.size items.size hi-sIx items.size 0 lo)==items.size)=true):=by
  intro q
  rw[Bool.and_eq_true,Bool.and_eq_true] at q
  have q1:((sIx items.size 0 lo:Nat):Int)=0:=eq_of_beq q.1.1
  have q2:sIx items.size items.size hi-sIx items.size 0 lo=items.size:=eq_of_beq q.2
  exact hw ⟨by lia,by lia⟩
 show wpAny _ _ (if(((sIx items.size 0 lo:Nat):Int)==0&&(1:Int)==1&&(sIx items.size items.size hi-sIx items.size 0 lo)==items.size)=true then _ else _) _ _ s
 rw[if_neg hno,GO]
 first
  |exact wpAny_bind (m:=Builtin.Tuple.tupleExact _) (wpAny_newObj_type (wpAny_pure ⟨_,rfl,wpAny_pure h⟩) htake)
  |exact wpAny_bind (m:=Builtin.Tuple.tupleExact _) (wpAny_newObj_type (wpAny_bind (wpAny_pure (wpAny_pure ⟨_,rfl,wpAny_pure h⟩))) htake)
  |exact wpAny_bind (wpAny_bind (m:=Builtin.Tuple.tupleExact _) (wpAny_newObj_type (wpAny_pure (wpAny_pure ⟨_,rfl,wpAny_pure h⟩)) htake))
  |exact wpAny_bind (wpAny_bind (m:=Builtin.Tuple.tupleExact _) (wpAny_newObj_type (wpAny_pure ⟨_,rfl,wpAny_pure h⟩) htake))
end
end HT
namespace L2
open PySem PySem.Spec PyProof.Rows
abbrev TO:=St->Hp->(Option Int->Hp->Prop)->Prop
def PO(X:Cx)(e:Option Expr)(t:TO):Prop:=
 ∀(pins:List (Addr×Obj)) (s:Shared) (σ:St) (H:Hp) (Q:Option Int->Hp->Prop),bw X pins σ H s->t σ H Q->
  wpAny (model X.prog X.w) X.A (evalPart e X.env) (λu s'=>∃o H',bw X pins σ H' s'/\IsPart u o/\Q o H') X.xe s
def fX:TO:=λ_ H Q=>Q none H
def lg(t:TE):TO:=λσ H Q=>t σ H λx H1=>∃i,x=.int i/\Q (some i) H1
section
variable{X:Cx}{e:Expr}{te:TE}{lo hi:Option Expr}{tl th:TO}{pos p2:Pos}
theorem JM:PO X none fX:=by
 intro pins s σ H Q I h
 rw[evalPart_none]
 exact wpAny_pure ⟨none,H,I,.none,h⟩
theorem JN(h:PE X e te):PO X (some e) (lg te):=by
 intro pins s σ H Q I hw
 rw[evalPart_some]
 refine d4 (h pins s σ H _ I hw) λu s1 ⟨x,H1,I1,r1,q1⟩=>?_
 obtain⟨i,rfl,q⟩:=q1
 obtain⟨t,rfl⟩:=r1
 exact⟨some i,H1,I1,.int i t,q⟩
def FA(X:Cx)(r:V->Option Int->Option Int->Hp->VK->Prop):Prop:=
 ∀(pins:List (Addr×Obj)) (s:Shared) (σ:St) (H:Hp) (x:V) (v vl vu:Value) (lo hi:Option Int) (sl:Addr) (Q:VK),bw X pins σ H s->cg x v->s.heap.IsSliceOf sl vl vu .none->IsPart vl lo->IsPart vu hi->r x lo hi H Q->
  ∃T id,typeLookup (.type T) "__getitem__"=pure (some (.builtin id))/\s.TypeIs v T/\wpAny (model X.prog X.w) X.A (getItem v (.ref sl)) (EP X pins σ Q) X.xe s
theorem FA.or{r r':V->Option Int->Option Int->Hp->VK->Prop}(h:FA X r)(h':FA X r'):FA X (λx lo hi H Q=>r x lo hi H Q\/r' x lo hi H Q):=by
 intro pins s σ H x v vl vu lo hi sl Q I rx hs pl pu q
 rcases q with q|q
 ·exact h pins s σ H x v vl vu lo hi sl Q I rx hs pl pu q
 ·exact h' pins s σ H x v vl vu lo hi sl Q I rx hs pl pu q
def E5(r:V->Option Int->Option Int->Hp->VK->Prop)(te:TE)(tl th:TO):TE:=λσ H Q=>te σ H λx H1=>tl σ H1 λl H2=>th σ H2 λu H3=>r x l u H3 Q
theorem GL{r:V->Option Int->Option Int->Hp->VK->Prop}(hr:FA X r)(he:PE X e te)(hl:PO X lo tl)(hu:PO X hi th):PE X (.Subscript e (.Slice lo hi none p2) pos) (E5 r te tl th):=by
 intro pins s σ H Q I h
 refine Subscript_ (d4 (he pins s σ H _ I h) λv s1 ⟨x,H1,I1,r1,q1⟩=>?_)
 refine wpAny_Slice (d4 (hl pins s1 σ H1 _ I1 q1) λvl s2 ⟨l,H2,I2,pl,q2⟩=>d4 (hu pins s2 σ H2 _ I2 q2) λvu s3 ⟨u,H3,I3,pu,q3⟩=>?_)
 rw[evalPart_none]
 refine wpAny_pure ?_
 have I4:bw X pins σ H3 {s3 with heap:=s3.heap.push {cls:=.type "slice",data:=.fields #[vl,vu,.none]}}:=I3.kept (t':=s3.toks) λb ob q=>ag _ q
 obtain⟨T,id,hT,ht,hg⟩:=hr pins {s3 with heap:=s3.heap.push {cls:=.type "slice",data:=.fields #[vl,vu,.none]}} σ H3 x v vl vu l u s3.heap.objs.size Q I4 r1 (Heap.IsSliceOf.new ..) pl pu q3
 show wpAny (model X.prog X.w) X.A (subscriptTail e (.Slice lo hi none p2) v (.ref s3.heap.objs.size)) (EP X pins σ Q) X.xe {s3 with heap:=s3.heap.push {cls:=.type "slice",data:=.fields #[vl,vu,.none]}}
 exact tail_any (ops:=[.ref s3.heap.objs.size,v]) ht hT hg (by with_unfolding_all rfl)
def m4(xs:List V)(lo hi:Option Int):List V:=(xs.drop (HT.sIx xs.length 0 lo)).take (HT.sIx xs.length xs.length hi-HT.sIx xs.length 0 lo)
theorem rk(xs:List V)(lo hi:Option Int):(m4 xs lo hi).length<=xs.length:=by
 unfold m4
 rw[aP,cE]
 lia
def M9(K:Fg):V->Option Int->Option Int->Hp->VK->Prop:=λx lo hi H Q=>∃a xs,x=.ref a/\cz K H a xs/\
 ¬(HT.sIx xs.length 0 lo=0/\HT.sIx xs.length xs.length hi=xs.length)/\∀p,H p=none->Q (.ref p) (aQ H p (.tup (m4 xs lo hi)))
theorem L5:FA X (M9 X.K):=by
 intro pins s σ H x v vl vu lo hi sl Q I rx hs pl pu h
 obtain⟨a,xs,rfl,hx,hw,q⟩:=h
 cases rx
 obtain⟨its,r,ht,hz⟩:=I.tuple hx
 have hlen:its.toArray.size=xs.length:=by rw[ay];exact r.length.symm
 refine⟨"tuple",_,c9.lookup,ht.typeIs,?_⟩
 refine HT.getItem_tuple_cut ht hs pl pu (by rw[hlen];exact hw) ?_ (by rw[hlen];exact hz)
 rw[hlen]
 refine⟨.ref s.heap.objs.size,_,I.laid (t':=s.toks) (o:=.tup (m4 xs lo hi)) (λb ob q=>ag _ q) (ar _) ?_,rfl,q _ (I.hok.fresh (ar _))⟩
 exact⟨a7 (rk xs lo hi) hz,_,(r.drop (HT.sIx xs.length 0 lo)).take (HT.sIx xs.length xs.length hi-HT.sIx xs.length 0 lo),jU.new _ _⟩
def Ku(K:Fg):R2:=λx y H Q=>∃a b xs ys,x=.ref a/\y=.ref b/\cz K H a xs/\cz K H b ys/\xs≠[]/\xs.length+ys.length<=sizeLine/\
 (ys=[]->Q (.ref a) H)/\(ys≠[]->∀p,H p=none->Q (.ref p) (aQ H p (.tup (xs++ys))))
theorem bX.nil_iff{xs:List V}{us:List Value}(r:bX xs us):us=[]↔xs=[]:=by
 cases r with
 |nil=>simp
 |cons _ _=>simp
theorem Js:iY X (binaryOp .Add) (Ku X.K):=by
 intro pins s σ H x y v u Q I rx ry h
 obtain⟨a,b,xs,ys,rfl,rfl,ha,hb,hx,hz,q1,q2⟩:=h
 cases rx
 cases ry
 obtain⟨its,r1,p1,_⟩:=I.tuple ha
 obtain⟨its2,r2,p2,_⟩:=I.tuple hb
 refine HT.cat_tup p1 p2 (λz=>hx (r1.nil_iff.mp z)) (λz=>⟨.ref a,H,I,rfl,q1 (r2.nil_iff.mp z)⟩) (λz=>?_) (by rw[<-r1.length,<-r2.length];exact hz)
 refine⟨.ref s.heap.objs.size,_,I.laid (t':=s.toks) (o:=.tup (xs++ys)) (λb ob q=>ag _ q) (ar _) ?_,rfl,q2 (λw=>z (r2.nil_iff.mpr w)) _ (I.hok.fresh (ar _))⟩
 exact⟨by rw[ai];exact hz,_,r1.append r2,jU.new _ _⟩
end
def Jf(n:Nat)(i:Int):Option Nat:=if 0<=i then(if i<n then some i.toNat else none) else if -(n:Int)<=i then some (i+n).toNat else none
def IR{α:Type}(xs:List α)(i:Int):Option α:=(Jf xs.length i).bind λj=>xs[j]?
theorem Df{n:Nat}{i:Int}{j:Nat}(h:Jf n i=some j):seqIndex? i n=some j/\j<n/\-(n:Int)<=i/\i<n:=by
 unfold Jf at h
 by_cases h0:0<=i
 ·rw[if_pos h0] at h
  by_cases h1:i<n
  ·rw[if_pos h1] at h
   have e:i.toNat=j:=Option.some.inj h
   exact⟨by rw[seqIndex_of h0 h1,e],by lia,by lia,h1⟩
  ·rw[if_neg h1] at h;cases h
 ·rw[if_neg h0] at h
  by_cases h1:-(n:Int)<=i
  ·rw[if_pos h1] at h
   have e:(i+n).toNat=j:=Option.some.inj h
   exact⟨by rw[seqIndex_neg (by lia) h1,e],by lia,h1,by lia⟩
  ·rw[if_neg h1] at h;cases h
theorem xw{α:Type}{xs:List α}{i:Int}{v:α}(h:IR xs i=some v):∃j,seqIndex? i xs.length=some j/\xs[j]?=some v/\j<xs.length/\-(xs.length:Int)<=i/\i<xs.length:=by
 unfold IR at h
 cases e:Jf xs.length i with
 |none=>rw[e] at h;cases h
 |some j=>
  rw[e] at h
  obtain⟨h1,h2,h3,h4⟩:=Df e
  exact⟨j,h1,h,h2,h3,h4⟩
theorem FI{α:Type}(xs:List α)(v:α):IR (xs++[v]) (-1)=some v:=by
 have hl:(xs++[v]).length=xs.length+1:=by simp
 have e:Jf (xs++[v]).length (-1)=some xs.length:=by
  unfold Jf
  rw[hl,if_neg (by decide),if_pos (by lia)]
  congr 1
  lia
 unfold IR
 rw[e]
 show(xs++[v])[xs.length]?=some v
 simp
def xu(b:Expr):Prop:=∀o i,subscripted b false o i=operate [o,i] (getItem o i)
def Iu(X:Cx)(r:R2):Prop:=
 ∀(value slice:Expr) (pins:List (Addr×Obj)) (s:Shared) (σ:St) (H:Hp) (x y:V) (v u:Value) (Q:VK),bw X pins σ H s->cg x v->cg y u->r x y H Q->
  subscripted slice false v u=operate [v,u] (getItem v u)->wpAny (model X.prog X.w) X.A (subscriptTail value slice v u) (EP X pins σ Q) X.xe s
def Ml(X:Cx)(id:String)(r:V->List V->Hp->VK->Prop):Prop:=
 ∀(pins:List (Addr×Obj)) (s:Shared) (σ:St) (H:Hp) (x:V) (xs:List V) (v:Value) (us:List Value) (Q:VK),bw X pins σ H s->cg x v->bX xs us->r x xs H Q->
  wpAny (model X.prog X.w) X.A (call (.builtin id) (v::us)) (EP X pins σ Q) X.xe s
section
variable{X:Cx}{a b:Expr}{ta tb:TE}{pos:Pos}
theorem Iu.or{r r':R2}(h:Iu X r)(h':Iu X r'):Iu X (λx y H Q=>r x y H Q\/r' x y H Q):=by
 intro value slice pins s σ H x y v u Q I rx ry q hs
 rcases q with q|q
 ·exact h value slice pins s σ H x y v u Q I rx ry q hs
 ·exact h' value slice pins s σ H x y v u Q I rx ry q hs
theorem MQ{r:R2}(hr:Iu X r)(ha:PE X a ta)(hb:PE X b tb)(hs:xu b):PE X (.Subscript a b pos) (bO r ta tb):=by
 intro pins s σ H Q I h
 exact Subscript_ (KO ha hb I h λv u s2 x y H2 I2 rx ry q=>hr a b pins s2 σ H2 x y v u Q I2 rx ry q (hs _ _))
def M4(K:Fg):R2:=λx y H Q=>∃p xs i v,x=.ref p/\y=.int i/\cx K H p xs/\IR xs i=some v/\Q v H
def M6(K:Fg):R2:=λx y H Q=>∃p xs i v,x=.ref p/\y=.int i/\cz K H p xs/\IR xs i=some v/\Q v H
def M5:R2:=λx y H Q=>∃z i c,x=.str z/\y=.int i/\z.length<=sizeLine/\IR z.cps.toList i=some c/\Q (.str ⟨#[c]⟩) H
theorem Jg:Iu X (M4 X.K):=by
 intro value slice pins s σ H x y v u Q I rx ry h hs
 obtain⟨p,xs,i,z,rfl,rfl,hq,he,q⟩:=h
 cases rx
 obtain⟨t,rfl⟩:=ry
 obtain⟨its,r,pl,hz⟩:=I.list hq
 obtain⟨j,h1,h2,h3,h4,h5⟩:=xw he
 obtain⟨w,ew,rw'⟩:=r.get h2
 have hl:=r.length
 have hn:=tI
 have fin:EP X pins σ Q w s:=⟨z,H,I,rw',q⟩
 by_cases h0:0<=i
 ·have hj:i.toNat=j:=by
   rw[seqIndex_of h0 h5] at h1
   exact Option.some.inj h1
  exact item_listR pl.isList h0 (by lia) (by rw[hj];simpa using ew) fin hs
 ·have hj:(i+(its.toArray.size:Int)).toNat=j:=by
   rw[seqIndex_neg (by lia) h4] at h1
   rw[ay,<-hl]
   exact Option.some.inj h1
  exact subscriptTail_builtinR (x:=w) pl.isList.typeIs slot_list_getitem.lookup
   (wpAny_getItem_list_neg (Q:=λr s'=>r=w/\EP X pins σ Q r s') pl.isList (by lia) (by rw[ay]<;>lia) (by lia) (by rw[hj];simpa using ew) ⟨rfl,fin⟩) hs
theorem K1:Iu X (M6 X.K):=by
 intro value slice pins s σ H x y v u Q I rx ry h hs
 obtain⟨p,xs,i,z,rfl,rfl,hq,he,q⟩:=h
 cases rx
 obtain⟨t,rfl⟩:=ry
 obtain⟨its,r,pl,hz⟩:=I.tuple hq
 obtain⟨j,h1,h2,h3,h4,h5⟩:=xw he
 obtain⟨w,ew,rw'⟩:=r.get h2
 have hl:=r.length
 have hn:=tI
 have fin:EP X pins σ Q w s:=⟨z,H,I,rw',q⟩
 exact subscriptTail_builtinR (x:=w) pl.typeIs slot_tuple_getitem.lookup
  (getItem_tuple (j:=j) (Q:=λr s'=>r=w/\EP X pins σ Q r s') pl (by lia) (by lia) (by rw[ay,<-hl];exact h1) (by simpa using ew) ⟨rfl,fin⟩) hs
theorem K0:Iu X M5:=by
 intro value slice pins s σ H x y v u Q I rx ry h hs
 obtain⟨z,i,c,rfl,rfl,hz,he,q⟩:=h
 obtain⟨t,rfl⟩:=rx
 obtain⟨t',rfl⟩:=ry
 obtain⟨j,h1,h2,h3,h4,h5⟩:=xw he
 have hl:z.cps.toList.length=z.length:=by simp[Str.length]
 rw[hl] at h1 h4 h5
 have hn:=tI
 exact tail_any (typeIs_str s z t) slot_str_getitem.lookup (getItem_str (c:=c) (by
  have e1:decide (i < -(2 ^ 63:Int))=false:=decide_eq_false (by lia)
  have e2:decide (i >= 2 ^ 63)=false:=decide_eq_false (by lia)
  rw[e1,e2,Bool.or_false]) (by rw[h1];simpa using h2) ⟨.str ⟨#[c]⟩,H,I.tok _,⟨_,rfl⟩,q⟩) hs
def e8(K:Fg):R2:=λx y H Q=>M4 K x y H Q\/M6 K x y H Q\/M5 x y H Q
theorem KZ:Iu X (e8 X.K):=Jg.or (K1.or K0)
theorem BS(its:List Value)(n j:Nat)(u:Value):Obj.mapSeq (·.setIfInBounds j u) {cls:=.type "list",data:=.seq its.toArray n}={cls:=.type "list",data:=.seq (its.set j u).toArray n}:=by
 simp[Obj.mapSeq]
theorem bw.lst{pins:List (Addr×Obj)}{σ:St}{H:Hp}{s:Shared}{p:Addr}{xs:List V}(I:bw X pins σ H s)(h:H p=some (.lst xs)) :
  ∃(its:List Value) (n:Nat),bX xs its/\s.heap.get? p=some {cls:=.type "list",data:=.seq its.toArray n}/\xs.length<=sizeLine:=by
 obtain⟨z,its,n,r,e⟩:=I.hok p _ h
 exact⟨its,n,r,e,z⟩
theorem bw.lstUpd{pins:List (Addr×Obj)}{σ:St}{H:Hp}{s:Shared}{p:Addr}{xs ys:List V}{its its':List Value}{n n':Nat}{f:Obj->Obj}(I:bw X pins σ H s)(h:H p=some (.lst xs))
  (ho:s.heap.get? p=some {cls:=.type "list",data:=.seq its.toArray n}) (hf:f {cls:=.type "list",data:=.seq its.toArray n}={cls:=.type "list",data:=.seq its'.toArray n'}) (r:bX ys its') (hz:ys.length<=sizeLine) (t:Nat) :
  bw X pins σ (aQ H p (.lst ys)) {s with heap:=s.heap.update p f,toks:=t}:=by
 have e:(s.heap.update p f).get? p=some {cls:=.type "list",data:=.seq its'.toArray n'}:=by
  rw[bZ f ho (by rw[hf]<;>rfl),hf]
 refine I.write (x:=p) (e:=p) (by rw[h];trivial) (.inl rfl) (λb u hb q=>(bF _ _ (Ne.symm hb)).trans q) ⟨_,e⟩ ?_
 exact⟨hz,its',n',r,e⟩
def Aa:V->V->V->Hp->(Hp->Prop)->Prop:=λo i v H Q=>∃p xs k j,o=.ref p/\i=.int k/\H p=some (.lst xs)/\Jf xs.length k=some j/\Q (aQ H p (.lst (xs.set j v)))
theorem uu:Fx X Aa:=by
 intro pins s σ H o i v ov iv u Q I ro ri rv h
 obtain⟨p,xs,k,j,rfl,rfl,hp,hj,q⟩:=h
 cases ro
 obtain⟨t,rfl⟩:=ri
 obtain⟨its,n,r,ho,hz⟩:=I.lst hp
 obtain⟨h1,h2,h3,h4⟩:=Df hj
 have hl:=r.length
 have hn:=tI
 have I':bw X pins σ (aQ H p (.lst (xs.set j v))) {s with heap:=s.heap.update p (Obj.mapSeq (·.setIfInBounds j u))}:=
  I.lstUpd hp ho (BS its n j u) (r.set rv j) (by rw[kY];exact hz) s.toks
 by_cases h0:0<=k
 ·have hk:k.toNat=j:=by
   rw[seqIndex_of h0 h4] at h1
   exact Option.some.inj h1
  exact PySem.W.ki_setAt ho h0 (by lia) (by rw[ay,<-hl];exact h4) (by rw[hk];exact⟨_,I',q⟩)
 ·have hk:(k+(its.toArray.size:Int)).toNat=j:=by
   rw[seqIndex_neg (by lia) h3] at h1
   rw[ay,<-hl]
   exact Option.some.inj h1
  exact PySem.W.ki_setBack ho (by lia) (by rw[ay,<-hl];exact h3) (by lia) (by rw[hk];exact⟨_,I',q⟩)
theorem yo(lo hi:Option Int)(n:Nat):(sliceBounds lo hi none n).1=((HT.sIx n 0 lo:Nat):Int)/\(sliceBounds lo hi none n).2.1=((HT.sIx n n hi:Nat):Int)/\(sliceBounds lo hi none n).2.2=1:=by
 refine⟨?_,?_,rfl⟩
 ·cases lo with
  |none=>simp[sliceBounds,HT.sIx]
  |some i=>
   simp only[sliceBounds,HT.sIx,j8,show(1:Int)>0 by decide,if_true]
   by_cases h:i<0
   ·simp only[h,if_true]<;>lia
   ·simp only[h,if_false]<;>lia
 ·cases hi with
  |none=>simp[sliceBounds,HT.sIx]
  |some i=>
   simp only[sliceBounds,HT.sIx,j8,show(1:Int)>0 by decide,if_true]
   by_cases h:i<0
   ·simp only[h,if_true]<;>lia
   ·simp only[h,if_false]<;>lia
theorem vB(its:List Value)(lo hi:Option Int):slicePick its.toArray lo hi none=((its.drop (HT.sIx its.length 0 lo)).take (HT.sIx its.length its.length hi-HT.sIx its.length 0 lo)).toArray:=by
 obtain⟨h1,h2,h3⟩:=yo lo hi its.toArray.size
 unfold slicePick
 rw[h1,h2,h3]
 simp only[sliceRange_one,pick_run,ay]<;>rfl
def M8(K:Fg):V->Option Int->Option Int->Hp->VK->Prop:=λx lo hi H Q=>∃a xs,x=.ref a/\cx K H a xs/\∀p,H p=none->Q (.ref p) (aQ H p (.lst (m4 xs lo hi)))
theorem Kf:FA X (M8 X.K):=by
 intro pins s σ H x v vl vu lo hi sl Q I rx hs pl pu h
 obtain⟨a,xs,rfl,hx,q⟩:=h
 cases rx
 obtain⟨its,r,ht,hz⟩:=I.list hx
 have hlen:=r.length
 refine⟨"list",_,slot_list_getitem.lookup,ht.isList.typeIs,?_⟩
 refine wpAny_getItem_list_slice ht.isList hs pl pu .none (by simp) ?_ (by rw[ay]<;>lia)
 rw[vB,<-hlen]
 refine⟨.ref s.heap.objs.size,_,I.laid (t':=s.toks) (o:=.lst (m4 xs lo hi)) (λb ob q=>ag _ q) (ar _) ?_,rfl,q _ (I.hok.fresh (ar _))⟩
 exact⟨a7 (rk xs lo hi) hz,_,0,(r.drop (HT.sIx xs.length 0 lo)).take (HT.sIx xs.length xs.length hi-HT.sIx xs.length 0 lo),ax _ rfl⟩
def iH:V->Bool
 |.non=>true
 |.bl _=>true
 |.int _=>true
 |.str _=>true
 |_=>false
def zk:V->V->Bool
 |.non,.non=>true
 |.bl a,.bl b=>a==b
 |.bl a,.int b=>(if a then 1 else 0)==b
 |.int a,.bl b=>a==(if b then 1 else 0)
 |.int a,.int b=>a==b
 |.str a,.str b=>a==b
 |_,_=>false
theorem FZ{A:Around}{s:Shared}{y x:V}{u v:Value}(ry:cg y u)(rx:cg x v)(fy:iH y=true)(fx:iH x=true):SeqAt.EqAt A s u v (zk y x):=by
 cases y with
 |non=>
  cases ry
  cases x with
  |non=>cases rx;exact SeqAt.EqAt.same _
  |bl b=>cases rx;exact SeqAt.EqAt.none_bool b
  |int b=>obtain⟨t,rfl⟩:=rx;exact SeqAt.EqAt.none_int b t
  |str b=>obtain⟨t,rfl⟩:=rx;exact SeqAt.EqAt.none_str b t
  |_=>exact absurd (show false=true from fx) Bool.false_ne_true
 |bl a=>
  cases ry
  cases x with
  |non=>cases rx;exact SeqAt.EqAt.bool_none a
  |bl b=>cases rx;exact SeqAt.EqAt.bool_bool a b
  |int b=>obtain⟨t,rfl⟩:=rx;exact SeqAt.EqAt.bool_int a b t
  |str b=>obtain⟨t,rfl⟩:=rx;exact SeqAt.EqAt.bool_str a b t
  |_=>exact absurd (show false=true from fx) Bool.false_ne_true
 |int a=>
  obtain⟨t',rfl⟩:=ry
  cases x with
  |non=>cases rx;exact SeqAt.EqAt.int_none a t'
  |bl b=>cases rx;exact SeqAt.EqAt.int_bool a t' b
  |int b=>obtain⟨t,rfl⟩:=rx;exact SeqAt.EqAt.int_int a t' b t
  |str b=>obtain⟨t,rfl⟩:=rx;exact SeqAt.EqAt.int_str a t' b t
  |_=>exact absurd (show false=true from fx) Bool.false_ne_true
 |str a=>
  obtain⟨t',rfl⟩:=ry
  cases x with
  |non=>cases rx;exact SeqAt.EqAt.str_none a t'
  |bl b=>cases rx;exact SeqAt.EqAt.str_bool a t' b
  |int b=>obtain⟨t,rfl⟩:=rx;exact SeqAt.EqAt.str_int a t' b t
  |str b=>obtain⟨t,rfl⟩:=rx;exact SeqAt.EqAt.str_str a t' b t
  |_=>exact absurd (show false=true from fx) Bool.false_ne_true
 |_=>exact absurd (show false=true from fy) Bool.false_ne_true
def BH(x:V)(u:Value):Bool:=match u with
 |.none=>zk .non x
 |.bool b=>zk (.bl b) x
 |.int i _=>zk (.int i) x
 |.str z _=>zk (.str z) x
 |_=>false
theorem F0{x y:V}{u:Value}(r:cg y u)(f:iH y=true):BH x u=zk y x:=by
 cases y with
 |non=>cases r;rfl
 |bl b=>cases r;rfl
 |int i=>obtain⟨t,rfl⟩:=r;rfl
 |str z=>obtain⟨t,rfl⟩:=r;rfl
 |_=>exact absurd (show false=true from f) Bool.false_ne_true
theorem pK{x:V}:∀{xs:List V} {us:List Value},bX xs us->xs.all iH=true->us.any (BH x)=xs.any λy=>zk y x
 |_,_,.nil,_=>rfl
 |y::xs,u::us,.cons r t,f=>by
  rw[nh,Bool.and_eq_true] at f
  rw[iu,iu,F0 r f.1,pK t f.2]
theorem mn{A:Around}{s:Shared}{x:V}{v:Value}(rx:cg x v)(fx:iH x=true):∀{xs:List V} {us:List Value},bX xs us->xs.all iH=true->∀u∈us,SeqAt.EqAt A s u v (BH x u)
 |_,_,.nil,_=>λu hu=>by cases hu
 |y::xs,u::us,.cons r t,f=>λu' hu=>by
  rw[nh,Bool.and_eq_true] at f
  rcases aK.mp hu with rfl|hu
  ·rw[F0 r f.1];exact FZ r rx f.1 fx
  ·exact mn rx fx t f.2 u' hu
def xM(x:V)(xs:List V):Bool:=xs.any λy=>zk y x
def B9(K:Fg)(neg:Bool):R2:=λx y H Q=>∃p xs,y=.ref p/\(cx K H p xs\/cz K H p xs)/\iH x=true/\xs.all iH=true/\Q (.bl (if neg then !xM x xs else xM x xs)) H
theorem gi:iY X (compareOp .In) (B9 X.K false):=by
 intro pins s σ H x y v u Q I rx ry h
 obtain⟨p,xs,rfl,hq,fx,fs,q⟩:=h
 cases ry
 rcases hq with hq|hq
 ·obtain⟨its,r,pl,hz⟩:=I.list hq
  refine SeqAt.in_listAt (BH x) pl.isList (λw hw=>mn rx fx r fs w (by simpa using hw)) ⟨.bl _,H,I,rfl,?_⟩
  rw[show its.toArray.any (BH x)=its.any (BH x) by simp,pK r fs]
  exact q
 ·obtain⟨its,r,pl,hz⟩:=I.tuple hq
  refine SeqAt.in_tupleAt (BH x) pl (λw hw=>mn rx fx r fs w (by simpa using hw)) ⟨.bl _,H,I,rfl,?_⟩
  rw[show its.toArray.any (BH x)=its.any (BH x) by simp,pK r fs]
  exact q
theorem kO:iY X (compareOp .NotIn) (B9 X.K true):=by
 intro pins s σ H x y v u Q I rx ry h
 obtain⟨p,xs,rfl,hq,fx,fs,q⟩:=h
 cases ry
 rcases hq with hq|hq
 ·obtain⟨its,r,pl,hz⟩:=I.list hq
  refine SeqAt.notIn_listAt (BH x) pl.isList (λw hw=>mn rx fx r fs w (by simpa using hw)) ⟨.bl _,H,I,rfl,?_⟩
  rw[show its.toArray.any (BH x)=its.any (BH x) by simp,pK r fs]
  exact q
 ·obtain⟨its,r,pl,hz⟩:=I.tuple hq
  refine SeqAt.notIn_tupleAt (BH x) pl (λw hw=>mn rx fx r fs w (by simpa using hw)) ⟨.bl _,H,I,rfl,?_⟩
  rw[show its.toArray.any (BH x)=its.any (BH x) by simp,pK r fs]
  exact q
theorem kH:g8 X (.type "list") (λxs H Q=>∃p ys,xs=[.ref p]/\(cx X.K H p ys\/cz X.K H p ys)/\∀l,H l=none->Q (.ref l) (aQ H l (.lst ys))):=by
 intro pins s σ H xs us Q I r h
 obtain⟨p,ys,rfl,hq,q⟩:=h
 obtain⟨u,rfl,rx⟩:=kz r
 cases rx
 have fin:∀(its:List Value),bX ys its->ys.length<=sizeLine->∀(h':Heap) (c':Nat),(∀b o',s.heap.get? b=some o'->h'.get? b=some o')->
   h'.get? s.heap.objs.size=some {cls:=.type "list",dict:=none,data:=.seq its.toArray c',slots:=#[]}->EP X pins σ Q (.ref s.heap.objs.size) {s with heap:=h'}:=λits r' hz h' c' kp e=>
  ⟨.ref s.heap.objs.size,_,I.laid (t':=s.toks) kp (ar _) (show dR X.prog X.w _ h' _ (.lst ys) from⟨hz,its,c',r',e⟩),rfl,q _ (I.hok.fresh (ar _))⟩
 rcases hq with hq|hq
 ·obtain⟨its,r',pl,hz⟩:=I.list hq
  have hlen:=r'.length
  obtain⟨o,ho,hc,n,hd⟩:=pl.isList
  exact call_list_seq p (.inl rfl) ho hc hd (λh' c' kp e=>fin its r' hz h' c' kp e) (by simp only[ay]<;>lia)
 ·obtain⟨its,r',pl,hz⟩:=I.tuple hq
  have hlen:=r'.length
  obtain⟨o,ho,hc,n,hd⟩:=pl
  exact call_list_seq p (.inr rfl) ho hc hd (λh' c' kp e=>fin its r' hz h' c' kp e) (by simp only[ay]<;>lia)
theorem bP:g8 X (.type "tuple") (λxs H Q=>∃p ys,xs=[.ref p]/\((cx X.K H p ys/\∀l,H l=none->Q (.ref l) (aQ H l (.tup ys)))\/(cz X.K H p ys/\Q (.ref p) H))):=by
 intro pins s σ H xs us Q I r h
 obtain⟨p,ys,rfl,h⟩:=h
 obtain⟨u,rfl,rx⟩:=kz r
 cases rx
 rcases h with⟨hq,q⟩|⟨hq,q⟩
 ·obtain⟨its,r',pl,hz⟩:=I.list hq
  have hlen:=r'.length
  refine call_tuple_list pl.isList (λh' kp=>?_) (by simp only[ay]<;>lia)
  have I1:bw X pins σ H {s with heap:=h'}:=I.kept (t':=s.toks) kp
  have I2:bw X pins σ (aQ H h'.objs.size (.tup ys)) {s with heap:=h'.push {cls:=.type "tuple",data:=.seq its.toArray}}:=
   I1.laid (t':=s.toks) (λb o e=>ag _ e) (ar _) (show dR X.prog X.w _ _ _ (.tup ys) from⟨hz,its,r',jU.new _ _⟩)
  exact⟨.ref h'.objs.size,_,I2,rfl,q _ (I1.hok.fresh (ar _))⟩
 ·obtain⟨its,r',pl,hz⟩:=I.tuple hq
  exact call_tuple_same pl ⟨.ref p,H,I,rfl,q⟩
def NG(K:Fg)(T:String)(x:V)(H:Hp):Prop:=match x with
 |.str _=>T="str"
 |.int _=>T="int"
 |.ref p=>(T="list"/\∃xs,cx K H p xs)\/(T="tuple"/\∃o,K.lookup p=some o/\o.cls=.type "tuple"/\o.dict=none)\/
   (T="dict"/\((∃kvs,H p=some (.dK kvs))\/∃kvs,H p=some (.dT kvs)))\/(T="set"/\∃S n,H p=some (.set S n))
 |_=>False
theorem Ih{pins:List (Addr×Obj)}{σ:St}{H:Hp}{s:Shared}{T:String}{x:V}{v:Value}(I:bw X pins σ H s)(r:cg x v)(ty:NG X.K T x H) :
  s.TypeIs v T/\∀a,v=.ref a->∃ob,s.heap.get? a=some ob/\ob.dict=none:=by
 cases x with
 |str z=>
  obtain⟨t,rfl⟩:=r
  cases(show T="str" from ty)
  exact⟨typeIs_str s z t,λ_ e=>nomatch e⟩
 |int i=>
  obtain⟨t,rfl⟩:=r
  cases(show T="int" from ty)
  exact⟨typeIs_int s i t,λ_ e=>nomatch e⟩
 |ref p=>
  cases r
  rcases ty with⟨rfl,xs,hq⟩|⟨rfl,o,hk,hc,hd⟩|⟨rfl,hk⟩|⟨rfl,S,n,hk⟩
  ·obtain⟨its,_,pl,_⟩:=I.list hq
   refine⟨pl.isList.typeIs,λa e=>?_⟩
   cases e
   obtain⟨o,n,e,c,hd,_⟩:=pl
   exact⟨o,e,hd⟩
  ·refine⟨⟨o,I.kIn p o hk,hc⟩,λa e=>?_⟩
   cases e
   exact⟨o,I.kIn _ o hk,hd⟩
  ·have z:∃o,s.heap.get? p=some o/\o.ExactDict:=by
    rcases hk with⟨kvs,hk⟩|⟨kvs,hk⟩
    ·obtain⟨_,_,_,_,o,_,_,e,ex,_⟩:=I.hok p _ hk
     exact⟨o,e,ex⟩
    ·obtain⟨_,_,_,_,o,_,_,e,ex,_⟩:=I.hok p _ hk
     exact⟨o,e,ex⟩
   obtain⟨o,e,ex⟩:=z
   refine⟨⟨o,e,ex.1⟩,λa e2=>?_⟩
   cases e2
   exact⟨o,e,ex.2.1⟩
  ·obtain⟨o,_,_,_,e,ex,_⟩:=I.hok p _ hk
   refine⟨⟨o,e,ex.1⟩,λa e2=>?_⟩
   cases e2
   exact⟨o,e,ex.2.1⟩
 |_=>exact False.elim ty
def L6(K:Fg)(T:String)(r:V->List V->Hp->VK->Prop)(to:TE):TE:=λσ H Q=>to σ H λx H1=>NG K T x H1/\r x [] H1 Q
def si(K:Fg)(T:String)(r:V->List V->Hp->VK->Prop)(to:TE)(t:TA):TE:=λσ H Q=>to σ H λx H1=>NG K T x H1/\t σ H1 λxs H2=>r x xs H2 Q
variable{o e:Expr}{es:List Expr}{to:TE}{t:TA}{name:Str}{apos cpos:Pos}{T id:String}{r:V->List V->Hp->VK->Prop}
theorem Ls(pa:PlainAttrs T)(slot:Slot T name id)(hty:typeOf (.builtin id)=pure (.type "method_descriptor"))(hm:Ml X id r)(ho:PE X o to)
  (hbase:attributeBase o name X.env (eval o X.env)=eval o X.env:=by rfl) (hline:(apos.endLine==cpos.line)=true:=by rfl):PE X (.Call (.Attribute o name apos) [] [] cpos) (L6 X.K T r to):=by
 intro pins s σ H Q I h
 refine wpAny_Call_method0_late hbase hline (d4 (ho pins s σ H _ I h) λv s1 ⟨x,H1,I1,r1,ty,q1⟩=>?_)
 obtain⟨h1,h2⟩:=Ih I1 r1 ty
 exact⟨T,id,pa,slot,hty,h1,h2,Calls.callWith_builtin rfl (PySem.evalArgs_none (hm pins s1 σ H1 x [] v [] Q I1 r1 .nil q1))⟩
theorem MO(pa:PlainAttrs T)(slot:Slot T name id)(hty:typeOf (.builtin id)=pure (.type "method_descriptor"))(hm:Ml X id r)(ho:PE X o to)(ha:PA X (e::es) t)
  (hbase:attributeBase o name X.env (eval o X.env)=eval o X.env:=by rfl)
  (hfew:((backTo cpos (starEach (e::es) X.env)).all (λx=>!x.1)&&(backToKw cpos (keywordEach [] X.env)).all (λx=>x.1.isSome)
   && decide ((e::es).length+([]:List Keyword).length+(if([]:List Keyword).isEmpty then 0 else 1)<30))=true:=by rfl)
  (hline:(apos.endLine==cpos.line)=true:=by rfl) (hs:starEach (e::es) X.env=(false,eval e X.env)::starEach es X.env:=by rfl) (hplain:(backTo cpos (starEach es X.env)).any (·.1)=false:=by rfl) :
  PE X (.Call (.Attribute o name apos) (e::es) [] cpos) (si X.K T r to t):=by
 intro pins s σ H Q I h
 refine wpAny_Call_method_late hbase hfew hline rfl (d4 (ho pins s σ H _ I h) λv s1 ⟨x,H1,I1,r1,ty,q1⟩=>?_)
 obtain⟨h1,h2⟩:=Ih I1 r1 ty
 refine⟨T,id,pa,slot,hty,h1,h2,?_⟩
 have hA:=ha cpos pins s1 σ H1 _ I1 q1
 rw[hs] at hA ⊢
 refine Calls.callWith_builtin (by show(false || (backTo cpos (starEach es X.env)).any (·.1))=false;rw[hplain]<;>rfl) (Calls.evalArgs_plain ?_)
 exact d4 hA λus s2 ⟨vs,H2,I2,r2,q2⟩=>hm pins s2 σ H2 x vs v us Q I2 r1 r2 q2
end
def Nl(X:Cx)(id:String)(r:V->List V->Hp->VK->Prop):Prop:=
 ∀(pins:List (Addr×Obj)) (s:Shared) (σ:St) (H:Hp) (x:V) (xs:List V) (v:Value) (us:List Value) (Q:VK),bw X pins σ H s->cg x v->bX xs us->r x xs H Q->
  wpAny (model X.prog X.w) X.A (call (.builtin id) (v::us)) (EP X pins σ Q) X.xe s
theorem bX.one:∀{x:V} {us:List Value},bX [x] us->∃u,us=[u]/\cg x u
 |_,_,.cons r .nil=>⟨_,rfl,r⟩
theorem bX.zero:∀{us:List Value},bX [] us->us=[]
 |_,.nil=>rfl
theorem bX.dropLast{xs:List V}{us:List Value}(h:bX xs us):bX xs.dropLast us.dropLast:=by
 induction h with
 |nil=>exact .nil
 |cons r t ih=>
  cases t with
  |nil=>exact .nil
  |cons q t'=>exact .cons r ih
theorem bX.eraseIdx:∀{xs:List V} {us:List Value} (i:Nat),bX xs us->bX (xs.eraseIdx i) (us.eraseIdx i)
 |_,_,_,.nil=>.nil
 |_,_,0,.cons _ t=>t
 |_,_,i+1,.cons r t=>.cons r (bX.eraseIdx i t)
theorem bX.reverse{xs:List V}{us:List Value}(h:bX xs us):bX xs.reverse us.reverse:=by
 induction h with
 |nil=>exact .nil
 |cons r t ih=>rw[List.reverse_cons,List.reverse_cons];exact bX.append ih (.cons r .nil)
theorem bX.rep{xs:List V}{us:List Value}(h:bX xs us):∀k:Nat,bX (aU k xs).flatten (aU k us).flatten
 |0=>.nil
 |k+1=>by
  rw[cJ,cJ,d7,d7]
  exact bX.append h (bX.rep h k)
theorem BJ{α:Type}(l:List α):l.eraseIdx (l.length-1)=l.dropLast:=by
 induction l with
 |nil=>rfl
 |cons a r ih=>
  cases r with
  |nil=>rfl
  |cons b r=>
   have e:(a::b::r).length-1=((b::r).length-1)+1:=by
    have h1:(a::b::r).length=r.length+2:=rfl
    have h2:(b::r).length=r.length+1:=rfl
    lia
   rw[e,List.eraseIdx_cons_succ,ih]
   all_goals rfl
theorem wb{α:Type}:∀(l:List α) (i:Nat),(l.eraseIdx i).length<=l.length
 |[],_=>ar _
 |_::_,0=>d8 _
 |_::r,i+1=>Nat.succ_le_succ (wb r i)
theorem vY(its:List Value):∀(k:Nat) (acc:List Value),
  sH (λx1 x2=>x1++x2) acc.toArray (aU k its.toArray)=(acc++(aU k its).flatten).toArray
 |0,acc=>by simp
 |k+1,acc=>by
  have e:acc.toArray++its.toArray=(acc++its).toArray:=by simp
  have e2:(acc++its)++(aU k its).flatten=acc++(aU (k+1) its).flatten:=by
   rw[cJ,d7,d5]
  rw[<-e2,<-vY its k (acc++its),<-e,cJ,fQ]
section
variable{X:Cx}{pins:List (Addr×Obj)}{σ:St}{H:Hp}{s:Shared}{l b:Addr}{xs ys zs:List V}
theorem bw.lset{its its':List Value}{n:Nat}{f:Array Value->Array Value}{t':Nat}(I:bw X pins σ H s)(hH:H l=some (.lst xs))
  (e:s.heap.get? l=some {cls:=.type "list",data:=.seq its.toArray n}) (hf:f its.toArray=its'.toArray) (hv:bX ys its') (hz:ys.length<=sizeLine) :
  bw X pins σ (aQ H l (.lst ys)) {s with heap:=s.heap.update l (Obj.mapSeq f),toks:=t'}:=by
 have q:=PySem.IsL.update e f
 rw[hf] at q
 refine I.write (x:=l) (e:=l) (by rw[hH];exact trivial) (.inl rfl) (λb' u hb hu=>(bF s.heap (Obj.mapSeq f) (Ne.symm hb)).trans hu) ⟨_,q⟩ ?_
 exact⟨hz,its',_,hv,q⟩
theorem bw.lnew{its:List Value}{t':Nat}(I:bw X pins σ H s)(hv:bX ys its)(hz:ys.length<=sizeLine) :
  bw X pins σ (aQ H s.heap.objs.size (.lst ys)) {s with heap:=s.heap.push {cls:=.type "list",data:=.seq its.toArray},toks:=t'}:=
 I.laid (λ_ _ q=>ag _ q) (ar _) ⟨hz,its,0,hv,ax _ rfl⟩
theorem bw.fresh(I:bw X pins σ H s):H s.heap.objs.size=none:=I.hok.fresh (ar _)
theorem bw.lstM(I:bw X pins σ H s)(hH:H l=some (.lst xs)):xs.length<=sizeLine/\∃(its:List Value) (n:Nat),bX xs its/\xs.length=its.length/\s.heap.get? l=some {cls:=.type "list",data:=.seq its.toArray n}:=by
 obtain⟨z,its,n,r,e⟩:=I.hok l _ hH
 exact⟨z,its,n,r,r.length,e⟩
theorem Gx{n:Nat}(h:n<=sizeLine):Builtin.List.listTooLong n=false:=by
 unfold Builtin.List.listTooLong
 exact decide_eq_false (by lia)
end
section
variable{X:Cx}
def dJ:V->List V->Hp->VK->Prop:=λx vs H Q=>∃l xs y,x=.ref l/\vs=[y]/\H l=some (.lst xs)/\xs.length<sizeLine/\Q .non (aQ H l (.lst (xs++[y])))
theorem we:Nl X "list.append" dJ:=by
 intro pins s σ H x vs v us Q I rx rv h
 obtain⟨l,xs,y,rfl,rfl,hH,hz,q⟩:=h
 cases rx
 obtain⟨u,rfl,ru⟩:=rv.one
 obtain⟨z,its,n,r,hl,e⟩:=I.lstM hH
 refine call_meets F.slot_list_append ⟨_,e,rfl⟩ F.entry_list_append (F.args_list_append_2 _ _) (PySem.list_append l its.toArray n u (by rw[ay];lia)) ⟨e,?_⟩
 refine⟨.non,_,I.lset (its':=its++[u]) hH e (by simp) (r.append (.cons ru .nil)) ?_,rfl,q⟩
 rw[ai,aM]
 lia
def x8:V->List V->Hp->VK->Prop:=λx vs H Q=>∃l b xs zs,x=.ref l/\vs=[.ref b]/\H l=some (.lst xs)/\H b=some (.lst zs)/\xs.length+zs.length<=sizeLine/\Q .non (aQ H l (.lst (xs++zs)))
theorem wg:Nl X "list.extend" x8:=by
 intro pins s σ H x vs v us Q I rx rv h
 obtain⟨l,b,xs,zs,rfl,rfl,hH,hB,hz,q⟩:=h
 cases rx
 obtain⟨u,rfl,ru⟩:=rv.one
 cases ru
 obtain⟨z,its,n,r,hl,e⟩:=I.lstM hH
 obtain⟨z2,its2,n2,r2,hl2,e2⟩:=I.lstM hB
 have hsz:its.toArray.size+its2.toArray.size<=sizeLine:=by rw[ay,ay];lia
 have hlong:¬(!its.toArray.isEmpty&&Builtin.List.listTooLong (its.toArray.size+its2.toArray.size))=true:=by
  rw[Gx hsz,Bool.and_false]
  exact Bool.false_ne_true
 refine call_meets F.slot_list_extend ⟨_,e,rfl⟩ F.entry_list_extend (F.args_list_extend_2 _ _)
  (AutoSeq1.list_extend_list_list_0 l its.toArray n b its2.toArray n2 hlong (by rw[ay];lia) (by lia)) ⟨e,e2,?_⟩
 refine⟨.non,_,I.lset (its':=its++its2) hH e (by simp) (r.append r2) ?_,rfl,q⟩
 rw[ai]
 lia
def M7:V->List V->Hp->VK->Prop:=λx vs H Q=>∃l xs y,x=.ref l/\vs=[]/\H l=some (.lst xs)/\xs[xs.length-1]?=some y/\Q y (aQ H l (.lst xs.dropLast))
theorem Lf:Nl X "list.pop" M7:=by
 intro pins s σ H x vs v us Q I rx rv h
 obtain⟨l,xs,y,rfl,rfl,hH,hy,q⟩:=h
 cases rx
 have hus:=rv.zero
 subst hus
 obtain⟨z,its,n,r,hl,e⟩:=I.lstM hH
 obtain⟨u,hu,ru⟩:=r.get hy
 have hy':its.toArray[its.toArray.size-1]?=some u:=by
  show its.toArray[its.length-1]?=some u
  rw[<-bK,<-hl]
  exact hu
 refine call_meets F.slot_list_pop ⟨_,e,rfl⟩ F.entry_list_pop (F.args_list_pop_1 _) (MeetsSeq.list_pop_last l its.toArray n u hy' (by rw[ay];lia)) ⟨e,?_⟩
 refine⟨y,_,I.lset (its':=its.dropLast) hH e ?_ r.dropLast ?_,ru,q⟩
 ·show its.toArray.eraseIdxIfInBounds (its.toArray.size-1)=its.dropLast.toArray
  rw[ay,List.eraseIdxIfInBounds_toArray,BJ]
 ·rw[fc]
  lia
def Cc:V->List V->Hp->VK->Prop:=λx vs H Q=>∃l xs i k y,x=.ref l/\vs=[.int i]/\H l=some (.lst xs)/\-(2 ^ 63)<=i/\i<2 ^ 63/\seqIndex? i xs.length=some k/\xs[k]?=some y/\Q y (aQ H l (.lst (xs.eraseIdx k)))
theorem zO:Nl X "list.pop" Cc:=by
 intro pins s σ H x vs v us Q I rx rv h
 obtain⟨l,xs,i,k,y,rfl,rfl,hH,h1,h2,hk,hy,q⟩:=h
 cases rx
 obtain⟨u,rfl,ru⟩:=rv.one
 obtain⟨t,rfl⟩:=ru
 obtain⟨z,its,n,r,hl,e⟩:=I.lstM hH
 obtain⟨w,hw,rw'⟩:=r.get hy
 refine call_meets F.slot_list_pop ⟨_,e,rfl⟩ F.entry_list_pop (F.args_list_pop_2 _ _)
  (MeetsSeq.list_pop_at l its.toArray n i t k w (fitsIndex_both h1 h2) (by rw[ay,<-hl];exact hk) (by rw[<-bK];exact hw) (by rw[ay];lia)) ⟨e,?_⟩
 refine⟨y,_,I.lset (its':=its.eraseIdx k) hH e ?_ (r.eraseIdx k) ?_,rw',q⟩
 ·show its.toArray.eraseIdxIfInBounds k=(its.eraseIdx k).toArray
  rw[List.eraseIdxIfInBounds_toArray]
 ·have:=wb xs k
  lia
def MZ:R2:=λx y H Q=>∃l b xs zs,x=.ref l/\y=.ref b/\H l=some (.lst xs)/\H b=some (.lst zs)/\xs.length+zs.length<=sizeLine/\∀p,H p=none->Q (.ref p) (aQ H p (.lst (xs++zs)))
theorem Li:iY X (binaryOp .Add) MZ:=by
 intro pins s σ H x y v u Q I rx ry h
 obtain⟨l,b,xs,zs,rfl,rfl,hH,hB,hz,q⟩:=h
 cases rx
 cases ry
 obtain⟨z,its,n,r,hl,e⟩:=I.lstM hH
 obtain⟨z2,its2,n2,r2,hl2,e2⟩:=I.lstM hB
 refine PySem.P.add_list e e2 ?_ (by rw[ay,ay];lia)
 have ea:its.toArray++its2.toArray=(its++its2).toArray:=by simp
 rw[ea]
 exact⟨.ref _,_,I.lnew (t':=s.toks) (r.append r2) (by rw[ai];lia),rfl,q _ I.fresh⟩
theorem Jm{α:Type}(xs:List α)(k:Nat):(aU k xs).flatten.length=k*xs.length:=by
 induction k with
 |zero=>simp
 |succ k ih=>rw[cJ,d7,ai,ih,Nat.succ_mul,Nat.add_comm]
end
section
variable{prog:Program}{w:World}{A:Around}{E:Value->Shared->Prop}{s:Shared}
set_option maxRecDepth 100000 in
end
section
variable{X:Cx}
end
end L2
namespace Att
open PySem PySem.W PySem.Calls PyProof.Rows
theorem rX{P:Params}{h:Heap}:∀(ns:List Int) (vs:List Value),WellAll P h vs (ns.map WData.int)->IntsAre vs ns:=by
 intro ns
 induction ns with
 |nil=>
  intro vs w
  rw[List.map_nil] at w
  cases w
  exact .nil
 |cons n ns ih=>
  intro vs w
  rw[bA] at w
  cases w with
  |cons a b=>
   cases a
   exact .cons _ _ (ih _ b)
theorem EG{l:OpenLaw}{n:Nat}(hn:l.most=some n){P:Params}{h:Heap}{args:List WData}{vals:List Value}
  (hpre:l.row.toRowW.claim.pre args=true) (hwl:WellAll P h vals args) :
  ∃a vs ns,vals=[Value.ref a]/\args=[WData.list (ns.map WData.int)]/\h.get? a=some {cls:=.type "list",data:=.seq vs.toArray}/\IntsAre vs ns/\ns.length<=n:=by
 have hsh:WShape.hasAll [] args [.list .int]=true:=(pre_splitW hpre).1
 have hc:l.pre.holds [] {args:=args}=true:=(pre_splitW hpre).2
 obtain⟨d,r,rfl,h1,h2⟩:=hasAllW_cons hsh
 obtain rfl:=hasAllW_nil h2
 obtain⟨xs,rfl,h3⟩:=hasW_list h1
 obtain⟨ns,rfl⟩:=items_int h3
 have hlen:ns.length<=n:=by
  unfold OpenLaw.pre at hc
  have h4:(WTm.not (.lt (.lit (.int (n:Int))) (.len (.arg 0)))).holds [] {args:=[.list (ns.map .int)]}=true:=by
   have h4:=(holds_andW hc).1
   rw[hn] at h4
   exact h4
  have h5:=condW_of h4 (w_not (w_lt w_lit (w_len_list (w_arg rfl))))
  rw[af] at h5
  refine Nat.le_of_not_lt λq=>?_
  have q':(n:Int)<((ns.length:Nat):Int):=by lia
  first
   |(rw[decide_eq_true q'] at h5;exact absurd h5 (by decide))
   |(simp at h5;lia)
 cases hwl with
 |cons w1 w2=>
  cases w2
  cases w1 with
  |list ho hall=>exact⟨_,_,ns,rfl,rfl,ho,rX ns _ hall,hlen⟩
theorem Ew(l:OpenLaw)(args:List WData):l.row.toRowW.claim.post args (.bool true) args=true:=
 postW_of (r:=l.row.toRowW) (X:=(true==true))
  (show WShape.has [] (.bool true) .bool=true by first|rfl|decide|simp[WShape.has,WShape.arms,WShape.armsAll])
  (show(WTm.eq .res (.lit (.bool true))).value [] {args:=args,res:=some (.bool true),after:=args}=some (.bool (true==true)) from w_eq_bool (w_res rfl) w_lit) rfl
theorem attach_call{l:OpenLaw}{n:Nat}{q:Program}{loose:List Str}{XP:(Str->Option Value)->Heap->Prop}{YP:World->Heap->Prop}{d:DefRec}
  (hn:l.most=some n) (hdf:d.params.defaults=[])
  (call:∀(w:World) (s₀ s₁:Shared) (mg mb:Str->Option Value) (fa:Addr) (o:Obj) (pm cd doc:Value) (a:Addr) (vs:List Value) (ns:List Int),
   Ground q loose [] XP w s₀ mg mb s₁.heap->YP w s₁.heap->
   s₁.heap.get? fa=some o->o.data=.func (docDef d.name d.params d.body d.scope pm cd doc)->s₁.heap.CodeRec cd d.name->mg d.name=some (.ref fa)->
   s₁.heap.get? a=some {cls:=.type "list",data:=.seq vs.toArray}->IntsAre vs ns->ns.length<=n->s₁.gens=#[]->
   codeAny (model l.prog w) callerA (.call (.ref fa) ⟨[.ref a],[]⟩) (λr s'=>r=.ok (.ret (.bool true))/\OldK s₁.heap s'.heap/\s'.os=s₁.os/\AllBare s'.gens) s₁) :
  WalkO q loose XP YP l.row.toRowW d [] (λf vs=>sI f vs):=by
 intro w s₀ s₁ mg mb G Y fa o pm cd doc dV kV ho hd hcd hD hmg hg args vals as hpre hlay hrd hwl hlo
 obtain rfl:dV=.none:=Dflts.none hD hdf
 obtain rfl:kV=.none:=Dflts.noKw hD
 obtain⟨a,vs,ns,rfl,rfl,hobj,hints,hlen⟩:=EG hn hpre hwl
 refine enter_call (codeAny_mono (call w s₀ s₁ mg mb fa o pm cd doc a vs ns G Y ho (fd_plain hd) hcd hmg hobj hints hlen hg) λr s' hq=>?_)
 obtain⟨rfl,h2,h3,h4⟩:=hq
 exact⟨.inl ⟨.bool true,.bool true,[],rfl,λ_=>rfl,.bool true,Ew l _,λ_=>⟨List.Pairwise.nil,λ_ hm=>(nomatch hm)⟩⟩,h2,h3,h4⟩
section
variable{prog:Program}{w:World}{A:Around}{E:Value->Shared->Prop}{s:Shared}{K:Frag}
end
end Att
namespace L2
open PySem PySem.Spec PyProof.Rows
theorem xb:∀{vs:List Value} {ns:List Int},IntsAre vs ns->bX (ns.map V.int) vs
 |_,_,.nil=>.nil
 |_,_,.cons n t h=>.cons ⟨t,rfl⟩ (xb h)
def IG(H:Hp):Prop:=∀b,H b=none\/∃o xs,H b=some (.frz o (.lst xs))
theorem Gs{P:Program}{w:World}{K:Fg}{mg mb:Str->Option Value}{CX:E6}{k:Nat}{fa a:Addr}{fd:FuncData}{x:Str}{sp:Sp}{s₁:Shared}{vs:List Value}{ns:List Int}
  (KX:K.In s₁.heap) (hns:s₁.heap.Ns mainGlobals mg) (hb:s₁.heap.Ns builtinsNs mb) (hbb:∀x:Str,x≠"__name__"->mb x=bootBuiltins x) (hlim:s₁.heap.NoLimit) (hg:s₁.gens=#[])
  (ha:s₁.heap.get? a=some {cls:=.type "list",data:=.seq vs.toArray}) (hi:IntsAre vs ns) (hl:ns.length<=sizeLine) (hr:ic k callerA)
  (F:∀base:Heap,K.In base->base.Ns mainGlobals mg->uU P w K mg base CX k fa fd [x] sp) (hbind:∀(s:Shared) (u:Value),BindsTo s fd ⟨[u],[]⟩ [(x,u)])
  (hsp:∀H:Hp,IG H->cx K H a (ns.map V.int)->sp [.ref a] H (λv _=>v=.bl true) λ_ _ _=>False)
  (hCX:∀H e s',CX [] H s₁ (λ_ _ _=>False) e s'->False) :
  codeAny (model P w) callerA (.call (.ref fa) ⟨[.ref a],[]⟩) (λr s'=>r=.ok (.ret (.bool true))/\OldK s₁.heap s'.heap/\s'.os=s₁.os/\AllBare s'.gens) s₁:=by
 have rv:=xb hi
 have lenV:=hi.length
 have core:∀H:Hp,IG H->cx K H a (ns.map V.int)->ny P w H s₁.heap->(∀b,H b≠none->b=a)->(H a≠none->K.lookup a=none)->
   codeAny (model P w) callerA (.call (.ref fa) ⟨[.ref a],[]⟩) (λr s'=>r=.ok (.ret (.bool true))/\OldK s₁.heap s'.heap/\s'.os=s₁.os/\AllBare s'.gens) s₁:=by
  intro H hO hS hok hA hK
  have base_of:∀{b:Addr} {o:Obj},s₁.heap.get? b=some o->H b=none->(xJ s₁.heap H).get? b=some o:=λe n=>Gc e n
  have noA:∀{b:Addr} {o:Obj} {es:Array DictEntry} {ep:Nat},s₁.heap.get? b=some o->o.data=.dict es ep->H b=none:=λ{b o es ep} e d=>by
   cases q:H b with
   |none=>rfl
   |some u=>
    have e':b=a:=hA b (by rw[q];simp)
    subst e'
    rw[ha] at e;cases e
    have d':Data.seq vs.toArray _=Data.dict es ep:=d
    cases d'
  have nsK:∀{b:Addr} {m:Str->Option Value},s₁.heap.Ns b m->(xJ s₁.heap H).Ns b m:=λ{b m} ⟨o,es,ep,e,d,r⟩=>⟨o,es,ep,base_of e (noA e d),d,r⟩
  have hKb:K.In (xJ s₁.heap H):=λb o e=>base_of (KX b o e) (by
   cases q:H b with
   |none=>rfl
   |some u=>
    have e':b=a:=hA b (by rw[q];simp)
    subst e'
    rw[hK (by rw[q];simp)] at e;cases e)
  have hM:Mod K mg (xJ s₁.heap H):=⟨hKb,nsK hns,⟨mb,nsK hb,hbb⟩,let⟨mc,h1,h2⟩:=hlim;⟨mc,nsK h1,h2⟩⟩
  have e0:IA P w K mg (xJ s₁.heap H) callerA [] s₁ H:=⟨rfl,hM,λb o e=>Jr e,Nat.le_of_eq (Ek _ _),trivial,λb hb=>absurd (show b∈([]:List Addr) from hb) (by simp),hok,.of_eq hg⟩
  refine codeAny_mono ((F _ hKb (nsK hns)).run callerA [] s₁ H ⟨[.ref a],[]⟩ [.ref a] [.ref a] _ _ hr e0 (hbind s₁ (.ref a)) (.cons rfl .nil) (hsp H hO hS)) λr s' h=>?_
  cases r with
  |error e=>exact(hCX H e s' h).elim
  |ok fl=>
   cases fl with
   |next=>exact False.elim h
   |brk=>exact False.elim h
   |cont=>exact False.elim h
   |ret u=>
    obtain⟨v,H',os,bare,un,hok',r',q⟩:=h
    have q':v=.bl true:=q
    subst q'
    obtain rfl:u=Value.bool true:=r'
    refine⟨rfl,OldK.of_keep λb o e=>?_,os,bare⟩
    cases q:H b with
    |none=>exact un.keep b o e q (by intro z;exact absurd (show b∈([]:List Addr) from z) (by simp)) (by simp)
    |some u=>
     rcases hO b with z|⟨ob,xs,z⟩
     ·rw[q] at z;cases z
     ·have z2:=un.frzs b ob _ z
      obtain⟨e1,_⟩:=hok b _ z
      obtain⟨e2,_⟩:=hok' b _ z2
      rw[e] at e1;cases e1
      exact e2
 cases hk:K.lookup a with
 |some o=>
  have e:=KX a o hk
  rw[ha] at e
  cases e
  refine core (λ_=>none) (λ_=>.inl rfl) (.inr ⟨_,vs.toArray,_,hk,rfl,rfl,rfl,by rw[ay,lenV];exact hl,by simpa using rv⟩) (λb u z=>by have z':(none:Option HO)=some u:=z;cases z') (λb z=>absurd rfl z) λz=>absurd rfl z
 |none=>
  refine core (λb=>if b=a then some (.frz {cls:=.type "list",data:=.seq vs.toArray} (.lst (ns.map V.int))) else none) (λb=>?_) (.inl (.inr ⟨{cls:=.type "list",data:=.seq vs.toArray},if_pos rfl⟩)) (λb u z=>?_) (λb z=>?_) λ_=>hk
  ·by_cases hb:b=a
   ·exact .inr ⟨_,_,if_pos hb⟩
   ·exact .inl (if_neg hb)
  ·by_cases hb:b=a
   ·have z':=(if_pos hb).symm.trans z
    cases z'
    subst hb
    exact⟨ha,by rw[af];exact hl,vs,_,rv,ha⟩
   ·have z':=(if_neg hb).symm.trans z
    cases z'
  ·by_cases hb:b=a
   ·exact hb
   ·exact absurd (if_neg hb) z
theorem walk_of{l:PySem.W.OpenLaw}{n k:Nat}{q:Program}{loose:List Str}{XP:(Str->Option Value)->Heap->Prop}{YP:World->Heap->Prop}{d:DefRec}{K:Params->Fg}{CX:World->E6}{sp:World->Sp}{x:Str}
  (hn:l.most=some n) (hn2:n<=sizeLine) (hdf:d.params.defaults=[]) (hr:ic k callerA)
  (hY:∀(w:World) (h:Heap),YP w h->(K w.params).In h)
  (F:∀(w:World) (mg:Str->Option Value) (fa:Addr) (h:Heap),(K w.params).In h->h.Ns mainGlobals mg->mg d.name=some (.ref fa)->
   ∃fd:FuncData,(∀(s:Shared) (u:Value),BindsTo s fd ⟨[u],[]⟩ [(x,u)])/\
    ∀base:Heap,(K w.params).In base->base.Ns mainGlobals mg->uU l.prog w (K w.params) mg base (CX w) k fa fd [x] (sp w))
  (hsp:∀(w:World) (H:Hp) (a:Addr) (ns:List Int),ns.length<=n->IG H->cx (K w.params) H a (ns.map V.int)->sp w [.ref a] H (λv _=>v=.bl true) λ_ _ _=>False)
  (hCX:∀(w:World) (H:Hp) (s:Shared) (e:Value) (s':Shared),CX w [] H s (λ_ _ _=>False) e s'->False) :
  PySem.W.WalkO q loose XP YP l.row.toRowW d [] (λf vs=>sI f vs):=by
 refine Att.attach_call hn hdf λw s₀ s₁ mg mb fa o pm cd doc a vs ns G Y ho hd hcd hmg hobj hints hlen hg=>?_
 have KX:=hY w _ Y
 obtain⟨fd,hb,hF⟩:=F w mg fa _ KX G.T.g hmg
 exact Gs KX G.T.g G.T.b G.T.builtins G.T.nolimit hg hobj hints (a7 hlen hn2) hr hF hb (λH hO hS=>hsp w H a ns hlen hO hS) λH e s'=>hCX w H s₁ e s'
def kJ(s:Stmt):Arguments:=match s with
 |.FunctionDef _ a _ _ _ _ _ _ _ _=>a
 |_=>{posonlyargs:=[],args:=[],vararg:=none,kwonlyargs:=[],kw_defaults:=[],kwarg:=none,defaults:=[]}
def ix(s:Stmt):List Stmt:=match s with
 |.FunctionDef _ _ b _ _ _ _ _ _ _=>b
 |_=>[]
def cN(s:Stmt):Scope:=match s with
 |.FunctionDef _ _ _ _ _ _ sc _ _ _=>sc
 |_=>{kind:=.function,names:=[],isGenerator:=false,isCoroutine:=false}
abbrev Iq:E6:=λ_ _ _ _ _ _=>False
abbrev E0:XK:=λ_ _ _=>False
theorem MM{X:Cx}:Bi Iq X E0:=λ_ _ _ _ _ _ _ h=>h.elim
structure Mg(K:Fg)(x qual:Str)(st:Stmt)(f:Addr)(fd:FuncData):Prop where
 ex:∃(oc:Value) (od:Option Addr) (kV doc pm:Value) (an:Option Addr) (cdv ct:Value) (osl:Array (Option Value)),
  fd=d9 x qual (kJ st) (ix st) (cN st) .none kV doc pm an cdv ct/\K.lookup f=some ⟨oc,od,.func fd,osl⟩/\gE K cdv qual=true
 kp:fh K (.ref f)=true
section
variable{P:Program}{w:World}{K:Fg}{mg:Str->Option Value}{base:Heap}
theorem Mg.ok{x qual:Str}{st:Stmt}{f:Addr}{fd:FuncData}{N ps:List Str}{k:Nat}{sp:Sp}(F:Mg K x qual st f fd)(S:so N ps (cN st))(len:∀vs H Q E,sp vs H Q E->vs.length=ps.length)
  (hbody:∀(cdv:Value) (A:Around) (outer:List Env) (s:Shared) (H:Hp) (vs:List V) (Q:VK) (E:XK),ic k (A.deeper (envOfC qual (cN st) s.heap.objs.size f cdv))->sp vs H Q E->
   ∃t,Bf (zd Iq P w K mg base N qual (cN st) f cdv A outer s H E).nox (ix st) t/\t {nx:=λ_ H'=>Q .non H',rt:=Q} (start N vs) H):uU P w K mg base Iq (k+1) f fd ps sp:=by
 obtain⟨oc,od,kV,doc,pm,an,cdv,ct,osl,rfl,lk,hcd⟩:=F.ex
 refine My lk hcd S len λA outer s H vs Q E hr hsp=>?_
 obtain⟨t,h,q⟩:=hbody cdv A outer s H vs Q E hr hsp
 exact⟨t,h.nox,q⟩
theorem Mg.binds{x qual:Str}{st:Stmt}{f:Addr}{fd:FuncData}{ps:List Str}(F:Mg K x qual st f fd)
  (h:∀(kV doc pm:Value) (an:Option Addr) (cdv ct:Value) (us:List Value),us.length=ps.length->bindArgs (d9 x qual (kJ st) (ix st) (cN st) .none kV doc pm an cdv ct) ⟨us,[]⟩=pure (ps.zip us)):vI K fd ps []:=by
 obtain⟨oc,od,kV,doc,pm,an,cdv,ct,osl,rfl,lk,hcd⟩:=F.ex
 exact .all (h kV doc pm an cdv ct)
theorem F9{x qual:Str}{st:Stmt}{f:Addr}{oc:Value}{od an:Option Addr}{osl:Array (Option Value)}{kV doc pm cdv ct:Value}(l:K.lookup f=some ⟨oc,od,.func (d9 x qual (kJ st) (ix st) (cN st) .none kV doc pm an cdv ct),osl⟩)
  (c:gE K cdv qual=true) (k:fh K (.ref f)=true):Mg K x qual st f (d9 x qual (kJ st) (ix st) (cN st) .none kV doc pm an cdv ct):=⟨⟨oc,od,kV,doc,pm,an,cdv,ct,osl,rfl,l,c⟩,k⟩
end
theorem Mz{A:Around}{k:Nat}(hr:ic k A):A.units+1<cLine:=dh (Nat.add_le_add_left (by decide:1<=64) _) hr.units
section
variable{X:Cx}
theorem pv(i:Nat){x:Str}{pos:Pos}(hN:X.N[i]?=some x:=by rfl)(hv:Np X.env.scope x:=by first|exact Or.inl rfl|exact Or.inr (Or.inl rfl)|exact Or.inr (Or.inr rfl))(hd:(x==("__debug__":Str))=false:=by decide)
  (hcd:(x==("__classdict__":Str))=false:=by decide):PE X (.Name x pos) (av i):=LA hN hv hd hcd
end
theorem gR{A B:Prop}(h:B):if false=true then A else B:=by
 rw[if_neg Bool.false_ne_true]
 exact h
theorem rY{A B:Prop}(h:A):if true=true then A else B:=by
 rw[if_pos rfl]
 exact h
def aI(H H':Hp):Prop:=∀b o,H b=some o->H' b=some o
theorem aI.refl(H:Hp):aI H H:=λ_ _ h=>h
theorem aI.trans{H H1 H2:Hp}(a:aI H H1)(b:aI H1 H2):aI H H2:=λc o h=>b c o (a c o h)
theorem aI.free{H H':Hp}(e:aI H H'){l:Addr}(h:H' l=Option.none):H l=Option.none:=by
 cases q:H l with
 |none=>rfl
 |some o=>
  rw[e l o q] at h
  cases h
section
variable{prog:Program}{w:World}{A:Around}{R:Result->Shared->Prop}{s:Shared}
theorem xC{elt target iter:Expr}{ifs:List Expr}{scope:Scope}{pos:Pos}{it acc:Value}{env:Env}(I:Nat->Shared->Prop)
  (turn:∀n s,I n s->wpAny (model prog w) A (pyNext it) (λr s₁=>match r with
   |none=>R (.ok .next) s₁
   |some v=>wpAny (model prog w) A (letOwnedTupleGo target it v) (λ_ s₁=>wpAny (model prog w) A (assign target env v) (λ_ s₂=>
     wpAny (model prog w) A (forIn ifs true λc r=>if r=true then do let ok <-isTrue c env (eval c env);pure (ForInStep.yield ok) else pure (ForInStep.yield r)) (λok s₃=>
      if ok=true then wpAny (model prog w) A (eval elt env) (λx s₄=>
       wpAny (model prog w) A (call (.builtin "list.append") [acc,x]) (λ_ s₅=>∃m,m<n/\I m s₅) (λ_ _=>False) s₄) (λ_ _=>False) s₃
      else ∃m,m<n/\I m s₃) (λ_ _=>False) s₂) (λ_ _=>False) s₁) (λ_ _=>False) s₁) (λ_ _=>False) s)
  (n:Nat) (h:I n s) :
  codeAny (model prog w) A (.compLoop (.ListComp elt [⟨target,iter,ifs,0⟩] scope pos) 0 it acc env) R s:=by
 refine codeAny_loop rfl I (λn s hI=>?_) n h
 show wpAny _ A ((compTurn (.ListComp elt [⟨target,iter,ifs,0⟩] scope pos) 0 it acc env).onRaise (λx=>do noteFrame x env;theTreesLotGoes x)) _ _ s
 refine wpAny_noted ?_
 rw[compTurn_list]
 refine wpAny_bind (wpAny_standAt (wpAny_bind (wpAny_mono (turn n s hI) (λr s₁ h₁=>?_) λ_ _ h'=>h'.elim)))
 cases r with
 |none=>exact wpAny_pure h₁
 |some v=>
  refine wpAny_bind (wpAny_mono h₁ (λ_ s₁' h₁'=>?_) λ_ _ h'=>h'.elim)
  refine wpAny_bind (wpAny_mono h₁' (λ_ s₂ h₂=>wpAny_bind (wpAny_mono h₂ (λok s₃ h₃=>?_) λ_ _ h'=>h'.elim)) λ_ _ h'=>h'.elim)
  cases ok with
  |false=>exact wpAny_pure ⟨rfl,h₃⟩
  |true=>
   exact wpAny_bind (wpAny_bind (wpAny_mono h₃ (λx s₄ h₄=>wpAny_bind (wpAny_mono h₄ (λ_ s₅ h₅=>wpAny_pure (wpAny_pure ⟨rfl,h₅⟩)) λ_ _ h'=>h'.elim)) λ_ _ h'=>h'.elim))
end
theorem oI{env:Env}{f:Str×NameKind->List (Str×Addr)->Sem (ForInStep (List (Str×Addr)))}
  (hf:∀n k cs,f (n,k) cs=if(k==NameKind.free)=true then(do let c <-cellOf env n;pure (.yield ((n,c)::cs))) else pure (.yield cs)) :
  ∀(names:List (Str×NameKind)) (cs:List (Str×Addr)),(∀x∈names,x.2=NameKind.free->∃c,env.cells.lookup x.1=some c)->(∀n c,cs.lookup n=some c->env.cells.lookup n=some c)->
   ∃cl,(forIn names cs f:Sem (List (Str×Addr)))=pure cl/\(∀n c,cl.lookup n=some c->env.cells.lookup n=some c)/\(∀n,(cs.lookup n).isSome=true->(cl.lookup n).isSome=true)/\∀x∈names,x.2=NameKind.free->(cl.lookup x.1).isSome=true
 |[],cs,_,h2=>⟨cs,rfl,h2,λ_ h=>h,λ_ h=>nomatch h⟩
 |(n,k)::r,cs,h1,h2=>by
  have h1r:∀x∈r,x.2=NameKind.free->∃c,env.cells.lookup x.1=some c:=λx hx=>h1 x (a9 _ hx)
  rw[fR,hf]
  by_cases hk:k=NameKind.free
  ·subst hk
   obtain⟨c,hc⟩:=h1 (n,NameKind.free) bf rfl
   have h2':∀m d,((n,c)::cs).lookup m=some d->env.cells.lookup m=some d:=λm d hd=>by
    rw[dO] at hd
    cases e:(m==n) with
    |true=>
     rw[e] at hd
     have:m=n:=by simpa using e
     rw[this];cases hd;exact hc
    |false=>rw[e] at hd;exact h2 m d hd
   obtain⟨cl,e1,e2,e3,e4⟩:=oI hf r ((n,c)::cs) h1r h2'
   refine⟨cl,?_,e2,λm hm=>e3 m ?_,λx hx hk=>?_⟩
   ·rw[<-e1]
    have ec:cellOf env n=pure c:=by unfold cellOf;rw[hc]
    rw[ec]
    rfl
   ·rw[dO]
    cases e:(m==n) with
    |true=>rfl
    |false=>exact hm
   ·rcases aK.mp hx with rfl|hx
    ·exact e3 n (by rw[dO,beq_self_eq_true];rfl)
    ·exact e4 x hx hk
  ·have hb:(k==NameKind.free)=false:=by simpa using hk
   obtain⟨cl,e1,e2,e3,e4⟩:=oI hf r cs h1r h2
   refine⟨cl,?_,e2,e3,λx hx hk'=>?_⟩
   ·rw[<-e1,hb]
    rfl
   ·rcases aK.mp hx with rfl|hx
    ·exact absurd hk' hk
    ·exact e4 x hx hk'
theorem tq{scope:Scope}{env:Env}(h1:∀x∈scope.names,x.2=NameKind.free->∃c,env.cells.lookup x.1=some c) :
  ∃cl,closureFor scope env=pure cl/\(∀n c,cl.lookup n=some c->env.cells.lookup n=some c)/\∀x∈scope.names,x.2=NameKind.free->(cl.lookup x.1).isSome=true:=by
 obtain⟨cl,e1,e2,_,e4⟩:=oI (env:=env) (f:=λ(x:Str×NameKind) cs=>if(x.2==NameKind.free)=true then(do let c <-cellOf env x.1;pure (.yield ((x.1,c)::cs))) else pure (.yield cs)) (λ_ _ _=>rfl) scope.names [] h1 (λ_ _ h=>nomatch h)
 refine⟨cl,Eq.trans (show closureFor scope env=((forIn scope.names ([]:List (Str×Addr)) λ(x:Str×NameKind) cs=>if(x.2==NameKind.free)=true then(do let c <-cellOf env x.1;pure (.yield ((x.1,c)::cs))) else pure (.yield cs)) >>= λcs=>pure cs) from rfl) ?_,e2,e4⟩
 rw[e1]
 all_goals rfl
theorem gG{env:Env}{x:Str}:∀(names:List (Str×NameKind)),
  (names.map λ(n,k)=>if(k==NameKind.free&&env.scope.kind==.function&&env.kindOf n==some .cell) then(n,NameKind.cell) else(n,k)).lookup x =
   (names.lookup x).map λk=>if(k==NameKind.free&&env.scope.kind==.function&&env.kindOf x==some .cell) then NameKind.cell else k
 |[]=>rfl
 |(n,k)::r=>by
  have ih:=gG (env:=env) (x:=x) r
  show List.lookup x ((if(k==NameKind.free&&env.scope.kind==.function&&env.kindOf n==some .cell)=true then(n,NameKind.cell) else(n,k))::_)=_
  cases hx:x==n with
  |true=>
   have e:x=n:=by simpa using hx
   subst e
   by_cases hc:(k==NameKind.free&&env.scope.kind==.function&&env.kindOf x==some .cell)=true
   ·rw[if_pos hc];simp only[dO,hx,iO,if_pos hc]
   ·rw[if_neg hc];simp only[dO,hx,iO,if_neg hc]
  |false=>
   by_cases hc:(k==NameKind.free&&env.scope.kind==.function&&env.kindOf n==some .cell)=true
   ·rw[if_pos hc];simp only[dO,hx];exact ih
   ·rw[if_neg hc];simp only[dO,hx];exact ih
theorem Hu{scope:Scope}{env:Env}{x:Str}(hcell:∀y∈scope.names,y.2≠NameKind.cell)(h:(relabel scope env).names.lookup x=some .cell\/(relabel scope env).names.lookup x=some .free):scope.names.lookup x=some .free:=by
 have e:(relabel scope env).names.lookup x=_:=gG (env:=env) (x:=x) scope.names
 rw[e] at h
 cases q:scope.names.lookup x with
 |none=>rw[q] at h;rcases h with h|h<;>cases h
 |some k=>
  rw[q] at h
  by_cases hk:k=NameKind.free
  ·rw[hk]
  ·have hb:(k==NameKind.free)=false:=by simpa using hk
   simp only[iO,hb,Bool.false_and,Bool.false_eq_true,if_false] at h
   rcases h with h|h
   ·cases h;exact absurd rfl (hcell _ (cw q))
   ·exact h
theorem Ka{scope:Scope}{env:Env}{x:Str}(h:(relabel scope env).names.lookup x≠none):scope.names.lookup x≠none:=by
 have e:(relabel scope env).names.lookup x=_:=gG (env:=env) (x:=x) scope.names
 intro q
 rw[e,q] at h
 exact h rfl
structure oB(sc:Scope)(N:List Str)(scope:Scope)(NY:List Str)(js:List Nat):Prop where
 kind:scope.kind=.function
 cell:∀y∈scope.names,y.2≠NameKind.cell
 names:∀x∈scope.names,x.2=NameKind.local->scope.names.lookup x.1=some .local
 free:∀x∈scope.names,x.2=NameKind.free->sc.names.lookup x.1=some .cell\/sc.names.lookup x.1=some .free
 pre:NY.take N.length=N
 cap:∀p∈N.zipIdx,js.contains p.2=true\/scope.names.lookup p.1=none\/scope.names.lookup p.1=some .free
def vf(js:List Nat)(k:Nat)(σ:St):St:=js.foldl (λs j=>s.set j none) σ++aU k none
theorem mP:∀(js:List Nat) (σ:St),(js.foldl (λs j=>s.set j none) σ).length=σ.length
 |[],_=>rfl
 |j::r,σ=>by rw[fQ,mP r,kY]
theorem vU:∀(js:List Nat) (σ:St) (i:Nat) (v:V),(js.foldl (λs j=>s.set j none) σ)[i]?=some (some v)->σ[i]?=some (some v)/\js.contains i=false
 |[],σ,i,v,h=>⟨h,rfl⟩
 |j::r,σ,i,v,h=>by
  rw[fQ] at h
  obtain⟨h1,h2⟩:=vU r _ i v h
  by_cases e:j=i
  ·subst e
   by_cases hj:j<σ.length
   ·rw[gA hj] at h1;cases h1
   ·rw[aZ (by rw[kY];lia)] at h1;cases h1
  ·rw[iD e] at h1
   refine⟨h1,?_⟩
   rw[List.contains_cons,h2]
   have:(i==j)=false:=by simpa using λz=>e z.symm
   rw[this];rfl
theorem Jb{js:List Nat}{k:Nat}{σ:St}{i:Nat}{v:V}(h:(vf js k σ)[i]?=some (some v)):σ[i]?=some (some v)/\js.contains i=false:=by
 unfold vf at h
 by_cases hi:i<σ.length
 ·rw[au (by rw[mP];exact hi)] at h
  exact vU js σ i v h
 ·rw[aq (by rw[mP];lia),List.getElem?_replicate] at h
  split at h<;>cases h
theorem Jc{js:List Nat}{k:Nat}{σ:St}:(vf js k σ).length=σ.length+k:=by
 unfold vf
 rw[ai,mP,gX]
def cU(X:Cx)(NY:List Str)(scope:Scope)(cl:List (Str×Addr))(C:Addr)(s₀:Shared)(H₀:Hp)(fp:List Addr):Cx:=
 {X with N:=NY,s₀:=s₀,H₀:=H₀,env:=compEnvC scope cl C X.env,outer:=X.stack,ex:=fp,fn:=λ_=>false,pn:=[],xe:=λ_ _=>False}
def D1(X:Cx)(ifs:List Expr)(t:TT):Prop:=
 ∀(pins:List (Addr×Obj)) (s:Shared) (σ:St) (H:Hp) (Q:Bool->Hp->Prop),bw X pins σ H s->t σ H Q->
  wpAny (model X.prog X.w) X.A (forIn ifs true λc r=>if r=true then do let ok <-isTrue c X.env (eval c X.env);pure (ForInStep.yield ok) else pure (ForInStep.yield r)) (TP X pins σ Q) X.xe s
def jt:TT:=λ_ H Q=>Q true H
theorem JK{X:Cx}:D1 X [] jt:=λ_ _ _ H _ I h=>wpAny_tests_nil ⟨H,I,h⟩
theorem JL{X:Cx}{c:Expr}{t:TT}(h:PT X c t):D1 X [c] t:=λpins s σ H Q I q=>wpAny_tests_one (h pins s σ H Q I q)
def jw(D:Addr)(tc:TT)(te:TE):TS:=λE σ H=>tc σ H λb H1=>if b=true then te σ H1 λy H2=>∃ys,H2 D=some (.lst ys)/\ys.length<sizeLine/\E.nx σ (aQ H2 D (.lst (ys++[y]))) else E.nx σ H1
def dW(js:List Nat)(k:Nat)(wi:TI)(g:TG)(tc:TT)(te:TE):TE:=λσ H Q=>wi σ H λJ H1=>∀D,H1 D=none->
 ∃W:Nat->Nat->St->Hp->Prop,(∃m,W 0 m (vf js k σ) (aQ H1 D (.lst [])))/\∀i m σ H,W i m σ H->
  (J.stop i H/\Q (.ref D) H)\/(J.go i H/\∃N:St->Hp->Prop,(∀σ' H',N σ' H'->∃m',m'<m/\W (i+1) m' σ' H')/\∀x H',J.yld i H x H'->g x σ H' λσ2 H2=>jw D tc te {nx:=N,rt:=λ_ _=>False,ct:=N,bk:=λ_ H'=>Q (.ref D) H'} σ2 H2)
section
variable{X:Cx}{pins:List (Addr×Obj)}{σ:St}{H2:Hp}{s₂:Shared}{N NY:List Str}{sc scope:Scope}{cl:List (Str×Addr)}{C:Addr}{fp:List Addr}{js:List Nat}{k:Nat}
theorem IT(I2:bw X pins σ H2 s₂)(hf:∀b∈fp,oC X pins H2 b)(hfl:∀b∈fp,∃o,s₂.heap.get? b=some o)(hkind:scope.kind=.function)(hcell:∀y∈scope.names,y.2≠NameKind.cell)
  (hcl1:∀n c,cl.lookup n=some c->X.env.cells.lookup n=some c) (hcl2:∀x∈scope.names,x.2=NameKind.free->(cl.lookup x.1).isSome=true) (hC:s₂.heap.objs.size<=C) :
  (cU X NY scope cl C s₂ H2 fp).Ok where
 mod:=I2.ok.mod
 kind:=hkind
 glob:=I2.ok.glob
 blt:=I2.ok.blt
 above:=hC
 inj:=λx y c h1 h2=>I2.ok.inj x y c (hcl1 x c h1) (hcl1 y c h2)
 has:=λx hx=>by
  have e:scope.names.lookup x=some .free:=Hu (env:=X.env) hcell hx
  exact du.mp (hcl2 (x,.free) (cw e) rfl)
 cab:=λ_ _ h _=>nomatch h
 hd:=I2.ok.hd
 frames:=I2.ok.frames
 stk:=.inl rfl
 exf:=λb hb=>by
  obtain⟨o,ho⟩:=hfl b hb
  exact⟨aN (bg (aF ho) hC),λx c h=>(hf b hb).2.2.2.2.1 x c (hcl1 x c h)⟩
 bs:=I2.bs
 bsz:=a7 I2.ok.bsz I2.sz
 noex:=λb o e hb=>by
  rcases(hf b hb).2.2.2.1 with z|z
  ·exact I2.ok.noex b o e z
  ·exact absurd (bg (aF e) (a7 I2.ok.bsz z)) (cZ _)
 exfs:=λb hb z=>by
  rcases aK.mp (I2.stkSub b z) with e|e
  ·exact(hf b hb).2.1 e
  ·exact(hf b hb).2.2.1 e
 funs:=I2.stack
 frf:=I2.stkFree
variable{elt iter target:Expr}{ifs:List Expr}{pos:Pos}{it:Addr}{tn:Nat->Heap->Prop}{J:It}{g:TG}{tc:TT}{te:TE}{Q:VK}{RR:Value->Addr->Result->Shared->Prop}{E:Value->Shared->Prop}
theorem tu(ok:oB sc N scope NY js)(hsc:X.env.scope=sc)(hN:X.N=N)(hk:NY.length=N.length+k)(hc:X.calm=true)(I2:bw X pins σ H2 s₂)(T:rT X.prog X.w X.K target J fp it tn)(st2:tn 0 s₂.heap)(f2:∀b∈fp,oC X pins H2 b)
  (hcl1:∀n c,cl.lookup n=some c->X.env.cells.lookup n=some c) (hcl2:∀x∈scope.names,x.2=NameKind.free->(cl.lookup x.1).isSome=true)
  (hg:∀cl C s₀ H₀ fp,PG (cU X NY scope cl C s₀ H₀ fp) target g) (hi:∀cl C s₀ H₀ fp,D1 (cU X NY scope cl C s₀ H₀ fp) ifs tc) (he:∀cl C s₀ H₀ fp,PE (cU X NY scope cl C s₀ H₀ fp) elt te)
  (loop:∀D,H2 D=none->
   ∃W:Nat->Nat->St->Hp->Prop,(∃m,W 0 m (vf js k σ) (aQ H2 D (.lst [])))/\∀i m σ H,W i m σ H->
    (J.stop i H/\Q (.ref D) H)\/(J.go i H/\∃N:St->Hp->Prop,(∀σ' H',N σ' H'->∃m',m'<m/\W (i+1) m' σ' H')/\∀x H',J.yld i H x H'->g x σ H' λσ2 H2=>jw D tc te {nx:=N,rt:=λ_ _=>False,ct:=N,bk:=λ_ H'=>Q (.ref D) H'} σ2 H2))
  (hRR:∀D C H' s' m,s'.heap.Ns C m->bw X pins σ H' s'->H' C=none->C≠X.env.locals->X.s₀.heap.objs.size<=C->(∀x c,X.env.cells.lookup x=some c->c≠C)->(∀p∈X.pn++pins,p.1≠C)->D≠C->Q (.ref D) H'->RR (.ref D) C (.ok .next) s') :
  wpAny (model X.prog X.w) X.A (newList []) (λacc s₃=>wpAny (model X.prog X.w) X.A (newFunctionEnv scope X.env.globals cl [] X.env.qual none .none (some X.env)) (λcenv s₄=>
   codeAny (model X.prog X.w) X.A (.compStart (.ListComp elt [⟨target,iter,ifs,0⟩] scope pos) 0 (.ref it) acc {cenv with scope:=relabel scope X.env}) (RR acc cenv.locals) s₄) E s₃) E s₂:=by
 refine wpAny_newObj_type (wpAny_newFunctionEnv ok.cell (by intro y hy;simp at hy) (λh₁ hns₁ hsb₁=>?_) ok.kind)
 dsimp only at hns₁ hsb₁ ⊢
 generalize hG:s₂.heap.push {cls:=.type "list",dict:=none,data:=.seq ([]:List Value).toArray}=G at hns₁ hsb₁ ⊢
 have hC:G.objs.size=s₂.heap.objs.size+1:=by rw[<-hG,bC]
 have hDC:s₂.heap.objs.size≠G.objs.size:=by rw[hC];exact aN (cF _)
 have hCle:s₂.heap.objs.size<=G.objs.size:=by rw[hC];exact d8 _
 have below:∀b,b<s₂.heap.objs.size->b≠G.objs.size:=λb hb=>by rw[hC];exact aN (c6 hb)
 have old:∀b o,s₂.heap.get? b=some o->h₁.get? b=some o:=λb o e=>hsb₁.extBut b o (below b (aF e)) (ag _ (hG ▸ ag _ e))
 have hacc:h₁.get? s₂.heap.objs.size=some {cls:=.type "list",dict:=none,data:=.seq ([]:List Value).toArray}:=hsb₁.extBut _ _ hDC (ag _ (hG ▸ ax _ rfl))
 have hfl:∀b∈fp,∃o,s₂.heap.get? b=some o:=λb hb=>let⟨o,ho,_⟩:=T.obj 0 _ st2 b hb;⟨o,ho⟩
 have fD:H2 s₂.heap.objs.size=none:=I2.hok.fresh (ar _)
 have fC:H2 G.objs.size=none:=I2.hok.fresh hCle
 have I4:bw (cU X NY scope cl G.objs.size s₂ H2 fp) [] (vf js k σ) (aQ H2 s₂.heap.objs.size (.lst [])) {s₂ with heap:=h₁,toks:=s₂.toks+([]:List (Str×Value)).length}:=by
  refine⟨IT I2 f2 hfl ok.kind ok.cell hcl1 hcl2 hCle,rfl,I2.bare,Un.laid old (ar _) fD,⟨_,hns₁,λi y v h1 h2 h3=>?_⟩,λx c h=>?_,?_,λx c h=>?_,λp hp=>absurd (show p∈([]:List (Addr×Obj)) from hp) (by simp),I2.hok.laid old (ar _) ⟨bq _,[],0,.nil,hacc⟩,?_⟩
  ·obtain⟨e1,e2⟩:=Jb h2
   have hi:i<N.length:=by
    have:=(ae.mp e1).1
    rw[I2.len,hN] at this;exact this
   have hy:N[i]?=some y:=by
    rw[<-ok.pre,List.getElem?_take_of_lt hi];exact h1
   have hz:(y,i)∈N.zipIdx:=by
    rw[List.mem_zipIdx_iff_getElem?];exact hy
   have nn:scope.names.lookup y≠none:=Ka (env:=X.env) (x:=y) (by
    rcases h3 with z|z|z
    ·intro q;rw[show(relabel scope X.env).names.lookup y=_ from z] at q;cases q
    ·intro q;rw[show(relabel scope X.env).names.lookup y=_ from z] at q;cases q
    ·intro q;rw[show(relabel scope X.env).names.lookup y=_ from z] at q;cases q)
   have hfr:scope.names.lookup y=some .free:=by
    rcases ok.cap (y,i) hz with z|z|z
    ·rw[e2] at z;cases z
    ·exact absurd z nn
    ·exact z
   have hX:=ok.free (y,.free) (cw hfr) rfl
   rw[<-hsc] at hX
   obtain⟨m,hn,hl⟩:=I2.loc
   obtain⟨u,ru,lk⟩:=hl i y v (by rw[hN];exact hy) e1 (by
    rcases hX with z|z
    ·exact .inr (.inl z)
    ·exact .inr (.inr z))
   refine⟨u,ru,?_⟩
   rcases lk with⟨lk,_⟩|⟨_,c,hc1,hc2⟩
   ·have lk:X.env.scope.names.lookup y=some .local:=lk
    rcases hX with z|z<;>· rw[z] at lk;cases lk
   ·have hs:=hcl2 (y,.free) (cw hfr) rfl
    obtain⟨c',hc'⟩:=du.mp hs
    have e3:=hcl1 y c' hc'
    rw[hc1] at e3;cases e3
    refine .inr ⟨?_,c,hc',hc2.keeps old⟩
    show(relabel scope X.env).names.lookup y=some .cell\/(relabel scope X.env).names.lookup y=some .free
    have e:(relabel scope X.env).names.lookup y=_:=gG (env:=X.env) (x:=y) scope.names
    rw[e,hfr,iO]
    split
    ·exact .inl rfl
    ·exact .inr rfl
  ·obtain⟨v,q⟩:=I2.cell x c (hcl1 x c h)
   exact⟨v,q.keeps old⟩
  ·show aQ H2 s₂.heap.objs.size (.lst []) G.objs.size=none
   rw[az (Ne.symm hDC)];exact fC
  ·have q:=I2.freeC x c (hcl1 x c h)
   obtain⟨v,o,ho,_⟩:=I2.cell x c (hcl1 x c h)
   show aQ H2 s₂.heap.objs.size (.lst []) c=none
   rw[az (aN (aF ho))];exact q
  ·show(vf js k σ).length=NY.length
   rw[Jc,I2.len,hN,hk]
 have st4:tn 0 h₁:=T.keep _ _ _ st2 λb _ o e=>old b o e
 obtain⟨W,⟨m0,w0⟩,turn⟩:=loop s₂.heap.objs.size fD
 have stat:∀{H':Hp},(∀b∈fp,H' b=none)->∀b∈fp,oC (cU X NY scope cl G.objs.size s₂ H2 fp) [] H' b:=λhn b hb=>by
  obtain⟨o,ho⟩:=hfl b hb
  refine⟨hn b hb,below b (aF ho),λz=>?_,.inl hb,λx c h=>(f2 b hb).2.2.2.2.1 x c (hcl1 x c h),λp hp=>absurd (show p∈([]:List (Addr×Obj)) from hp) (by simp)⟩
  rcases aK.mp (I2.stkSub b z) with e|e
  ·exact(f2 b hb).2.1 e
  ·exact(f2 b hb).2.2.1 e
 have go:∀s₄:Shared,s₄={s₂ with heap:=h₁,toks:=s₂.toks+([]:List (Str×Value)).length}->
   codeAny (model X.prog X.w) X.A (.compLoop (.ListComp elt [⟨target,iter,ifs,0⟩] scope pos) 0 (.ref it) (.ref s₂.heap.objs.size) (compEnvC scope cl G.objs.size X.env)) (RR (.ref s₂.heap.objs.size) G.objs.size) s₄:=by
  rintro s₄ rfl
  refine xC (λn s'=>∃i σ' H',bw (cU X NY scope cl G.objs.size s₂ H2 fp) [] σ' H' s'/\tn i s'.heap/\(∀b∈fp,H' b=none)/\W i n σ' H') ?_ m0
   ⟨0,_,_,I4,st4,λb hb=>by
    obtain⟨o,ho⟩:=hfl b hb
    rw[az (aN (aF ho))];exact(f2 b hb).1,w0⟩
  rintro n s3 ⟨i,σ3,H3,I3,st3,fr3,w3⟩
  rcases turn i n σ3 H3 w3 with⟨stop,qn⟩|⟨go,Nx,hNx,step⟩
  ·refine d4 (T.done (cU X NY scope cl G.objs.size s₂ H2 fp) rfl rfl rfl hc i [] s3 σ3 H3 _ I3 (stat fr3) st3 stop) λr s5 ⟨hr,I5⟩=>?_
   subst hr
   have IX:bw X pins σ H3 s5:=I2.call' (ch:=fp) I5.os I5.base I5.hok I5.bare λb hb=>⟨(f2 b hb).2.2.2.1,(f2 b hb).2.1,(f2 b hb).2.2.2.2.1,(f2 b hb).2.2.2.2.2⟩
   obtain⟨m,hm,_⟩:=I5.loc
   refine hRR _ _ H3 s5 m hm IX I5.free (λz=>?_) (a7 I2.sz hCle) (λx c h z=>?_) (λp hp z=>?_) hDC qn
   ·have:=I2.lt;rw[<-z] at this;exact cZ _ (bg this hCle)
   ·obtain⟨v,o,ho,_⟩:=I2.cell x c h
    have:=aF ho;rw[z] at this;exact cZ _ (bg this hCle)
   ·have:=aF (I2.pin p hp).1;rw[z] at this;exact cZ _ (bg this hCle)
  ·refine d4 (T.item (cU X NY scope cl G.objs.size s₂ H2 fp) rfl rfl rfl hc i [] s3 σ3 H3 _ I3 (stat fr3) st3 go) λr s5 ⟨u,hr,h5⟩=>?_
   subst hr
   refine d4 h5 λ_ s6 ⟨x,H6,I6,r6,y6,st6,fr6⟩=>?_
   have I6':=I6.pinned (stat fr6) (T.obj _ _ st6)
   have again:∀{σ7:St} {H7:Hp} {s7:Shared},bw (cU X NY scope cl G.objs.size s₂ H2 fp) ([]++tP fp s6.heap) σ7 H7 s7->Nx σ7 H7->∃m,m<n/\∃i σ' H',bw (cU X NY scope cl G.objs.size s₂ H2 fp) [] σ' H' s7/\tn i s7.heap/\(∀b∈fp,H' b=none)/\W i m σ' H':=λ{σ7 H7 s7} I7 n7=>by
    obtain⟨m',hm,w7⟩:=hNx σ7 H7 n7
    refine⟨m',hm,i+1,σ7,H7,I7.unpinned,T.keep _ _ _ st6 λb hb o e=>(I7.pin (b,o) (aW _ (aW _ (kK hb e)))).1,λb hb=>?_,w7⟩
    obtain⟨o,e,d⟩:=T.obj _ _ st6 b hb
    exact(I7.pin (b,o) (aW _ (aW _ (kK hb e)))).2.1
   refine d4 (hg cl G.objs.size s₂ H2 fp _ s6 σ3 H6 x u _ I6' r6 (step x H6 y6)) λ_ s7 ⟨σ7,H7,I7,q7⟩=>?_
   refine d4 (hi cl G.objs.size s₂ H2 fp _ s7 σ7 H7 _ I7 q7) λok s8 ⟨H8,I8,q8⟩=>?_
   cases ok with
   |false=>
    rw[if_neg Bool.false_ne_true] at q8 ⊢
    exact again I8 q8
   |true=>
    rw[if_pos rfl] at q8 ⊢
    refine d4 (he cl G.objs.size s₂ H2 fp _ s8 σ7 H8 _ I8 q8) λy s9 ⟨z,H9,I9,r9,ys,hD,hz,n9⟩=>?_
    refine d4 (we (X:=cU X NY scope cl G.objs.size s₂ H2 fp) _ s9 σ7 H9 (.ref s₂.heap.objs.size) [z] (.ref s₂.heap.objs.size) [y] (λ_ H'=>H'=aQ H9 s₂.heap.objs.size (.lst (ys++[z]))) I9 rfl (.cons r9 .nil) ⟨_,ys,z,rfl,rfl,hD,hz,rfl⟩) λ_ s10 ⟨_,H10,I10,_,q10⟩=>?_
    subst q10
    exact again I10 n9
 exact codeAny_compStart_list (go _ rfl) (T.self _ 0 _ _ _ st4 (go _ rfl))
theorem JA{wi:TI}(ok:oB sc N scope NY js)(hsc:X.env.scope=sc)(hN:X.N=N)(hk:NY.length=N.length+k)(hc:X.calm=true)(hit:PI X target iter wi)
  (hg:∀cl C s₀ H₀ fp,PG (cU X NY scope cl C s₀ H₀ fp) target g) (hi:∀cl C s₀ H₀ fp,D1 (cU X NY scope cl C s₀ H₀ fp) ifs tc) (he:∀cl C s₀ H₀ fp,PE (cU X NY scope cl C s₀ H₀ fp) elt te)
  (hs:∀x,foldedSetIterable iter X.env x=pure x:=by intro _;rfl):PE X (.ListComp elt [⟨target,iter,ifs,0⟩] scope pos) (dW js k wi g tc te):=by
 intro pins s σ H Q I h
 obtain⟨cl,hclos,hcl1,hcl2⟩:=tq (scope:=scope) (env:=X.env) λx hx hf=>I.ok.has x.1 (by
  have:=ok.free x hx hf
  rw[<-hsc] at this
  exact this)
 rw[eval_ListComp]
 refine wpAny_comprehension_free (use:=none) rfl hs hclos ok.kind ok.names (d4 (hit pins s σ H _ I h) λxv s₁ h₁=>d4 h₁ λitv s₂ h₂=>?_)
 obtain⟨it,fp,tn,J,H2,rfl,I2,T,st2,f2,loop⟩:=h₂
 refine tu (RR:=λacc C=>compPost (model X.prog X.w) X.A X.xe none (EP X pins σ Q) acc C) (Q:=Q) ok hsc hN hk hc I2 T st2 f2 hcl1 hcl2 hg hi he loop ?_
 intro D C H' s' m hm IX fC c1 c2 c3 c4 _ q
 exact⟨m,hm,λh' hs'=>⟨.ref D,H',IX.turned (t':=s'.toks) (λb o hb e=>(hs'.2 b hb).trans e) fC c1 (.inr c2) c3 c4,rfl,q⟩⟩
theorem JO{wi:TI}{i:Nat}{y:Str}{py spos:Pos}(ok:oB sc N scope NY js)(hsc:X.env.scope=sc)(hN:X.N=N)(hk:NY.length=N.length+k)(hc:X.calm=true)(hit:PI X target iter wi)
  (hg:∀cl C s₀ H₀ fp,PG (cU X NY scope cl C s₀ H₀ fp) target g) (hi:∀cl C s₀ H₀ fp,D1 (cU X NY scope cl C s₀ H₀ fp) ifs tc) (he:∀cl C s₀ H₀ fp,PE (cU X NY scope cl C s₀ H₀ fp) elt te)
  (nd:X.N.Nodup) (hy:X.N[i]?=some y) (hl:Fm X.env.scope y) (hsw:swapsWith (.ListComp elt [⟨target,iter,ifs,0⟩] scope pos) (some (.Name y py)) spos.line X.env=pure true)
  (hs:∀x,foldedSetIterable iter X.env x=pure x:=by intro _;rfl) (hf:X.fn y=true\/X.env.scope.names.lookup y=some .local:=by first|exact .inl rfl|exact .inr rfl|assumption) :
  PS X (.Assign [.Name y py] (.ListComp elt [⟨target,iter,ifs,0⟩] scope pos) spos) (bT (dW js k wi g tc te) (aR i)):=by
 intro pins s σ H D I h
 obtain⟨cl,hclos,hcl1,hcl2⟩:=tq (scope:=scope) (env:=X.env) λx hx hf=>I.ok.has x.1 (by
  have:=ok.free x hx hf
  rw[<-hsc] at this
  exact this)
 rw[exec_Assign_Name_used _ _ _ _ hsw]
 refine wpAny_bind (wpAny_standAt (wpAny_bind ?_))
 show wpAny _ X.A (do let _ <-comprehension (.ListComp elt [⟨target,iter,ifs,0⟩] scope pos) scope X.env _ (newList []) false (eval iter X.env) (some (assign (.Name y py) X.env))) _ _ s
 refine wpAny_bind (wpAny_mono (wpAny_comprehension_free (use:=some (assign (.Name y py) X.env)) (Q:=λ_ s'=>SP X pins D .next s') rfl hs hclos ok.kind ok.names
  (d4 (hit pins s σ H _ I h) λxv s₁ h₁=>d4 h₁ λitv s₂ h₂=>?_)) (λ_ s' hq=>wpAny_pure (wpAny_pure hq)) λ_ _ e=>e)
 obtain⟨it,fp,tn,J,H2,rfl,I2,T,st2,f2,loop⟩:=h₂
 refine tu (RR:=λacc C=>compPost (model X.prog X.w) X.A X.xe (some (assign (.Name y py) X.env)) (λ_ s'=>SP X pins D .next s') acc C) (Q:=λx H1=>aR i x σ H1 D.nx) ok hsc hN hk hc I2 T st2 f2 hcl1 hcl2 hg hi he loop ?_
 intro Da C H' s' m hm IX fC c1 c2 c3 c4 _ q
 show wpAny _ X.A (assign (.Name y py) X.env (.ref Da)) _ _ _
 refine wpAny_assign_Name (wI IX nd hy hl (v:=.ref Da) rfl (λs2 IY ⟨a,sb,ha⟩=>?_) hf)
 have hne:C≠a:=by
  rcases ha with rfl|ha
  ·exact c1
  ·exact λz=>c3 y a ha z.symm
 exact⟨m,hm.sameBut sb hne,λh' hs'=>⟨_,H',IY.turned (t':=s2.toks) (λb o hb e=>(hs'.2 b hb).trans e) fC c1 (.inr c2) c3 c4,q⟩⟩
end
section
variable{X:Cx}{pins:List (Addr×Obj)}{σ:St}{H:Hp}{s:Shared}{h':Heap}
theorem bw.turnedL{t':Nat}{ch:List Addr}(I:bw X pins σ H s)(k:∀b o,b∉ch->s.heap.get? b=some o->h'.get? b=some o)(hf:∀b∈ch,oC X pins H b) :
  bw X pins σ H {s with heap:=h',toks:=t'}:=by
 have nit:∀b u,H b=some u->b∉ch:=λb u e z=>by rw[(hf b z).1] at e;cases e
 refine I.step (g':=s.gens) (d':=s.drawn) (ch:=ch) (λb hb=>⟨(hf b hb).2.2.2.1,(hf b hb).2.1,(hf b hb).2.2.2.2.1,(hf b hb).2.2.2.2.2⟩) (λb o _ _ hc e _=>k b o hc e) (λb o _ _ hc e _=>⟨o.slots,k b o hc e⟩) (λ_ _ _ _ n=>n)
  (λb o hc e=>⟨o,k b o hc e⟩) (λ_ _ e=>e) (λ_ _ _ e=>e) (λb ps e=>⟨#[],by rw[e];simp⟩) (λm hm=>?_) (λb u e=>?_) I.bare
 ·obtain⟨o,es,ep,ho,r⟩:=hm
  exact⟨o,es,ep,k _ o (λz=>(hf _ z).2.1 rfl) ho,r⟩
 ·refine(I.hok b u e).stay (λc v hc q=>k c v ?_ q) (λ_ q=>q) λ_ _ q=>q
  rcases hc with z|z
  ·rw[z];exact nit b u e
  ·exact nit c _ z
theorem bw.adopt{T:Addr}{o:HO}(I:bw X pins σ H s)(hf:oC X pins H T)(new:dR X.prog X.w (aQ H T o) s.heap T o):bw X pins σ (aQ H T o) s:=by
 have nT:∀b u,H b=some u->b≠T:=λb u e z=>by rw[z,hf.1] at e;cases e
 refine I.step (h':=s.heap) (H':=aQ H T o) (g':=s.gens) (d':=s.drawn) (t':=s.toks) (ch:=[T]) (λb hb=>?_) (λb _ _ _ _ e _=>e) (λb ob _ _ _ e _=>⟨ob.slots,e⟩) (λb ob hb _ n=>?_)
  (λb ob _ e=>⟨ob,e⟩) (λb xs e=>?_) (λb ob u e=>?_) (λb ps e=>⟨#[],?_⟩) (λm hm=>hm) (λb u e=>?_) I.bare
 ·have e:b=T:=by simpa using hb
  subst e
  exact⟨hf.2.2.2.1,hf.2.1,hf.2.2.2.2.1,hf.2.2.2.2.2⟩
 ·rw[az (λz=>hb (by simp[z]))];exact n
 ·rw[az (nT b _ e)];exact e
 ·rw[az (nT b _ e)];exact e
 ·rw[az (nT b _ e),e];simp
 ·by_cases hb:b=T
  ·subst hb;rw[aj] at e;cases e;exact new
  ·rw[az hb] at e
   exact(I.hok b u e).stay (λc v _ q=>q) (λc q=>by rw[az (nT c _ q)];exact q) λc xs q=>by rw[az (nT c _ q)];exact q
end
def Mi(K:Fg)(a:Addr):It:=
 ⟨λi H=>∃xs x,cx K H a xs/\xs[i]?=some x,λi H x H'=>∃p v,H p=none/\x=.ref p/\H'=aQ H p (.tup [.int (i:Nat),v])/\∀xs,cx K H a xs->xs[i]?=some v,λi H=>∃xs,cx K H a xs/\xs.length<=i⟩
theorem sG{X:Cx}{H:Hp}{h:Heap}{T:Addr}{x y:V}{u v:Value}{n:Nat}(e:h.get? T=some {cls:=.type "tuple",data:=.seq #[u,v] n})(r1:cg x u)(r2:cg y v):dR X.prog X.w H h T (.tup [x,y]):=
 ⟨show 2<=sizeLine by decide,[u,v],.cons r1 (.cons r2 .nil),⟨_,e,⟨rfl,rfl⟩,_,rfl⟩⟩
theorem Jp{h:Heap}{it a:Addr}{i:Nat}{l:Addr}{items:Array Value}(p:h.IsList a items)(q:h.IsListIter it l i):a≠it:=by
 intro e;subst e
 obtain⟨o,e1,c1,_⟩:=p
 obtain⟨o',e2,c2,_⟩:=q
 rw[e1] at e2;cases e2;rw[c1] at c2
 injection c2 with c3
 exact absurd c3 (by decide)
theorem EU{P:Program}{w:World}{K:Fg}{elts:List Expr}{k:Nat}{pos:Pos}(a e it:Addr)(hne:e≠it) :
  rT P w K (.Tuple elts k pos) (Mi K a) [e,it] e (λi h=>(∃old,IsEnum h e it (i:Nat) old)/\h.IsListIter it a i) where
 mem:=by simp
 obj:=λi h st b hb=>by
  obtain⟨⟨old,he⟩,⟨o,ho,c,d⟩⟩:=st
  rcases aK.mp hb with rfl|hb
  ·exact⟨_,he,λv z=>by have z':Data.fields _=Data.cell v:=z;cases z'⟩
  ·rw[ao.mp hb]
   exact⟨o,ho,λv z=>by rw[d] at z;cases z⟩
 keep:=λi h h' st k=>⟨let⟨old,he⟩:=st.1;⟨old,k e (by simp) _ he⟩,st.2.at λo q=>k it (by simp) o q⟩
 item:=by
  intro X hP hw hK hc i pins s σ H E I hf st hg
  subst hP hw hK
  obtain⟨⟨old,he⟩,hit⟩:=st
  obtain⟨xs,x,hq,hx⟩:=hg
  obtain⟨its,rv,p,hz⟩:=I.list hq
  obtain⟨u,hu,ru⟩:=rv.get hx
  have hlt:i<its.toArray.size:=by have:=(ae.mp hu).1;simpa using this
  have na:a≠it:=Jp p.isList hit
  have nb:e≠a:=by
   intro z;subst z
   obtain⟨o,n,e1,c1,_⟩:=p
   rw[he] at e1;cases e1
   injection c1 with c3
   exact absurd c3 (by decide)
  have Dw:=Draws.list (prog:=X.prog) (w:=X.w) (A:=X.A.in1) (show X.A.in1.handled=none from I.ok.hd hc) it a na its.toArray
  refine wpAny_pyNext_enum_itemD Dw he ⟨hit,p.isList⟩ hlt hne (by simp[hne,nb]) λy h1 tk hP ho st1 hT hsz hk=>?_
  have ey:y=u:=by
   have h1:its.toArray[i]?=some y:=hP
   have h2:its[i]?=some y:=by simpa using h1
   rw[hu] at h2;exact(Option.some.inj h2).symm
  subst ey
  refine⟨_,rfl,?_⟩
  have fT:oC X pins H s.heap.objs.size:=I.fpOk (ar _) (I.hok.fresh (ar _))
  refine wpAny_letOwnedTupleGo_enum ho λh2 he2 hs2=>?_
  have helt:e<s.heap.objs.size:=aF he
  have I1:bw X pins σ H {s with heap:=h2,toks:=tk+1}:=I.turnedL (t':=tk+1) (ch:=[e,it]) (λb o hb q=>by
   have b1:b≠e:=λz=>hb (by simp[z])
   have b2:b≠it:=λz=>hb (by simp[z])
   exact(hs2.2 b b1).trans (hk b o b1 b2 q)) hf
  have gT:h2.get? s.heap.objs.size=some {cls:=.type "tuple",data:=.seq #[.int i tk,y]}:=(hs2.2 _ (cR helt)).trans hT
  have I2:=I1.adopt (T:=s.heap.objs.size) (o:=.tup [.int (i:Nat),x]) fT (sG (X:=X) gT ⟨tk,rfl⟩ ru)
  refine⟨.ref s.heap.objs.size,_,I2,rfl,⟨s.heap.objs.size,x,fT.1,rfl,rfl,λys hy=>by rw[I.list_inj hy hq];exact hx⟩,⟨⟨y,?_⟩,?_⟩,λb hb=>?_⟩
  ·have e2:(((i+1:Nat):Nat):Int)=(i:Int)+1:=by lia
   show IsEnum h2 e it (((i+1:Nat):Nat):Int) y
   rw[e2];exact he2
  ·obtain⟨o,q1,q2⟩:=st1.1
   exact⟨o,(hs2.2 it (Ne.symm hne)).trans q1,q2⟩
  ·have nT:b≠s.heap.objs.size:=by
    rcases aK.mp hb with rfl|hb
    ·exact aN helt
    ·rw[ao.mp hb]
     obtain⟨o,ho,_⟩:=hit
     exact aN (aF ho)
   rw[az nT];exact(hf b hb).1
 done:=by
  intro X hP hw hK hc i pins s σ H E I hf st hg
  subst hP hw hK
  obtain⟨⟨old,he⟩,hit⟩:=st
  obtain⟨xs,hq,hx⟩:=hg
  obtain⟨its,rv,p,hz⟩:=I.list hq
  have hl:=rv.length
  have hT:s.TypeIs (.ref e) "enumerate":=⟨_,he,rfl⟩
  unfold pyNext
  refine wpAny_bind (wpAny_attempt (wpAny_callSpecial?_slot (name:=Str.ofString "__next__") hT F.slot_enumerate_next
   (wpAny_call_entry F.slot_enumerate_next hT F.entry_enumerate_next ?_ (F.args_enumerate_next_1 _))))
  show wpAny _ _ (field (.ref e) 2 >>= _) _ _ _
  refine wpAny_bind (wpAny_field he rfl (x:=.ref it) rfl ?_)
  refine wpAny_bind (wpAny_nextOf_list_end (show X.A.in1.handled=none from I.ok.hd hc) hit p.isList (by simp;lia) λh1 x1 eb hx1=>?_)
  obtain⟨o,ho,hcl⟩:=hx1
  refine wpAny_bind (wpAny_isInstance (T:="StopIteration") (b:=true) ⟨o,ho,hcl⟩ isSubtype_stop ?_)
  exact wpAny_pure ⟨rfl,I.turnedL (t':=s.toks) (ch:=[e,it]) (λb ob hb q=>eb b ob (λz=>hb (by simp[z])) q) hf⟩
 self:=λ_ _ _ _ _ st h=>let⟨_,he⟩:=st.1;wpAny_pyIter_enum he h
section
variable{X:Cx}{elts:List Expr}{k:Nat}{tpos:Pos}
def Ge(K:Fg)(tl:TA):TI:=λσ H R=>tl σ H λvs H1=>∃a,vs=[.ref a]/\(∃xs,cx K H1 a xs)/\R (Mi K a) H1
theorem JF{a:Expr}{ta:TA}{p pos:Pos}(hg:Gl X "enumerate")(hm:X.mg "enumerate"=none)(ha:PA X [a] ta)(hs:starEach [a] X.env=[(false,eval a X.env)]:=by rfl) :
  PI X (.Tuple elts k tpos) (.Call (.Name "enumerate" p) [a] [] pos) (Ge X.K ta):=by
 intro pins s σ H R I h
 refine Call_ (iq I hg hm boot_enumerate (br (d4 (ha pos pins s σ H _ I h) λus s1 ⟨vs,H1,I1,r1,q1⟩=>?_) hs rfl))
 obtain⟨l,e,⟨xs,hq⟩,q⟩:=q1
 subst e
 cases r1 with
 |cons r rr=>
  cases rr
  cases r
  obtain⟨its,rv,pl,hz⟩:=I1.list hq
  refine call_enumerate_list pl.isList λh1 he hit hsz hk=>?_
  refine wpAny_pyIter_enum he ?_
  have I2:bw X pins σ H1 {s1 with heap:=h1}:=I1.kept (t':=s1.toks) hk
  refine⟨s1.heap.objs.size+1,[s1.heap.objs.size+1,s1.heap.objs.size],_,_,H1,rfl,I2,EU l _ _ (Nat.succ_ne_self _),⟨⟨.none,he⟩,hit⟩,λb hb=>?_,q⟩
  have hb':s1.heap.objs.size<=b:=by
   rcases aK.mp hb with rfl|hb
   ·lia
   ·rw[ao.mp hb];exact ar _
  exact I1.fpOk hb' (I1.hok.fresh hb')
end
section
variable{X:Cx}{elts:List Expr}{k:Nat}{tpos:Pos}
end
theorem F6{K:Fg}{a:Addr}{xs:List V}{g:TG}{tb:TS}{D:lM}{σ:St}{H:Hp}(Pv:Nat->St->Hp->Prop)(h0:Pv 0 σ H)(hl:∀i σ H,i<=xs.length->Pv i σ H->cx K H a xs)
  (hs:∀i x σ H p,xs[i]?=some x->H p=none->Pv i σ H->g (.ref p) σ (aQ H p (.tup [.int (i:Nat),x])) λσ2 H2=>tb {D with nx:=Pv (i+1),ct:=Pv (i+1),bk:=D.nx} σ2 H2) (hd:∀σ H,Pv xs.length σ H->D.nx σ H) :
  ∃W:Nat->Nat->St->Hp->Prop,(∃m,W 0 m σ H)/\∀i m σ H,W i m σ H->
   ((Mi K a).stop i H/\D.nx σ H)\/((Mi K a).go i H/\∃N:St->Hp->Prop,(∀σ' H',N σ' H'->∃m',m'<m/\W (i+1) m' σ' H')/\∀x H',(Mi K a).yld i H x H'->g x σ H' λσ2 H2=>tb {D with nx:=N,ct:=N,bk:=D.nx} σ2 H2):=by
 refine⟨λi m σ H=>m=xs.length-i/\i<=xs.length/\Pv i σ H,⟨xs.length,by simp,bq _,h0⟩,?_⟩
 rintro i m σ H ⟨rfl,hi,p⟩
 have q:=hl i σ H hi p
 by_cases hlt:i<xs.length
 ·refine .inr ⟨⟨xs,xs[i],q,by simp[hlt]⟩,Pv (i+1),λσ' H' p'=>⟨xs.length-(i+1),by lia,rfl,hlt,p'⟩,λx H' y=>?_⟩
  obtain⟨pp,v,e1,rfl,rfl,y⟩:=y
  exact hs i v σ H pp (y xs q) e1 p
 ·have e:i=xs.length:=by lia
  subst e
  exact .inl ⟨⟨xs,q,ar _⟩,hd σ H p⟩
end L2
namespace PySem
open Sem (wp)
open Builtin MeetsSeq MeetsSeq2 MeetsSeq3
theorem qP:fillsNumberSlot (.type "tuple") "mul"=pure false:=
 fillsNumberSlot_seq (id:="tuple.__mul__") (r:=some (.builtin "tuple.__rmul__")) F.slot_tuple_mul.lookup (by decide +kernel) F.slot_tuple_rmul.lookup (by decide +kernel)
theorem yf:seqRepeat? (.type "tuple")=pure (some (.builtin "tuple.__mul__")):=by
 unfold seqRepeat?
 rw[seqSlot_of (T:="tuple") (name:="__mul__") (id:="tuple.__mul__") F.slot_tuple_mul.lookup (by decide +kernel),seqSlot_of (T:="tuple") (name:="__rmul__") (id:="tuple.__rmul__") F.slot_tuple_rmul.lookup (by decide +kernel)]
 rfl
theorem tH(a:Int)(t:Tok)(l:Addr)(items:Array Value)(n:Nat)(dd:Option Addr)(sl:Array (Option Value)) :
  Meets (Builtin.«int.__rmul__» ⟨[.int a t,.ref l],[]⟩) (λ_ R s=>s.heap.get? l=some {cls:=.type "tuple",dict:=dd,data:=.seq items n,slots:=sl}/\R (.ok (.ret Value.notImplemented)) s):=
 .of_wp λprog w A R s h=>by obtain⟨hp,g,d,tk,os⟩:=s;obtain⟨hl,h⟩:=h;wp_walk;exact⟨_,rfl,h⟩
theorem uR(l:Addr)(items:Array Value)(n:Nat)(dd:Option Addr)(sl:Array (Option Value))(x:Int)(u:Tok)(hlo:-(2 ^ 63)<=x)(hhi:x<2 ^ 63)(he:items.isEmpty=false)(h1:¬x=1)(hp:0<x)(hsz:items.size*x.toNat<=sizeLine) :
  Meets (Builtin.«tuple.__mul__» ⟨[.ref l,.int x u],[]⟩) (λ_ R s=>s.heap.get? l=some {cls:=.type "tuple",dict:=dd,data:=.seq items n,slots:=sl}/\
   R (.ok (.ret (Value.ref s.heap.objs.size))) {s with heap:=s.heap.push {cls:=Value.type "tuple",data:=Data.seq (sH (λx1 x2=>x1++x2) #[] (aU x.toNat items))},toks:=s.toks}):=
 .of_wp λprog w A R s h=>by
  obtain⟨hp,g,d,tk,os⟩:=s;obtain⟨hl,h⟩:=h
  have z1:(decide (x < -(2 ^ 63)) || decide (x >= 2 ^ 63))=false:=by simp;lia
  have z2:(items.isEmpty || x==1)=false:=by simp[he,h1]
  have z3:(decide (x<=0) || items.isEmpty)=false:=by simp[he];lia
  have ex:(items.size:Int)*x=((items.size*x.toNat:Nat):Int):=by
   rw[Int.natCast_mul];congr 1;lia
  have z4:¬((items.size:Int)*x>(2 ^ 63-1) / 8):=by
   rw[ex]
   have:(sizeLine:Nat)<=(2 ^ 63-1) / 8:=by decide
   lia
  have z5:Tuple.tupleTooMany ((items.size:Int)*x)=false:=by
   unfold Tuple.tupleTooMany
   rw[ex]
   exact decide_eq_false (by lia)
  have z6:(sH (λ(x1 x2:Array Value)=>x1++x2) #[] (aU x.toNat items)).size<=sizeLine:=by
   have e:=AutoListH.size_joined items x.toNat #[]
   rw[e,pB]
   simpa using hsz
  wp_walk
  refine wpAny_ite_false (by rw[z1];rfl) ?_
  wp_walk using AutoSeq1.wpAny_loadPart' hl
  refine wpAny_ite_false (decide_eq_false z4) ?_
  wp_walk
  refine wpAny_ite_false (by rw[z5];rfl) ?_
  wp_walk
  exact⟨_,rfl,h⟩
theorem vH(l:Addr)(items:Array Value)(n:Nat)(dd:Option Addr)(sl:Array (Option Value))(u:Tok) :
  Meets (Builtin.«tuple.__mul__» ⟨[.ref l,.int 1 u],[]⟩) (λ_ R s=>s.heap.get? l=some {cls:=.type "tuple",dict:=dd,data:=.seq items n,slots:=sl}/\R (.ok (.ret (Value.ref l))) s):=
 .of_wp λprog w A R s h=>by
  obtain⟨hp,g,d,tk,os⟩:=s;obtain⟨hl,h⟩:=h
  have z2:(items.isEmpty || (1:Int)==1)=true:=by simp
  wp_walk using AutoSeq1.wpAny_loadPart' hl
  first|exact⟨_,rfl,h⟩|trace_state
theorem uS(l:Addr)(items:Array Value)(n:Nat)(dd:Option Addr)(sl:Array (Option Value))(u:Tok)(he:items.isEmpty=false) :
  Meets (Builtin.«tuple.__mul__» ⟨[.ref l,.int 0 u],[]⟩) (λ_ R s=>s.heap.get? l=some {cls:=.type "tuple",dict:=dd,data:=.seq items n,slots:=sl}/\
   R (.ok (.ret (Value.ref s.heap.objs.size))) {s with heap:=s.heap.push {cls:=Value.type "tuple",data:=Data.seq #[]},toks:=s.toks}):=
 .of_wp λprog w A R s h=>by
  obtain⟨hp,g,d,tk,os⟩:=s;obtain⟨hl,h⟩:=h
  have z2:(items.isEmpty || (0:Int)==1)=false:=by simp[he]
  have z3:(decide ((0:Int)<=0) || items.isEmpty)=true:=by simp
  wp_walk using AutoSeq1.wpAny_loadPart' hl
  first|exact⟨_,rfl,h⟩|trace_state
end PySem
namespace L2
open PySem PySem.Spec PyProof.Rows
section
variable{X:Cx}
def Kz(K:Fg):R2:=λx y H Q=>∃(l:Addr) (k:Nat) (xs:List V),x=.ref l/\y=.int (k:Nat)/\cz K H l xs/\xs≠[]/\xs.length*k<=sizeLine/\(k=1->Q (.ref l) H)/\
 (k≠1->∀p,H p=none->Q (.ref p) (aQ H p (.tup (aU k xs).flatten)))
theorem Jv:iY X (binaryOp .Mult) (Kz X.K):=by
 intro pins s σ H x y v u Q I rx ry h
 obtain⟨l,k,xs,rfl,rfl,hq,hne,hz,q1,q2⟩:=h
 cases rx
 obtain⟨t,rfl⟩:=ry
 obtain⟨its,r,⟨⟨cls,dd,data,sl⟩,e,hc,n,hd⟩,hl⟩:=I.tuple hq
 simp only at hc hd
 subst hc hd
 have hlen:=r.length
 have he:its.toArray.isEmpty=false:=by
  cases its with
  |nil=>simp at hlen;exact absurd hlen hne
  |cons a r'=>rfl
 have hs:its.toArray.size*k<=sizeLine:=by rw[ay,<-hlen];exact hz
 have road:wpAny (model X.prog X.w) X.A (call (.builtin "tuple.__mul__") [.ref l,.int (k:Nat) t]) (EP X pins σ Q) X.xe s->wpAny (model X.prog X.w) X.A (binaryOp .Mult (.ref l) (.int (k:Nat) t)) (EP X pins σ Q) X.xe s:=λhcall=>
  wpAny_binaryOp_repeat_ref (T:="tuple") (U:="int") (by decide) ⟨_,e,rfl⟩ (λs'=>typeIs_int s' k t) qP F.fills_int_mul F.slot_int_rmul yf F.slot_int_index.lookup
   (call_meets F.slot_int_rmul (typeIs_int s k t) F.entry_int_rmul (F.args_int_rmul_2 _ _) (tH k t l its.toArray n dd sl) ⟨e,rfl,⟨_,e,rfl⟩,hcall⟩)
 refine road ?_
 by_cases h1:k=1
 ·subst h1
  exact call_meets F.slot_tuple_mul ⟨_,e,rfl⟩ F.entry_tuple_mul (F.args_tuple_mul_2 _ _) (vH l its.toArray n dd sl t) ⟨e,⟨.ref l,H,I,rfl,q1 rfl⟩⟩
 ·have hn:H s.heap.objs.size=none:=I.hok.fresh (ar _)
  by_cases h0:k=0
  ·subst h0
   refine call_meets F.slot_tuple_mul ⟨_,e,rfl⟩ F.entry_tuple_mul (F.args_tuple_mul_2 _ _) (uS l its.toArray n dd sl t he) ⟨e,⟨.ref s.heap.objs.size,_,?_,rfl,q2 h1 _ hn⟩⟩
   exact I.laid (t':=s.toks) (λb o e=>ag _ e) (ar _) ⟨bq _,[],.nil,⟨_,ax _ rfl,⟨rfl,rfl⟩,_,rfl⟩⟩
  ·have hk64:(k:Int)<2 ^ 63:=by
    have h3:1<=its.toArray.size:=by
     cases its with
     |nil=>simp at he
     |cons a r'=>simp
    have h4:k<=its.toArray.size*k:=Nat.le_mul_of_pos_left k h3
    have h5:(sizeLine:Nat)<2 ^ 63:=by decide
    lia
   refine call_meets F.slot_tuple_mul ⟨_,e,rfl⟩ F.entry_tuple_mul (F.args_tuple_mul_2 _ _) (uR l its.toArray n dd sl k t (by lia) hk64 he (by lia) (by lia) (by simpa using hs)) ⟨e,?_⟩
   have f0:=vY its k []
   rw[eY] at f0
   have ek:((k:Nat):Int).toNat=k:=by simp
   rw[ek,f0]
   refine⟨.ref s.heap.objs.size,_,?_,rfl,q2 h1 _ hn⟩
   refine I.laid (t':=s.toks) (λb o e=>ag _ e) (ar _) ⟨?_,(aU k its).flatten,r.rep k,⟨_,ax _ rfl,⟨rfl,rfl⟩,_,rfl⟩⟩
   rw[Jm,pB];exact hz
theorem xA:g8 X (.builtin "divmod") (λxs H Q=>∃i j,xs=[.int i,.int j]/\(0<j/\j<2 ^ 64)/\∀p,H p=none->Q (.ref p) (aQ H p (.tup [.int (i / j),.int (i % j)]))):=by
 intro pins s σ H xs us Q I r h
 obtain⟨i,j,rfl,⟨h1,h2⟩,q⟩:=h
 obtain⟨u,w',rfl,⟨t,rfl⟩,⟨t',rfl⟩⟩:=DV r
 have hb:j.natAbs.log2<9000:=by
  have h3:j.natAbs.log2<64:=(Nat.log2_lt (by lia)).mpr (by lia)
  lia
 refine divmod_int (by lia) ?_ (.inl (PyProof.noPylong_of_log2 hb))
 rw[Int.fdiv_eq_ediv_of_nonneg i (by lia),Int.fmod_eq_emod_of_nonneg i (by lia)]
 have hn:H s.heap.objs.size=none:=I.hok.fresh (ar _)
 refine⟨.ref s.heap.objs.size,_,?_,rfl,q _ hn⟩
 refine I.laid (λb o e=>ag _ e) (ar _) ⟨by simp only[bD,fS];rw[sizeLine_eq];decide,[.int (i / j) s.toks,.int (i % j) (s.toks+1)],.cons ⟨_,rfl⟩ (.cons ⟨_,rfl⟩ .nil),?_⟩
 exact⟨_,ax s.heap rfl,⟨rfl,rfl⟩,0,rfl⟩
inductive uV(K:Fg)(H:Hp):V->String->Bool->Prop where
 |int_int (i:Int):uV K H (.int i) "int" true
 |int_bool (i:Int):uV K H (.int i) "bool" false
 |int_tuple (i:Int):uV K H (.int i) "tuple" false
 |str_tuple (x:Str):uV K H (.str x) "tuple" false
 |tup_tuple {a:Addr} {xs:List V} (h:cz K H a xs):uV K H (.ref a) "tuple" true
 |lst_list {a:Addr} {xs:List V} (h:cx K H a xs):uV K H (.ref a) "list" true
 |str_str (x:Str):uV K H (.str x) "str" true
 |bl_bool (b:Bool):uV K H (.bl b) "bool" true
theorem pO:g8 X (.builtin "isinstance") (λxs H Q=>∃x T b,xs=[x,.ty T]/\uV X.K H x T b/\Q (.bl b) H):=by
 intro pins s σ H xs us Q I r h
 obtain⟨x,T,b,rfl,hi,q⟩:=h
 obtain⟨u,w',rfl,r1,r2⟩:=DV r
 cases r2
 cases hi with
 |int_int i=>obtain⟨t,rfl⟩:=r1;exact IsiPair.int_int ⟨.bl true,H,I,rfl,q⟩
 |int_bool i=>obtain⟨t,rfl⟩:=r1;exact IsiPair.int_bool ⟨.bl false,H,I.tok _,rfl,q⟩
 |int_tuple i=>obtain⟨t,rfl⟩:=r1;exact IsiPair.int_tuple ⟨.bl false,H,I.tok _,rfl,q⟩
 |str_tuple z=>obtain⟨t,rfl⟩:=r1;exact IsiPair.str_tuple ⟨.bl false,H,I.tok _,rfl,q⟩
 |tup_tuple hs=>
  cases r1
  obtain⟨its,rv,⟨o,e,hc,_⟩,hz⟩:=I.tuple hs
  exact IsiPair.tuple_tuple e hc ⟨.bl true,H,I,rfl,q⟩
 |lst_list hs=>
  cases r1
  obtain⟨its,rv,pl,hz⟩:=I.list hs
  obtain⟨o,e,hc,_⟩:=pl.isList
  exact IsiPair.list_list e hc ⟨.bl true,H,I,rfl,q⟩
 |str_str z=>obtain⟨t,rfl⟩:=r1;exact IsiPair.str_str ⟨.bl true,H,I,rfl,q⟩
 |bl_bool z=>cases r1;exact IsiPair.bool_bool ⟨.bl true,H,I,rfl,q⟩
theorem KN(bs:List Bool):(cc bs.length).all (λi=>(bs[i]?).getD false)=bs.all id:=by
 rw[Bool.eq_iff_iff,dN,dN]
 constructor
 ·intro h b hb
  obtain⟨i,hi,e⟩:=aS.mp hb
  have:=h i (fg.mpr hi)
  rw[aa hi,fF,e] at this
  exact this
 ·intro h i hi
  have hi:=fg.mp hi
  rw[aa hi,fF]
  exact h _ (b6 hi)
theorem jE(hc:X.calm=true):g8 X (.builtin "all") (λxs H Q=>∃(p:Addr) (bs:List Bool),xs=[.ref p]/\cx X.K H p (bs.map V.bl)/\Q (.bl (bs.all id)) H):=by
 intro pins s σ H xs us Q I r h
 obtain⟨p,bs,rfl,hq,q⟩:=h
 obtain⟨u,rfl,rx⟩:=kz r
 cases rx
 obtain⟨its,rv,pl,hz⟩:=I.list hq
 have hlen:=rv.length
 rw[af] at hlen
 have hlt:p<s.heap.objs.size:=by obtain⟨o,e,_⟩:=pl.isList;exact aF e
 refine call_all_walk (wpAny_pyIter_list pl.isList ?_)
 refine⟨_,_,_,_,_,_,λi=>(bs[i]?).getD false,rfl,Walks.list (A:=X.A.in1) (show X.A.in1.handled=none from I.ok.hd hc) s.heap.objs.size p (aN hlt) its.toArray,⟨⟨_,ax _ rfl,rfl,rfl⟩,pl.isList.push _⟩,?_,λh' tk hk=>?_⟩
 ·intro i v s' Q' E' hP hQ
  have hP':its[i]?=some v:=by
   have:its.toArray[i]?=some v:=hP
   simpa using this
  have hi:i<bs.length:=by rw[hlen];exact(ae.mp hP').1
  obtain⟨u,hu,ru⟩:=rv.get (i:=i) (x:=V.bl bs[i]) (by rw[aG,aa hi];rfl)
  rw[hP'] at hu
  cases hu
  cases ru
  have hQ':Q' ((bs[i]?).getD false) s':=hQ
  rw[aa hi,fF] at hQ'
  exact wpAny_truthy_bool hQ'
 ·have e:its.toArray.size=bs.length:=by rw[ay,hlen]
  rw[e,KN]
  refine⟨.bl _,H,?_,rfl,q⟩
  refine I.kept (t':=tk) λb o eb=>?_
  refine hk b o (λz=>?_) (ag _ eb)
  have e2:b=s.heap.objs.size:=by simpa using z
  have h2:=aF eb
  rw[e2] at h2
  exact cZ _ h2
end
section
variable{X:Cx}
theorem qe:∀{ys:List Str} {us:List Value},bX (ys.map V.str) us->StrsAre us ys
 |[],_,r=>by cases r;exact .nil
 |y::ys,_,r=>by
  cases r with
  |cons r rr=>
   obtain⟨t,rfl⟩:=r
   exact .cons _ _ (qe rr)
def G8(K:Fg):V->List V->Hp->VK->Prop:=λx vs H Q=>∃(sep:Str) (p:Addr) (ys:List Str),x=.str sep/\vs=[.ref p]/\cx K H p (ys.map V.str)/\(ys.map (·.length)).sum+ys.length*sep.length<=16777216/\Q (.str (Txt.join sep ys)) H
theorem Jo:Ml X "str.join" (G8 X.K):=by
 intro pins s σ H x vs v us Q I rx rv h
 obtain⟨sep,p,ys,rfl,rfl,hq,hz,q⟩:=h
 obtain⟨t,rfl⟩:=rx
 obtain⟨u,rfl,ru⟩:=rv.one
 cases ru
 obtain⟨its,r,pl,_⟩:=I.list hq
 exact join_list pl.isList (by simpa using qe r) hz λt' k=>⟨.str _,H,I.tok k,⟨t',rfl⟩,q⟩
end
section
variable{X:Cx}
def m7(xs ys:List V):Bool:=(cc (min xs.length ys.length)).all (λj=>zk ((xs[j]?).getD .non) ((ys[j]?).getD .non))&&xs.length==ys.length
def J3(K:Fg)(neg:Bool):R2:=λx y H Q=>∃p q xs ys,x=.ref p/\y=.ref q/\cz K H p xs/\cz K H q ys/\xs.all iH=true/\ys.all iH=true/\Q (.bl (if neg then !m7 xs ys else m7 xs ys)) H
theorem CY{A:Around}{s:Shared}{xs ys:List V}{us vs:List Value}(r1:bX xs us)(r2:bX ys vs)(f1:xs.all iH=true)(f2:ys.all iH=true) :
  ∀j (h1:j<us.toArray.size) (h2:j<vs.toArray.size),SeqAt.EqAt A s us.toArray[j] vs.toArray[j] (zk ((xs[j]?).getD .non) ((ys[j]?).getD .non)):=by
 intro j h1 h2
 have l1:=r1.length
 have l2:=r2.length
 rw[ay] at h1 h2
 have j1:j<xs.length:=by lia
 have j2:j<ys.length:=by lia
 obtain⟨u,hu,ru⟩:=r1.get (aa j1)
 obtain⟨v,hv,rv⟩:=r2.get (aa j2)
 have eu:us.toArray[j]=u:=by
  have:=aa h1
  rw[hu] at this
  simpa using(Option.some.inj this).symm
 have ev:vs.toArray[j]=v:=by
  have:=aa h2
  rw[hv] at this
  simpa using(Option.some.inj this).symm
 rw[eu,ev,aa j1,aa j2,fF,fF]
 exact FZ ru rv (dN.mp f1 _ (b6 j1)) (dN.mp f2 _ (b6 j2))
theorem Lk(hu:X.A.units<cLine):iY X (compareOp .Eq) (J3 X.K false):=by
 intro pins s σ H x y v u Q I rx ry h
 obtain⟨p,q,xs,ys,rfl,rfl,h1,h2,f1,f2,qq⟩:=h
 cases rx
 cases ry
 obtain⟨us,r1,t1,_⟩:=I.tuple h1
 obtain⟨vs,r2,t2,_⟩:=I.tuple h2
 refine SeqAt.eq_tupleAt (show s.heap.IsTuple p us.toArray from t1) (show s.heap.IsTuple q vs.toArray from t2) hu (CY r1 r2 f1 f2) ⟨.bl (m7 xs ys),H,I,?_,qq⟩
 show Value.bool _=Value.bool _
 unfold m7
 rw[ay,ay,r1.length,r2.length]
def Kw(K:Fg):R2:=λx y H Q=>∃p xs z,x=.ref p/\y=.str z/\cz K H p xs/\Q (.bl false) H
theorem Ju(hu:X.A.units<cLine):iY X (compareOp .Eq) (Kw X.K):=by
 intro pins s σ H x y v u Q I rx ry h
 obtain⟨p,xs,z,rfl,rfl,h1,qq⟩:=h
 cases rx
 obtain⟨t,rfl⟩:=ry
 obtain⟨us,r1,t1,_⟩:=I.tuple h1
 exact SeqAt.RcAt.tuple_str z t (show s.heap.IsTuple p us.toArray from t1) hu X.prog X.w X.xe _ ⟨.bl false,H,I,rfl,qq⟩
theorem Lp(hu:X.A.units<cLine):iY X (compareOp .NotEq) (J3 X.K true):=by
 intro pins s σ H x y v u Q I rx ry h
 obtain⟨p,q,xs,ys,rfl,rfl,h1,h2,f1,f2,qq⟩:=h
 cases rx
 cases ry
 obtain⟨us,r1,t1,_⟩:=I.tuple h1
 obtain⟨vs,r2,t2,_⟩:=I.tuple h2
 refine SeqAt.RcNeAt.tuples (show s.heap.IsTuple p us.toArray from t1) (show s.heap.IsTuple q vs.toArray from t2) hu (CY r1 r2 f1 f2) X.prog X.w X.xe _ ⟨.bl (!m7 xs ys),H,I,?_,qq⟩
 show Value.bool _=Value.bool _
 unfold m7
 rw[ay,ay,r1.length,r2.length]
end
section
variable{X:Cx}
def J2(K:Fg)(neg:Bool):R2:=λx y H Q=>∃p q xs ys,x=.ref p/\y=.ref q/\cx K H p xs/\cx K H q ys/\xs.all iH=true/\ys.all iH=true/\Q (.bl (if neg then !m7 xs ys else m7 xs ys)) H
theorem zo{xs ys:List V}(h:xs.length=ys.length):m7 xs ys=(cc xs.length).all (λj=>zk ((xs[j]?).getD .non) ((ys[j]?).getD .non)):=by
 unfold m7;rw[<-h,Nat.min_self];simp
theorem C5{xs ys:List V}(h:¬xs.length=ys.length):m7 xs ys=false:=by
 unfold m7;rw[Bool.and_eq_false_iff];right;simpa using h
theorem Lj(hu:X.A.units<cLine):iY X (compareOp .Eq) (J2 X.K false):=by
 intro pins s σ H x y v u Q I rx ry h
 obtain⟨p,q,xs,ys,rfl,rfl,h1,h2,f1,f2,qq⟩:=h
 cases rx
 cases ry
 obtain⟨us,r1,t1,_⟩:=I.list h1
 obtain⟨vs,r2,t2,_⟩:=I.list h2
 have l1:=r1.length
 have l2:=r2.length
 by_cases c:xs.length=ys.length
 ·refine SeqAt.eq_listAt t1.isList t2.isList (by rw[ay,ay];lia) hu (CY r1 r2 f1 f2) ⟨.bl (m7 xs ys),H,I,?_,qq⟩
  show Value.bool _=Value.bool _
  rw[zo c,ay,l1]
 ·refine SeqAt.eq_list_lengthsAt t1.isList t2.isList (by rw[ay,ay];simp;lia) hu ⟨.bl (m7 xs ys),H,I,?_,qq⟩
  show Value.bool _=Value.bool _
  rw[C5 c]
theorem Lo(hu:X.A.units<cLine):iY X (compareOp .NotEq) (J2 X.K true):=by
 intro pins s σ H x y v u Q I rx ry h
 obtain⟨p,q,xs,ys,rfl,rfl,h1,h2,f1,f2,qq⟩:=h
 cases rx
 cases ry
 obtain⟨us,r1,t1,_⟩:=I.list h1
 obtain⟨vs,r2,t2,_⟩:=I.list h2
 have l1:=r1.length
 have l2:=r2.length
 by_cases c:xs.length=ys.length
 ·refine SeqAt.RcNeAt.lists t1.isList t2.isList (by rw[ay,ay];lia) hu (CY r1 r2 f1 f2) X.prog X.w X.xe _ ⟨.bl (!m7 xs ys),H,I,?_,qq⟩
  show Value.bool _=Value.bool _
  rw[zo c,ay,l1]
 ·refine SeqAt.RcNeAt.lists_lengths t1.isList t2.isList (by rw[ay,ay];simp;lia) hu X.prog X.w X.xe _ ⟨.bl (!m7 xs ys),H,I,?_,qq⟩
  show Value.bool _=Value.bool _
  rw[C5 c];rfl
end
section
variable{prog:Program}{w:World}{A:Around}{E:Value->Shared->Prop}
theorem tw{it t:Addr}{items:Array Value}(hne:t≠it):∀(n i:Nat) (s:Shared) (Q:List Value->Shared->Prop),s.heap.IsListIter it t i->s.heap.IsList t items->i+n<=items.size->
  (∀h':Heap,h'.IsListIter it t (i+n)->Heap.SameBut it s.heap h'->Q ((items.toList.drop i).take n) {s with heap:=h'})->wpAny (model prog w) A (draw (.ref it) n) Q E s
 |0,i,s,Q,hit,_,_,hQ=>by
  show wpAny _ _ (pure []) Q E s
  exact wpAny_pure (by simpa using hQ s.heap hit (Heap.SameBut.refl ..))
 |n+1,i,s,Q,hit,ht,hle,hQ=>by
  have hlt:i<items.size:=by lia
  show wpAny _ _ (pyNext (.ref it) >>= _) Q E s
  refine wpAny_bind (wpAny_pyNext_list_item hit ht (x:=items[i]) (by simp[hlt]) λh₁ hit₁ hs₁=>?_)
  refine wpAny_bind (wpAny_holding (tw hne n (i+1) _ _ hit₁ (ht.extBut hs₁.extBut hne) (by lia) λh₂ hit₂ hs₂=>wpAny_pure ?_))
  have hd:items.toList.drop i=items[i]::items.toList.drop (i+1):=by simp[b8,hlt]
  have:=hQ h₂ (by rw[show i+(n+1)=i+1+n by lia];exact hit₂) (hs₁.trans hs₂)
  rw[hd,List.take_succ_cons] at this
  exact this
theorem qD{s:Shared}{t:Addr}{items:Array Value}{Q:List Value->Shared->Prop}(hh:A.handled=none)(ht:s.heap.IsList t items)
  (hQ:∀h':Heap,Heap.ExtBut s.heap.objs.size s.heap h'->Q items.toList {s with heap:=h'}):wpAny (model prog w) A (unpackItems (.ref t) items.size none) Q E s:=by
 have hlt:t≠s.heap.objs.size:=by obtain⟨o,ho,_⟩:=ht;exact aN (aF ho)
 unfold unpackItems
 refine wpAny_bind ?_
 ·unfold notIterableAtAll
  refine wpAny_bind (wpAny_specialOf ht.typeIs slot_list_iter.lookup ?_)
  refine wpAny_pure ?_
  simp only[Bool.false_eq_true,if_false]
  refine wpAny_bind (wpAny_holding (wpAny_pyIter_list ht ?_))
  refine wpAny_bind (wpAny_holding (tw hlt items.size 0 _ _ ⟨_,ax _ rfl,rfl,rfl⟩ (ht.push _) (by lia) λh₁ hit₁ hs₁=>?_))
  have hall:List.take items.size (List.drop 0 items.toList)=items.toList:=by
   rw[jc];exact dI (by simp)
  rw[hall]
  rw[if_neg (by simp)]
  have ht₁:h₁.IsList t items:=(ht.push _).extBut hs₁.extBut hlt
  refine wpAny_bind (wpAny_holding (wpAny_pyNext_list_end hh hit₁ ht₁ (by simp) λh₂ he₂=>?_))
  simp only[Option.isSome_none,Bool.false_eq_true,if_false]
  refine wpAny_pure (hQ h₂ λb o hb e=>he₂ b o hb (hs₁.extBut b o hb (ag _ e)))
end
section
variable{X:Cx}{pos:Pos}
def Ga(K:Fg)(n:Nat)(t:D8):TG:=λv σ H Q=>∃a xs,v=.ref a/\cx K H a xs/\xs.length=n/\t xs σ H Q
theorem JD{es:List Expr}{k:Nat}{t:D8}{n:Nat}(hc:X.calm=true)(h:Mc X es t)
  (hn:(assignEach es X.env).length=n:=by rfl) (hst:(assignEach es X.env).findIdx? (·.1)=none:=by rfl):PG X (.Tuple es k pos) (Ga X.K n t):=by
 intro pins s σ H v u Q I r hw
 obtain⟨a,xs,e1,hq,hl,hw⟩:=hw
 subst e1
 cases r
 obtain⟨its,rv,ht,hz⟩:=I.list hq
 rw[assign_Tuple]
 refine wpAny_bind (wpAny_standAt ?_)
 unfold unpack
 have e:(assignEach es X.env).length=its.toArray.size:=by simp[hn,<-hl,rv.length]
 rw[e,hst]
 refine wpAny_bind (wpAny_holding (qD (I.ok.hd hc) ht.isList λh' hx=>?_))
 have I1:bw X pins σ H {s with heap:=h'}:=I.kept (t':=s.toks) λb o e=>hx b o (aN (aF e)) e
 exact h pins _ σ H xs _ Q I1 (by simpa using rv) hw
end
def Na:R2:=λx y H Q=>∃i j,x=.str i/\y=.str j/\i.length+j.length<=sizeLine/\Q (.str (i++j)) H
def dz(K:Fg):R2:=λx y H Q=>E4 (λi j=>.int (i+j)) x y H Q\/(Na x y H Q\/(MZ x y H Q\/Ku K x y H Q))
def tY:R2:=E4 λi j=>.int (i-j)
def jo(K:Fg):R2:=λx y H Q=>rI Iz (λi j=>.int (i*j)) x y H Q\/Kz K x y H Q
def kr:R2:=rI (λ_ j=>0<j) λi j=>.int (i % j)
def G4:R2:=rI Mf λi j=>.int (i / j)
def vo(K:Fg):R2:=λx y H Q=>NQ x y H Q\/(J3 K false x y H Q\/(Kw K x y H Q\/J2 K false x y H Q))
def Cb(K:Fg):R2:=λx y H Q=>NR x y H Q\/(J3 K true x y H Q\/J2 K true x y H Q)
def Ca:R2:=E4 λi j=>.bl (decide (i<j))
def NF:R2:=E4 λi j=>.bl (decide (i<=j))
def z9:R2:=E4 λi j=>.bl (decide (j<i))
def G7:R2:=λx y H Q=>y=.non/\Q (.bl (decide (x=.non))) H
def Dq:R2:=λx y H Q=>y=.non/\Q (.bl (!decide (x=.non))) H
def oZ:V->Hp->VK->Prop:=rU λi=>.int (-i)
def Iw(K:Fg):V->Option Int->Option Int->Hp->VK->Prop:=λx lo hi H Q=>M8 K x lo hi H Q\/M9 K x lo hi H Q
def fP(K:Fg):List V->Hp->VK->Prop:=λxs H Q=>∃x n,xs=[x]/\Mj K x H n/\Q (.int n) H
def J1:List V->Hp->VK->Prop:=λxs H Q=>∃i j,xs=[.int i,.int j]/\(0<j/\j<2 ^ 64)/\∀p,H p=none->Q (.ref p) (aQ H p (.tup [.int (i / j),.int (i % j)]))
def Ky:List V->Hp->VK->Prop:=λxs H Q=>∃i j,xs=[.int i,.int j]/\Q (.int (if j<i then j else i)) H
def G2(K:Fg):List V->Hp->VK->Prop:=λxs H Q=>∃(p:Addr) (bs:List Bool),xs=[.ref p]/\cx K H p (bs.map V.bl)/\Q (.bl (bs.all id)) H
def J4(K:Fg):List V->Hp->VK->Prop:=λxs H Q=>∃x T b,xs=[x,.ty T]/\uV K H x T b/\Q (.bl b) H
def G6:List V->Hp->VK->Prop:=λxs H Q=>(∃i,xs=[.int i]/\Q (.int i) H)\/∃k,xs=[.bl k]/\Q (.int (if k then 1 else 0)) H
def x9(K:Fg):List V->Hp->VK->Prop:=λxs H Q=>∃p ys,xs=[.ref p]/\(cx K H p ys\/cz K H p ys)/\∀l,H l=none->Q (.ref l) (aQ H l (.lst ys))
def dA(K:Fg):List V->Hp->VK->Prop:=λxs H Q=>∃p ys,xs=[.ref p]/\((cx K H p ys/\∀l,H l=none->Q (.ref l) (aQ H l (.tup ys)))\/(cz K H p ys/\Q (.ref p) H))
def iQ(K:Fg)(tl:TE):TI:=λσ H R=>Kp K tl σ H R\/MA K tl σ H R
section
variable{X:Cx}
theorem b5:iY X (binaryOp .Add) (dz X.K):=Lh.or (BV.or (Li.or Js))
theorem fN:iY X (binaryOp .Mult) (jo X.K):=Ln.or Jv
theorem kM(hu:X.A.units<cLine):iY X (compareOp .Eq) (vo X.K):=MI.or ((Lk hu).or ((Ju hu).or (Lj hu)))
theorem qQ(hu:X.A.units<cLine):iY X (compareOp .NotEq) (Cb X.K):=ML.or ((Lp hu).or (Lo hu))
theorem mC:FA X (Iw X.K):=Kf.or L5
theorem LD{tg l:Expr}{tl:TE}(hl:PE X l tl):PI X tg l (iQ X.K tl):=by
 intro pins s σ H R I h
 rcases h with h|h
 ·exact JG hl pins s σ H R I h
 ·exact LF hl pins s σ H R I h
end
structure b7(P:Program)(w:World)(K:Fg)(mg:Str->Option Value)(base:Heap)(x:Str)(ps:List Str)(k:Nat)(sp:Sp):Prop where
 ex:∃(f:Addr) (fd:FuncData),mg x=some (.ref f)/\fh K (.ref f)=true/\vI K fd ps []/\uU P w K mg base Iq k f fd ps sp
theorem MP{X:Cx}{x:Str}{ps:List Str}{k:Nat}{sp:Sp}{e:Expr}{es:List Expr}{t:TA}{p pos:Pos}(c:b7 X.prog X.w X.K X.mg X.base x ps k sp)(hr:ic k X.A)(hg:Gl X x)(ha:PA X (e::es) t)
  (hdb:(x==("__debug__":Str))=false:=by decide) (he:starEach (e::es) X.env=(false,eval e X.env)::starEach es X.env:=by rfl) (hpl:(backTo pos (starEach es X.env)).any (·.1)=false:=by rfl) :
  PE X (.Call (.Name x p) (e::es) [] pos) (bu sp [] E0 t):=by
 obtain⟨f,fd,hm,hk,hb,F⟩:=c.ex
 exact Jy F hr hg hm hk hb .nil MM ha hdb he hpl
structure kD(mg:Str->Option Value):Prop where
 len_:mg "len"=none
 range_:mg "range"=none
 divmod_:mg "divmod"=none
 max_:mg "max"=none
 min_:mg "min"=none
 sum_:mg "sum"=none
 all_:mg "all"=none
 isinstance_:mg "isinstance"=none
 int_:mg "int"=none
 bool_:mg "bool"=none
 list_:mg "list"=none
 tuple_:mg "tuple"=none
 enumerate_:mg "enumerate"=none
 zip_:mg "zip"=none
 sorted_:mg "sorted"=none
 set_:mg "set"=none
 dict_:mg "dict"=none
 str_:mg "str"=none
 any_:mg "any"=none
 reversed_:mg "reversed"=none
 abs_:mg "abs"=none
def iN(a:Addr)(H H':Hp):Prop:=∀b o,b≠a->H b=some o->H' b=some o
theorem iN.refl(a:Addr)(H:Hp):iN a H H:=λ_ _ _ h=>h
theorem iN.trans{a:Addr}{H H1 H2:Hp}(x:iN a H H1)(y:iN a H1 H2):iN a H H2:=λc o n h=>y c o n (x c o n h)
theorem iN.upd_at{a:Addr}{H:Hp}{o:HO}:iN a H (aQ H a o):=λb u n h=>by rw[az n];exact h
theorem iN.new{a p:Addr}{H H1:Hp}{o:HO}(x:iN a H H1)(hp:H1 p=none):iN a H (aQ H1 p o):=λb u n h=>by
 rw[az (aJ (x b u n h) hp)];exact x b u n h
theorem aI.new{p:Addr}{H H1:Hp}{o:HO}(x:aI H H1)(hp:H1 p=none):aI H (aQ H1 p o):=λb u h=>by
 rw[az (aJ (x b u h) hp)];exact x b u h
theorem iN.free{a p:Addr}{H H':Hp}(x:iN a H H')(n:p≠a)(h:H' p=none):H p=none:=by
 cases q:H p with
 |none=>rfl
 |some o=>rw[x p o n q] at h;cases h
theorem oK{js:List Nat}{k:Nat}{lo:Int}{n:Nat}{g:TG}{tc:TT}{te:TE}{R:Hp->Prop}{σ:St}{H:Hp}{D:Addr}(Pv:Nat->St->Hp->Prop)(h0:Pv 0 (vf js k σ) (aQ H D (.lst [])))
  (hs:∀i σ H,i<n->Pv i σ H->g (.int (lo+i)) σ H λσ2 H2=>jw D tc te {nx:=Pv (i+1),rt:=λ_ _=>False,ct:=Pv (i+1),bk:=λ_ H'=>R H'} σ2 H2) (hd:∀σ H,Pv n σ H->R H) :
  ∃W:Nat->Nat->St->Hp->Prop,(∃m,W 0 m (vf js k σ) (aQ H D (.lst [])))/\∀i m σ H,W i m σ H->
   ((IB lo n).stop i H/\R H)\/((IB lo n).go i H/\∃N:St->Hp->Prop,(∀σ' H',N σ' H'->∃m',m'<m/\W (i+1) m' σ' H')/\∀x H',(IB lo n).yld i H x H'->g x σ H' λσ2 H2=>jw D tc te {nx:=N,rt:=λ_ _=>False,ct:=N,bk:=λ_ H'=>R H'} σ2 H2):=
 ig (D:={nx:=λ_ H'=>R H',rt:=λ_ _=>False}) Pv h0 hs hd
theorem kc{js:List Nat}{k:Nat}{K:Fg}{a:Addr}{xs:List V}{g:TG}{tc:TT}{te:TE}{R:Hp->Prop}{σ:St}{H:Hp}{D:Addr}(Pv:Nat->St->Hp->Prop)(h0:Pv 0 (vf js k σ) (aQ H D (.lst [])))(hl:∀i σ H,i<=xs.length->Pv i σ H->cx K H a xs)
  (hs:∀i x σ H,xs[i]?=some x->Pv i σ H->g x σ H λσ2 H2=>jw D tc te {nx:=Pv (i+1),rt:=λ_ _=>False,ct:=Pv (i+1),bk:=λ_ H'=>R H'} σ2 H2) (hd:∀σ H,Pv xs.length σ H->R H) :
  ∃W:Nat->Nat->St->Hp->Prop,(∃m,W 0 m (vf js k σ) (aQ H D (.lst [])))/\∀i m σ H,W i m σ H->
   ((Kn K a).stop i H/\R H)\/((Kn K a).go i H/\∃N:St->Hp->Prop,(∀σ' H',N σ' H'->∃m',m'<m/\W (i+1) m' σ' H')/\∀x H',(Kn K a).yld i H x H'->g x σ H' λσ2 H2=>jw D tc te {nx:=N,rt:=λ_ _=>False,ct:=N,bk:=λ_ H'=>R H'} σ2 H2):=
 tF (D:={nx:=λ_ H'=>R H',rt:=λ_ _=>False}) Pv h0 hl hs hd
theorem jh{js:List Nat}{k:Nat}{K:Fg}{a:Addr}{xs:List V}{g:TG}{tc:TT}{te:TE}{R:Hp->Prop}{σ:St}{H:Hp}{D:Addr}(Pv:Nat->St->Hp->Prop)(h0:Pv 0 (vf js k σ) (aQ H D (.lst [])))(hl:∀i σ H,i<=xs.length->Pv i σ H->cz K H a xs)
  (hs:∀i x σ H,xs[i]?=some x->Pv i σ H->g x σ H λσ2 H2=>jw D tc te {nx:=Pv (i+1),rt:=λ_ _=>False,ct:=Pv (i+1),bk:=λ_ H'=>R H'} σ2 H2) (hd:∀σ H,Pv xs.length σ H->R H) :
  ∃W:Nat->Nat->St->Hp->Prop,(∃m,W 0 m (vf js k σ) (aQ H D (.lst [])))/\∀i m σ H,W i m σ H->
   ((Ff K a).stop i H/\R H)\/((Ff K a).go i H/\∃N:St->Hp->Prop,(∀σ' H',N σ' H'->∃m',m'<m/\W (i+1) m' σ' H')/\∀x H',(Ff K a).yld i H x H'->g x σ H' λσ2 H2=>jw D tc te {nx:=N,rt:=λ_ _=>False,ct:=N,bk:=λ_ H'=>R H'} σ2 H2):=
 mR (D:={nx:=λ_ H'=>R H',rt:=λ_ _=>False}) Pv h0 hl hs hd
theorem iN.through{a l:Addr}{H H1 H2:Hp}{o:HO}(x:iN a H H1)(hl:H1 l=none)(y:iN l (aQ H1 l o) H2):iN a H H2:=λb u n h=>by
 have h1:=x b u n h
 have nl:b≠l:=aJ h1 hl
 exact y b u nl (by rw[az nl];exact h1)
structure QE(X:Cx)(e:Expr)(t:TE):Prop where
 up:PE X e t
structure QT(X:Cx)(e:Expr)(t:TT):Prop where
 up:PT X e t
structure QW(X:Cx)(e:Expr)(t:TT):Prop where
 up:PW X e t
structure QA(X:Cx)(e:List Expr)(t:TA):Prop where
 up:PA X e t
structure QS(X:Cx)(e:Stmt)(t:TS):Prop where
 up:PS X e t
structure IL(X:Cx)(e:List Stmt)(t:TS):Prop where
 up:Bf X e t
structure QG(X:Cx)(e:Expr)(t:TG):Prop where
 up:PG X e t
structure Mo(X:Cx)(e:List Expr)(t:D8):Prop where
 up:Mc X e t
structure QI(X:Cx)(a b:Expr)(t:TI):Prop where
 up:PI X a b t
structure QO(X:Cx)(e:Option Expr)(t:TO):Prop where
 up:PO X e t
structure D7(X:Cx)(e:List Expr)(t:TT):Prop where
 up:D1 X e t
theorem qv(i:Nat){x:Str}{pos:Pos}(hN:X.N[i]?=some x:=by rfl)(hv:Np X.env.scope x:=by first|exact Or.inl rfl|exact Or.inr (Or.inl rfl)|exact Or.inr (Or.inr rfl))(hd:(x==("__debug__":Str))=false:=by decide)(hcd:(x==("__classdict__":Str))=false:=by decide):QE X (.Name x pos) (av i):=
 ⟨pv i hN hv hd hcd⟩
theorem aL{i j pos}:QE X (.Constant (.int i) j pos) (tC (.int i)):=
 ⟨Lu ⟩
theorem rB{b j pos}:QE X (.Constant (.bool b) j pos) (tC (.bl b)):=
 ⟨MN ⟩
theorem eP{j pos}:QE X (.Constant .none j pos) (tC .non):=
 ⟨Lw ⟩
theorem jk{x j pos}:QE X (.Constant (.str x) j pos) (tC (.str x)):=
 ⟨Ly ⟩
theorem bJ{op:Operator}{r:R2}(ho:iY X (binaryOp op) r)(ha:QE X a ta)(hb:QE X b tb):QE X (.BinOp a op b pos) (bO r ta tb):=
 ⟨MR ho ha.up hb.up⟩
theorem jH{op:UnaryOp}{r:V->Hp->VK->Prop}(ho:Nn X (unaryOp op) r)(ha:QE X a ta):QE X (.UnaryOp op a pos) (As r ta):=
 ⟨MT ho ha.up⟩
theorem gJ{op:CmpOp}{r:R2}(ho:iY X (compareOp op) r)(ha:QE X a ta)(hb:QE X b tb)(hm:behindInMarks op b=false):QE X (.Compare a [op] [b] pos) (bO r ta tb):=
 ⟨Jz ho ha.up hb.up hm⟩
theorem G1{op op':CmpOp}{r r':R2}(ho:iY X (compareOp op) r)(ho':iY X (compareOp op') r')(ha:QE X a ta)(hb:QE X b tb)(hc:QE X c tc)(hm:lastMarks [op,op'] [b,c]=false:=by with_unfolding_all rfl):QT X (.Compare a [op,op'] [b,c] pos) (cC (Cu r r' ta tb tc)):=
 ⟨GS ho ho' ha.up hb.up hc.up hm⟩
theorem LP{rest:List Expr}(ha:QE X a ta)(hb:QE X (.BoolOp .And (b::rest) pos) tb):QE X (.BoolOp .And (a::b::rest) pos) (HM ta tb):=
 ⟨Lr ha.up hb.up⟩
theorem MY{rest:List Expr}(ha:QE X a ta)(hb:QE X (.BoolOp .Or (b::rest) pos) tb):QE X (.BoolOp .Or (a::b::rest) pos) (L8 ta tb):=
 ⟨MS ha.up hb.up⟩
theorem GZ{op}{t:TE}(h:QE X a t):QE X (.BoolOp op [a] pos) t:=
 ⟨Lx h.up⟩
theorem zY{c:Expr}(hc:QT X c tA)(ha:QE X a ta)(hb:QE X b tb):QE X (.IfExp c a b pos) (Nq tA ta tb):=
 ⟨GK hc.up ha.up hb.up⟩
theorem fO{lo hi:Option Expr}{r:V->Option Int->Option Int->Hp->VK->Prop}(hr:FA X r)(he:QE X e te)(hl:QO X lo tl)(hu:QO X hi th):QE X (.Subscript e (.Slice lo hi none p2) pos) (E5 r te tl th):=
 ⟨GL hr he.up hl.up hu.up⟩
theorem MX{r:R2}(hr:Iu X r)(ha:QE X a ta)(hb:QE X b tb)(hs:xu b):QE X (.Subscript a b pos) (bO r ta tb):=
 ⟨MQ hr ha.up hb.up hs⟩
theorem gK{x1}(h:QA X es t):QE X (.Tuple es x1 pos) (lQ t):=
 ⟨Lz h.up⟩
theorem dq(h:QA X es t):QE X (.List es pos) (gx t):=
 ⟨Lv h.up⟩
theorem wA{id:String}(pa:PlainAttrs T)(slot:Slot T name id)(hty:typeOf (.builtin id)=pure (.type "method_descriptor"))(hm:Ml X id r)(ho:QE X o to)(ha:QA X (e::es) t)(hbase:attributeBase o name X.env (eval o X.env)=eval o X.env:=by rfl)(hfew:((backTo cpos (starEach (e::es) X.env)).all (λx=>!x.1)&&(backToKw cpos (keywordEach [] X.env)).all (λx=>x.1.isSome)
   && decide ((e::es).length+([]:List Keyword).length+(if([]:List Keyword).isEmpty then 0 else 1)<30))=true:=by rfl) (hline:(apos.endLine==cpos.line)=true:=by rfl) (hs:starEach (e::es) X.env=(false,eval e X.env)::starEach es X.env:=by rfl) (hplain:(backTo cpos (starEach es X.env)).any (·.1)=false:=by rfl):QE X (.Call (.Attribute o name apos) (e::es) [] cpos) (si X.K T r to t):=
 ⟨MO pa slot hty hm ho.up ha.up hbase hfew hline hs hplain⟩
theorem LQ{id:String}(pa:PlainAttrs T)(slot:Slot T name id)(hty:typeOf (.builtin id)=pure (.type "method_descriptor"))(hm:Ml X id r)(ho:QE X o to)(hbase:attributeBase o name X.env (eval o X.env)=eval o X.env:=by rfl)(hline:(apos.endLine==cpos.line)=true:=by rfl):QE X (.Call (.Attribute o name apos) [] [] cpos) (L6 X.K T r to):=
 ⟨Ls pa slot hty hm ho.up hbase hline⟩
theorem dy{id:String}(hc:g8 X (.builtin id) r)(hg:Gl X x)(hm:X.mg x=none)(hv:bootBuiltins x=some (.builtin id))(ha:QA X (e::es) t)(hn:x≠"__name__":=by decide)(hdb:(x==("__debug__":Str))=false:=by decide)(he:starEach (e::es) X.env=(false,eval e X.env)::starEach es X.env:=by rfl)(hpl:(backTo pos (starEach es X.env)).any (·.1)=false:=by rfl):QE X (.Call (.Name x p) (e::es) [] pos) (eW r t):=
 ⟨GC hc hg hm hv ha.up hn hdb he hpl⟩
theorem bV(hc:g8 X (.type T) r)(hg:Gl X x)(hm:X.mg x=none)(hv:bootBuiltins x=some (.type T))(ha:QA X (e::es) t)(hn:x≠"__name__":=by decide)(hdb:(x==("__debug__":Str))=false:=by decide)(he:starEach (e::es) X.env=(false,eval e X.env)::starEach es X.env:=by rfl)(hpl:(backTo pos (starEach es X.env)).any (·.1)=false:=by rfl):QE X (.Call (.Name x p) (e::es) [] pos) (eW r t):=
 ⟨Et hc hg hm hv ha.up hn hdb he hpl⟩
theorem MW{X:Cx}{x:Str}{ps:List Str}{k:Nat}{sp:Sp}{e:Expr}{es:List Expr}{t:TA}{p pos:Pos}(c:b7 X.prog X.w X.K X.mg X.base x ps k sp)(hr:ic k X.A)(hg:Gl X x)(ha:QA X (e::es) t)(hdb:(x==("__debug__":Str))=false:=by decide)(he:starEach (e::es) X.env=(false,eval e X.env)::starEach es X.env:=by rfl)(hpl:(backTo pos (starEach es X.env)).any (·.1)=false:=by rfl):QE X (.Call (.Name x p) (e::es) [] pos) (bu sp [] E0 t):=
 ⟨MP c hr hg ha.up hdb he hpl⟩
theorem JU{wi:TI}(ok:oB sc N scope NY js)(hsc:X.env.scope=sc)(hN:X.N=N)(hk:NY.length=N.length+k)(hc:X.calm=true)(hit:QI X target iter wi)(hg:∀cl C s₀ H₀ fp,QG (cU X NY scope cl C s₀ H₀ fp) target g)(hi:∀cl C s₀ H₀ fp,D7 (cU X NY scope cl C s₀ H₀ fp) ifs tc)(he:∀cl C s₀ H₀ fp,QE (cU X NY scope cl C s₀ H₀ fp) elt te)(hs:∀x,foldedSetIterable iter X.env x=pure x:=by intro _;rfl):QE X (.ListComp elt [⟨target,iter,ifs,0⟩] scope pos) (dW js k wi g tc te):=
 ⟨JA ok hsc hN hk hc hit.up (λcl C s₀ H₀ fp=>(hg cl C s₀ H₀ fp).up) (λcl C s₀ H₀ fp=>(hi cl C s₀ H₀ fp).up) (λcl C s₀ H₀ fp=>(he cl C s₀ H₀ fp).up) hs⟩
theorem J0{wi:TI}{i:Nat}{y:Str}{py spos:Pos}(ok:oB sc N scope NY js)(hsc:X.env.scope=sc)(hN:X.N=N)(hk:NY.length=N.length+k)(hc:X.calm=true)(hit:QI X target iter wi)(hg:∀cl C s₀ H₀ fp,QG (cU X NY scope cl C s₀ H₀ fp) target g)(hi:∀cl C s₀ H₀ fp,D7 (cU X NY scope cl C s₀ H₀ fp) ifs tc)(he:∀cl C s₀ H₀ fp,QE (cU X NY scope cl C s₀ H₀ fp) elt te)(nd:X.N.Nodup)(hy:X.N[i]?=some y)(hl:Fm X.env.scope y)(hsw:swapsWith (.ListComp elt [⟨target,iter,ifs,0⟩] scope pos) (some (.Name y py)) spos.line X.env=pure true)(hs:∀x,foldedSetIterable iter X.env x=pure x:=by intro _;rfl)(hf:X.fn y=true\/X.env.scope.names.lookup y=some .local:=by first|exact .inl rfl|exact .inr rfl|assumption):QS X (.Assign [.Name y py] (.ListComp elt [⟨target,iter,ifs,0⟩] scope pos) spos) (bT (dW js k wi g tc te) (aR i)):=
 ⟨JO ok hsc hN hk hc hit.up (λcl C s₀ H₀ fp=>(hg cl C s₀ H₀ fp).up) (λcl C s₀ H₀ fp=>(hi cl C s₀ H₀ fp).up) (λcl C s₀ H₀ fp=>(he cl C s₀ H₀ fp).up) nd hy hl hsw hs hf⟩
theorem iz :QO X none fX:=
 ⟨JM ⟩
theorem iA(h:QE X e te):QO X (some e) (lg te):=
 ⟨JN h.up⟩
theorem gH :QA X [] aO:=
 ⟨Lq ⟩
theorem aD(ha:QE X e te)(hr:QA X es t)(hs:starEach (e::es) X.env=(false,eval e X.env)::starEach es X.env:=by rfl):QA X (e::es) (ak te t):=
 ⟨Jw ha.up hr.up hs⟩
theorem bM{op:CmpOp}{r:R2}(ho:iY X (compareOp op) r)(ha:QE X a ta)(hb:QE X b tb)(hm:behindInMarks op b=false):QT X (.Compare a [op] [b] pos) (cC (bO r ta tb)):=
 ⟨JS ho ha.up hb.up hm⟩
theorem oY(ha:QT X a tA):QT X (.UnaryOp .Not a pos) (yw tA):=
 ⟨LK ha.up⟩
theorem tW{rest:List Expr}(ha:QT X a tA)(hb:QW X (.BoolOp .And (b::rest) pos) tB'):QW X (.BoolOp .And (a::b::rest) pos) (Ct tA tB'):=
 ⟨LN ha.up hb.up⟩
theorem p7(ha:QT X a tA):QW X (.BoolOp .And [a] pos) tA:=
 ⟨JT ha.up⟩
theorem z0{rest:List Expr}(ha:QT X a tA)(hb:QW X (.BoolOp .Or (b::rest) pos) tB'):QW X (.BoolOp .Or (a::b::rest) pos) (L7 tA tB'):=
 ⟨MV ha.up hb.up⟩
theorem x6(ha:QT X a tA):QW X (.BoolOp .Or [a] pos) tA:=
 ⟨LO ha.up⟩
theorem QW.pt{X:Cx}{e:Expr}{t:TT}(h:QW X e t):QT X e t:=
 ⟨PW.pt h.up⟩
theorem jY{e:Expr}{t:TE}(h:QE X e t)(he:∀whole,isTrue e X.env whole=(do let v <-whole;standAt e.pos;holding [v] (truthy v)):=by intro _;rfl):QT X e (tB t):=
 ⟨LL h.up he⟩
theorem fH{a:Expr}{ta:TA}{p pos:Pos}(hg:Gl X "range")(hm:X.mg "range"=none)(ha:QA X [a] ta)(hs:starEach [a] X.env=[(false,eval a X.env)]:=by rfl):QI X tg (.Call (.Name "range" p) [a] [] pos) (mi ta):=
 ⟨Eu hg hm ha.up hs⟩
theorem JX{a:Expr}{ta:TA}{p pos:Pos}(hg:Gl X "enumerate")(hm:X.mg "enumerate"=none)(ha:QA X [a] ta)(hs:starEach [a] X.env=[(false,eval a X.env)]:=by rfl):QI X (.Tuple elts k tpos) (.Call (.Name "enumerate" p) [a] [] pos) (Ge X.K ta):=
 ⟨JF hg hm ha.up hs⟩
theorem eG{tg l:Expr}{tl:TE}(hl:QE X l tl):QI X tg l (iQ X.K tl):=
 ⟨LD hl.up⟩
theorem JV{i:Nat}{x:Str}(hN:X.N.Nodup)(hi:X.N[i]?=some x)(hx:Fm X.env.scope x)(hf:X.fn x=true\/X.env.scope.names.lookup x=some .local:=by first|exact .inl rfl|exact .inr rfl|assumption):QG X (.Name x pos) (aR i):=
 ⟨JC hN hi hx hf⟩
theorem jn{es:List Expr}{k:Nat}{t:D8}{n:Nat}(hc:X.calm=true)(h:Mo X es t)(hn:(assignEach es X.env).length=n:=by rfl)(hst:(assignEach es X.env).findIdx? (·.1)=none:=by rfl):QG X (.Tuple es k pos) (qK X.K n t):=
 ⟨LC hc h.up hn hst⟩
theorem JW{es:List Expr}{k:Nat}{t:D8}{n:Nat}(hc:X.calm=true)(h:Mo X es t)(hn:(assignEach es X.env).length=n:=by rfl)(hst:(assignEach es X.env).findIdx? (·.1)=none:=by rfl):QG X (.Tuple es k pos) (Ga X.K n t):=
 ⟨JD hc h.up hn hst⟩
theorem fW :Mo X [] pT:=
 ⟨JE ⟩
theorem cy{e:Expr}{es:List Expr}{t:TG}{u:D8}(h1:QG X e t)(h2:Mo X es u)(hs:(assignEach (e::es) X.env).map (·.2)=assign e X.env::(assignEach es X.env).map (·.2):=by rfl):Mo X (e::es) (eQ t u):=
 ⟨GM h1.up h2.up hs⟩
theorem oX{o i:Expr}{to ti:TE}{t:IM}(ho:QE X o to)(hi:QE X i ti)(hs:Fx X t)(ha:∀v,assign (.Subscript o i pos) X.env v=(do
   let ov <-holding [v] (eval o X.env)
   let iv <-holding [v,ov] (eval i X.env)
   standAt pos
   holding [v,ov,iv] (setItem ov iv v)
   release [v,ov,iv] []):=by intro _;rfl):QG X (.Subscript o i pos) (xH to ti t):=
 ⟨LB ho.up hi.up hs ha⟩
theorem LR{i:Nat}{x:Str}{e:Expr}{te:TE}{pos':Pos}(hN:X.N.Nodup)(hi:X.N[i]?=some x)(hx:Fm X.env.scope x)(he:QE X e te)(hs:swapsWith e (some (.Name x pos')) pos.line X.env=pure false:=by rfl)(hf:X.fn x=true\/X.env.scope.names.lookup x=some .local:=by first|exact .inl rfl|exact .inr rfl|assumption):QS X (.Assign [.Name x pos'] e pos) (bT te (aR i)):=
 ⟨LJ hN hi hx he.up hs hf⟩
theorem mx{tg e:Expr}{te:TE}{g:TG}(he:QE X e te)(hg:QG X tg g)(hs:swapsWithSole [tg] e pos.line X.env=pure false:=by rfl)(hw:swappedStores [tg] e X.env=pure none:=by rfl)(h1:(assignEach [tg] X.env).map (·.2)=[assign tg X.env]:=by rfl):QS X (.Assign [tg] e pos) (bT te g):=
 ⟨LG he.up hg.up hs hw h1⟩
theorem eC(he:QE X e te)(hs:swapsWith e none pos.line X.env=pure false:=by rfl):QS X (.Expr e pos) (gn te):=
 ⟨JP he.up hs⟩
theorem bG(he:QE X e te):QS X (.Return (some e) pos) (de te):=
 ⟨LI he.up⟩
theorem tV{c:Expr}{a b:List Stmt}{tc:TT}(hc:QT X c tc)(ha:IL X a t)(hb:IL X b u):QS X (.If c a b pos) (gu tc t u):=
 ⟨MU hc.up ha.up hb.up⟩
theorem kq{c:Expr}{body:List Stmt}{tc:TT}{tb:TS}(hp:PassesOwn (model X.prog X.w) X.A X.env X.xe)(hc:QT X c tc)(hb:IL X body tb):QS X (.While c body [] pos) (mF tc tb):=
 ⟨GQ hp hc.up hb.up⟩
theorem dS{iter:Expr}{body:List Stmt}{wi:TI}{g:TG}{tb:TS}{pos:Pos}(hp:PassesOwn (model X.prog X.w) X.A X.env X.xe)(hc:X.calm=true)(hi:QI X tg iter wi)(hg:QG X tg g)(hb:IL X body tb)(hs:∀x,foldedSetIterable iter X.env x=pure x:=by intro _;rfl):QS X (.For tg iter body [] pos) (iT wi g tb):=
 ⟨LH hp hc hi.up hg.up hb.up hs⟩
theorem aH{st:Stmt}{rest:List Stmt}(h1:QS X st t)(h2:IL X rest u):IL X (st::rest) (bx t u):=
 ⟨GR h1.up h2.up⟩
theorem aT{st:Stmt}(h1:QS X st t):IL X [st] t:=
 ⟨JR h1.up⟩
theorem mU :IL X [] eE:=
 ⟨JQ ⟩
theorem sA{x:Str}{v:V}{u:Value}{pos:Pos}(hg:Gl X x)(hm:X.mg x=none)(hv:bootBuiltins x=some u)(r:cg v u)(hn:x≠"__name__":=by decide)(hd:(x==("__debug__":Str))=false:=by decide):QE X (.Name x pos) (tC v):=
 ⟨Jx hg hm hv r hn hd⟩
theorem eU{X:Cx}:D7 X [] jt:=
 ⟨JK ⟩
theorem kP{X:Cx}{c:Expr}{t:TT}(h:QT X c t):D7 X [c] t:=
 ⟨JL h.up⟩
section
variable{κ:Type}[DecidableEq κ]
def cY(kvs:List (κ×V))(k:κ):Option V:=(kvs.find? λkv=>decide (kv.1=k)).map (·.2)
def iJ(kvs:List (κ×V))(k:κ)(v:V):List (κ×V):=
 if(kvs.any λkv=>decide (kv.1=k))=true then kvs.map (λkv=>if kv.1=k then(kv.1,v) else kv) else kvs++[(k,v)]
def jF(kvs:List (κ×V))(k:κ):List (κ×V):=kvs.filter λkv=>decide (kv.1≠k)
theorem fz{p:κ×V}{r:List (κ×V)}{k:κ}(e:p.1=k):cY (p::r) k=some p.2:=by simp[cY,cP,e]
theorem ft{p:κ×V}{r:List (κ×V)}{k:κ}(e:¬p.1=k):cY (p::r) k=cY r k:=by simp[cY,cP,e]
theorem ky(k:κ):∀kvs:List (κ×V),(kvs.any λkv=>decide (kv.1=k))=(cY kvs k).isSome
 |[]=>rfl
 |p::r=>by
  rw[iu]
  by_cases e:p.1=k
  ·simp only[fz e,decide_eq_true e,Bool.true_or,Option.isSome_some]
  ·rw[ft e,decide_eq_false e,Bool.false_or];exact ky k r
theorem xa(k j:κ)(y:V):∀kvs:List (κ×V),cY kvs k=none->cY (kvs++[(k,y)]) j=if j=k then some y else cY kvs j
 |[],_=>by
  by_cases e:k=j
  ·rw[if_pos e.symm];exact fz (p:=(k,y)) e
  ·rw[if_neg (λz=>e z.symm)];exact ft (p:=(k,y)) e
 |p::r,hn=>by
  rw[List.cons_append]
  have hk:¬p.1=k:=λz=>by rw[fz z] at hn;cases hn
  rw[ft hk] at hn
  have ih:=xa k j y r hn
  by_cases e:p.1=j
  ·rw[fz e,fz e,if_neg (λz=>hk (e.trans z))]
  ·rw[ft e,ft e,ih]
theorem gg(kvs:List (κ×V))(k:κ)(v:V):(iJ kvs k v).length<=kvs.length+1:=by
 unfold iJ
 split
 ·rw[af];lia
 ·rw[ai,bD,fS];lia
theorem mr{kvs:List (κ×V)}{k:κ}(v:V)(h:cY kvs k=none):iJ kvs k v=kvs++[(k,v)]:=by
 unfold iJ
 rw[ky,h]
 exact if_neg (by decide)
theorem oG.isSome_eq{o:Option V}{u:Option Value}(r:oG o u):o.isSome=u.isSome:=by
 cases o with
 |none=>cases u with
  |none=>rfl
  |some _=>exact(show False from r).elim
 |some _=>cases u with
  |none=>exact(show False from r).elim
  |some _=>rfl
theorem oG.getD{o:Option V}{u:Option Value}{d:V}{d':Value}(r:oG o u)(rd:cg d d'):cg (o.getD d) (u.getD d'):=by
 cases o with
 |none=>cases u with
  |none=>exact rd
  |some _=>exact(show False from r).elim
 |some _=>cases u with
  |none=>exact(show False from r).elim
  |some _=>exact r
theorem KV.val{kvs:List (κ×V)}{vs:List (κ×Value)}(r:KV kvs vs)(k:κ):oG (cY kvs k) (valueAt vs k):=by
 unfold KV at r
 induction r with
 |nil=>exact True.intro
 |@cons p q ps qs h t ih=>
  obtain⟨h1,h2⟩:=h
  by_cases e:p.1=k
  ·have e':q.1=k:=h1.symm.trans e
   have b:valueAt (q::qs) k=some q.2:=by simp[valueAt,cP,e']
   rw[fz e,b];exact h2
  ·have e':¬q.1=k:=λz=>e (h1.trans z)
   have b:valueAt (q::qs) k=valueAt qs k:=by simp[valueAt,cP,e']
   rw[ft e,b];exact ih
theorem KV.any{kvs:List (κ×V)}{vs:List (κ×Value)}(r:KV kvs vs)(k:κ):(kvs.any λkv=>decide (kv.1=k))=vs.any λkv=>decide (kv.1=k):=by
 unfold KV at r
 induction r with
 |nil=>rfl
 |cons h t ih=>rw[iu,iu,ih,h.1]
theorem KV.repl{kvs:List (κ×V)}{vs:List (κ×Value)}(r:KV kvs vs)(k:κ){y:V}{u:Value}(ry:cg y u) :
  KV (kvs.map λkv=>if kv.1=k then(kv.1,y) else kv) (vs.map λkv=>if kv.1=k then(kv.1,u) else kv):=by
 unfold KV at r ⊢
 induction r with
 |nil=>exact .nil
 |@cons p q ps qs h t ih=>
  rw[bA,bA]
  refine .cons ?_ ih
  obtain⟨h1,h2⟩:=h
  by_cases e:p.1=k
  ·rw[if_pos e,if_pos (h1.symm.trans e)];exact⟨h1,ry⟩
  ·rw[if_neg e,if_neg (λz=>e (h1.trans z))];exact⟨h1,h2⟩
theorem KV.put{kvs:List (κ×V)}{vs:List (κ×Value)}(r:KV kvs vs)(k:κ){y:V}{u:Value}(ry:cg y u):KV (iJ kvs k y) (stored vs k u):=by
 unfold iJ stored
 rw[r.any k]
 by_cases e:(vs.any λkv=>decide (kv.1=k))=true
 ·rw[if_pos e,if_pos e];exact r.repl k ry
 ·rw[if_neg e,if_neg e];exact Paired.snoc r ⟨rfl,ry⟩
theorem KV.drop{kvs:List (κ×V)}{vs:List (κ×Value)}(r:KV kvs vs)(k:κ):KV (jF kvs k) (without vs k):=by
 unfold KV at r ⊢
 unfold jF without
 induction r with
 |nil=>exact .nil
 |@cons p q ps qs h t ih=>
  obtain⟨h1,h2⟩:=h
  rw[cV,cV]
  by_cases e:p.1=k
  ·have a:¬decide (p.1≠k)=true:=by simp[e]
   have b:¬decide (q.1≠k)=true:=by simp[h1.symm.trans e]
   rw[if_neg a,if_neg b];exact ih
  ·have e':¬q.1=k:=λz=>e (h1.trans z)
   have a:decide (p.1≠k)=true:=by simp[e]
   have b:decide (q.1≠k)=true:=by simp[e']
   rw[if_pos a,if_pos b];exact .cons ⟨h1,h2⟩ ih
theorem KV.length{kvs:List (κ×V)}{vs:List (κ×Value)}(r:KV kvs vs):kvs.length=vs.length:=Paired.length r
theorem FX(kvs:List (κ×V))(k:κ):(jF kvs k).length<=kvs.length:=bt _ _
end
theorem rp{P:Program}{w:World}{k:lT}{u:Value}(r:cg (kV k) u):(eA P w).is k u=true:=by
 cases k with
 |inl i=>obtain⟨t,e⟩:=(show ∃t,u=Value.int i t from r);subst e;exact zM P w i t
 |inr x=>obtain⟨t,e⟩:=(show ∃t,u=Value.str x t from r);subst e;exact zN P w x t
theorem Kr{P:Program}{w:World}{k:bY}{u:Value}(r:cg (kN k) u):(cS P w).is k u=true:=by
 cases k with
 |none=>obtain rfl:u=Value.none:=r;rfl
 |some k=>exact rp (P:=P) (w:=w) (k:=k) r
theorem v7{P:Program}{w:World}:∀{ks:List bY} {us:List Value},bX (ks.map kN) us->ItemsAre (cS P w) ks us
 |[],_,r=>by rw[List.map_nil] at r;cases r;exact .nil
 |k::ks,_,r=>by
  rw[bA] at r
  cases r with
  |cons h t=>exact .cons (Kr h) (v7 t)
abbrev KT(H:Hp):List (List bY×V)->List (List bY×Addr×Value)->Prop:=Paired λp q=>p.1=q.1/\H q.2.1=some (.tup (p.1.map kN))/\cg p.2 q.2.2
theorem KT.val{H:Hp}{kvs:List (List bY×V)}{xs:List (List bY×Addr×Value)}(r:KT H kvs xs)(k:List bY):oG (cY kvs k) ((atKey xs k).map (·.2)):=by
 induction r with
 |nil=>exact True.intro
 |@cons p q ps qs h t ih=>
  obtain⟨h1,_,h2⟩:=h
  by_cases e:p.1=k
  ·have e':q.1=k:=h1.symm.trans e
   have b:atKey (q::qs) k=some q.2:=by simp[atKey,cP,e']
   rw[fz e,b];exact h2
  ·have e':¬q.1=k:=λz=>e (h1.trans z)
   have b:atKey (q::qs) k=atKey qs k:=by simp[atKey,cP,e']
   rw[ft e,b];exact ih
theorem KT.repl{H:Hp}{kvs:List (List bY×V)}{xs:List (List bY×Addr×Value)}(r:KT H kvs xs)(k:List bY){y:V}{u:Value}(ry:cg y u) :
  KT H (kvs.map λkv=>if kv.1=k then(kv.1,y) else kv) (xs.map (putAt k u)):=by
 induction r with
 |nil=>exact .nil
 |@cons p q ps qs h t ih=>
  rw[bA,bA]
  refine .cons ?_ ih
  obtain⟨h1,h2,h3⟩:=h
  unfold putAt
  by_cases e:p.1=k
  ·rw[if_pos e,if_pos (h1.symm.trans e)];exact⟨h1,h2,ry⟩
  ·rw[if_neg e,if_neg (λz=>e (h1.trans z))];exact⟨h1,h2,h3⟩
theorem KT.put{H:Hp}{kvs:List (List bY×V)}{xs:List (List bY×Addr×Value)}(r:KT H kvs xs)(k:List bY){b:Addr}{y:V}{u:Value}(hb:H b=some (.tup (k.map kN)))(ry:cg y u) :
  KT H (iJ kvs k y) (storedH xs k b u):=by
 have e:(kvs.any λkv=>decide (kv.1=k))=(atKey xs k).isSome:=by
  rw[ky,(r.val k).isSome_eq,gC]
 unfold iJ storedH
 rw[e]
 by_cases q:(atKey xs k).isSome=true
 ·rw[if_pos q,if_pos q];exact r.repl k ry
 ·rw[if_neg q,if_neg q];exact Paired.snoc r ⟨rfl,hb,ry⟩
theorem KT.keeps{H H':Hp}{kvs:List (List bY×V)}{xs:List (List bY×Addr×Value)}(r:KT H kvs xs)(ht:∀b ys,H b=some (.tup ys)->H' b=some (.tup ys)):KT H' kvs xs:=
 Paired.mapP r λ_ _ z=>⟨z.1,ht _ _ z.2.1,z.2.2⟩
section
variable{P:Program}{w:World}{H:Hp}{h:Heap}{a:Addr}
theorem Ht{u:HO}(ok:ny P w H h)(e:Rd H a u):dR P w H h a u:=e.ok ok
theorem pR{kvs:List (lT×V)}(ok:ny P w H h)(e:Rd H a (.dK kvs)):kvs.length<=sizeLine/\(a==sysModules)=false/\∃vs,KV kvs vs/\h.DictOf (eA P w) a vs:=
 show dR P w H h a (.dK kvs) from Ht ok e
theorem FU{kvs:List (lT×V)}(ok:ny P w H h)(e:H a=some (.dK kvs)):kvs.length<=sizeLine/\(a==sysModules)=false/\∃vs,KV kvs vs/\h.DictOf (eA P w) a vs:=pR ok (.inl e)
theorem ml{ks:List bY}(ok:ny P w H h)(e:H a=some (.tup (ks.map kN))):(tupleKind (cS P w)).is h ks a:=by
 obtain⟨_,its,r,o,h1,h2,n,h3⟩:=(show dR P w H h a (.tup (ks.map kN)) from ok a _ e)
 exact⟨o,its.toArray,n,h1,h2.1,h3,by simpa using v7 r⟩
theorem tD{kvs:List (List bY×V)}(ok:ny P w H h)(e:Rd H a (.dT kvs)):kvs.length<=sizeLine/\(a==sysModules)=false/\
  ∃xs,KT H kvs xs/\h.DictOfH (tupleKind (cS P w)) a xs:=by
 obtain⟨z,y,xs,r,o,es,ep,h1,h2,h3,h4,h5⟩:=(show dR P w H h a (.dT kvs) from Ht ok e)
 refine⟨z,y,xs,r,o,es,ep,h1,h2,h3,h4,λx hx=>?_,h5⟩
 have all:∀{l:List (List bY×V)} {m:List (List bY×Addr×Value)},KT H l m->∀x∈m,(tupleKind (cS P w)).is h x.1 x.2.1:=by
  intro l m q
  induction q with
  |nil=>intro x hx;exact nomatch hx
  |@cons p q ps qs hq t ih=>
   intro x hx
   rcases aK.mp hx with e|hx
   ·subst e
    exact ml ok (by rw[<-hq.1];exact hq.2.1)
   ·exact ih x hx
 exact all r x hx
theorem Mx{kvs:List (List bY×V)}(ok:ny P w H h)(e:H a=some (.dT kvs)):kvs.length<=sizeLine/\(a==sysModules)=false/\
  ∃xs,KT H kvs xs/\h.DictOfH (tupleKind (cS P w)) a xs:=tD ok (.inl e)
end
def qG(H:Hp)(a:Addr)(y:V)(r:Option V):Prop:=
 (∃kvs k,Rd H a (.dK kvs)/\y=kV k/\r=cY kvs k)\/∃kvs k b,Rd H a (.dT kvs)/\y=.ref b/\H b=some (.tup (k.map kN))/\r=cY kvs k
def A4(H:Hp)(a:Addr)(y v:V)(H':Hp):Prop:=
 (∃kvs k,H a=some (.dK kvs)/\y=kV k/\kvs.length<sizeLine/\H'=aQ H a (.dK (iJ kvs k v)))\/
 ∃kvs k b,H a=some (.dT kvs)/\y=.ref b/\H b=some (.tup (k.map kN))/\kvs.length<sizeLine/\H'=aQ H a (.dT (iJ kvs k v))
theorem qG.t{H:Hp}{a b:Addr}{kvs:List (List bY×V)}{k:List bY}(e:H a=some (.dT kvs))(eb:H b=some (.tup (k.map kN))):qG H a (.ref b) (cY kvs k):=.inr ⟨kvs,k,b,.inl e,rfl,eb,rfl⟩
theorem A4.t{H:Hp}{a b:Addr}{kvs:List (List bY×V)}{k:List bY}{v:V}(e:H a=some (.dT kvs))(eb:H b=some (.tup (k.map kN)))(hl:kvs.length<sizeLine) :
  A4 H a (.ref b) v (aQ H a (.dT (iJ kvs k v))):=.inr ⟨kvs,k,b,e,rfl,eb,hl,rfl⟩
section
variable{X:Cx}{pins:List (Addr×Obj)}{σ:St}{H:Hp}{s:Shared}{a:Addr}{y v:V}{u r:Value}{o:Option V}{A:Around}{E:Value->Shared->Prop}
theorem bw.big(I:bw X pins σ H s):sysModules<s.heap.objs.size:=by
 have h:mainGlobals<s.heap.objs.size:=(I.mod.glob.keeps I.bk).lt
 exact i5 (by decide) h
theorem Ef{Q:Value->Shared->Prop}(hu:A.units+1<cLine)(I:bw X pins σ H s)(g:qG H a y (some v))(ry:cg y u)(h:∀w' s',bw X pins σ H s'->cg v w'->Q w' s') :
  wpAny (model X.prog X.w) A (getItem (.ref a) u) Q E s:=by
 rcases g with⟨kvs,k,e,ey,l⟩|⟨kvs,k,b,e,ey,eb,l⟩
 ·subst ey
  obtain⟨z,hd,vs,rel,dd⟩:=pR I.hok e
  obtain⟨w',hw,rw'⟩:=oG.some_of (v:=v) (o:=valueAt vs k) (by rw[l];exact rel.val k)
  exact wpAny_getItem_of (rp ry) dd.mapOf hw (h w' _ (I.tok _) rw')
 ·subst ey
  cases(show u=Value.ref b from ry)
  obtain⟨z,hd,xs,rel,dd⟩:=tD I.hok e
  obtain⟨w',hw,rw'⟩:=oG.some_of (v:=v) (o:=(atKey xs k).map (·.2)) (by rw[l];exact rel.val k)
  obtain⟨p,hp,hp2⟩:=eT.mp hw
  refine wpAny_getItem_heap (tupleKind_room_in1 hu) (ml I.hok eb) dd hp ?_
  rw[hp2]
  exact h w' _ (I.tok _) rw'
theorem NA{Q:Value->Shared->Prop}(hu:A.units+1<cLine)(I:bw X pins σ H s)(g:qG H a y o)(ry:cg y u)(h:∀s',bw X pins σ H s'->Q (.bool o.isSome) s') :
  wpAny (model X.prog X.w) A (compareOp .In u (.ref a)) Q E s:=by
 rcases g with⟨kvs,k,e,ey,l⟩|⟨kvs,k,b,e,ey,eb,l⟩
 ·subst ey
  obtain⟨z,hd,vs,rel,dd⟩:=pR I.hok e
  refine wpAny_in_of (rp ry) hd dd.mapOf ?_
  rw[<-(rel.val k).isSome_eq,<-l]
  exact h _ (I.tok _)
 ·subst ey
  cases(show u=Value.ref b from ry)
  obtain⟨z,hd,xs,rel,dd⟩:=tD I.hok e
  refine wpAny_in_heap (tupleKind_room_in1 hu) (ml I.hok eb) hd dd ?_
  have q:=(rel.val k).isSome_eq
  rw[gC] at q
  rw[<-q,<-l]
  exact h _ (I.tok _)
theorem IW{Q:Value->Shared->Prop}(hu:A.units+1<cLine)(I:bw X pins σ H s)(g:qG H a y o)(ry:cg y u)(h:∀s',bw X pins σ H s'->Q (.bool (!o.isSome)) s') :
  wpAny (model X.prog X.w) A (compareOp .NotIn u (.ref a)) Q E s:=by
 rcases g with⟨kvs,k,e,ey,l⟩|⟨kvs,k,b,e,ey,eb,l⟩
 ·subst ey
  obtain⟨z,hd,vs,rel,dd⟩:=pR I.hok e
  refine wpAny_notIn_of (rp ry) hd dd.mapOf ?_
  rw[<-(rel.val k).isSome_eq,<-l]
  exact h _ (I.tok _)
 ·subst ey
  cases(show u=Value.ref b from ry)
  obtain⟨z,hd,xs,rel,dd⟩:=tD I.hok e
  refine wpAny_notIn_heap (tupleKind_room_in1 hu) (ml I.hok eb) hd dd ?_
  have q:=(rel.val k).isSome_eq
  rw[gC] at q
  rw[<-q,<-l]
  exact h _ (I.tok _)
theorem pQ{h':Heap}{t':Nat}{ob:HO}(I:bw X pins σ H s)(mu:Mm (H a))(hs:Heap.SameBut a s.heap h')(he:∃q,h'.get? a=some q)(new:dR X.prog X.w (aQ H a ob) h' a ob) :
  bw X pins σ (aQ H a ob) {s with heap:=h',toks:=t'}:=
 I.write (x:=a) (e:=a) mu (.inl rfl) (λb q hb z=>(hs.2 b hb).trans z) he new
theorem BE{P:Program}{w:World}{H':Hp}{h':Heap}{kvs:List (lT×V)}{vs:List (lT×Value)}(z:kvs.length<=sizeLine)(hd:(a==sysModules)=false)(rel:KV kvs vs)(dd:h'.DictOf (eA P w) a vs) :
  dR P w H' h' a (.dK kvs):=⟨z,hd,vs,rel,dd⟩
theorem Eg{H':Hp}{Q:Unit->Shared->Prop}(hu:A.units+1<cLine)(I:bw X pins σ H s)(g:A4 H a y v H')(ry:cg y u)(rv:cg v r)(h:∀s',bw X pins σ H' s'->Q () s') :
  wpAny (model X.prog X.w) A (setItem (.ref a) u r) Q E s:=by
 rcases g with⟨kvs,k,e,ey,l,eH⟩|⟨kvs,k,b,e,ey,eb,l,eH⟩
 ·subst ey eH
  obtain⟨z,hd,vs,rel,dd⟩:=FU I.hok e
  have hz:vs.length<=sizeLine:=by rw[<-rel.length];exact z
  have hl:(iJ kvs k v).length<=sizeLine:=by have:=gg kvs k v;lia
  refine wpAny_setItem_pairs (hsz:=hz) (rp ry) dd λh' dd' hs=>h _ ?_
  have he:∃q,h'.get? a=some q:=let⟨q,_,_,hq,_⟩:=dd';⟨q,hq⟩
  exact pQ I (by rw[e];exact True.intro) hs he (BE hl hd (rel.put k rv) dd')
 ·subst ey eH
  cases(show u=Value.ref b from ry)
  obtain⟨z,hd,xs,rel,dd⟩:=Mx I.hok e
  have hz:xs.length<=sizeLine:=by rw[<-Paired.length rel];exact z
  have hl:(iJ kvs k v).length<=sizeLine:=by have:=gg kvs k v;lia
  refine wpAny_setItem_heap (hsz:=hz) (tupleKind_room_in1 hu) (ml I.hok eb) dd λh' dd' hs=>h _ ?_
  obtain⟨q,es,ep,hq,h2,h3,h4,_,h5⟩:=dd'
  refine pQ I (by rw[e];exact True.intro) hs ⟨q,hq⟩ ⟨hl,hd,_,(rel.put k eb rv).keeps λc ys ec=>?_,q,es,ep,hq,h2,h3,h4,h5⟩
  rw[az (zP ec e (λz=>nomatch z))]
  exact ec
end
section
variable{X:Cx}{pins:List (Addr×Obj)}{σ:St}{H:Hp}{s:Shared}{a:Addr}{kvs:List (lT×V)}{k:lT}{u:Value}{A:Around}{E:Value->Shared->Prop}
theorem Mv{v:V}{more:List Value}{Q:Value->Shared->Prop}(I:bw X pins σ H s)(e:H a=some (.dK kvs))(ry:cg (kV k) u)(l:cY kvs k=some v)(hm:more=[]\/∃x,more=[x])
  (h:∀w' s',bw X pins σ (aQ H a (.dK (jF kvs k))) s'->cg v w'->Q w' s'):wpAny (model X.prog X.w) A (call (.builtin "dict.pop") (.ref a::u::more)) Q E s:=by
 obtain⟨z,hd,vs,rel,dd⟩:=FU I.hok e
 obtain⟨w',hw,rw'⟩:=oG.some_of (v:=v) (o:=valueAt vs k) (by rw[<-l];exact rel.val k)
 have hp:(keyPart u).isSome=true:=by
  cases k with
  |inl i=>obtain⟨t,q⟩:=(show ∃t,u=Value.int i t from ry);subst q;rfl
  |inr x=>obtain⟨t,q⟩:=(show ∃t,u=Value.str x t from ry);subst q;rfl
 have ha:argsOk "dict.pop" ⟨.ref a::u::more,[]⟩:=by
  rcases hm with q|⟨x,q⟩
  ·subst q;exact PySem.F.args_dict_pop_2 _ _
  ·subst q;exact PySem.F.args_dict_pop_3 _ _ _
 refine call_meetsIn PySem.F.slot_dict_pop dd.typeIs PySem.F.entry_dict_pop ha (meets_dict_pop_there (eA X.prog X.w) a (rp ry) more hm hp)
  ⟨vs,w',dd,by rw[<-rel.length];exact z,hw,λh' dd' hs=>h w' _ ?_ rw'⟩
 have he:∃q,h'.get? a=some q:=let⟨q,_,_,hq,_⟩:=dd';⟨q,hq⟩
 exact pQ I (by rw[e];exact True.intro) hs he (BE (a7 (FX kvs k) z) hd (rel.drop k) dd')
theorem Mu{Q:Value->Shared->Prop}(I:bw X pins σ H s)(e:Rd H a (.dK kvs))(h:∀t s',bw X pins σ H s'->Q (.int kvs.length t) s'):wpAny (model X.prog X.w) A (call (.builtin "len") [.ref a]) Q E s:=by
 obtain⟨z,hd,vs,rel,dd⟩:=pR I.hok e
 refine call_len_dict hd dd (by rw[<-rel.length];rw[sizeLine_eq] at z;lia) ?_
 rw[<-rel.length]
 exact h _ _ (I.tok _)
end
def Fq(i:Expr):Prop:=∀ov iv,subscripted i false ov iv=operate [ov,iv] (getItem ov iv)
theorem DB{prog:Program}{w:World}{A:Around}{E:Value->Shared->Prop}{s:Shared}{env:Env}{value slice:Expr}{pos:Pos}{T id:String}{Q:Value->Shared->Prop}
  (hl:typeLookup (.type T) "__getitem__"=pure (some (.builtin id))) (hs:Fq slice)
  (h:wpAny (model prog w) A (eval value env) (λo s₁=>wpAny (model prog w) A (eval slice env) (λi s₂=>s₂.TypeIs o T/\wpAny (model prog w) A (getItem o i) Q E s₂) E s₁) E s) :
  wpAny (model prog w) A (eval (.Subscript value slice pos) env) Q E s:=by
 refine Subscript_ (wpAny_mono h (λo s₁ h₁=>wpAny_mono h₁ (λi s₂ h₂=>?_) λ_ _ x=>x) λ_ _ x=>x)
 obtain⟨hT,h₂⟩:=h₂
 unfold subscriptTail
 refine wpAny_bind ?_
 rw[getitemInPython_of_ne hT.not_modules]
 refine wpAny_bind (wpAny_specialOf hT hl ?_)
 have fin:wpAny (model prog w) A (subscripted slice false o i) (λr s₃=>wpAny (model prog w) A (letTemporaryGo value o r >>= λ_=>pure r) Q E s₃) E s₂:=by
  rw[hs o i]
  exact wpAny_operating (wpAny_mono h₂ (λr s₃ h₃=>wpAny_bind (wpAny_letTemporaryGo (wpAny_pure h₃))) λ_ _ x=>x)
 first
  |exact wpAny_pure (wpAny_bind fin)
  |exact wpAny_bind (wpAny_pure (wpAny_bind fin))
  |exact wpAny_bind fin
theorem zj{X:Cx}{pins:List (Addr×Obj)}{σ:St}{H:Hp}{s:Shared}{a:Addr}{y:V}{o:Option V}(I:bw X pins σ H s)(g:qG H a y o):s.TypeIs (.ref a) "dict":=by
 rcases g with⟨kvs,k,e,_,_⟩|⟨kvs,k,b,e,_,_,_⟩
 ·obtain⟨_,_,vs,_,dd⟩:=pR I.hok e
  exact dd.typeIs
 ·obtain⟨_,_,xs,_,dd⟩:=tD I.hok e
  exact dd.typeIs
def nS(td ty:TE):TE:=λσ H Q=>td σ H λx H1=>ty σ H1 λy H2=>∃a v,x=.ref a/\qG H2 a y (some v)/\Q v H2
section
variable{X:Cx}{o i e value:Expr}{pos pos' tpos:Pos}{td ty tv:TE}
theorem JB(hu:X.A.units+1<cLine)(ho:PE X o td)(hi:PE X i ty)(hs:Fq i):PE X (.Subscript o i pos) (nS td ty):=by
 intro pins s σ H Q I h
 refine DB PySem.F.slot_dict_getitem.lookup hs (d4 (ho pins s σ H _ I h) λu s1 ⟨x,H1,I1,rx,q1⟩=>d4 (hi pins s1 σ H1 _ I1 q1) λiv s2 ⟨y,H2,I2,ry,a,v,ex,g,q2⟩=>?_)
 subst ex
 obtain rfl:u=Value.ref a:=rx
 exact⟨zj I2 g,Ef hu I2 g ry λw' s3 I3 rw'=>⟨v,H2,I3,rw',q2⟩⟩
end
theorem FT{P:Program}{w:World}{H:Hp}(h:Heap)(hb:sysModules<h.objs.size):dR P w H (h.push {cls:=.type "dict",data:=.dict #[]}) h.objs.size (.dK []):=
 ⟨bq _,beq_eq_false_iff_ne.mpr (Ne.symm (aN hb)),[],.nil,Heap.DictOf.new h⟩
theorem FY{P:Program}{w:World}{H:Hp}(h:Heap)(hb:sysModules<h.objs.size):dR P w H (h.push {cls:=.type "dict",data:=.dict #[]}) h.objs.size (.dT []):=
 ⟨bq _,beq_eq_false_iff_ne.mpr (Ne.symm (aN hb)),[],.nil,_,#[],0,ax _ rfl,⟨rfl,rfl,rfl⟩,rfl,rfl,cL⟩
def Cy:TE:=λ_ H Q=>∀p,H p=none->Q (.ref p) (aQ H p (.dK []))
def uA:TE:=λ_ H Q=>∀p,H p=none->Q (.ref p) (aQ H p (.dT []))
section
variable{X:Cx}{pos:Pos}
theorem GF:PE X (.Dict [] [] pos) Cy:=λpins s σ H Q I h=>
 wpAny_Dict_empty ⟨.ref s.heap.objs.size,_,I.laid (a:=s.heap.objs.size) (o:=.dK []) (t':=s.toks) (λ_ _ q=>ag _ q) (ar _) (FT s.heap I.big),rfl,h _ (I.hok.fresh (ar _))⟩
theorem GH:PE X (.Dict [] [] pos) uA:=λpins s σ H Q I h=>
 wpAny_Dict_empty ⟨.ref s.heap.objs.size,_,I.laid (a:=s.heap.objs.size) (o:=.dT []) (t':=s.toks) (λ_ _ q=>ag _ q) (ar _) (FY s.heap I.big),rfl,h _ (I.hok.fresh (ar _))⟩
end
structure M1(X:Cx)(o:Expr)(m:Str)(apos:Pos)(e:Expr)(cpos:Pos):Prop where
 base:attributeBase o m X.env (eval o X.env)=eval o X.env
 few:((backTo cpos (starEach [e] X.env)).all (λx=>!x.1)&&(backToKw cpos (keywordEach [] X.env)).all (λx=>x.1.isSome)
  && decide (([e]:List Expr).length+([]:List Keyword).length+(if([]:List Keyword).isEmpty then 0 else 1)<30))=true
 line:(apos.endLine==cpos.line)=true
 trees:backTo cpos (starEach [e] X.env)=[(false,eval e X.env)]
structure M2(X:Cx)(o:Expr)(m:Str)(apos:Pos)(e f:Expr)(cpos:Pos):Prop where
 base:attributeBase o m X.env (eval o X.env)=eval o X.env
 few:((backTo cpos (starEach [e,f] X.env)).all (λx=>!x.1)&&(backToKw cpos (keywordEach [] X.env)).all (λx=>x.1.isSome)
  && decide (([e,f]:List Expr).length+([]:List Keyword).length+(if([]:List Keyword).isEmpty then 0 else 1)<30))=true
 line:(apos.endLine==cpos.line)=true
 trees:backTo cpos (starEach [e,f] X.env)=[(false,eval e X.env),(false,eval f X.env)]
def Nj(H:Hp)(a:Addr):Prop:=(∃kvs,Rd H a (.dK kvs))\/∃kvs,Rd H a (.dT kvs)
theorem xN{X:Cx}{pins:List (Addr×Obj)}{σ:St}{H:Hp}{s:Shared}{a:Addr}(I:bw X pins σ H s)(d:Nj H a) :
  s.TypeIs (.ref a) "dict"/\(∀b,Value.ref a=.ref b->∃ob,s.heap.get? b=some ob/\ob.dict=none)/\(a==sysModules)=false:=by
 rcases d with⟨kvs,e⟩|⟨kvs,e⟩
 ·obtain⟨_,hd,vs,_,dd⟩:=pR I.hok e
  refine⟨dd.typeIs,λb q=>?_,hd⟩
  cases q
  obtain⟨ob,_,_,h1,h2,_⟩:=dd
  exact⟨ob,h1,h2.2.1⟩
 ·obtain⟨_,hd,xs,_,dd⟩:=tD I.hok e
  refine⟨dd.typeIs,λb q=>?_,hd⟩
  cases q
  obtain⟨ob,_,_,h1,h2,_⟩:=dd
  exact⟨ob,h1,h2.2.1⟩
section
variable{X:Cx}{pins:List (Addr×Obj)}{σ:St}{H:Hp}{s:Shared}{a:Addr}{y d:V}{u r:Value}{o:Option V}{A:Around}{E:Value->Shared->Prop}
theorem KS{Q:Value->Shared->Prop}(hu:A.units+1<cLine)(I:bw X pins σ H s)(g:qG H a y o)(ry:cg y u)(h:∀w' s',bw X pins σ H s'->cg (o.getD .non) w'->Q w' s') :
  wpAny (model X.prog X.w) A (call (.builtin "dict.get") [.ref a,u]) Q E s:=by
 rcases g with⟨kvs,k,e,ey,l⟩|⟨kvs,k,b,e,ey,eb,l⟩
 ·subst ey
  obtain⟨z,hd,vs,rel,dd⟩:=pR I.hok e
  refine call_meetsIn gY dd.typeIs PySem.F.entry_dict_get (PySem.F.args_dict_get_2 _ _) (meets_dict_get (eA X.prog X.w) a (rp ry) hd) ⟨_,dd.mapOf,h _ _ (I.tok _) ?_⟩
  rw[l]
  exact(rel.val k).getD rfl
 ·subst ey
  cases(show u=Value.ref b from ry)
  obtain⟨z,hd,xs,rel,dd⟩:=tD I.hok e
  refine call_meetsIn gY dd.typeIs PySem.F.entry_dict_get (PySem.F.args_dict_get_2 _ _) (meetsH_dict_get (tupleKind (cS X.prog X.w)) a b hd) ⟨tupleKind_room_in1 hu,k,xs,ml I.hok eb,dd,h _ _ (I.tok _) ?_⟩
  rw[l]
  exact(rel.val k).getD rfl
end
def Cv(td ty:TE):TE:=λσ H Q=>td σ H λx H1=>∃a,x=.ref a/\Nj H1 a/\ty σ H1 λy H2=>∃o,qG H2 a y o/\Q (o.getD .non) H2
def CA(td ty:TE):TE:=λσ H Q=>td σ H λx H1=>∃a,x=.ref a/\Nj H1 a/\ty σ H1 λy H2=>∃kvs k v,H2 a=some (.dK kvs)/\y=kV k/\cY kvs k=some v/\Q v (aQ H2 a (.dK (jF kvs k)))
section
variable{X:Cx}{o e f:Expr}{apos cpos:Pos}{td ty tx:TE}
theorem GD(hu:X.A.units+1<cLine)(ho:PE X o td)(he:PE X e ty)(m:M1 X o "get" apos e cpos):PE X (.Call (.Attribute o "get" apos) [e] [] cpos) (Cv td ty):=by
 intro pins s σ H Q I h
 refine wpAny_Call_method m.base m.few m.line eO gY PySem.F.type_dict_get (d4 (ho pins s σ H _ I h) λu s1 ⟨x,H1,I1,rx,a,ex,d,q1⟩=>?_)
 subst ex
 obtain rfl:u=Value.ref a:=rx
 obtain⟨t1,t2,_⟩:=xN I1 d
 refine⟨t1,t2,?_⟩
 rw[m.trees]
 refine Calls.callWith_builtin rfl (Calls.evalArgs_plain (Calls.spliced_cons (d4 (he pins s1 σ H1 _ I1 q1) λiv s2 ⟨y,H2,I2,ry,ov,g,q2⟩=>Calls.spliced_nil ?_)))
 exact KS hu I2 g ry λw' s3 I3 rw'=>⟨_,H2,I3,rw',q2⟩
theorem GI(ho:PE X o td)(he:PE X e ty)(m:M1 X o "pop" apos e cpos):PE X (.Call (.Attribute o "pop" apos) [e] [] cpos) (CA td ty):=by
 intro pins s σ H Q I h
 refine wpAny_Call_method m.base m.few m.line eO PySem.F.slot_dict_pop PySem.F.type_dict_pop (d4 (ho pins s σ H _ I h) λu s1 ⟨x,H1,I1,rx,a,ex,d,q1⟩=>?_)
 subst ex
 obtain rfl:u=Value.ref a:=rx
 obtain⟨t1,t2,_⟩:=xN I1 d
 refine⟨t1,t2,?_⟩
 rw[m.trees]
 refine Calls.callWith_builtin rfl (Calls.evalArgs_plain (Calls.spliced_cons (d4 (he pins s1 σ H1 _ I1 q1) λiv s2 ⟨y,H2,I2,ry,kvs,k,v,ea,ey,l,q2⟩=>Calls.spliced_nil ?_)))
 subst ey
 exact Mv I2 ea ry l (.inl rfl) λw' s3 I3 rw'=>⟨v,_,I3,rw',q2⟩
end
section
variable{X:Cx}{pins:List (Addr×Obj)}{σ:St}{H:Hp}{s:Shared}{a:Addr}{kvs:List (lT×V)}{A:Around}{E:Value->Shared->Prop}
end
section
variable{X:Cx}{pins:List (Addr×Obj)}{σ:St}{H:Hp}{s:Shared}{a:Addr}{y:V}{u:Value}{A:Around}{E:Value->Shared->Prop}
end
section
variable{X:Cx}
theorem Ec:g8 X (.builtin "len") (λxs H Q=>∃a kvs,xs=[V.ref a]/\H a=some (.dK kvs)/\Q (.int kvs.length) H):=by
 intro pins s σ H xs us Q I r h
 obtain⟨a,kvs,rfl,ha,q⟩:=h
 obtain⟨u,rfl,ru⟩:=kz r
 cases ru
 exact Mu I (.inl ha) λt s' I'=>⟨.int kvs.length,H,I',⟨t,rfl⟩,q⟩
end
section
variable{κ:Type}[DecidableEq κ]
theorem Ii{kvs:List (κ×V)}{k:κ}(h:cY kvs k=none):¬k∈kvs.map (·.1):=by
 intro m
 obtain⟨p,hp,e⟩:=aC.mp m
 have q:(kvs.any λkv=>decide (kv.1=k))=true:=fB.mpr ⟨p,hp,decide_eq_true e⟩
 rw[ky,h] at q
 exact absurd q (by simp)
theorem DU{kvs:List (κ×V)}{k:κ}{v:V}(h:cY kvs k=some v):k∈kvs.map (·.1):=by
 have q:(kvs.any λkv=>decide (kv.1=k))=true:=by
  rw[ky,h]
  all_goals rfl
 obtain⟨p,hp,e⟩:=fB.mp q
 exact aC.mpr ⟨p,hp,of_decide_eq_true e⟩
end
def G5(neg:Bool):R2:=λx y H Q=>∃a o,y=.ref a/\qG H a x o/\Q (.bl (if neg then !o.isSome else o.isSome)) H
def Dr:V->V->V->Hp->(Hp->Prop)->Prop:=λo i v H Q=>∃a H',o=.ref a/\A4 H a i v H'/\Q H'
section
variable{X:Cx}
theorem Lm(hu:X.A.units+1<cLine):iY X (compareOp .In) (G5 false):=by
 intro pins s σ H x y v u Q I rx ry h
 obtain⟨a,o,rfl,g,q⟩:=h
 cases ry
 exact NA hu I g rx λs' I'=>⟨.bl o.isSome,H,I',rfl,q⟩
theorem wx(hu:X.A.units+1<cLine):iY X (compareOp .NotIn) (G5 true):=by
 intro pins s σ H x y v u Q I rx ry h
 obtain⟨a,o,rfl,g,q⟩:=h
 cases ry
 exact IW hu I g rx λs' I'=>⟨.bl (!o.isSome),H,I',rfl,q⟩
theorem uo(hu:X.A.units+1<cLine):Fx X Dr:=by
 intro pins s σ H o i v ov iv u Q I ro ri rv h
 obtain⟨a,H',rfl,g,q⟩:=h
 cases ro
 exact Eg hu I g ri rv λs' I'=>⟨H',I',q⟩
end
section
variable{P:Program}{w:World}{K:Fg}{mg:Str->Option Value}{base:Heap}
end
theorem GW{X:Cx}{pos:Pos}:QE X (.Dict [] [] pos) Cy:=⟨GF⟩
end L2
end
section
namespace PySem.W
open PySem PySem.Calls PyProof.Rows PyProof.V PySem.Spec
theorem BR:typeLookup (.type "list_reverseiterator") "__len__"=pure none:=by rw[typeLookup_type,builtinLookup_eq_fast];kernel_rfl
theorem Gv:typeLookup (.type "list_reverseiterator") "__length_hint__"=pure (some (.builtin "list_reverseiterator.__length_hint__")):=by rw[typeLookup_type,builtinLookup_eq_fast];kernel_rfl
section
variable{prog:Program}{w:World}{A:Around}{E:Value->Shared->Prop}{s:Shared}{r l:Addr}
theorem Gd{Q:Bool->Shared->Prop}(hT:s.TypeIs (.ref r) "list_reverseiterator")(h:Q false s):wpAny (model prog w) A (Builtin.List.listLengthHint (.ref r)) Q E s:=by
 unfold Builtin.List.listLengthHint
 refine wpAny_bind (wpAny_specialOf hT BR ?_)
 refine wpAny_ite_split (λhab=>absurd hab (by decide)) (λ_=>?_)
 refine wpAny_ite_split (λhab=>absurd hab (by decide)) (λ_=>?_)
 refine wpAny_bind (wpAny_specialOf hT Gv ?_)
 generalize hid:("list_reverseiterator.__length_hint__":String)=id0
 wp_delta
 rw[show splitId id0=some ("list_reverseiterator","__length_hint__") from by subst hid;decide +kernel]
 subst hid
 refine wpAny_bind (wpAny_isInstance (T:="list_reverseiterator") (b:=true) hT (by rw[isSubtype_type];kernel_rfl) ?_)
 refine wpAny_ite_split (λhab=>absurd hab (by decide)) (λ_=>?_)
 refine wpAny_ite_split (λ_=>?_) (λhab=>absurd (by decide +kernel) hab)
 refine wpAny_ite_split (λhab=>absurd hab (by decide +kernel)) (λ_=>?_)
 exact wpAny_pure h
theorem Cn{items:Array Value}{R:Result->Shared->Prop}(hh:A.handled=none)(hl:s.heap.IsList l items)(hit:s.heap.IsRevIter r l ((items.size:Int)-1))(hne:l≠r)(S:Addr)(hSr:S≠r)(hSl:S≠l)(res:Value)(c₀:Nat)(hS:s.heap.get? S=some {cls:=.type "list",data:=.seq #[] c₀})
  (hR:∀h' tk acc' c',(∀b o,b≠S->b≠r->s.heap.get? b=some o->h'.get? b=some o)->h'.get? S=some {cls:=.type "list",dict:=none,data:=.seq acc' c',slots:=#[]}->ItemsOf (λi v=>items[items.size-1-i]?=some v) acc' items.size->R (.ok (.ret res)) {s with heap:=h',toks:=tk}) (hn:items.size<=sizeLine) :
  wpAny (model prog w) A.in1 (Builtin.List.listExtendWith (.ref S) (.ref r) res)
   (λfin s'=>match fin with|.done f=>R (.ok f) s'|.again c'=>c'.quiet=true/\codeAny (model prog w) A c' R s') (λe s'=>R (.error e) s') s:=by
 have hSf:S∉[r,l]:=by simp only[aK,cu,or_false,not_or];exact⟨hSr,hSl⟩
 have W:=Walks.listRev (prog:=prog) (w:=w) (A:=A.in1) hh r l hne items
 have key:∀(h:Heap) (c₁ tk:Nat),(0<=items.size/\h.IsRevIter r l ((items.size:Int)-1-((0:Nat):Int))/\h.IsList l items)->(∀b o,b≠S->s.heap.get? b=some o->h.get? b=some o)->
   h.get? S=some {cls:=.type "list",data:=.seq #[] c₁}->codeAny (model prog w) A (.builtin "list.extend.loop" ⟨[.ref S,.ref r,res],[]⟩) R {s with heap:=h,toks:=tk}:=by
  intro h c₁ tk hst hk hS₁
  refine codeAny_extend_loopS W.toS hn S hSf res items.size 0 _ #[] c₁ rfl (bq _) hst hS₁ (ItemsOf.nil _) λs' acc' c' hm hS' hacc=>?_
  rw[Moved.eq_with hm]
  refine hR s'.heap s'.toks acc' c' (λb o hb hbr e=>hm.heap b o (λhmem=>?_) (hk b o hb e)) hS' hacc
  rcases aK.mp hmem with e'|hmem
  ·exact hb e'
  ·exact hbr (ao.mp hmem)
 have st0:0<=items.size/\s.heap.IsRevIter r l ((items.size:Int)-1-((0:Nat):Int))/\s.heap.IsList l items:=⟨bq _,(by have e:(items.size:Int)-1-((0:Nat):Int)=(items.size:Int)-1:=(by omega);rw[e];exact hit),hl⟩
 unfold Builtin.List.listExtendWith
 refine wpAny_bind (wpAny_typeOf (T:="list_reverseiterator") hit.typeIs ?_)
 have h1:Builtin.List.listSameRef (.ref S) (.ref r)=false:=by simp[Builtin.List.listSameRef,hSr]
 have h2:(Value.type "list_reverseiterator"==Value.type "list")=false:=by decide
 have h3:(Value.type "list_reverseiterator"==Value.type "tuple")=false:=by decide
 simp only[h1,h2,h3,Bool.or_false,Bool.false_eq_true,if_false]
 refine wpAny_bind (wpAny_pyIter_revIter hit ?_)
 refine wpAny_bind (wpAny_holding (Gd hit.typeIs ?_))
 refine wpAny_ite_split (λ_=>?_) (λ_=>wpAny_pure ⟨plainId_quiet dY _,key _ c₀ _ st0 (λb o _ e=>e) hS⟩)
 refine wpAny_bind (wpAny_rule ?_)
 refine wpAny_bind ?_
 show wpAny _ _ (updateSeq S (·.push .none) >>= λ_=>updateSeq S (·.pop)) _ _ _
 refine wpAny_bind (wpAny_updateSeq hS rfl ?_)
 have hS₂:=bZ (Obj.mapSeq (·.push Value.none)) hS rfl
 refine wpAny_updateSeq (hz:=by seq_fits) hS₂ rfl ?_
 have hS₃:=bZ (Obj.mapSeq (·.pop)) hS₂ rfl
 refine wpAny_pure ⟨plainId_quiet dY _,key _ _ _ ?_ (λb o hb e=>?_) hS₃⟩
 ·refine W.frame 0 _ _ st0 λb hb o e=>?_
  have hbS:b≠S:=λh=>hSf (h ▸ hb)
  exact(bF _ _ (Ne.symm hbS)).trans ((bF _ _ (Ne.symm hbS)).trans e)
 ·exact(bF _ _ (Ne.symm hb)).trans ((bF _ _ (Ne.symm hb)).trans e)
theorem HA{items:Array Value}{R:Result->Shared->Prop}(hh:A.handled=none)(hl:s.heap.IsList l items)(hit:s.heap.IsRevIter r l ((items.size:Int)-1))(hne:l≠r)(S:Addr)(hSr:S≠r)(hSl:S≠l)(hS:s.heap.get? S=some {cls:=.type "list",data:=.seq #[]})
  (hR:∀h' tk acc' c',(∀b o,b≠S->b≠r->s.heap.get? b=some o->h'.get? b=some o)->h'.get? S=some {cls:=.type "list",dict:=none,data:=.seq acc' c',slots:=#[]}->ItemsOf (λi v=>items[items.size-1-i]?=some v) acc' items.size->R (.ok (.ret .none)) {s with heap:=h',toks:=tk}) (hn:items.size<=sizeLine) :
  wpAny (model prog w) A.in1 (Builtin.«list.__init__» ⟨[.ref S,.ref r],[]⟩)
   (λfin s'=>match fin with|.done f=>R (.ok f) s'|.again c'=>c'.quiet=true/\codeAny (model prog w) A c' R s') (λe s'=>R (.error e) s') s:=by
 show wpAny _ _ (do let old <-Builtin.List.listItems (.ref S);Builtin.List.listUpdate (.ref S) (λ_=>#[]);letGo old.toList.reverse;Builtin.List.listExtendWith (.ref S) (.ref r) .none) _ _ s
 refine wpAny_bind ?_
 unfold Builtin.List.listItems
 refine wpAny_bind (wpAny_seqItems hS rfl (wpAny_pure ?_))
 show wpAny _ _ (updateSeq S (λ_=>#[]) >>= λ_=>letGo (#[]:Array Value).toList.reverse >>= λ_=>Builtin.List.listExtendWith (.ref S) (.ref r) .none) _ _ s
 refine wpAny_bind (wpAny_updateSeq hS rfl ?_)
 have hS₂:=bZ (Obj.mapSeq (λ_=>(#[]:Array Value))) hS rfl
 have oth:∀b o,b≠S->s.heap.get? b=some o->(s.heap.update S (Obj.mapSeq (λ_=>(#[]:Array Value)))).get? b=some o:=
  λb o hb e=>(bF _ _ (Ne.symm hb)).trans e
 refine wpAny_bind (wpAny_letGo ?_)
 refine Cn (items:=items) hh (hl.at λo e=>oth l o hSl.symm e) (hit.at λo e=>oth r o hSr.symm e) hne S hSr hSl .none _ hS₂ (λh' tk acc' c' hk hS' hacc=>?_) hn
 exact hR h' tk acc' c' (λb o hb hbr e=>hk b o hb hbr (oth b o hb e)) hS' hacc
theorem call_list_rev{items:Array Value}{Q:Value->Shared->Prop}(hh:A.handled=none)(hl:s.heap.IsList l items)(hit:s.heap.IsRevIter r l ((items.size:Int)-1))(hne:l≠r)(hn:items.size<=sizeLine)
  (hQ:∀h' tk acc' c',(∀b o,b≠r->s.heap.get? b=some o->h'.get? b=some o)->h'.get? s.heap.objs.size=some {cls:=.type "list",dict:=none,data:=.seq acc' c',slots:=#[]}->ItemsOf (λi v=>items[items.size-1-i]?=some v) acc' items.size->Q (.ref s.heap.objs.size) {s with heap:=h',toks:=tk}) :
  wpAny (model prog w) A (call (.type "list") [.ref r]) Q E s:=by
 refine callType_codes (Q₁:=λobj s₁=>obj=.ref s.heap.objs.size/\s₁={s with heap:=s.heap.push {cls:=.type "list",data:=.seq #[]}}) PySem.F.called_list (PySem.F.typeCall_list_1 _) PySem.F.entry_list_init
  (code_list_new _ ⟨rfl,rfl⟩) λobj s₁ h₁=>?_
 obtain⟨rfl,rfl⟩:=h₁
 have hS:(s.heap.push {cls:=.type "list",data:=.seq #[]}).get? s.heap.objs.size=some {cls:=.type "list",data:=.seq #[]}:=ax _ rfl
 have lr:r<s.heap.objs.size:=let⟨_,ho,_⟩:=hit;aF ho
 have ll:l<s.heap.objs.size:=let⟨_,ho,_⟩:=hl;aF ho
 refine⟨⟨_,hS,rfl⟩,PySem.F.args_list_init_2 _ _,HA (A:=A.in1) (items:=items) hh (hl.at λo e=>ag _ e) (hit.at λo e=>ag _ e) hne _ (cR lr) (cR ll) hS (λh' tk acc' c' hk hS' hacc=>?_) hn⟩
 exact⟨rfl,hQ h' tk acc' c' (λb o hb e=>hk b o (aN (aF e)) hb (ag _ e)) hS' hacc⟩
end
end PySem.W
namespace L2
open PySem PySem.Spec PyProof.Rows
def qf(K:Fg)(t:TA):TE:=λσ H Q=>t σ H λvs H1=>∃p ys,vs=[.ref p]/\cx K H1 p ys/\∀l,H1 l=none->Q (.ref l) (aQ H1 l (.lst ys.reverse))
section
variable{X:Cx}
theorem HB{ys:List V}{its:List Value}{acc:Array Value}(r:bX ys its)(h:ItemsOf (λi v=>its.toArray[its.toArray.size-1-i]?=some v) acc its.toArray.size):bX ys.reverse acc.toList:=by
 have e:acc.toList=its.reverse:=by
  apply d6
  intro i
  by_cases hi:i<its.length
  ·have hs:acc.size=its.length:=by have:=h.1;simpa using this
   have h1:acc[i]?=some acc[i]:=a6 (by omega)
   have h2:=h.2 i _ h1
   rw[bK,h1,bS hi]
   simpa using h2.symm
  ·have hs:acc.size=its.length:=by have:=h.1;simpa using this
   rw[aZ (by rw[bE];omega),aZ (by rw[bN];omega)]
 rw[e]
 exact r.reverse
theorem BW{a:Expr}{ta:TA}{p1 p2 pos pos2:Pos}(hg:Gl X "list")(hg2:Gl X "reversed")(hm:X.mg "list"=none)(hm2:X.mg "reversed"=none)(hc:X.calm=true)(ha:PA X [a] ta)
  (hs2:starEach [a] X.env=[(false,eval a X.env)]:=by rfl) (hs:starEach [.Call (.Name "reversed" p2) [a] [] pos2] X.env=[(false,eval (.Call (.Name "reversed" p2) [a] [] pos2) X.env)]:=by rfl) :
  PE X (.Call (.Name "list" p1) [.Call (.Name "reversed" p2) [a] [] pos2] [] pos) (qf X.K ta):=by
 intro pins s σ H Q I h
 refine wpAny_Call_Name_kw (iq I hg hm boot_list ?_)
 refine br ?_ hs rfl
 rw[hs]
 show wpAny _ _ (spliced ((false,eval (.Call (.Name "reversed" p2) [a] [] pos2) X.env)::backTo pos [])) _ _ s
 refine Calls.spliced_cons ?_
 refine wpAny_Call_Name_kw (iq I hg2 hm2 boot_reversed ?_)
 refine br (d4 (ha pos2 pins s σ H _ I h) λus s1 ⟨vs,H1,I1,r1,q1⟩=>?_) hs2 rfl
 obtain⟨l,ys,rfl,hq,q⟩:=q1
 obtain⟨u,rfl,rx⟩:=kz r1
 cases rx
 obtain⟨its,rv,pl,hz⟩:=I1.list hq
 have ll:l<s1.heap.objs.size:=let⟨_,ho,_⟩:=pl.isList;aF ho
 refine call_reversed_list pl.isList (Calls.spliced_nil ?_)
 have hlen:=rv.length
 refine PySem.W.call_list_rev (items:=its.toArray) (I1.ok.hd hc) (pl.isList.push _) ⟨_,ax _ rfl,rfl,rfl⟩ (aN ll) (by rw[ay,<-hlen];exact hz) λh' tk acc c' hk hS hacc=>?_
 have sz:(s1.heap.push (revObj l ((its.toArray.size:Int)-1))).objs.size=s1.heap.objs.size+1:=size_push' ..
 have kp:∀b o,s1.heap.get? b=some o->h'.get? b=some o:=λb o e=>hk b o (aN (aF e)) (ag _ e)
 refine⟨.ref (s1.heap.push (revObj l ((its.toArray.size:Int)-1))).objs.size,_,I1.laid (t':=tk) kp (by rw[sz];exact d8 _) (show dR X.prog X.w _ h' _ (.lst ys.reverse) from⟨by rw[bN];exact hz,acc.toList,c',HB rv hacc,?_⟩),rfl,q _ (I1.hok.fresh (by rw[sz];exact d8 _))⟩
 rw[iC];exact hS
theorem tU{a:Expr}{ta:TA}{p1 p2 pos pos2:Pos}(hg:Gl X "list")(hg2:Gl X "reversed")(hm:X.mg "list"=none)(hm2:X.mg "reversed"=none)(hc:X.calm=true)(ha:QA X [a] ta)
  (hs2:starEach [a] X.env=[(false,eval a X.env)]:=by rfl) (hs:starEach [.Call (.Name "reversed" p2) [a] [] pos2] X.env=[(false,eval (.Call (.Name "reversed" p2) [a] [] pos2) X.env)]:=by rfl) :
  QE X (.Call (.Name "list" p1) [.Call (.Name "reversed" p2) [a] [] pos2] [] pos) (qf X.K ta):=⟨BW hg hg2 hm hm2 hc ha.up hs2 hs⟩
end
end L2
end
section
namespace HT
open PySem PyProof.Rows
section
variable{prog:Program}{w:World}{A:Around}{E:Value->Shared->Prop}{s:Shared}
theorem cat_tup0{t b:Addr}{vs ws:List Value}{Q:Value->Shared->Prop}(ht:IsTup s.heap t vs.toArray)(hb:IsTup s.heap b ws.toArray)(hv:vs=[])(h:Q (.ref b) s):wpAny (model prog w) A (binaryOp .Add (.ref t) (.ref b)) Q E s:=by
 obtain⟨⟨cls,dd,data,sl⟩,ho,hc,n,hd⟩:=id ht
 obtain⟨⟨cls2,dd2,data2,sl2⟩,ho2,hc2,n2,hd2⟩:=id hb
 simp only at hc hd hc2 hd2
 subst hc hd hc2 hd2
 exact concat_meets ⟨_,ho,rfl⟩ ⟨_,ho2,rfl⟩ noFill_tuple_add seq_tuple_add gD gf (fM _ _)
   (tuple_addW0 t b vs.toArray ws.toArray n n2 dd dd2 sl sl2 (by simp[hv])) ⟨ho,ho2,h⟩
theorem getItem_tuple_all{t sl:Addr}{items:Array Value}{vl vu:Value}{lo hi:Option Int}{Q:Value->Shared->Prop}(ht:IsTup s.heap t items)(hs:s.heap.IsSliceOf sl vl vu .none)(pl:IsPart vl lo)(pu:IsPart vu hi)
  (hw:sIx items.size 0 lo=0/\sIx items.size items.size hi=items.size) (h:Q (.ref t) s):wpAny (model prog w) A (getItem (.ref t) (.ref sl)) Q E s:=by
 obtain⟨os,hos,hcs,hds⟩:=id hs
 have hTs:s.TypeIs (.ref sl) "slice":=⟨os,hos,hcs⟩
 unfold getItem
 try with_reducible refine wpAny_holding ?_
 first|refine wpAny_bind (wpAny_pure ?_)|skip
 refine wpAny_bind (wpAny_sequenceKey ht.typeIs (by decide) ?_)
 refine wpAny_bind (wpAny_callSpecial?_slot (name:=Str.ofString "__getitem__") ht.typeIs c9
  (wpAny_call_entry c9 ht.typeIs entry_tuple_getitem ?_ (args_tuple_getitem _ _)))
 show wpAny _ _ (Builtin.Tuple.tupleItemsOf (.ref t) >>= _) _ _ s
 refine wpAny_bind (tupleItemsOf_ ht ?_)
 refine wpAny_bind (wpAny_typeOf hTs ?_)
 rw[if_pos (by decide)]
 refine wpAny_bind (ku hs pl pu ?_)
 have hyes:(((sIx items.size 0 lo:Nat):Int)==0&&(1:Int)==1&&(sIx items.size items.size hi-sIx items.size 0 lo)==items.size)=true:=by
  rw[hw.1,hw.2];simp
 show wpAny _ _ (if(((sIx items.size 0 lo:Nat):Int)==0&&(1:Int)==1&&(sIx items.size items.size hi-sIx items.size 0 lo)==items.size)=true then _ else _) _ _ s
 rw[if_pos hyes]
 refine wpAny_bind (m:=Builtin.Tuple.tupleIsExact (.ref t)) ?_
 unfold Builtin.Tuple.tupleIsExact
 refine wpAny_bind (wpAny_typeOf ht.typeIs (wpAny_pure ?_))
 rw[if_pos (by decide)]
 exact wpAny_bind (wpAny_rule (wpAny_pure ⟨_,rfl,wpAny_pure h⟩))
end
end HT
namespace L2
open PySem PySem.Spec PyProof.Rows
section
variable{X:Cx}
def G3(K:Fg):R2:=λx y H Q=>∃a b ys,x=.ref a/\y=.ref b/\cz K H a []/\cz K H b ys/\Q (.ref b) H
theorem GB:iY X (binaryOp .Add) (G3 X.K):=by
 intro pins s σ H x y v u Q I rx ry h
 obtain⟨a,b,ys,rfl,rfl,ha,hb,q⟩:=h
 cases rx
 cases ry
 obtain⟨its,r1,p1,_⟩:=I.tuple ha
 obtain⟨its2,r2,p2,_⟩:=I.tuple hb
 exact HT.cat_tup0 p1 p2 (r1.nil_iff.mpr rfl) ⟨.ref b,H,I,rfl,q⟩
def kQ(K:Fg):R2:=λx y H Q=>G3 K x y H Q\/dz K x y H Q
theorem jj:iY X (binaryOp .Add) (kQ X.K):=GB.or b5
def KA(K:Fg):V->Option Int->Option Int->Hp->VK->Prop:=λx lo hi H Q=>∃a xs,x=.ref a/\cz K H a xs/\(HT.sIx xs.length 0 lo=0/\HT.sIx xs.length xs.length hi=xs.length)/\Q (.ref a) H
theorem Kg:FA X (KA X.K):=by
 intro pins s σ H x v vl vu lo hi sl Q I rx hs pl pu h
 obtain⟨a,xs,rfl,hx,hw,q⟩:=h
 cases rx
 obtain⟨its,r,ht,hz⟩:=I.tuple hx
 have hlen:its.toArray.size=xs.length:=by rw[ay];exact r.length.symm
 refine⟨"tuple",_,c9.lookup,ht.typeIs,?_⟩
 exact HT.getItem_tuple_all ht hs pl pu (by rw[hlen];exact hw) ⟨.ref a,H,I,rfl,q⟩
def Ey(K:Fg):V->Option Int->Option Int->Hp->VK->Prop:=λx lo hi H Q=>KA K x lo hi H Q\/Iw K x lo hi H Q
theorem yn:FA X (Ey X.K):=Kg.or mC
def Kv(K:Fg):R2:=λx y H Q=>∃p q xs,x=.ref p/\y=.ref q/\cz K H p xs/\cz K H q []/\Q (.bl (decide (xs=[]))) H
theorem Jt(hu:X.A.units<cLine):iY X (compareOp .Eq) (Kv X.K):=by
 intro pins s σ H x y v u Q I rx ry h
 obtain⟨p,q,xs,rfl,rfl,h1,h2,qq⟩:=h
 cases rx
 cases ry
 obtain⟨us,r1,t1,_⟩:=I.tuple h1
 obtain⟨vs,r2,t2,_⟩:=I.tuple h2
 have ev:vs=[]:=r2.nil_iff.mpr rfl
 subst ev
 refine SeqAt.eq_tupleAt (e:=λ_=>true) (show s.heap.IsTuple p us.toArray from t1) (show s.heap.IsTuple q ([]:List Value).toArray from t2) hu (λj h1 h2=>absurd h2 (by simp)) ⟨.bl (decide (xs=[])),H,I,?_,qq⟩
 show Value.bool _=Value.bool _
 congr 1
 rw[ay,<-r1.length]
 cases xs<;>simp
def M3(K:Fg):R2:=λx y H Q=>Kv K x y H Q\/vo K x y H Q
theorem Ll(hu:X.A.units<cLine):iY X (compareOp .Eq) (M3 X.K):=(Jt hu).or (kM hu)
end
end L2
end
section
namespace PySem
open Sem (wp)
theorem xV:typeLookup (.type "list") "keys"=pure none:=by rw[typeLookup_type,builtinLookup_eq_fast];kernel_rfl
theorem Er{prog:Program}{w:World}{A:Around}{E:Value->Shared->Prop}{s:Shared}{a:Addr}{xs:Array Value}{k:Nat}{Q:Option Value->Shared->Prop}{sl:Array (Option Value)}
  (hx:s.heap.get? a=some {cls:=.type "list",dict:=none,data:=.seq xs k,slots:=sl}) (hA:A.handled=none)
  (h:∀h' tk,(∀b u,s.heap.get? b=some u->h'.get? b=some u)->Q none {s with heap:=h',toks:=tk}):wpAny (model prog w) A (getAttr? (.ref a) "keys") Q E s:=by
 obtain⟨hp,g,d,tk,os⟩:=s
 have hT:∀tk',(⟨hp,g,d,tk',os⟩:Shared).TypeIs (.ref a) "list":=λ_=>⟨_,hx,rfl⟩
 have f1:=sub_AttributeError
 have f3:=F.slot_list_getattribute.lookup
 have f4:=F.slot_list_getattribute.bind (.ref a)
 have f5:=am_list_getattr_none
 unfold getAttr? getAttrBy? getAttrBy
 repeat (any_goals (first|assumption|exact hT _|((with_reducible show wpAny _ _ (call (Value.builtin "list.__getattribute__") _ _) _ _ _);refine call_meets F.slot_list_getattribute (hT _) am_entry_list_getattribute (F.args_list_getattribute_2 _ _) (meets_getattribute_miss_list a xs k sl "keys" _ xV (by decide +kernel) (by decide +kernel)) ⟨hx,hA,λh' tk' e hx'=>?_⟩)|wp_step))
 obtain⟨t',u',he⟩:=hx'.there
 show wpAny _ _ (getattributeRaised _ _ _ _ _ _ _) _ _ _
 unfold getattributeRaised
 repeat (any_goals (first|assumption|wp_step))
 exact h _ _ hx'.keeps
namespace F
theorem entry_dict_update_loop:entryFor table "dict.update.loop"=some Builtin.«dict.update.loop»:=entryFor_of_tree (by kernel_rfl)
theorem plain_dict_update_loop:plainId "dict.update.loop"=true:=by decide +kernel
end F
def eF(tp:Bool)(h:Heap)(i l:Addr)(k:Nat):Prop:=match tp with
 |true=>h.IsTupleIter i l k
 |false=>h.IsListIter i l k
def eZ(tp:Bool)(h:Heap)(l:Addr)(xs:Array Value):Prop:=match tp with
 |true=>h.IsTuple l xs
 |false=>h.IsList l xs
theorem eF.at{tp:Bool}{h h':Heap}{i l:Addr}{k:Nat}(x:eF tp h i l k)(e:∀o,h.get? i=some o->h'.get? i=some o):eF tp h' i l k:=by
 cases tp with
 |true=>exact Heap.IsTupleIter.at (show h.IsTupleIter i l k from x) e
 |false=>exact Heap.IsListIter.at (show h.IsListIter i l k from x) e
theorem eZ.at{tp:Bool}{h h':Heap}{l:Addr}{xs:Array Value}(x:eZ tp h l xs)(e:∀o,h.get? l=some o->h'.get? l=some o):eZ tp h' l xs:=by
 cases tp with
 |true=>obtain⟨o,ho,r⟩:=(show h.IsTuple l xs from x);exact⟨o,e o ho,r⟩
 |false=>exact Heap.IsList.at (show h.IsList l xs from x) e
theorem eF.extBut{tp:Bool}{h h':Heap}{i l b:Addr}{k:Nat}(x:eF tp h i l k)(hs:Heap.ExtBut b h h')(n:i≠b):eF tp h' i l k:=x.at λo e=>hs i o n e
theorem eZ.extBut{tp:Bool}{h h':Heap}{l b:Addr}{xs:Array Value}(x:eZ tp h l xs)(hs:Heap.ExtBut b h h')(n:l≠b):eZ tp h' l xs:=x.at λo e=>hs l o n e
theorem eF.lt{tp:Bool}{h:Heap}{i l:Addr}{k:Nat}(x:eF tp h i l k):i<h.objs.size:=by
 cases tp with
 |true=>obtain⟨o,ho,_⟩:=(show h.IsTupleIter i l k from x);exact aF ho
 |false=>obtain⟨o,ho,_⟩:=(show h.IsListIter i l k from x);exact aF ho
theorem eZ.lt{tp:Bool}{h:Heap}{l:Addr}{xs:Array Value}(x:eZ tp h l xs):l<h.objs.size:=by
 cases tp with
 |true=>obtain⟨o,ho,_⟩:=(show h.IsTuple l xs from x);exact aF ho
 |false=>obtain⟨o,ho,_⟩:=(show h.IsList l xs from x);exact aF ho
def v5(tp:Bool)(l:Addr):Obj:={cls:=.type (if tp then "tuple_iterator" else "list_iterator"),data:=.fields #[.ref l,.int 0 0]}
section
variable{prog:Program}{w:World}{A:Around}{E:Value->Shared->Prop}{s:Shared}
theorem tR{tp:Bool}{l:Addr}{xs:Array Value}{Q:Value->Shared->Prop}(hl:eZ tp s.heap l xs)(hQ:Q (.ref s.heap.objs.size) {s with heap:=s.heap.push (v5 tp l)}):wpAny (model prog w) A (pyIter (.ref l)) Q E s:=by
 cases tp with
 |true=>exact wpAny_pyIter_tuple (show s.heap.IsTuple l xs from hl) hQ
 |false=>exact wpAny_pyIter_list (show s.heap.IsList l xs from hl) hQ
theorem zv{tp:Bool}{l:Addr}(h:Heap):eF tp (h.push (v5 tp l)) h.objs.size l 0:=by
 cases tp with
 |true=>exact⟨_,ax _ rfl,rfl,rfl⟩
 |false=>exact⟨_,ax _ rfl,rfl,rfl⟩
theorem pV{it t:Addr}{i:Nat}{items}{x:Value}{Q:Value->Shared->Prop}(hit:s.heap.IsTupleIter it t i)
  (ht:s.heap.IsTuple t items) (hx:items[i]?=some x)
  (hQ:∀h',h'.IsTupleIter it t (i+1)->Heap.SameBut it s.heap h'->Q x {s with heap:=h'}) :
  wpAny (model prog w) A (Builtin.SmallTypes.nextOf (.ref it)) Q E s:=by
 obtain⟨o,ho,hc,hd⟩:=id hit
 obtain⟨ol,hol,_,nl,hdl⟩:=ht
 unfold Builtin.SmallTypes.nextOf
 refine wpAny_bind (wpAny_callSpecial?_slot (name:=Str.ofString "__next__") hit.typeIs F.slot_tuple_iterator_next
  (wpAny_call_entry F.slot_tuple_iterator_next hit.typeIs F.entry_tuple_iterator_next ?_ (F.args_tuple_iterator_next_1 _)))
 show wpAny _ _ (field (.ref it) 0 >>= _) _ _ s
 refine wpAny_bind (wpAny_field ho hd (x:=.ref t) rfl ?_)
 show wpAny _ _ (if(Value.ref t==Value.none)=true then _ else _) _ _ s
 rw[if_neg (show ¬((Value.ref t==Value.none)=true) from Bool.false_ne_true)]
 show wpAny _ _ (field (.ref it) 1 >>= _) _ _ s
 refine wpAny_bind (wpAny_field ho hd (x:=.int i 0) rfl ?_)
 show wpAny _ _ (seqItems? (.ref t) >>= _) _ _ s
 refine wpAny_bind (wpAny_seqItems hol hdl ?_)
 simp only[aY,hx]
 refine wpAny_bind (wpAny_setField ho hd (by simp) (wpAny_pure ⟨x,rfl,wpAny_pure (hQ _ ?_ (Heap.SameBut.update ..))⟩))
 exact⟨_,bZ _ ho (Obj.isFreed_of_fields (Obj.data_mapFields hd _)),(Obj.cls_mapFields ..).trans hc,by
  rw[Obj.data_mapFields hd];simp[rawInt]⟩
theorem qO{it t:Addr}{i:Nat}{items}{Q:Value->Shared->Prop}(hh:A.handled=none)
  (hit:s.heap.IsTupleIter it t i) (ht:s.heap.IsTuple t items) (hx:items[i]?=none)
  (hE:∀h' e,Heap.ExtBut it s.heap h'->(∃o,h'.get? e=some o/\o.cls=.type "StopIteration")->E (.ref e) {s with heap:=h'}):wpAny (model prog w) A (Builtin.SmallTypes.nextOf (.ref it)) Q E s:=by
 obtain⟨o,ho,hc,hd⟩:=id hit
 obtain⟨ol,hol,_,nl,hdl⟩:=ht
 unfold Builtin.SmallTypes.nextOf
 refine wpAny_bind (wpAny_callSpecial?_slot (name:=Str.ofString "__next__") hit.typeIs F.slot_tuple_iterator_next
  (wpAny_call_entry F.slot_tuple_iterator_next hit.typeIs F.entry_tuple_iterator_next ?_ (F.args_tuple_iterator_next_1 _)))
 show wpAny _ _ (field (.ref it) 0 >>= _) _ _ s
 refine wpAny_bind (wpAny_field ho hd (x:=.ref t) rfl ?_)
 show wpAny _ _ (if(Value.ref t==Value.none)=true then _ else _) _ _ s
 rw[if_neg (show ¬((Value.ref t==Value.none)=true) from Bool.false_ne_true)]
 show wpAny _ _ (field (.ref it) 1 >>= _) _ _ s
 refine wpAny_bind (wpAny_field ho hd (x:=.int i 0) rfl ?_)
 show wpAny _ _ (seqItems? (.ref t) >>= _) _ _ s
 refine wpAny_bind (wpAny_seqItems hol hdl ?_)
 simp only[aY,hx]
 refine wpAny_bind (wpAny_rule (wpAny_bind (wpAny_setField ho hd (by simp) ?_)))
 show wpAny _ _ (newExc (.type "StopIteration") [] >>= _) _ _ _
 refine wpAny_bind ?_
 simp only[newExc,newTuple]
 refine wpAny_bind (wpAny_newObj_type ?_ (by size_fits))
 refine wpAny_bind (m:=firstArgMember _ _) (wpAny_of_eq (a:=Value.none) (by first|rfl|(simp only[firstArgMember];rfl)) ?_)
 refine wpAny_newObj_type ?_ (by size_fits)
 simp only[raiseNew]
 refine wpAny_bind (wpAny_handled ?_)
 first|rw[show A.in1.handled=none from hh]|rw[hh]
 refine wpAny_bind (wpAny_pure (wpAny_throw ?_))
 exact hE _ _ (((Heap.SameBut.update ..).extBut.push _).push _) ⟨_,ax _ rfl,rfl⟩
theorem rq{tp:Bool}{it l:Addr}{i:Nat}{xs:Array Value}{x:Value}{Q:Value->Shared->Prop}(hit:eF tp s.heap it l i)(hl:eZ tp s.heap l xs)(hx:xs[i]?=some x)
  (hQ:∀h',eF tp h' it l (i+1)->Heap.SameBut it s.heap h'->Q x {s with heap:=h'}):wpAny (model prog w) A (Builtin.SmallTypes.nextOf (.ref it)) Q E s:=by
 cases tp with
 |true=>exact pV hit hl hx hQ
 |false=>exact wpAny_nextOf_list_item hit hl hx hQ
theorem tK{tp:Bool}{it l:Addr}{i:Nat}{xs:Array Value}{Q:Value->Shared->Prop}(hh:A.handled=none)(hit:eF tp s.heap it l i)(hl:eZ tp s.heap l xs)(hx:xs[i]?=none)
  (hE:∀h' e,Heap.ExtBut it s.heap h'->(∃o,h'.get? e=some o/\o.cls=.type "StopIteration")->E (.ref e) {s with heap:=h'}):wpAny (model prog w) A (Builtin.SmallTypes.nextOf (.ref it)) Q E s:=by
 cases tp with
 |true=>exact qO hh hit hl hx hE
 |false=>exact wpAny_nextOf_list_end hh hit hl hx hE
end
abbrev xf(h:Heap)(z TI TO T0:Addr)(b:Bool):Prop:=
 h.get? z=some {cls:=.type "zip",dict:=none,data:=.fields #[rawInt T0,.bool b,.bool false,.ref TI,.ref TO],slots:=#[]}
section
variable{prog:Program}{w:World}{A:Around}{E:Value->Shared->Prop}{s:Shared}{t1 t2:Bool}
theorem E2{a:Addr}{Q:Option Obj->Shared->Prop}(h:Q (s.heap.get? a) s):wpAny (model prog w) A (loadIfAlive a) Q E s:=λΓ p hin=>by
 show wp _ Γ (Sem.loadIfAlive a Sem.pure) _ _ p s
 rw[Sem.wp_loadIfAlive]
 exact wpAny_pure (M:=model prog w) (A:=A) (E:=E) h Γ p hin
theorem Io{z TI TO T0 i1 i2 l1 l2:Addr}{k1 k2:Nat}{xs ys:Array Value}{b:Bool}{oT:Obj}{Q:Fin->Shared->Prop}(hh:A.handled=none)(D:ZipApart z TI TO i1 i2 l1 l2)
  (hz:xf s.heap z TI TO T0 b) (hTI:IsPair s.heap TI (.ref i1) (.ref i2)) (hT0:s.heap.get? T0=some oT)
  (h1:eF t1 s.heap i1 l1 k1) (h2:eF t2 s.heap i2 l2 k2) (hl1:eZ t1 s.heap l1 xs) (hl2:eZ t2 s.heap l2 ys) (hend:xs[k1]?=none)
  (hE:∀h' e,(∀c o,c≠z->c≠i1->c≠i2->s.heap.get? c=some o->h'.get? c=some o)->(∃o,h'.get? e=some o/\o.cls=.type "StopIteration")->E (.ref e) {s with heap:=h'}) :
  wpAny (model prog w) A (Builtin.«zip.__next__» ⟨[.ref z],[]⟩) Q E s:=by
 show wpAny _ _ (field (.ref z) 2 >>= _) _ _ _
 refine wpAny_bind (wpAny_field hz rfl (x:=.bool false) rfl ?_)
 show wpAny _ _ (field (.ref z) 3 >>= _) _ _ _
 refine wpAny_bind (wpAny_field hz rfl (x:=.ref TI) rfl ?_)
 refine wpAny_bind (wpAny_seqItems hTI rfl ?_)
 show wpAny _ _ (Builtin.SmallTypes.ownedTupleIsFree (.ref z) >>= _) _ _ _
 refine wpAny_bind ?_
 unfold Builtin.SmallTypes.ownedTupleIsFree
 refine wpAny_bind (wpAny_field hz rfl (x:=rawInt T0) rfl ?_)
 show wpAny _ _ (loadIfAlive (T0:Int).toNat >>= _) _ _ _
 have hn:(T0:Int).toNat=T0:=by lia
 rw[hn]
 refine wpAny_bind (E2 ?_)
 rw[hT0]
 show wpAny _ _ (field (.ref z) 1 >>= _) _ _ _
 refine wpAny_bind (wpAny_field hz rfl (x:=.bool b) rfl ?_)
 have key:∀(h₁:Heap) (Q':Value->Shared->Prop),Heap.SameBut z s.heap h₁->wpAny (model prog w) A (Builtin.SmallTypes.nextOf (.ref i1)) Q' E {s with heap:=h₁}:=by
  intro h₁ Q' hs₁
  refine tK hh (h1.extBut hs₁.extBut D.i1z) (hl1.extBut hs₁.extBut D.l1z) hend λh₂ e hs₂ he=>?_
  exact hE h₂ e (λc o c1 c2 _ x=>hs₂ _ _ c2 (hs₁.extBut _ _ c1 x)) he
 cases b with
 |true=>
  rw[if_neg (by decide)]
  refine wpAny_pure ?_
  rw[if_neg (by decide)]
  simp only[List.forIn_toArray,fR,jd]
  refine wpAny_bind (wpAny_bind (wpAny_bind (wpAny_holding ?_)))
  show wpAny _ _ (Builtin.SmallTypes.nextOf (.ref i1) >>= _) _ _ _
  exact wpAny_bind (key s.heap _ (Heap.SameBut.refl ..))
 |false=>
  rw[if_pos (by decide)]
  refine wpAny_bind (wpAny_setField_rec hz (by simp) λh₁ hz₁ hs₁=>?_)
  refine wpAny_pure ?_
  rw[if_neg (by decide)]
  simp only[List.forIn_toArray,fR,jd]
  refine wpAny_bind (wpAny_bind (wpAny_bind (wpAny_holding ?_)))
  show wpAny _ _ (Builtin.SmallTypes.nextOf (.ref i1) >>= _) _ _ _
  exact wpAny_bind (key h₁ _ hs₁)
end
structure KL(z TI TO:Addr)(f:Value)(b:Bool)(h h':Heap):Prop where
 at_:h'.get? z=some {cls:=.type "zip",dict:=none,data:=.fields #[f,.bool b,.bool false,.ref TI,.ref TO],slots:=#[]}
 sm:Heap.SameBut z h h'
section
variable{prog:Program}{w:World}{A:Around}{E:Value->Shared->Prop}{s:Shared}{t1 t2:Bool}
theorem Di{z TI TO:Addr}{f f':Value}{b:Bool}{Q:Unit->Shared->Prop}(hz:s.heap.get? z=some {cls:=.type "zip",dict:=none,data:=.fields #[f,.bool b,.bool false,.ref TI,.ref TO],slots:=#[]})
  (k:∀h',KL z TI TO f' b s.heap h'->Q () {s with heap:=h'}):wpAny (model prog w) A (setField (.ref z) 0 f') Q E s:=
 wpAny_setField_rec hz (by simp) λh' a e=>k h' ⟨a,e⟩
theorem E3{z TI TO i1 i2 l1 l2:Addr}{k1 k2:Nat}{xs ys:Array Value}{x y a b:Value}{Q:Value->Shared->Prop}(D:ZipApart z TI TO i1 i2 l1 l2)
  (hz:IsZip s.heap z TI TO .none) (hTI:IsPair s.heap TI (.ref i1) (.ref i2)) (hTO:IsPair s.heap TO a b)
  (h1:eF t1 s.heap i1 l1 k1) (h2:eF t2 s.heap i2 l2 k2) (hl1:eZ t1 s.heap l1 xs) (hl2:eZ t2 s.heap l2 ys) (hx:xs[k1]?=some x) (hy:ys[k2]?=some y)
  (k:∀h',xf h' z TI TO s.heap.objs.size false->eF t1 h' i1 l1 (k1+1)->eF t2 h' i2 l2 (k2+1)->IsPair h' s.heap.objs.size x y->IsPair h' TO x y->
   (∀c o,c≠z->c≠TO->c≠i1->c≠i2->s.heap.get? c=some o->h'.get? c=some o)->Q (.ref s.heap.objs.size) {s with heap:=h'}) :
  wpAny (model prog w) A (Builtin.«zip.__next__» ⟨[.ref z],[]⟩) (λfin s'=>∃v,fin=.done (.ret v)/\Q v s') E s:=by
 refine wpAny_bind (m:=field (.ref z) 2) (wpAny_field hz rfl (x:=.bool false) rfl ?_)
 refine wpAny_bind (m:=field (.ref z) 3) (wpAny_field hz rfl (x:=.ref TI) rfl (wpAny_bind (wpAny_seqItems hTI rfl ?_)))
 refine wpAny_bind (m:=Builtin.SmallTypes.ownedTupleIsFree (.ref z)) (wpAny_bind (wpAny_field hz rfl (x:=.none) rfl (wpAny_pure ?_)))
 refine wpAny_bind (wpAny_rule (wpAny_bind (wpAny_field hz rfl (x:=.ref TO) rfl (wpAny_bind (Di hz λg1 m1=>?_)))))
 simp only[List.zipIdx_cons,List.zipIdx_nil,fR,jd]
 have e1:=m1.sm.extBut
 refine wpAny_bind (wpAny_bind (wpAny_bind (wpAny_onRaise (wpAny_bind (m:=Builtin.SmallTypes.nextOf (.ref i1)) (rq (h1.extBut e1 D.i1z) (hl1.extBut e1 D.l1z) hx λg2 i1' s2=>wpAny_pure ?_)))))
 have e2:=s2.extBut
 have o2:IsPair g2 TO a b:=e2 _ _ D.TOi1 (e1 _ _ D.TOz hTO)
 refine wpAny_bind (wpAny_seqItems o2 rfl (wpAny_bind (wpAny_updateSeq_pair o2 λg3 o3 s3=>wpAny_bind (wpAny_letGo (wpAny_pure ?_)))))
 have e3:=s3.extBut
 replace o3:IsPair g3 TO x b:=o3
 refine wpAny_bind (wpAny_bind (wpAny_onRaise (wpAny_bind (m:=Builtin.SmallTypes.nextOf (.ref i2)) (rq (((h2.extBut e1 D.i2z).extBut e2 D.i12.symm).extBut e3 D.TOi2.symm) (((hl2.extBut e1 D.l2z).extBut e2 D.l2i1).extBut e3 D.l2TO) hy λg4 i2' s4=>wpAny_pure ?_))))
 have e4:=s4.extBut
 have o4:IsPair g4 TO x b:=e4 _ _ D.TOi2 o3
 refine wpAny_bind (wpAny_seqItems o4 rfl (wpAny_bind (wpAny_updateSeq_pair o4 λg5 o5 s5=>wpAny_bind (wpAny_letGo (wpAny_pure (wpAny_pure ?_))))))
 have e5:=s5.extBut
 replace o5:IsPair g5 TO x y:=o5
 refine wpAny_bind (wpAny_seqItems o5 rfl (wpAny_bind (wpAny_newTuple ?_)))
 have size:g5.objs.size=s.heap.objs.size:=(s5.1.trans (s4.1.trans (s3.1.trans (s2.1.trans m1.sm.1))))
 have z5:=ag {cls:=.type "tuple",data:=.seq #[x,y]} (e5 _ _ D.TOz.symm (e4 _ _ D.i2z.symm (e3 _ _ D.TOz.symm (e2 _ _ D.i1z.symm m1.at_))))
 have zl:z≠g5.objs.size:=by rw[size];exact aN (aF hz)
 refine wpAny_bind (m:=Builtin.SmallTypes.ownedTupleHandOut (.ref z) (.ref g5.objs.size)) (wpAny_bind (Di z5 λg6 m6=>wpAny_setField_rec m6.at_ (by simp) λg7 z7 s7=>wpAny_pure ⟨_,rfl,?_⟩))
 have up:∀c o,c≠z->g5.get? c=some o->g7.get? c=some o:=λc o n e=>s7.extBut _ _ n (m6.sm.extBut _ _ n (ag _ e))
 have pr:IsPair g7 g5.objs.size x y:=s7.extBut _ _ (Ne.symm zl) (m6.sm.extBut _ _ (Ne.symm zl) (ax _ rfl))
 rw[size] at pr
 show Q (.ref g5.objs.size) _
 have z7':xf g7 z TI TO g5.objs.size false:=z7
 rw[size] at z7' ⊢
 refine k g7 z7' ?_ ?_ pr (up _ _ D.TOz o5) λc o c1 c2 c3 c4 e=>up c o c1 (e5 _ _ c2 (e4 _ _ c4 (e3 _ _ c2 (e2 _ _ c3 (e1 _ _ c1 e)))))
 ·exact(((i1'.extBut e3 D.TOi1.symm).extBut e4 D.i12).extBut e5 D.TOi1.symm).at λo e=>up _ o D.i1z e
 ·exact(i2'.extBut e5 D.TOi2.symm).at λo e=>up _ o D.i2z e
theorem Im{z TI TO i1 i2 l1 l2:Addr}{k1 k2:Nat}{xs ys:Array Value}{Q:Fin->Shared->Prop}(hh:A.handled=none)(D:ZipApart z TI TO i1 i2 l1 l2)
  (hz:IsZip s.heap z TI TO .none) (hTI:IsPair s.heap TI (.ref i1) (.ref i2)) (h1:eF t1 s.heap i1 l1 k1) (hl1:eZ t1 s.heap l1 xs) (hx:xs[k1]?=none)
  (k:∀h' e,(∀c o,c≠z->c≠i1->c≠i2->s.heap.get? c=some o->h'.get? c=some o)->(∃o,h'.get? e=some o/\o.cls=.type "StopIteration")->E (.ref e) {s with heap:=h'}) :
  wpAny (model prog w) A (Builtin.«zip.__next__» ⟨[.ref z],[]⟩) Q E s:=by
 refine wpAny_bind (m:=field (.ref z) 2) (wpAny_field hz rfl (x:=.bool false) rfl ?_)
 refine wpAny_bind (m:=field (.ref z) 3) (wpAny_field hz rfl (x:=.ref TI) rfl (wpAny_bind (wpAny_seqItems hTI rfl ?_)))
 refine wpAny_bind (m:=Builtin.SmallTypes.ownedTupleIsFree (.ref z)) (wpAny_bind (wpAny_field hz rfl (x:=.none) rfl (wpAny_pure ?_)))
 refine wpAny_bind (wpAny_rule (wpAny_bind (wpAny_field hz rfl (x:=.ref TO) rfl (wpAny_bind (Di hz λg1 m1=>?_)))))
 simp only[List.zipIdx_cons,List.zipIdx_nil,fR,jd]
 have e1:=m1.sm.extBut
 refine wpAny_bind (wpAny_bind (wpAny_bind (wpAny_onRaise (wpAny_bind (m:=Builtin.SmallTypes.nextOf (.ref i1)) (tK hh (h1.extBut e1 D.i1z) (hl1.extBut e1 D.l1z) hx λg2 e x2 ⟨oe,he,ce⟩=>?_)))))
 have z2:=x2 _ _ D.i1z.symm m1.at_
 have ne:e≠z:=λq=>by subst q;rw[z2] at he;cases he;simp at ce
 exact Di z2 λg3 m3=>k g3 e (λc o c1 c2 _ q=>m3.sm.extBut _ _ c1 (x2 _ _ c2 (e1 _ _ c1 q))) ⟨oe,m3.sm.extBut _ _ ne he,ce⟩
end
abbrev Md(t1:Bool)(h:Heap)(l1:Addr):Heap:=h.push (v5 t1 l1)
abbrev Nc(t1 t2:Bool)(h:Heap)(l1 l2:Addr):Heap:=(Md t1 h l1).push (v5 t2 l2)
abbrev Nd(t1 t2:Bool)(h:Heap)(l1 l2:Addr):Heap:=(Nc t1 t2 h l1 l2).push {cls:=.type "tuple",data:=.seq #[.ref h.objs.size,.ref (Md t1 h l1).objs.size]}
abbrev Nf(t1 t2:Bool)(h:Heap)(l1 l2:Addr):Heap:=(Nd t1 t2 h l1 l2).push {cls:=.type "tuple",data:=.seq #[.none,.none]}
abbrev Me(t1 t2:Bool)(h:Heap)(l1 l2:Addr):Heap:=(Nf t1 t2 h l1 l2).push {cls:=.type "zip",data:=.fields #[.none,.bool false,.bool false,.ref (Nc t1 t2 h l1 l2).objs.size,.ref (Nd t1 t2 h l1 l2).objs.size]}
theorem vn{t1 t2:Bool}(l1 l2:Addr)(xs ys:Array Value) :
  Meets (Builtin.«zip.__new__» ⟨[.type "zip",.ref l1,.ref l2],[]⟩) (λ_ R s=>eZ t1 s.heap l1 xs/\eZ t2 s.heap l2 ys/\
   R (.ok (.ret (.ref (Nf t1 t2 s.heap l1 l2).objs.size))) {s with heap:=Me t1 t2 s.heap l1 l2}):=
 .of_wp λprog w A R s h=>by
  obtain⟨hp,g,d,tk,os⟩:=s
  obtain⟨a1,a2,h⟩:=h
  have hsub:=sub_zip
  have b1:eZ t1 (Shared.heap ⟨hp,g,d,tk,os⟩) l1 xs:=a1
  have b2:eZ t2 (Shared.heap ⟨hp.push (v5 t1 l1),g,d,tk,os⟩) l2 ys:=a2.at λo e=>ag _ e
  wp_walk using tR b1,tR b2
  exact⟨_,rfl,h⟩
section
variable{prog:Program}{w:World}{A:Around}{R:Result->Shared->Prop}{t1 t2:Bool}{K:Type}[DecidableEq K]{knd:KeyKind prog w K}
structure FE(t1 t2:Bool)(z TI TO i1 i2 l1 l2:Addr)(xs ys:Array Value)(i:Nat)(h:Heap):Prop where
 ti:IsPair h TI (.ref i1) (.ref i2)
 a1:eF t1 h i1 l1 i
 a2:eF t2 h i2 l2 i
 s1:eZ t1 h l1 xs
 s2:eZ t2 h l2 ys
 st:(IsZip h z TI TO .none/\∃a b,IsPair h TO a b)\/∃T0 b o,xf h z TI TO T0 b/\h.get? T0=some o/\o.cls=.type "tuple"
theorem FE.typeIs{z TI TO i1 i2 l1 l2:Addr}{xs ys:Array Value}{i:Nat}{s:Shared}(st:FE t1 t2 z TI TO i1 i2 l1 l2 xs ys i s.heap):s.TypeIs (.ref z) "zip":=by
 rcases st.st with⟨h,_⟩|⟨_,_,_,h,_⟩<;>exact⟨_,h,rfl⟩
theorem Ip{E:Value->Shared->Prop}{z TI TO i1 i2 l1 l2:Addr}{xs ys:Array Value}{i:Nat}{s:Shared}{Q:Option Value->Shared->Prop}(hh:A.handled=none)(D:ZipApart z TI TO i1 i2 l1 l2)(st:FE t1 t2 z TI TO i1 i2 l1 l2 xs ys i s.heap)(hx:xs[i]?=none)
  (k:∀h',(∀c o,c≠z->c≠i1->c≠i2->s.heap.get? c=some o->h'.get? c=some o)->Q none {s with heap:=h'}):wpAny (model prog w) A (pyNext (.ref z)) Q E s:=by
 have hT:=st.typeIs
 have fin:∀(h':Heap) (e:Addr),(∀c o,c≠z->c≠i1->c≠i2->s.heap.get? c=some o->h'.get? c=some o)->(∃o,h'.get? e=some o/\o.cls=.type "StopIteration")->
   wpAny (model prog w) A (isInstance (.ref e) (.type "StopIteration")) (λa s'=>a=true/\Q none s') E {s with heap:=h'}:=λh' e kp ⟨o,ho,hc⟩=>wpAny_isInstance (T:="StopIteration") (b:=true) ⟨o,ho,hc⟩ isSubtype_stop ⟨rfl,k h' kp⟩
 unfold pyNext
 refine wpAny_bind (wpAny_attempt (wpAny_callSpecial?_slot (name:=Str.ofString "__next__") hT F.slot_zip_next (wpAny_call_entry F.slot_zip_next hT F.entry_zip_next ?_ (F.args_zip_next_1 _))))
 rcases st.st with⟨hz,a,b,ho⟩|⟨T0,b,o,hz,h0,hc⟩
 ·refine Im (ys:=ys) (k2:=0) hh D hz st.ti st.a1 st.s1 hx λh' e kp he=>wpAny_bind (wpAny_mono (fin h' e kp he) (λa s' q=>?_) λ_ _ z=>z)
  obtain⟨rfl,q⟩:=q
  exact wpAny_pure q
 ·refine Io hh D hz st.ti h0 st.a1 st.a2 st.s1 st.s2 hx λh' e kp he=>wpAny_bind (wpAny_mono (fin h' e kp he) (λa s' q=>?_) λ_ _ z=>z)
  obtain⟨rfl,q⟩:=q
  exact wpAny_pure q
end
section
variable{prog:Program}{w:World}{A:Around}{E:Value->Shared->Prop}{s:Shared}{t1 t2:Bool}{K:Type}[DecidableEq K]{knd:KeyKind prog w K}
theorem xB{l1 l2:Addr}{xs ys:Array Value}{Q:Value->Shared->Prop}(a1:eZ t1 s.heap l1 xs)(a2:eZ t2 s.heap l2 ys)
  (h:∀h' z TI TO i1 i2,s.heap.objs.size<=TI->ZipApart z TI TO i1 i2 l1 l2->s.heap.objs.size<=z->s.heap.objs.size<=TO->s.heap.objs.size<=i1->s.heap.objs.size<=i2->IsZip h' z TI TO .none->IsPair h' TO .none .none->IsPair h' TI (.ref i1) (.ref i2)->eF t1 h' i1 l1 0->eF t2 h' i2 l2 0->
   (∀c o,s.heap.get? c=some o->h'.get? c=some o)->Q (.ref z) {s with heap:=h'}) :
  wpAny (model prog w) A (call (.type "zip") [.ref l1,.ref l2]) Q E s:=by
 refine callType_new F.called_zip (by decide) (F.typeCall_zip_2 _ _) (F.newCall_zip_2 _ _) (λobj=>F.args_object_init_3 obj _ _) F.entry_zip_new (vn (t1:=t1) (t2:=t2) l1 l2 xs ys) ⟨a1,a2,?_⟩
 have zA:(Md t1 s.heap l1).objs.size=s.heap.objs.size+1:=bC ..
 have zB:(Nc t1 t2 s.heap l1 l2).objs.size=s.heap.objs.size+2:=(bC ..).trans (by rw[zA])
 have zC:(Nd t1 t2 s.heap l1 l2).objs.size=s.heap.objs.size+3:=(bC ..).trans (by rw[zB])
 have zD:(Nf t1 t2 s.heap l1 l2).objs.size=s.heap.objs.size+4:=(bC ..).trans (by rw[zC])
 have q1:=a1.lt
 have q2:=a2.lt
 have pz:(Me t1 t2 s.heap l1 l2).get? (Nf t1 t2 s.heap l1 l2).objs.size=some _:=ax _ rfl
 have po:(Me t1 t2 s.heap l1 l2).get? (Nd t1 t2 s.heap l1 l2).objs.size=some _:=ag _ (ax _ rfl)
 have pi:(Me t1 t2 s.heap l1 l2).get? (Nc t1 t2 s.heap l1 l2).objs.size=some _:=ag _ (ag _ (ax _ rfl))
 have b2:eF t2 (Me t1 t2 s.heap l1 l2) (Md t1 s.heap l1).objs.size l2 0:=(zv (Md t1 s.heap l1)).at λo e=>ag _ (ag _ (ag _ e))
 have b1:eF t1 (Me t1 t2 s.heap l1 l2) s.heap.objs.size l1 0:=(zv s.heap).at λo e=>ag _ (ag _ (ag _ (ag _ e)))
 refine⟨⟨_,pz,rfl⟩,h _ (Nf t1 t2 s.heap l1 l2).objs.size (Nc t1 t2 s.heap l1 l2).objs.size (Nd t1 t2 s.heap l1 l2).objs.size s.heap.objs.size (Md t1 s.heap l1).objs.size (by lia) ?_ (by lia) (by lia) (by lia) (by lia) pz po pi b1 b2 λc o e=>
  ag _ (ag _ (ag _ (ag _ (ag _ e))))⟩
 rw[zD,zB,zC,zA]
 exact PyProof.Rows.zipApart_new q1 q2
end
end PySem
namespace L2
open PySem PySem.Spec PyProof.Rows
section
variable{X:Cx}
end
section
variable{X:Cx}{C:Addr}{m x:Str}{ps:List Str}{k:Nat}{sp:Sp}{e o:Expr}{es:List Expr}{ta:TE}{t:TA}{p pos apos:Pos}
theorem jG{d i:Expr}{td ty:TE}(hu:X.A.units+1<cLine)(ho:QE X d td)(hi:QE X i ty)(hs:Fq i):QE X (.Subscript d i pos) (nS td ty):=⟨JB hu ho.up hi.up hs⟩
end
section
variable{X:Cx}
end
section
variable{X:Cx}
end
section
variable{X:Cx}{pins:List (Addr×Obj)}{σ:St}{H:Hp}{s:Shared}{d:Addr}{kvs:List (lT×V)}{u u':HO}
theorem bw.retell(I:bw X pins σ H s)(e:H d=some u)(new:dR X.prog X.w (aQ H d u') s.heap d u')(ht:∀xs,u≠.tup xs)(ho:∀x,u≠.own x)(hb:∀ps,u≠.tbl ps)(hf:∀o v,X.H₀ d≠some (.frz o v)):bw X pins σ (aQ H d u') s:=by
 have ne:∀b,H b=none->b≠d:=λb q z=>by rw[z,e] at q;cases q
 refine⟨I.ok,I.os,I.bare,⟨I.base.keep,I.base.slot,λb o q n x=>?_,I.base.there,λb xs q=>?_,λb o v q=>?_,λb ps q=>?_⟩,I.loc,I.cell,?_,λx c q=>?_,λp hp=>?_,λb v q=>?_,I.len⟩
 ·have z:=I.base.free b o q n x
  rw[az (ne b z)];exact z
 ·have z:=I.base.tups b xs q
  rw[az (λc=>by rw[c,e] at z;exact ht xs (Option.some.inj z))];exact z
 ·have z:=I.base.frzs b o v q
  rw[az (λc=>hf o v (by rw[<-c];exact q))];exact z
 ·obtain⟨more,z⟩:=I.base.tbls b ps q
  exact⟨more,by rw[az (λc=>by rw[c,e] at z;exact hb _ (Option.some.inj z))];exact z⟩
 ·rw[az (ne _ I.free)];exact I.free
 ·rw[az (ne _ (I.freeC x c q))];exact I.freeC x c q
 ·obtain⟨h1,h2,h3⟩:=I.pin p hp
  exact⟨h1,by rw[az (ne _ h2)];exact h2,h3⟩
 ·by_cases c:b=d
  ·subst c
   rw[aj] at q;cases q
   exact new
  ·rw[az c] at q
   refine(I.hok b v q).stay (λ_ _ _ z=>z) (λa z=>?_) λa xs z=>?_
   ·rw[az (λc'=>by rw[c',e] at z;exact ho _ (Option.some.inj z))];exact z
   ·rw[az (λc'=>by rw[c',e] at z;exact ht _ (Option.some.inj z))];exact z
end
section
variable{X:Cx}{tg:Expr}
end
end L2
end
section
namespace PySem
open Sem (wp)
section
variable{prog:Program}{w:World}{A:Around}{R:Result->Shared->Prop}{K:Type}[DecidableEq K]{knd:KeyKind prog w K}
end
section
variable{prog:Program}{w:World}{A:Around}{E:Value->Shared->Prop}{s:Shared}{K:Type}[DecidableEq K]{knd:KeyKind prog w K}
end
end PySem
end
section
namespace L2
open PySem PySem.Spec PyProof.Rows
section
variable{X:Cx}
end
section
variable{X:Cx}
theorem qX:∀{us:List Value} {ss:List Str},StrsAre us ss->bX (ss.map V.str) us
 |_,_,.nil=>.nil
 |_,_,.cons x t r=>.cons ⟨t,rfl⟩ (qX r)
def Ds(K:Fg):List V->Hp->VK->Prop:=λxs H Q=>∃(p:Addr) (ss:List Str),xs=[.ref p]/\cx K H p (ss.map V.str)/\ss.length<64/\∀(l:Addr) (ss':List Str),H l=none->ss'.Perm ss->sortedS ss'=true->Q (.ref l) (aQ H l (.lst (ss'.map V.str)))
theorem y4:g8 X (.builtin "sorted") (Ds X.K):=by
 intro pins s σ H xs us Q I r h
 obtain⟨p,ss,rfl,hq,h64,q⟩:=h
 obtain⟨u,rfl,rx⟩:=kz r
 cases rx
 obtain⟨its,r',pl,hz⟩:=I.list hq
 have hl:=r'.length
 rw[af] at hl
 refine sorted_strs pl.isList (qe r') (by rw[<-hl];exact h64) λout ss' a1 a2 a3=>?_
 obtain⟨e,he⟩:=sortedAll_at s.heap its out
 have hn:=qX a1
 have hlen:ss'.length=ss.length:=a2.length_eq
 refine⟨.ref (s.heap.objs.size+1),_,I.laid (t':=s.toks) (λb u q=>sortedAll_old q) (d8 _) (show dR X.prog X.w _ _ _ (.lst (ss'.map V.str)) from⟨?_,out.toList,e,hn,?_⟩),rfl,q _ _ (I.hok.fresh (d8 _)) a2 a3⟩
 ·rw[af,hlen];exact a7 (bW h64) (by decide)
 ·rw[iC];exact he
def uB(td ty tx:TE):TE:=λσ H Q=>td σ H λx H1=>∃a,x=.ref a/\Nj H1 a/\ty σ H1 λy H2=>tx σ H2 λz H3=>∃kvs k,H3 a=some (.dK kvs)/\y=kV k/\kvs.length<sizeLine/\(∀v,cY kvs k=some v->Q v H3)/\(cY kvs k=none->Q z (aQ H3 a (.dK (iJ kvs k z))))
theorem GJ{o e f:Expr}{apos cpos:Pos}{td ty tx:TE}(ho:PE X o td)(he:PE X e ty)(hf:PE X f tx)(m:M2 X o "setdefault" apos e f cpos):PE X (.Call (.Attribute o "setdefault" apos) [e,f] [] cpos) (uB td ty tx):=by
 intro pins s σ H Q I h
 refine wpAny_Call_method m.base m.few m.line eO PySem.F.slot_dict_setdefault PySem.F.type_dict_setdefault (d4 (ho pins s σ H _ I h) λu s1 ⟨x,H1,I1,rx,a,ex,d,q1⟩=>?_)
 subst ex
 obtain rfl:u=Value.ref a:=rx
 obtain⟨t1,t2,_⟩:=xN I1 d
 refine⟨t1,t2,?_⟩
 rw[m.trees]
 refine Calls.callWith_builtin rfl (Calls.evalArgs_plain (Calls.spliced_cons (d4 (he pins s1 σ H1 _ I1 q1) λiv s2 ⟨y,H2,I2,ry,q2⟩=>
  Calls.spliced_cons (d4 (hf pins s2 σ H2 _ I2 q2) λfv s3 ⟨z,H3,I3,rz,kvs,k,e3,ey,hl,qs,qn⟩=>Calls.spliced_nil ?_))))
 subst ey
 obtain⟨z1,l1,vs,rel,dd⟩:=FU I3.hok e3
 refine call_meetsIn PySem.F.slot_dict_setdefault dd.typeIs PySem.F.entry_dict_setdefault (PySem.F.args_dict_setdefault_3 _ _ _) (kt_meets_setdefault (eA X.prog X.w) a (rp ry) l1 fv) ⟨vs,dd,by rw[<-rel.length];exact z1,λv hv=>?_,λhv h' d' hs=>?_⟩
 ·have:=rel.val k
  rw[hv] at this
  cases ev:cY kvs k with
  |none=>rw[ev] at this;exact(show False from this).elim
  |some v'=>
   rw[ev] at this
   exact⟨v',H3,I3.tok _,this,qs v' ev⟩
 ·have:=rel.val k
  rw[hv] at this
  cases ev:cY kvs k with
  |some v'=>rw[ev] at this;exact(show False from this).elim
  |none=>
   have hlen:(iJ kvs k z).length<=sizeLine:=by have:=gg kvs k z;lia
   refine⟨z,_,pQ (t':=s3.toks+1) (ob:=.dK (iJ kvs k z)) I3 (by rw[e3];exact True.intro) hs (let⟨ob,_,_,h1,_⟩:=d';⟨ob,h1⟩) (BE hlen l1 (rel.put k rz) d'),rz,qn ev⟩
end
end L2
end
section
namespace L2
open PySem PyProof.Rows
def Bc(a b:Str):Prop:=¬(b.cps.toList<a.cps.toList)
theorem Bc.trans{a b c:Str}(h:Bc a b)(k:Bc b c):Bc a c:=λz=>by
 have h1:=jz.mp h
 have h2:=jz.mp k
 exact jz.mpr (List.le_trans h1 h2) z
theorem Bc.anti{a b:Str}(h:Bc a b)(k:Bc b a):a=b:=by
 have:=List.le_antisymm (jz.mp h) (jz.mp k)
 cases a;cases b
 simp only[Str.mk.injEq]
 exact Array.toList_inj.mp this
theorem wC:∀(r:List Str) (p:Str),risingS p r=true->(p::r).Pairwise Bc
 |[],p,_=>gd _ _
 |x::r,p,h=>by
  have h':(!PySem.Spec.ltCps x.cps.toList p.cps.toList&&risingS x r)=true:=h
  rw[Bool.and_eq_true,ltCps_eq] at h'
  have hx:Bc p x:=by simpa[Bc] using h'.1
  have ih:=wC r x h'.2
  refine eS.mpr ⟨λy hy=>?_,ih⟩
  rcases aK.mp hy with rfl|hy
  ·exact hx
  ·exact hx.trans ((eS.mp ih).1 y hy)
theorem qV:∀{l:List Str},sortedS l=true->l.Pairwise Bc
 |[],_=>List.Pairwise.nil
 |x::r,h=>wC r x h
theorem GT:∀{l m:List Str},l.Pairwise Bc->m.Pairwise Bc->l.Nodup->m.Nodup->(∀x,x∈l↔x∈m)->l=m
 |[],[],_,_,_,_,_=>rfl
 |[],y::m,_,_,_,_,h=>absurd ((h y).mpr bf) (by simp)
 |x::l,[],_,_,_,_,h=>absurd ((h x).mp bf) (by simp)
 |x::l,y::m,hl,hm,nl,nm,h=>by
  have hl':=eS.mp hl
  have hm':=eS.mp hm
  have nl':=bU.mp nl
  have nm':=bU.mp nm
  have e:x=y:=by
   rcases aK.mp ((h x).mp bf) with e|hx
   ·exact e
   ·rcases aK.mp ((h y).mpr bf) with e|hy
    ·exact e.symm
    ·exact Bc.anti (hl'.1 y hy) (hm'.1 x hx)
  subst e
  have:l=m:=GT hl'.2 hm'.2 nl'.2 nm'.2 λz=>by
   constructor
   ·intro hz
    rcases aK.mp ((h z).mp (a9 _ hz)) with rfl|q
    ·exact absurd hz nl'.1
    ·exact q
   ·intro hz
    rcases aK.mp ((h z).mpr (a9 _ hz)) with rfl|q
    ·exact absurd hz nm'.1
    ·exact q
  rw[this]
end L2
end
section
namespace Bg
open PySem L2
def Tp(H H':Hp):Prop:=∀p xs,H p=some (.tup xs)->H' p=some (.tup xs)
theorem Tp.refl(H:Hp):Tp H H:=λ_ _ h=>h
theorem Tp.trans{H H1 H2:Hp}(x:Tp H H1)(y:Tp H1 H2):Tp H H2:=λp xs h=>y p xs (x p xs h)
theorem Tp.of_same{H H':Hp}(x:aI H H'):Tp H H':=λp xs h=>x p _ h
theorem Tp.lst{p:Addr}{H H1:Hp}{ys:List V}{o:HO}(x:Tp H H1)(hp:H1 p=some (.lst ys)):Tp H (aQ H1 p o):=λb xs h=>by
 have h1:=x b xs h
 rw[az (by rintro rfl;rw[h1] at hp;cases hp)];exact h1
structure bj{α:Type}(R:V->α->Prop)(vs:List V)(rs:List α):Prop where
 len:vs.length=rs.length
 at_:∀(i:Nat) v r,vs[i]?=some v->rs[i]?=some r->R v r
theorem bj.nil{α:Type}{R:V->α->Prop}:bj R [] []:=⟨rfl,λi v r h=>by simp at h⟩
theorem bj.imp{α:Type}{R R':V->α->Prop}{vs:List V}{rs:List α}(h:bj R vs rs)(f:∀v r,R v r->R' v r):bj R' vs rs:=⟨h.len,λi v r a b=>f v r (h.at_ i v r a b)⟩
theorem bj.snoc{α:Type}{R:V->α->Prop}{vs:List V}{rs:List α}{v:V}{r:α}(h:bj R vs rs)(q:R v r):bj R (vs++[v]) (rs++[r]):=by
 refine⟨by simp[h.len],λi w t a b=>?_⟩
 by_cases hi:i<vs.length
 ·rw[au hi] at a
  rw[au (by rw[<-h.len];exact hi)] at b
  exact h.at_ i w t a b
 ·rw[aq (by omega)] at a
  rw[aq (by rw[<-h.len];omega)] at b
  have e:i-vs.length=0:=by
   have:=(ae.mp a).1
   simp at this;omega
  rw[e] at a
  rw[<-h.len,e] at b
  simp at a b
  rw[<-a,<-b];exact q
theorem bj.get{α:Type}{R:V->α->Prop}{vs:List V}{rs:List α}(h:bj R vs rs){i:Nat}(hi:i<rs.length):∃v r,vs[i]?=some v/\rs[i]?=some r/\R v r:=by
 have h1:i<vs.length:=by rw[h.len];exact hi
 exact⟨vs[i],rs[i],aa h1,aa hi,h.at_ i _ _ (aa h1) (aa hi)⟩
theorem bj.of_v{α:Type}{R:V->α->Prop}{vs:List V}{rs:List α}(h:bj R vs rs){i:Nat}{v:V}(e:vs[i]?=some v):∃r,rs[i]?=some r/\R v r:=by
 have h1:=(ae.mp e).1
 obtain⟨v',r,e1,e2,q⟩:=h.get (i:=i) (by rw[<-h.len];exact h1)
 rw[e] at e1;cases e1
 exact⟨r,e2,q⟩
def jD(K:Fg)(H:Hp)(a:Addr)(ns:List Int):Prop:=
 (∃o,H a=some (.frz o (.lst (ns.map V.int))))\/∃(o:Obj) (its:Array Value) (n:Nat),K.lookup a=some o/\o.cls=.type "list"/\o.dict=none/\o.data=.seq its n/\its.size<=sizeLine/\bX (ns.map V.int) its.toList
theorem jD.sq{K:Fg}{H:Hp}{a:Addr}{ns:List Int}(h:jD K H a ns):cx K H a (ns.map V.int):=by
 rcases h with⟨o,h⟩|h
 ·exact .inl (.inr ⟨o,h⟩)
 ·exact .inr h
def Fz(H H':Hp):Prop:=∀p o u,H p=some (.frz o u)->H' p=some (.frz o u)
theorem Fz.of_but{a:Addr}{ys:List V}{H H':Hp}(x:iN a H H')(ha:H a=some (.lst ys)):Fz H H':=λp o u h=>x p _ (by rintro rfl;rw[h] at ha;cases ha) h
theorem Fz.of_same{H H':Hp}(x:aI H H'):Fz H H':=λp o u h=>x p _ h
theorem jD.mono{K:Fg}{H H':Hp}{a:Addr}{ns:List Int}(h:jD K H a ns)(f:Fz H H'):jD K H' a ns:=by
 rcases h with⟨o,h⟩|h
 ·exact .inl ⟨o,f _ _ _ h⟩
 ·exact .inr h
def lU(K:Fg)(H:Hp)(st:Addr)(k:Nat):Prop:=∃scr ns c,H st=some (.lst [.ref scr,.int (k:Nat),.int c])/\jD K H scr ns/\ns.length<=63
theorem lU.lst{K:Fg}{H:Hp}{st:Addr}{k:Nat}(h:lU K H st k):∃ys,H st=some (.lst ys):=by
 obtain⟨scr,ns,c,e,_⟩:=h;exact⟨_,e⟩
theorem lU.mono{K:Fg}{H H':Hp}{a st:Addr}{k:Nat}{ys:List V}(h:lU K H st k)(x:iN a H H')(ha:H a=some (.lst ys))(n:st≠a):lU K H' st k:=by
 obtain⟨scr,ns,c,e,q,l⟩:=h
 exact⟨scr,ns,c,x _ _ n e,q.mono (.of_but x ha),l⟩
theorem lU.same{K:Fg}{H H':Hp}{st:Addr}{k:Nat}(h:lU K H st k)(x:aI H H'):lU K H' st k:=by
 obtain⟨scr,ns,c,e,q,l⟩:=h
 exact⟨scr,ns,c,x _ _ e,q.mono (.of_same x),l⟩
theorem lU.new{K:Fg}{H:Hp}{st p:Addr}{o:HO}{k:Nat}(h:lU K H st k)(hp:H p=none):lU K (aQ H p o) st k:=h.same ((aI.refl H).new hp)
def eK(K:Fg):Sp:=λvs H Q _=>∃(st:Addr) (m:Int) (k:Nat),vs=[.ref st,.int m]/\lU K H st k/\k<=1000000/\0<m/\m<2 ^ 64/\
 ∀(d:Int) (H':Hp),0<=d->d<m->lU K H' st (k+1)->iN st H H'->Q (.int d) H'
def Hx:List Str:=["part","call","say","jump","test","give"]
structure Nm(y:Str):Prop where
 l1:1<=y.length
 l8:y.length<=8
 IP:∀c∈y.cps.toList,97<=c/\c<=122
 no:y∉Hx
def ux(K:Fg):Sp:=λvs H Q _=>∃(st:Addr) (n k:Nat),vs=[.ref st,.int (n:Nat)]/\lU K H st k/\k<=900000/\n<=20/\
 ∀(l:Addr) (ys:List Str) (k':Nat) (H':Hp),H l=none->ys.length=n->ys.Nodup->(∀y∈ys,Nm y)->H' l=some (.lst (ys.map V.str))->lU K H' st k'->k'<=k+11->iN st H H'->Q (.ref l) H'
def yt(K:Fg):Sp:=λvs H Q _=>∃(scr:Addr) (ns:List Int),vs=[.ref scr]/\jD K H scr ns/\ns.length<=63/\∀H',Q (.bl true) H'
abbrev K3:Nat:=0
abbrev KG:Nat:=1
abbrev Ji:Nat:=1
abbrev ID:Nat:=2
theorem dE{c:Prop}[Decidable c]{A B:Prop}(h1:c->A)(h2:¬c->B):if decide c=true then A else B:=by
 by_cases h:c
 ·rw[decide_eq_true h];exact rY (h1 h)
 ·rw[decide_eq_false h];exact gR (h2 h)
theorem oP{c:Prop}[Decidable c]{A B:Prop}(h1:¬c->A)(h2:c->B):if(!decide c)=true then A else B:=by
 by_cases h:c
 ·rw[decide_eq_true h];exact gR (h2 h)
 ·rw[decide_eq_false h];exact rY (h1 h)
theorem MB{b:Bool}{A B:Prop}(h1:b=true->A)(h2:b=false->B):if b=true then A else B:=by
 cases b with
 |true=>exact rY (h1 rfl)
 |false=>exact gR (h2 rfl)
theorem xx{α:Type}{xs:List α}{i:Int}{v:α}(h0:0<=i)(e:xs[i.toNat]?=some v):IR xs i=some v:=by
 have h1:=(ae.mp e).1
 unfold IR Jf
 rw[if_pos h0,if_pos (by lia)]
 exact e
theorem mj{K:Fg}{p:Addr}{xs:List V}{i:Int}{v:V}{H:Hp}{Q:VK}(h:cx K H p xs)(h0:0<=i)(e:xs[i.toNat]?=some v)(q:Q v H):e8 K (.ref p) (.int i) H Q:=
 .inl ⟨p,xs,i,v,rfl,rfl,h,xx h0 e,q⟩
theorem yD{K:Fg}{p:Addr}{xs:List V}{i:Int}{v:V}{H:Hp}{Q:VK}(h:H p=some (.tup xs))(h0:0<=i)(e:xs[i.toNat]?=some v)(q:Q v H):e8 K (.ref p) (.int i) H Q:=
 .inr (.inl ⟨p,xs,i,v,rfl,rfl,cz.of h,xx h0 e,q⟩)
theorem NM{K:Fg}{z:Str}{i:Int}{c:Nat}{H:Hp}{Q:VK}(hz:z.length<=sizeLine)(h0:0<=i)(e:z.cps.toList[i.toNat]?=some c)(q:Q (.str ⟨#[c]⟩) H):e8 K (.str z) (.int i) H Q:=
 .inr (.inr ⟨z,i,c,rfl,rfl,hz,xx h0 e,q⟩)
theorem L3{p:Addr}{xs:List V}{i:Int}{v:V}{H:Hp}{Q:Hp->Prop}(h:H p=some (.lst xs))(h0:0<=i)(h1:i.toNat<xs.length)(q:Q (aQ H p (.lst (xs.set i.toNat v)))):Aa (.ref p) (.int i) v H Q:=by
 refine⟨p,xs,i,i.toNat,rfl,rfl,h,?_,q⟩
 unfold Jf
 rw[if_pos h0,if_pos (by lia)]
theorem bI{n:Nat}(h:n<=100000):n<sizeLine:=dh h (by decide)
theorem fG{D:Addr}{te:TE}{E:lM}{σ:St}{H:Hp}(h:te σ H λy H2=>∃ys,H2 D=some (.lst ys)/\ys.length<sizeLine/\E.nx σ (aQ H2 D (.lst (ys++[y])))):jw D jt te E σ H:=by
 unfold jw jt
 dsimp only
 rw[if_pos rfl]
 exact h
theorem pP(xs:List V)(c:Nat):m4 xs none (some (c:Int))=xs.take c:=by
 unfold m4
 rw[HT.sIx_none,HT.sIx_nat,jc,Nat.sub_zero,<-List.take_eq_take_min]
theorem zc(xs:List V)(c:Nat):m4 xs (some (c:Int)) none=xs.drop c:=by
 unfold m4
 rw[HT.sIx_none,HT.sIx_nat]
 by_cases h:c<=xs.length
 ·rw[Nat.min_eq_left h];exact dI (by rw[cE];lia)
 ·rw[Nat.min_eq_right (by lia),fE,List.drop_of_length_le (by lia),List.take_nil]
theorem vX(ys:List Str):(ys.map V.str).all iH=true:=by
 rw[dN]
 intro v hv
 obtain⟨y,_,rfl⟩:=aC.mp hv
 rfl
theorem zr(y:Str)(ls:List Str):xM (.str y) (ls.map V.str)=decide (y∈ls):=by
 unfold xM
 rw[List.any_map,Bool.eq_iff_iff,fB,decide_eq_true_eq]
 constructor
 ·rintro⟨z,hz,e⟩
  have e':(z==y)=true:=e
  have:z=y:=by simpa using e'
  rw[<-this];exact hz
 ·intro h
  exact⟨y,h,by show(y==y)=true;simp⟩
structure Wk where
 ins:List Str
 out:Option Str
def i7:Option Str->V
 |none=>.non
 |some y=>.str y
def FD(H:Hp)(v:V)(w:Wk):Prop:=∃p t,v=.ref p/\H p=some (.tup [.ref t,i7 w.out])/\H t=some (.tup (w.ins.map V.str))
theorem FD.tp{H H':Hp}{v:V}{w:Wk}(h:FD H v w)(x:∀b xs,H b=some (.tup xs)->H' b=some (.tup xs)):FD H' v w:=by
 obtain⟨p,t,e,a,b⟩:=h
 exact⟨p,t,e,x _ _ a,x _ _ b⟩
def wn(last:List Str):List Wk->Str->Bool
 |[],y=>decide (y∈last)
 |w::r,y=>decide (y∈w.ins) || (!decide (w.out=some y)&&wn last r y)
def FC(H:Hp)(v:V)(ss:List Str):Prop:=∃p,v=.ref p/\H p=some (.tup (ss.map V.str))
structure Bj(last:List Str)(ws:List Wk)(k:Nat)(ss:List Str):Prop where
 srt:ss.Pairwise Bc
 nd:ss.Nodup
 mem:∀y,y∈ss↔wn last (ws.drop k) y=true
structure lN(last:List Str)(ws:List Wk)(pss:List (List Str)):Prop where
 len:pss.length=ws.length+1
 at_:∀(k:Nat) ss,pss[k]?=some ss->Bj last ws k ss
theorem lN.one{last:List Str}{ws:List Wk}{pss qss:List (List Str)}(h:lN last ws pss)(h':lN last ws qss):pss=qss:=by
 refine d6 λk=>?_
 rcases cf k (ws.length+1) with lt|ge
 ·obtain⟨a,ea⟩:∃a,pss[k]?=some a:=⟨_,aa (by rw[h.len];exact lt)⟩
  obtain⟨b,eb⟩:∃b,qss[k]?=some b:=⟨_,aa (by rw[h'.len];exact lt)⟩
  have A:=h.at_ k a ea
  have B:=h'.at_ k b eb
  rw[ea,eb,GT A.srt B.srt A.nd B.nd λx=>by rw[A.mem,B.mem]]
 ·rw[aZ (by rw[h.len];exact ge),aZ (by rw[h'.len];exact ge)]
structure CP(dd last:List Str)(ws:List Wk):Prop where
 d64:dd.length<64
 w100:ws.length<=100
 l100:last.length<=100
 ins:∀w∈ws,w.ins.length<=100/\∀y∈w.ins,y∈dd
 lst:∀y∈last,y∈dd
def ka(H:Hp)(wp lt:Addr)(ws:List Wk)(last:List Str):Prop:=(∃wvs,H wp=some (.tup wvs)/\bj (FD H) wvs ws)/\H lt=some (.tup (last.map V.str))
def kX(_:Fg):Sp:=λvs H Q _=>∃(t:Addr) (m:Option Str) (ss:List Str),vs=[.ref t,i7 m]/\H t=some (.tup (ss.map V.str))/\ss.length<=1000/\
 ∀(p:Addr) (H':Hp),H' p=some (.tup ((ss.filter λy=>!decide (m=some y)).map V.str))->aI H H'->Q (.ref p) H'
def gN(_:Fg):Sp:=λvs H Q _=>∃(wp lt:Addr) (ws:List Wk) (last dd:List Str),vs=[.ref wp,.ref lt]/\ka H wp lt ws last/\CP dd last ws/\
 ∀(l:Addr) (tvs:List V) (pss:List (List Str)) (H':Hp),H l=none->H' l=some (.lst tvs)->bj (FC H') tvs pss->lN last ws pss->aI H H'->Q (.ref l) H'
def A2(pl:Int)(ws:List Wk)(pss:List (List Str)):Nat->Nat->Option (Str×Nat×List Str)
 |0,_=>none
 |f+1,k=>
  if pl<((pss.getD k []).length:Int) then some ("ahead",k,pss.getD k []) else
  match(ws[k]?).bind (·.out) with
  |some y=>if pl-1<(((pss.getD (k+1) []).filter λz=>!decide (some y=some z)).length:Int) then some ("behind",k,(pss.getD (k+1) []).filter λz=>!decide (some y=some z)) else A2 pl ws pss f (k+1)
  |none=>A2 pl ws pss f (k+1)
def Ng(H:Hp)(v:V):Option (Str×Nat×List Str)->Prop
 |none=>v=.non
 |some (wd,k,ss)=>∃p t,v=.ref p/\H p=some (.tup [.str wd,.int (k:Nat),.ref t])/\H t=some (.tup (ss.map V.str))
def kS(_:Fg):Sp:=λvs H Q _=>∃(pl:Int) (wp l:Addr) (wvs tvs:List V) (ws:List Wk) (pss:List (List Str)),vs=[.int pl,.ref wp,.ref l]/\H wp=some (.tup wvs)/\bj (FD H) wvs ws/\H l=some (.lst tvs)/\bj (FC H) tvs pss/\
 pss.length=ws.length+1/\ws.length<=100/\(∀ss∈pss,ss.length<=1000)/\∀(v:V) (H':Hp),Ng H' v (A2 pl ws pss (ws.length+1) 0)->aI H H'->Q v H'
def qd(K:Fg):Sp:=λvs H Q _=>∃(st nm:Addr) (k:Nat) (ys:List Str),vs=[.ref st,.ref nm]/\lU K H st k/\k<=900000/\nm≠st/\H nm=some (.lst (ys.map V.str))/\ys.length<=20/\
 ∀(m:Option Str) (H':Hp),(∀y,m=some y->y∈ys)->lU K H' st (k+1)->iN st H H'->Q (i7 m) H'
def uy(K:Fg):Sp:=λvs H Q _=>∃(st nm:Addr) (m k:Nat) (ys:List Str),vs=[.ref st,.ref nm,.int (m:Nat)]/\lU K H st k/\k<=500000/\nm≠st/\H nm=some (.lst (ys.map V.str))/\1<=ys.length/\ys.length<=20/\m<=100/\
 ∀(wp:Addr) (wvs:List V) (ws:List Wk) (k':Nat) (H':Hp),H' wp=some (.tup wvs)->bj (FD H') wvs ws->ws.length<=m->(∀w∈ws,w.ins.length<=8/\(∀y∈w.ins,y∈ys))->lU K H' st k'->k'<=k+2000->iN st H H'->Q (.ref wp) H'
def kT(_:Fg):Sp:=λvs H Q _=>∃(wp lt:Addr) (k:Nat) (y:Str) (ws:List Wk) (last:List Str),vs=[.ref wp,.ref lt,.int (k:Nat),.str y]/\ka H wp lt ws last/\k<=ws.length/\
 ∀(H':Hp),aI H H'->Q (.bl (wn last (ws.drop k) y)) H'
def kx(_:Fg):Sp:=λvs H Q _=>∃(wp lt nm:Addr) (ws:List Wk) (last ys:List Str),vs=[.ref wp,.ref lt,.ref nm]/\ka H wp lt ws last/\CP ys last ws/\H nm=some (.lst (ys.map V.str))/\ys.Nodup/\
 ∀(l:Addr) (tvs:List V) (pss:List (List Str)) (H':Hp),H l=none->H' l=some (.lst tvs)->bj (FC H') tvs pss->lN last ws pss->aI H H'->Q (.ref l) H'
def yr(K:Fg):Sp:=λvs H Q _=>∃(st nm:Addr) (m k:Nat) (ys:List Str),vs=[.ref st,.ref nm,.int (m:Nat)]/\lU K H st k/\k<=500000/\nm≠st/\H nm=some (.lst (ys.map V.str))/\ys.length<=20/\m<=100/\
 ∀(lt:Addr) (last:List Str) (k':Nat) (H':Hp),H' lt=some (.tup (last.map V.str))->last.length<=20->last.length<=m->(∀y∈last,y∈ys)->lU K H' st k'->k'<=k+100->iN st H H'->Q (.ref lt) H'
abbrev zJ:Nat:=0
abbrev yM:Nat:=1
abbrev vm:Nat:=1
abbrev u0:Nat:=2
abbrev Jj:Nat:=1
abbrev IE:Nat:=2
abbrev Jk:Nat:=2
abbrev IF:Nat:=3
abbrev zF:Nat:=0
abbrev yI:Nat:=1
abbrev Gq:Nat:=1
abbrev Fl:Nat:=2
abbrev Em:Nat:=0
abbrev DY:Nat:=1
abbrev K4:Nat:=1
abbrev KH:Nat:=2
def Dp(b:List V)(x:V):List V:=(x::b).take b.length
def mD(_:Fg):Sp:=λvs H Q _=>∃(b:Addr) (x:V) (xs:List V),vs=[.ref b,x]/\H b=some (.tup xs)/\xs≠[]/\xs.length<=1000/\
 ∀(p:Addr) (H':Hp),H' p=some (.tup (Dp xs x))->aI H H'->Q (.ref p) H'
abbrev BM:Nat:=0
abbrev A6:Nat:=1
section
variable(f:Nat->Nat)(p:Nat->Bool)
variable{f p}
end
def oV:Option Str->V
 |none=>.non
 |some y=>.str y
def cH(os:List (Option Str)):List V:=os.map oV
theorem xW(o:Option Str):iH (oV o)=true:=by cases o<;>rfl
theorem mq(os:List (Option Str)):(cH os).all iH=true:=by
 rw[dN]
 intro v hv
 obtain⟨y,_,rfl⟩:=aC.mp hv
 exact xW y
theorem cG(os:List (Option Str)):(cH os).length=os.length:=af ..
theorem pX{os:List (Option Str)}{i:Nat}{o:Option Str}(h:os[i]?=some o):(cH os)[i]?=some (oV o):=by
 unfold cH;rw[aG,h];rfl
theorem oS{os:List (Option Str)}{i:Nat}{v:V}(h:(cH os)[i]?=some v):∃o,os[i]?=some o/\v=oV o:=by
 unfold cH at h
 rw[aG] at h
 cases e:os[i]? with
 |none=>rw[e] at h;cases h
 |some o=>rw[e] at h;exact⟨o,rfl,(Option.some.inj h).symm⟩
theorem C4(a b:Option Str):zk (oV a) (oV b)=decide (a=b):=by
 cases a with
 |none=>cases b with
  |none=>rfl
  |some y=>rfl
 |some x=>cases b with
  |none=>rfl
  |some y=>
   show(x==y)=decide (some x=some y)
   rw[Bool.eq_iff_iff,beq_iff_eq,decide_eq_true_eq]
   exact⟨λh=>by rw[h],λh=>Option.some.inj h⟩
theorem xX{a b:Option Str}(h:oV a=oV b):a=b:=by
 cases a with
 |none=>cases b with
  |none=>rfl
  |some y=>cases h
 |some x=>cases b with
  |none=>cases h
  |some y=>injection h with h;rw[h]
theorem Gy{a:Option Str}:oV a=.non↔a=none:=⟨λh=>xX (b:=none) h,λh=>by rw[h];rfl⟩
def pY(os:List (Option Str))(x:Option Str):List (Option Str):=(x::os).take os.length
theorem LM(os:List (Option Str))(x:Option Str):Dp (cH os) (oV x)=cH (pY os x):=by
 unfold Dp pY cH
 rw[af,jR,bA]
def blank(x:Str)(o:Option Str):Option Str:=if o=some x then none else o
def jv(os:List (Option Str))(x:Str):List (Option Str):=pY (os.map (blank x)) (some x)
def KC(p:Option Str×Option Str):Bool:=decide (p.1=none) || decide (p.1=p.2)
def AW(as bs:List (Option Str)):Bool:=((as.zip bs).map KC).all id
def mE(_:Fg):Sp:=λvs H Q _=>∃(a b:Addr) (as bs:List (Option Str)),vs=[.ref a,.ref b]/\H a=some (.tup (cH as))/\H b=some (.tup (cH bs))/\as.length=bs.length/\as.length<=1000/\
 ∀H',aI H H'->Q (.bl (AW as bs)) H'
def iB(_:Fg):Sp:=λvs H Q _=>∃(a:Addr) (os:List (Option Str)) (x:Str),vs=[.ref a,.str x]/\H a=some (.tup (cH os))/\os≠[]/\os.length<=1000/\
 ∀(p:Addr) (H':Hp),H' p=some (.tup (cH (jv os x)))->aI H H'->Q (.ref p) H'
abbrev BP:Nat:=0
abbrev A9:Nat:=1
abbrev xS:Nat:=1
abbrev xi:Nat:=2
def df(ns:List Str)(acc:List (Option Str))(o:Option Str):List (Option Str):=acc++[if o∈ns.map some/\o∉acc then o else none]
def bR(os:List (Option Str))(ns:List Str):List (Option Str):=os.foldl (df ns) []
def ja(_:Fg):Sp:=λvs H Q _=>∃(b n:Addr) (os:List (Option Str)) (ns:List Str),vs=[.ref b,.ref n]/\H b=some (.tup (cH os))/\H n=some (.tup (ns.map V.str))/\os.length<=1000/\
 ∀(p:Addr) (H':Hp),H' p=some (.tup (cH (bR os ns)))->aI H H'->Q (.ref p) H'
abbrev Gn:Nat:=0
abbrev Fj:Nat:=1
theorem mB(ns:List Str):∀(os acc:List (Option Str)),(os.foldl (df ns) acc).length=acc.length+os.length
 |[],acc=>by simp
 |o::r,acc=>by
  rw[fQ,mB ns r]
  unfold df
  rw[ai,aM,bD]
  omega
theorem eD(os:List (Option Str))(ns:List Str):(bR os ns).length=os.length:=by unfold bR;rw[mB];simp
def pG(os:List (Option Str))(k:Nat):Prop:=∀j,j<k->os[j]?≠os[k]?
def KM(os:List (Option Str))(ns:List Str)(k:Nat)(o w:Option Str):Prop:=((o∈ns.map some/\pG os k)->w=o)/\(¬(o∈ns.map some/\pG os k)->w=none)
theorem wG(os:List (Option Str))(ns:List Str):∀i,i<=os.length->(((os.take i).foldl (df ns) []).length=i/\∀k o,k<i->os[k]?=some o->∃w,((os.take i).foldl (df ns) [])[k]?=some w/\KM os ns k o w)
 |0,_=>⟨by simp,λk o h=>absurd h (dC _)⟩
 |i+1,hi=>by
  obtain⟨hl,ih⟩:=wG os ns i (by omega)
  have hx:os[i]?=some os[i]:=aa (by omega)
  have et:os.take (i+1)=os.take i++[os[i]]:=by rw[gB,hx];rfl
  rw[et,gy]
  generalize hacc:(os.take i).foldl (df ns) []=acc at hl ih
  show(df ns acc os[i]).length=i+1/\∀k o,k<i+1->os[k]?=some o->∃w,(df ns acc os[i])[k]?=some w/\KM os ns k o w
  unfold df
  refine⟨by rw[ai,hl];rfl,λk o hk ho=>?_⟩
  by_cases hki:k<i
  ·rw[au (by omega)]
   exact ih k o hki ho
  ·have:k=i:=by omega
   subst this
   rw[aq (by omega),hl,bo]
   rw[hx] at ho
   cases ho
   refine⟨_,rfl,?_⟩
   have key:os[k]∈ns.map some->(os[k]∈acc↔¬pG os k):=λhm=>by
    constructor
    ·intro hin hf
     obtain⟨j,hj,e⟩:=aS.mp hin
     have hj':j<k:=by omega
     obtain⟨w,hw,pk⟩:=ih j os[j] hj' (aa (by omega))
     rw[aa hj] at hw
     have hw':acc[j]=w:=Option.some.inj hw
     by_cases c:os[j]∈ns.map some/\pG os j
     ·have:=pk.1 c
      refine hf j hj' ?_
      rw[hx,aa (show j<os.length by omega),<-this,<-hw',e]
     ·have:=pk.2 c
      rw[<-e,hw',this] at hm
      simp at hm
    ·intro hf
     have hex:∃j,j<k/\os[j]?=os[k]?:=by
      apply Classical.byContradiction
      intro hn
      exact hf λj hj e=>hn ⟨j,hj,e⟩
     have least:∀m:Nat,(∃j:Nat,j<m/\os[j]?=os[k]?)->∃j:Nat,os[j]?=os[k]?/\j<m/\∀j',j'<j->os[j']?≠os[k]?:=by
      intro m
      induction m with
      |zero=>rintro⟨j,hj,_⟩;exact absurd hj (dC _)
      |succ m ihm=>
       rintro⟨j,hj,e⟩
       by_cases c:∃j,j<m/\os[j]?=os[k]?
       ·obtain⟨j2,e2,l2,n2⟩:=ihm c
        exact⟨j2,e2,by omega,n2⟩
       ·have:j=m:=by
         apply Classical.byContradiction
         intro z
         exact c ⟨j,by omega,e⟩
        subst this
        exact⟨j,e,by omega,λj' h' e'=>c ⟨j',h',e'⟩⟩
     obtain⟨j,e,hj,hn⟩:=least k hex
     have hj0:os[j]?=some os[k]:=by rw[e,hx]
     obtain⟨w,hw,pk⟩:=ih j os[k] hj hj0
     have:=pk.1 ⟨hm,λj' h' z=>hn j' h' (z.trans e)⟩
     rw[this] at hw
     exact aA hw
   constructor
   ·rintro⟨h1,h2⟩
    rw[if_pos ⟨h1,λz=>(key h1).mp z h2⟩]
   ·intro h
    rw[if_neg λz=>h ⟨z.1,Classical.byContradiction λy=>z.2 ((key z.1).mpr y)⟩]
theorem sD{os:List (Option Str)}{ns:List Str}{k:Nat}{o:Option Str}(h:os[k]?=some o):∃w,(bR os ns)[k]?=some w/\KM os ns k o w:=by
 have hk:=(ae.mp h).1
 have:=(wG os ns os.length (ar _)).2 k o hk h
 rw[a8] at this
 exact this
theorem C9(o:Option Str)(os:List (Option Str)):xM (oV o) (cH os)=decide (o∈os):=by
 unfold xM cH
 rw[List.any_map,Bool.eq_iff_iff,fB,decide_eq_true_eq]
 constructor
 ·rintro⟨z,hz,e⟩
  have e':zk (oV z) (oV o)=true:=e
  rw[C4,decide_eq_true_eq] at e'
  rw[<-e'];exact hz
 ·intro h
  exact⟨o,h,by show zk (oV o) (oV o)=true;rw[C4];exact decide_eq_true rfl⟩
theorem yv(ns:List Str):ns.map V.str=cH (ns.map some):=by unfold cH;rw[cQ];rfl
end Bg
end
section
namespace L2
open PySem PySem.Spec PyProof.Rows
theorem Le{kvs:List (lT×V)}{vs:List (lT×Value)}(r:KV kvs vs):∀{i:Nat} {p:lT×V} {q:lT×Value},kvs[i]?=some p->vs[i]?=some q->p.1=q.1/\cg p.2 q.2:=by
 induction r with
 |nil=>intro i p q e _;simp at e
 |@cons a b as bs h _ ih=>
  intro i p q e1 e2
  match i with
  |0=>cases e1;cases e2;exact h
  |i+1=>exact ih e1 e2
section
variable{X:Cx}{tg:Expr}
structure M0(X:Cx)(o:Expr)(m:Str)(apos cpos:Pos):Prop where
 base:attributeBase o m X.env (eval o X.env)=eval o X.env
 line:(apos.endLine==cpos.line)=true
end
section
variable{X:Cx}{tg l o e f:Expr}{tl td ty tx:TE}{apos cpos:Pos}
theorem zX(ho:QE X o td)(he:QE X e ty)(hf:QE X f tx)(m:M2 X o "setdefault" apos e f cpos):QE X (.Call (.Attribute o "setdefault" apos) [e,f] [] cpos) (uB td ty tx):=⟨GJ ho.up he.up hf.up m⟩
theorem xK{A:Around}{k:Nat}(hr:ic k A):A.units+5<cLine:=dh (Nat.add_le_add_left (by decide:5<=64) _) hr.units
end
def yW(h:Heap)(d:Addr)(es:Array DictEntry)(ep:Nat):Prop:=∃o,h.get? d=some o/\o.ExactDict/\o.data=.dict es ep
section
variable{prog:Program}{w:World}{A:Around}{E:Value->Shared->Prop}{s:Shared}{it d:Addr}{i ep:Nat}{es:Array DictEntry}
theorem Hr{Q:Value->Shared->Prop}(lo:(d==sysModules)=false)(x:yW s.heap d es ep)
  (q:Q (.ref s.heap.objs.size) {s with heap:=s.heap.push {cls:=.type "dict_keyiterator",data:=.fields #[.ref d,.int 0 0,.int es.size 0,.int ep 0]}}):wpAny (model prog w) A (pyIter (.ref d)) Q E s:=by
 obtain⟨o,ho,hc,hd⟩:=x
 have hT:s.TypeIs (.ref d) "dict":=⟨o,ho,hc.1⟩
 refine wpAny_pyIter_slot hT F.slot_dict_iter (wpAny_call_entry F.slot_dict_iter hT F.entry_dict_iter ?_ (F.args_dict_iter_1 _))
 unfold Builtin.«dict.__iter__» Builtin.Dict.dictSlotNone
 refine wpAny_bind (wpAny_bind (wpAny_notOrdered_dict hT ?_))
 refine wpAny_pure (?_:wpAny _ _ (Builtin.Dict.showsAll d >>= _) _ _ s)
 unfold Builtin.Dict.showsAll
 rw[if_neg (by rw[lo];exact Bool.false_ne_true)]
 refine wpAny_bind (wpAny_pure (wpAny_bind (wpAny_dictEntries ho hd (wpAny_bind (wpAny_dictEpoch ho hd ?_)))))
 refine wpAny_bind (wpAny_newObj_type (wpAny_pure ⟨_,rfl,"dict_keyiterator",_,⟨_,ax _ rfl,rfl⟩,F.slot_dict_keyiterator_next.lookup,?_⟩))
 simpa[rawInt] using q
theorem Hs{Q:Option Value->Shared->Prop}(hit:s.heap.IsKeyIter it d i es.size ep)(x:yW s.heap d es ep)(hi:i<es.size)
  (q:∀h',h'.IsKeyIter it d (i+1) es.size ep->Heap.SameBut it s.heap h'->Q (some es[i].key) {s with heap:=h'}):wpAny (model prog w) A (pyNext (.ref it)) Q E s:=by
 obtain⟨o,ho,hc,hd⟩:=id hit
 obtain⟨od,hod,_,hdd⟩:=x
 unfold pyNext
 refine wpAny_bind (wpAny_attempt (wpAny_callSpecial?_slot (name:=Str.ofString "__next__") hit.typeIs F.slot_dict_keyiterator_next (wpAny_call_entry F.slot_dict_keyiterator_next hit.typeIs F.entry_dict_keyiterator_next ?_ (F.args_dict_keyiterator_next_1 _))))
 refine wpAny_bind (wpAny_pure (wpAny_bind (wpAny_bind ?_)))
 first|refine wpAny_bind (wpAny_typeNameOfWhole_keyiter hit.typeIs (wpAny_pure ?_))|refine wpAny_bind (wpAny_typeNameOf_keyiter hit.typeIs (wpAny_pure ?_))
 refine wpAny_bind (wpAny_fieldsOf ho hd ?_)
 simp only[show Builtin.Dict_items.ownsTuple "dict_keyiterator"=false by decide,Bool.false_eq_true,if_false]
 show wpAny _ _ (if(Value.ref d==Value.none)=true then _ else _) _ _ s
 rw[if_neg (show ¬((Value.ref d==Value.none)=true) from Bool.false_ne_true)]
 refine wpAny_bind (wpAny_pure (wpAny_bind (wpAny_dictEntries hod hdd ?_)))
 rw[if_neg (by simp)]
 refine wpAny_bind (wpAny_pure (wpAny_bind (wpAny_dictEpoch hod hdd ?_)))
 rw[if_neg (by simp)]
 refine wpAny_pure ?_
 simp only[show ¬((i:Int)<0) from by omega,if_false,aY,a6 hi]
 refine wpAny_bind ?_
 first|refine wpAny_bind (wpAny_typeNameOfWhole_keyiter hit.typeIs (wpAny_pure ?_))|refine wpAny_bind (wpAny_typeNameOf_keyiter hit.typeIs (wpAny_pure ?_))
 refine wpAny_bind (wpAny_isOneOf_keyiter hit.typeIs ?_)
 show wpAny _ _ (setField (.ref it) 1 (rawInt ((i:Int)+1)) >>= _) _ _ s
 refine wpAny_bind (wpAny_setField ho hd (by simp) ?_)
 have hit':(s.heap.update it (Obj.mapFields (·.setIfInBounds 1 (rawInt ((i:Int)+1))))).IsKeyIter it d (i+1) es.size ep:=
  ⟨_,bZ _ ho (Obj.isFreed_of_fields (Obj.data_mapFields hd _)),(Obj.cls_mapFields ..).trans hc,by rw[Obj.data_mapFields hd];simp[rawInt]⟩
 refine wpAny_bind (wpAny_holding (wpAny_bind (wpAny_isOneOf_keyiter (s:={s with heap:=s.heap.update it (Obj.mapFields (·.setIfInBounds 1 (rawInt ((i:Int)+1))))}) hit'.typeIs ?_)))
 show wpAny _ _ (pure es[i].key) _ _ _
 exact wpAny_pure (wpAny_pure ⟨_,rfl,wpAny_pure (q _ hit' (Heap.SameBut.update ..))⟩)
theorem J9{Q:Option Value->Shared->Prop}(hh:A.handled=none)(hit:s.heap.IsKeyIter it d i es.size ep)(x:yW s.heap d es ep)(hi:es.size<=i)
  (q:∀h',Heap.ExtBut it s.heap h'->Q none {s with heap:=h'}):wpAny (model prog w) A (pyNext (.ref it)) Q E s:=by
 obtain⟨o,ho,hc,hd⟩:=id hit
 obtain⟨od,hod,_,hdd⟩:=x
 unfold pyNext
 refine wpAny_bind (wpAny_attempt (wpAny_callSpecial?_slot (name:=Str.ofString "__next__") hit.typeIs F.slot_dict_keyiterator_next (wpAny_call_entry F.slot_dict_keyiterator_next hit.typeIs F.entry_dict_keyiterator_next ?_ (F.args_dict_keyiterator_next_1 _))))
 refine wpAny_bind (wpAny_pure (wpAny_bind (wpAny_bind ?_)))
 first|refine wpAny_bind (wpAny_typeNameOfWhole_keyiter hit.typeIs (wpAny_pure ?_))|refine wpAny_bind (wpAny_typeNameOf_keyiter hit.typeIs (wpAny_pure ?_))
 refine wpAny_bind (wpAny_fieldsOf ho hd ?_)
 simp only[show Builtin.Dict_items.ownsTuple "dict_keyiterator"=false by decide,Bool.false_eq_true,if_false]
 show wpAny _ _ (if(Value.ref d==Value.none)=true then _ else _) _ _ s
 rw[if_neg (show ¬((Value.ref d==Value.none)=true) from Bool.false_ne_true)]
 refine wpAny_bind (wpAny_pure (wpAny_bind (wpAny_dictEntries hod hdd ?_)))
 rw[if_neg (by simp)]
 refine wpAny_bind (wpAny_pure (wpAny_bind (wpAny_dictEpoch hod hdd ?_)))
 rw[if_neg (by simp)]
 refine wpAny_pure ?_
 simp only[show ¬((i:Int)<0) from by omega,if_false,aY,dH hi]
 refine wpAny_bind ?_
 first|refine wpAny_bind (wpAny_typeNameOfWhole_keyiter hit.typeIs (wpAny_pure ?_))|refine wpAny_bind (wpAny_typeNameOf_keyiter hit.typeIs (wpAny_pure ?_))
 show wpAny _ _ (setField (.ref it) 0 .none >>= _) _ _ s
 refine wpAny_bind (wpAny_setField ho hd (by simp) ?_)
 show wpAny _ _ (newExc (.type "StopIteration") [] >>= _) _ _ _
 refine wpAny_bind ?_
 simp only[newExc,newTuple]
 refine wpAny_bind (wpAny_newObj_type ?_ (by size_fits))
 refine wpAny_bind (m:=firstArgMember _ _) (wpAny_of_eq (a:=Value.none) (by first|rfl|(simp only[firstArgMember];rfl)) (wpAny_newObj_type ?_ (by size_fits)))
 simp only[raiseNew]
 refine wpAny_bind (wpAny_handled ?_)
 rw[show A.in1.handled=none from hh]
 refine wpAny_bind (wpAny_pure (wpAny_throw ?_))
 refine wpAny_bind (wpAny_isInstance (T:="StopIteration") (b:=true) ⟨_,ax _ rfl,rfl⟩ isSubtype_stop ?_)
 exact wpAny_pure (q _ (((Heap.SameBut.update ..).extBut.push _).push _))
end
section
variable{prog:Program}{w:World}{A:Around}{E:Value->Shared->Prop}{s:Shared}{it d:Addr}{i ep:Nat}{es:Array DictEntry}
theorem EB(d:Addr)(lo:(d==sysModules)=false):MeetsIn prog w (Builtin.«dict.items» ⟨[.ref d],[]⟩) (λ_ R s=>(∃es ep,yW s.heap d es ep)/\R (.ok (.ret (.ref s.heap.objs.size))) {s with heap:=s.heap.push {cls:=.type "dict_items",data:=.fields #[.ref d]}}):=
 .of_wp λA R s ⟨⟨es,ep,o,ho,hc,_⟩,h⟩=>by
  unfold Builtin.«dict.items» Builtin.Dict.noArgs
  refine wpAny_bind (wpAny_bind (wpAny_notOrdered_dict ⟨o,ho,hc.1⟩ ?_))
  refine wpAny_pure (?_:wpAny _ _ (Builtin.Dict.showsAll d >>= _) _ _ s)
  unfold Builtin.Dict.showsAll
  rw[if_neg (by rw[lo];exact Bool.false_ne_true)]
  exact wpAny_bind (wpAny_pure (wpAny_bind (wpAny_newObj_type (wpAny_pure ⟨_,rfl,h⟩))))
theorem tZ{v:Addr}{Q:Value->Shared->Prop}(hv:s.heap.IsItemsView v d)(x:yW s.heap d es ep)
  (q:Q (.ref s.heap.objs.size) {s with heap:=s.heap.push {cls:=.type "dict_itemiterator",data:=.fields #[.none,.bool false,.ref d,.int 0 0,.int es.size 0,.int ep 0,.none,.none]}}):wpAny (model prog w) A (pyIter (.ref v)) Q E s:=by
 obtain⟨ov,hov,hcv,hdv⟩:=id hv
 obtain⟨o,ho,_,hd⟩:=x
 refine wpAny_pyIter_slot hv.typeIs F.slot_dict_items_iter (wpAny_call_entry F.slot_dict_items_iter hv.typeIs F.entry_dict_items_iter ?_ (F.args_dict_items_iter_1 _))
 unfold Builtin.«dict_items.__iter__»
 refine wpAny_bind (wpAny_pure (wpAny_bind ?_))
 unfold Builtin.Dict_items.dictOf
 refine wpAny_bind (wpAny_field hov hdv (x:=.ref d) rfl (wpAny_pure (wpAny_bind ?_)))
 unfold Builtin.Dict_items.newIterator
 refine wpAny_bind (wpAny_dictEntries ho hd (wpAny_bind (wpAny_dictEpoch ho hd ?_)))
 simp only[show Builtin.Dict_items.ownsTuple "dict_itemiterator"=true by decide,if_true]
 refine wpAny_newObj_type (wpAny_pure ⟨_,rfl,"dict_itemiterator",_,⟨_,ax _ rfl,rfl⟩,F.slot_dict_itemiterator_next.lookup,?_⟩)
  (by simp only[sizeOk,Builtin.Dict_items.ownedTupleFields,ay,ai,bD,fS,sizeLine_eq];omega)
 simpa[rawInt,Builtin.Dict_items.ownedTupleFields] using q
theorem uc{ok ov:Value}{Q:Option Value->Shared->Prop}(hit:IsItemIter s.heap it d i es.size ep ok ov)(x:yW s.heap d es ep)(hi:i<es.size)
  (q:∀h',IsItemIterOut h' it d (i+1) es.size ep es[i].key es[i].val s.heap.objs.size->h'.get? s.heap.objs.size=some {cls:=.type "tuple",data:=.seq #[es[i].key,es[i].val]}->h'.objs.size=s.heap.objs.size+1->
   (∀b o,b≠it->s.heap.get? b=some o->h'.get? b=some o)->Q (some (.ref s.heap.objs.size)) {s with heap:=h'}):wpAny (model prog w) A (pyNext (.ref it)) Q E s:=by
 obtain⟨hp,g,dr,tk,os⟩:=s
 obtain⟨od,hod,_,hdd⟩:=x
 have hT:Shared.TypeIs ⟨hp,g,dr,tk,os⟩ (.ref it) "dict_itemiterator":=⟨_,hit,rfl⟩
 unfold pyNext
 refine wpAny_bind (wpAny_attempt (wpAny_callSpecial?_slot (name:=Str.ofString "__next__") hT F.slot_dict_itemiterator_next (wpAny_call_entry F.slot_dict_itemiterator_next hT F.entry_dict_itemiterator_next ?_ (F.args_dict_itemiterator_next_1 _))))
 refine wpAny_bind (wpAny_pure (wpAny_bind (wpAny_bind ?_)))
 first|refine wpAny_bind (wpAny_typeNameOfWhole_itemiter hT (wpAny_pure ?_))|refine wpAny_bind (wpAny_typeNameOf_itemiter hT (wpAny_pure ?_))
 refine wpAny_bind (wpAny_fieldsOf hit rfl ?_)
 simp only[show Builtin.Dict_items.ownsTuple "dict_itemiterator"=true by decide,if_true]
 show wpAny _ _ (if(Value.ref d==Value.none)=true then _ else _) _ _ _
 rw[if_neg (show ¬((Value.ref d==Value.none)=true) from Bool.false_ne_true)]
 refine wpAny_bind (wpAny_pure (wpAny_bind (wpAny_dictEntries hod hdd ?_)))
 rw[if_neg (by simp)]
 refine wpAny_bind (wpAny_pure (wpAny_bind (wpAny_dictEpoch hod hdd ?_)))
 rw[if_neg (by simp)]
 refine wpAny_pure ?_
 simp only[show ¬((i:Int)<0) from by omega,if_false,aY,a6 hi]
 refine wpAny_bind ?_
 first|refine wpAny_bind (wpAny_typeNameOfWhole_itemiter hT (wpAny_pure ?_))|refine wpAny_bind (wpAny_typeNameOf_itemiter hT (wpAny_pure ?_))
 refine wpAny_bind (wpAny_isOneOf_itemiter hT ?_)
 show wpAny _ _ (setField (.ref it) 3 (rawInt ((i:Int)+1)) >>= _) _ _ ⟨hp,g,dr,tk,os⟩
 refine wpAny_bind (wpAny_setField_rec hit (by simp) λh₁ he₁ hs₁=>?_)
 replace hs₁:Heap.SameBut it hp h₁:=hs₁
 replace he₁:IsItemIter h₁ it d (i+1) es.size ep ok ov:=by
  have e:((i+1:Nat):Int)=(i:Int)+1:=by omega
  unfold IsItemIter;rw[e];simpa[rawInt] using he₁
 have hT₁:Shared.TypeIs ⟨h₁,g,dr,tk,os⟩ (.ref it) "dict_itemiterator":=⟨_,he₁,rfl⟩
 refine wpAny_bind (wpAny_holding (wpAny_bind (wpAny_isOneOf_itemiter hT₁ ?_)))
 refine wpAny_bind (wpAny_isOneOf_itemiter hT₁ ?_)
 show wpAny _ _ (Builtin.Dict_items.pairFromOwner (.ref it) 6 es[i].key es[i].val) _ _ ⟨h₁,g,dr,tk,os⟩
 generalize es[i].key=kk at q ⊢
 generalize es[i].val=vv at q ⊢
 unfold Builtin.Dict_items.pairFromOwner
 refine wpAny_bind (wpAny_newTuple ?_)
 have he₂:IsItemIter (h₁.push {cls:=.type "tuple",data:=.seq #[kk,vv]}) it d (i+1) es.size ep ok ov:=ag _ he₁
 generalize hh₂:h₁.push {cls:=.type "tuple",data:=.seq #[kk,vv]}=h₂ at he₂
 have hz₁:h₁.objs.size=hp.objs.size:=hs₁.1
 have hil:it<hp.objs.size:=aF hit
 have ht₂:h₂.get? hp.objs.size=some {cls:=.type "tuple",data:=.seq #[kk,vv]}:=by rw[<-hh₂,<-hz₁];exact ax _ rfl
 have hz₂:h₂.objs.size=hp.objs.size+1:=by rw[<-hh₂,bC,hz₁]
 have hk₂:∀b o,b≠it->hp.get? b=some o->h₂.get? b=some o:=λb o hb e=>by rw[<-hh₂];exact ag _ (hs₁.extBut b o hb e)
 show wpAny _ _ (Builtin.Dict_items.ownedTupleIsFree (.ref it) >>= _) _ _ ⟨h₂,g,dr,tk,os⟩
 rw[hz₁]
 clear hh₂ he₁ hs₁ hT₁ hz₁ h₁
 refine wpAny_bind ?_
 unfold Builtin.Dict_items.ownedTupleIsFree
 refine wpAny_bind (wpAny_field he₂ rfl (x:=.none) rfl (wpAny_pure ?_))
 simp only[if_true]
 refine wpAny_bind (wpAny_field he₂ rfl (x:=ok) rfl (wpAny_bind (wpAny_field he₂ rfl (x:=ov) rfl ?_)))
 refine wpAny_bind (wpAny_setField_rec he₂ (by simp) λh₃ he₃ hs₃=>?_)
 replace hs₃:Heap.SameBut it h₂ h₃:=hs₃
 replace he₃:IsItemIter h₃ it d (i+1) es.size ep kk ov:=he₃
 refine wpAny_bind (wpAny_setField_rec he₃ (by simp) λh₄ he₄ hs₄=>?_)
 replace hs₄:Heap.SameBut it h₃ h₄:=hs₄
 replace he₄:IsItemIter h₄ it d (i+1) es.size ep kk vv:=he₄
 refine wpAny_bind (wpAny_setField_rec he₄ (by simp) λh₅ he₅ hs₅=>?_)
 replace hs₅:Heap.SameBut it h₄ h₅:=hs₅
 replace he₅:IsItemIterOut h₅ it d (i+1) es.size ep kk vv hp.objs.size:=he₅
 refine wpAny_bind (wpAny_setField_rec he₅ (by simp) λh₆ he₆ hs₆=>?_)
 replace hs₆:Heap.SameBut it h₅ h₆:=hs₆
 replace he₆:IsItemIterOut h₆ it d (i+1) es.size ep kk vv hp.objs.size:=he₆
 have up:∀b o,b≠it->h₂.get? b=some o->h₆.get? b=some o:=λb o n e=>hs₆.extBut b o n (hs₅.extBut b o n (hs₄.extBut b o n (hs₃.extBut b o n e)))
 refine wpAny_bind (wpAny_letGo (wpAny_pure (wpAny_pure ⟨_,rfl,wpAny_pure (q h₆ he₆ (up _ _ (cR hil) ht₂) ?_ λb o hb e=>up b o hb (hk₂ b o hb e))⟩)))
 show h₆.objs.size=hp.objs.size+1
 rw[hs₆.1,hs₅.1,hs₄.1,hs₃.1,hz₂]
theorem vy{ok ov:Value}{Q:Option Value->Shared->Prop}(hh:A.handled=none)(hit:IsItemIter s.heap it d i es.size ep ok ov)(x:yW s.heap d es ep)(hi:es.size<=i)
  (q:∀h',Heap.ExtBut it s.heap h'->Q none {s with heap:=h'}):wpAny (model prog w) A (pyNext (.ref it)) Q E s:=by
 obtain⟨od,hod,_,hdd⟩:=x
 have hT:s.TypeIs (.ref it) "dict_itemiterator":=⟨_,hit,rfl⟩
 unfold pyNext
 refine wpAny_bind (wpAny_attempt (wpAny_callSpecial?_slot (name:=Str.ofString "__next__") hT F.slot_dict_itemiterator_next (wpAny_call_entry F.slot_dict_itemiterator_next hT F.entry_dict_itemiterator_next ?_ (F.args_dict_itemiterator_next_1 _))))
 refine wpAny_bind (wpAny_pure (wpAny_bind (wpAny_bind ?_)))
 first|refine wpAny_bind (wpAny_typeNameOfWhole_itemiter hT (wpAny_pure ?_))|refine wpAny_bind (wpAny_typeNameOf_itemiter hT (wpAny_pure ?_))
 refine wpAny_bind (wpAny_fieldsOf hit rfl ?_)
 simp only[show Builtin.Dict_items.ownsTuple "dict_itemiterator"=true by decide,if_true]
 show wpAny _ _ (if(Value.ref d==Value.none)=true then _ else _) _ _ s
 rw[if_neg (show ¬((Value.ref d==Value.none)=true) from Bool.false_ne_true)]
 refine wpAny_bind (wpAny_pure (wpAny_bind (wpAny_dictEntries hod hdd ?_)))
 rw[if_neg (by simp)]
 refine wpAny_bind (wpAny_pure (wpAny_bind (wpAny_dictEpoch hod hdd ?_)))
 rw[if_neg (by simp)]
 refine wpAny_pure ?_
 simp only[show ¬((i:Int)<0) from by omega,if_false,aY,dH hi]
 refine wpAny_bind ?_
 first|refine wpAny_bind (wpAny_typeNameOfWhole_itemiter hT (wpAny_pure ?_))|refine wpAny_bind (wpAny_typeNameOf_itemiter hT (wpAny_pure ?_))
 show wpAny _ _ (setField (.ref it) 2 .none >>= _) _ _ s
 refine wpAny_bind (wpAny_setField hit rfl (by simp) ?_)
 show wpAny _ _ (newExc (.type "StopIteration") [] >>= _) _ _ _
 refine wpAny_bind ?_
 simp only[newExc,newTuple]
 refine wpAny_bind (wpAny_newObj_type ?_ (by size_fits))
 refine wpAny_bind (m:=firstArgMember _ _) (wpAny_of_eq (a:=Value.none) (by first|rfl|(simp only[firstArgMember];rfl)) (wpAny_newObj_type ?_ (by size_fits)))
 simp only[raiseNew]
 refine wpAny_bind (wpAny_handled ?_)
 rw[show A.in1.handled=none from hh]
 refine wpAny_bind (wpAny_pure (wpAny_throw ?_))
 refine wpAny_bind (wpAny_isInstance (T:="StopIteration") (b:=true) ⟨_,ax _ rfl,rfl⟩ isSubtype_stop ?_)
 exact wpAny_pure (q _ (((Heap.SameBut.update ..).extBut.push _).push _))
end
section
variable{X:Cx}{pins:List (Addr×Obj)}{σ:St}{H:Hp}{s:Shared}{d:Addr}{kvs:List (List bY×V)}{o:Obj}
theorem bw.unfrzT(I:bw X pins σ H s)(e:H d=some (.dT kvs)):∀o v,X.H₀ d≠some (.frz o v):=λo v q=>by
 have:=I.base.frzs d o v q
 rw[e] at this;cases this
theorem bw.freezeT(I:bw X pins σ H s)(e:H d=some (.dT kvs)):∃o es ep,o.data=.dict es ep/\bw X pins σ (aQ H d (.frz o (.dT kvs))) s:=by
 have k:=I.hok d _ e
 obtain⟨z,lo,xs,r,o,es,ep,h1,h2,h3,h4⟩:=id k
 refine⟨o,es,ep,h3,I.retell e ⟨h1,z,lo,xs,Paired.mapP r λp q z=>⟨z.1,?_,z.2.2⟩,o,es,ep,h1,h2,h3,h4⟩ (λ_ q=>by cases q) (λ_ q=>by cases q) (λ_ q=>by cases q) (I.unfrzT e)⟩
 rw[az (λc=>by have:=z.2.1;rw[c,e] at this;cases this)];exact z.2.1
theorem bw.thawT(I:bw X pins σ H s)(e:H d=some (.frz o (.dT kvs)))(hf:∀o v,X.H₀ d≠some (.frz o v)):bw X pins σ (aQ H d (.dT kvs)) s:=by
 have k:=I.hok d _ e
 exact I.retell e (k.2.stay (λ_ _ _ z=>z) (λa z=>by rw[az (λc'=>by rw[c',e] at z;cases z)];exact z) λa xs z=>by rw[az (λc'=>by rw[c',e] at z;cases z)];exact z) (λ_ q=>by cases q) (λ_ q=>by cases q) (λ_ q=>by cases q) hf
theorem mS{es:Array DictEntry}{ep:Nat}(I:bw X pins σ H s)(e:H d=some (.frz o (.dT kvs)))(hep:o.data=.dict es ep):(d==sysModules)=false/\yW s.heap d es ep/\es.size=kvs.length/\
  ∀(i:Nat) (hi:i<es.size) k v,kvs[i]?=some (k,v)->∃b,es[i].key=.ref b/\H b=some (.tup (k.map kN))/\cg v es[i].val:=by
 obtain⟨ho,z,lo,xs,r,o',es',ep',h1,h2,h3,h4,h5⟩:=I.hok d _ e
 rw[ho] at h1;cases h1
 rw[hep] at h3;cases h3
 have sz:es.size=xs.length:=size_of_entries h4
 refine⟨lo,⟨o,ho,h2,hep⟩,sz.trans (Paired.length r).symm,λi hi k v hk=>?_⟩
 have hx:xs[i]?=some (xs[i]'(by rw[<-sz];exact hi)):=aa _
 generalize xs[i]'(by rw[<-sz];exact hi)=x at hx
 have get:∀{l:List (List bY×V)} {m:List (List bY×Addr×Value)},KT H l m->∀{i:Nat} {p q},l[i]?=some p->m[i]?=some q->p.1=q.1/\H q.2.1=some (.tup (p.1.map kN))/\cg p.2 q.2.2:=by
  intro l m q
  induction q with
  |nil=>intro i p q h;simp at h
  |cons hq t ih=>
   intro i p q h1 h2
   cases i with
   |zero=>simp at h1 h2;rw[<-h1,<-h2];exact hq
   |succ i=>exact ih (by simpa using h1) (by simpa using h2)
 obtain⟨e1,e2,e3⟩:=get r hk hx
 have ent:=entry_at h4 i
 rw[hx,a6 hi] at ent
 have ent:es[i]=entryOfKey (tupleKind (cS X.prog X.w)) x:=Option.some.inj ent
 exact⟨x.2.1,by rw[ent];rfl,e2,by rw[ent];exact e3⟩
def yG(d:Addr)(kvs:List (List bY×V))(o:Obj):It:=⟨λi H=>H d=some (.frz o (.dT kvs))/\i<kvs.length,λi H x H'=>H'=H/\∃k v b,kvs[i]?=some (k,v)/\x=.ref b/\H b=some (.tup (k.map kN)),λi H=>H d=some (.frz o (.dT kvs))/\kvs.length<=i⟩
theorem CH{P:Program}{w:World}{K:Fg}{tg:Expr}(d it:Addr)(kvs:List (List bY×V))(o:Obj)(es:Array DictEntry)(ep:Nat)(hep:o.data=.dict es ep):rT P w K tg (yG d kvs o) [it] it (λi h=>h.IsKeyIter it d i es.size ep) where
 mem:=by simp
 obj:=λi h st b hb=>by
  have e:b=it:=by simpa using hb
  subst e
  obtain⟨o,e,c,d⟩:=st
  exact⟨o,e,λv z=>by rw[d] at z;cases z⟩
 keep:=λi h h' st k=>st.at λo e=>k it (by simp) o e
 item:=by
  intro X hP hw hK hc i pins s σ H E I hf st hg
  subst hP hw hK
  obtain⟨e,hi⟩:=hg
  obtain⟨lo,rd,sz,at_⟩:=mS I e hep
  obtain⟨f0,f1,f2,f3,f4,f5⟩:=hf it (by simp)
  have hi':i<es.size:=by lia
  obtain⟨b,ek,hb,_⟩:=at_ i hi' kvs[i].1 kvs[i].2 (aa hi)
  refine Hs st rd hi' λh' st' sb=>?_
  have I1:bw X pins σ H {s with heap:=h'}:=I.turned (t':=s.toks) (λb o hb e=>(sb.2 b hb).trans e) f0 f1 f3 f4 f5
  obtain⟨o',e',c',d'⟩:=id st'
  exact⟨es[i].key,rfl,v3 (s:={s with heap:=h'}) e' c' d' (by decide) ⟨.ref b,H,I1,ek,⟨rfl,_,_,b,aa hi,rfl,hb⟩,st',λb hb=>(hf b hb).1⟩⟩
 done:=by
  intro X hP hw hK hc i pins s σ H E I hf st hg
  subst hP hw hK
  obtain⟨e,hi⟩:=hg
  obtain⟨lo,rd,sz,_⟩:=mS I e hep
  obtain⟨f0,f1,f2,f3,f4,f5⟩:=hf it (by simp)
  exact J9 (I.ok.hd hc) st rd (by lia) λh' eb=>⟨rfl,I.turned (t':=s.toks) (λb o hb e=>eb b o hb e) f0 f1 f3 f4 f5⟩
 self:=λ_ _ _ _ _ st h=>wpAny_pyIter_keyiter st h
def Fd(d:Addr)(kvs:List (List bY×V))(o:Obj):It:=⟨λi H=>H d=some (.frz o (.dT kvs))/\i<kvs.length,λi H x H'=>∃p k v b,H p=none/\x=.ref p/\H'=aQ H p (.tup [.ref b,v])/\kvs[i]?=some (k,v)/\H b=some (.tup (k.map kN)),λi H=>H d=some (.frz o (.dT kvs))/\kvs.length<=i⟩
theorem AV{P:Program}{w:World}{K:Fg}{elts:List Expr}{k:Nat}{pos:Pos}(d it:Addr)(kvs:List (List bY×V))(o:Obj)(es:Array DictEntry)(ep:Nat)(hep:o.data=.dict es ep):rT P w K (.Tuple elts k pos) (Fd d kvs o) [it] it (λi h=>∃ok ov,IsItemIter h it d i es.size ep ok ov) where
 mem:=by simp
 obj:=λi h st b hb=>by
  have e:b=it:=by simpa using hb
  subst e
  obtain⟨ok,ov,e⟩:=st
  exact⟨_,e,λv z=>by have z':Data.fields _=Data.cell v:=z;cases z'⟩
 keep:=λi h h' st k=>let⟨ok,ov,e⟩:=st;⟨ok,ov,k it (by simp) _ e⟩
 item:=by
  intro X hP hw hK hc i pins s σ H E I hf st hg
  subst hP hw hK
  obtain⟨ok,ov,st⟩:=st
  obtain⟨e,hi⟩:=hg
  obtain⟨lo,rd,sz,at_⟩:=mS I e hep
  have hi':i<es.size:=by lia
  obtain⟨bk,ek,hbk,rv⟩:=at_ i hi' kvs[i].1 kvs[i].2 (aa hi)
  refine uc st rd hi' λh1 ho hT hsz hkp=>?_
  refine⟨_,rfl,?_⟩
  have fT:oC X pins H s.heap.objs.size:=I.fpOk (ar _) (I.hok.fresh (ar _))
  have itlt:it<s.heap.objs.size:=aF st
  refine wpAny_letOwnedTupleGo_items (s:={s with heap:=h1}) ho λh2 he2 hs2=>?_
  have I1:bw X pins σ H {s with heap:=h2,toks:=s.toks}:=I.turnedL (t':=s.toks) (ch:=[it]) (λb o hb q=>by
   have b1:b≠it:=λz=>hb (by simp[z])
   exact(hs2.2 b b1).trans (hkp b o b1 q)) hf
  have gT:h2.get? s.heap.objs.size=some {cls:=.type "tuple",data:=.seq #[es[i].key,es[i].val]}:=(hs2.2 _ (cR itlt)).trans hT
  have I2:=I1.adopt (T:=s.heap.objs.size) (o:=.tup [.ref bk,kvs[i].2]) fT (sG (X:=X) gT (show cg (.ref bk) _ from ek) rv)
  refine⟨.ref s.heap.objs.size,_,I2,rfl,⟨s.heap.objs.size,kvs[i].1,kvs[i].2,bk,fT.1,rfl,rfl,aa hi,hbk⟩,⟨es[i].key,es[i].val,he2⟩,λb hb=>?_⟩
  have nT:b≠s.heap.objs.size:=by rw[ao.mp hb];exact aN itlt
  rw[az nT];exact(hf b hb).1
 done:=by
  intro X hP hw hK hc i pins s σ H E I hf st hg
  subst hP hw hK
  obtain⟨ok,ov,st⟩:=st
  obtain⟨e,hi⟩:=hg
  obtain⟨lo,rd,sz,_⟩:=mS I e hep
  obtain⟨f0,f1,f2,f3,f4,f5⟩:=hf it (by simp)
  exact vy (I.ok.hd hc) st rd (by lia) λh' eb=>⟨rfl,I.turned (t':=s.toks) (λb o hb e=>eb b o hb e) f0 f1 f3 f4 f5⟩
 self:=λ_ _ _ _ _ st h=>by
  obtain⟨ok,ov,st⟩:=st
  exact PySem.W.kcp_self st h
end
section
variable{X:Cx}{tg:Expr}
def tG(te:TE):TI:=λσ H R=>te σ H λx H1=>∃d kvs,x=.ref d/\H1 d=some (.dT kvs)/\∀o,R (yG d kvs o) (aQ H1 d (.frz o (.dT kvs)))
theorem p6{l:Expr}{tl:TE}(hl:QE X l tl):QI X tg l (tG tl):=⟨by
 intro pins s σ H R I h
 refine d4 (hl.up pins s σ H _ I h) λv s1 ⟨x,H1,I1,r1,q1⟩=>?_
 obtain⟨d,kvs,rfl,e,q⟩:=q1
 cases r1
 obtain⟨o,es,ep,hep,I2⟩:=I1.freezeT e
 obtain⟨lo,rd,sz,_⟩:=mS I2 aj hep
 refine Hr lo rd ?_
 refine⟨s1.heap.objs.size,[s1.heap.objs.size],_,_,_,rfl,I2.kept (t':=s1.toks) λb o e=>ag _ e,CH d _ kvs o es ep hep,⟨_,ax _ rfl,rfl,rfl⟩,λb hb=>?_,q o⟩
 have e:b=s1.heap.objs.size:=by simpa using hb
 subst e
 exact I2.fpOk (ar _) (I2.hok.fresh (ar _))⟩
def su(te:TE):TI:=λσ H R=>te σ H λx H1=>∃d kvs,x=.ref d/\H1 d=some (.dT kvs)/\∀o,R (Fd d kvs o) (aQ H1 d (.frz o (.dT kvs)))
theorem qS{l:Expr}{tl:TE}{apos cpos:Pos}{elts:List Expr}{k:Nat}{pos:Pos}(hl:QE X l tl)(m:M0 X l "items" apos cpos):QI X (.Tuple elts k pos) (.Call (.Attribute l "items" apos) [] [] cpos) (su tl):=⟨by
 intro pins s σ H R I h
 refine wpAny_Call_method (T:="dict") (id:="dict.items") m.base rfl m.line eO PySem.F.slot_dict_items PySem.F.type_dict_items (d4 (hl.up pins s σ H _ I h) λv s1 ⟨x,H1,I1,r1,q1⟩=>?_)
 obtain⟨d,kvs,rfl,e,q⟩:=q1
 cases r1
 obtain⟨t1,t2,_⟩:=xN I1 (.inr ⟨kvs,.inl e⟩)
 refine⟨t1,t2,?_⟩
 obtain⟨z,lo,xs0,r0,o0,es0,ep0,h1,h2,h3,_⟩:=I1.hok d _ e
 show wpAny _ _ (callWith cpos (.builtin "dict.items") [.ref d] [] []) _ _ s1
 refine method_meetsIn PySem.F.slot_dict_items PySem.F.entry_dict_items rfl (PySem.evalArgs_none ⟨rfl,⟨o0,h1,h2.1⟩,PySem.F.args_dict_items_1 _,_,EB d lo,⟨es0,ep0,o0,h1,h2,h3⟩,?_⟩)
 have I1':bw X pins σ H1 {s1 with heap:=s1.heap.push {cls:=.type "dict_items",data:=.fields #[.ref d]}}:=I1.kept (t':=s1.toks) λb o e=>ag _ e
 obtain⟨o,es,ep,hep,I2⟩:=I1'.freezeT e
 obtain⟨_,rd,sz,_⟩:=mS I2 aj hep
 refine tZ (s:={s1 with heap:=s1.heap.push {cls:=.type "dict_items",data:=.fields #[.ref d]}}) ⟨_,ax _ rfl,rfl,rfl⟩ rd ?_
 refine⟨_,[_],_,_,_,rfl,I2.kept (t':=s1.toks) λb o e=>ag _ e,AV d _ kvs o es ep hep,⟨.none,.none,ax _ rfl⟩,λb hb=>?_,q o⟩
 have e:b=(s1.heap.push {cls:=.type "dict_items",data:=.fields #[.ref d]}).objs.size:=by simpa using hb
 subst e
 exact I2.fpOk (ar _) (I2.hok.fresh (ar _))⟩
def Mp(H H':Hp)(R:Hp->Prop):Prop:=R H'\/∃d kvs kvs' o,H d=some (.dT kvs)/\H' d=some (.frz o (.dT kvs'))/\R (aQ H' d (.dT kvs'))
def HN(te:TE):TE:=λσ H Q=>te σ H λv H'=>Mp H H' (Q v)
theorem G0{e:Expr}{te:TE}(h:QE X e te):QE X e (HN te):=⟨by
 intro pins s σ H Q I q
 refine d4 (h.up pins s σ H _ I q) λv s1 ⟨x,H1,I1,r1,q1⟩=>?_
 rcases q1 with q1|⟨d,kvs,kvs',o,e1,e2,q1⟩
 ·exact⟨x,H1,I1,r1,q1⟩
 ·exact⟨x,_,I1.thawT e2 (I.unfrzT e1),r1,q1⟩⟩
def pw(ts:TS):TS:=λD σ H=>ts {D with nx:=λσ' H'=>Mp H H' (D.nx σ')} σ H
theorem ko{st:Stmt}{ts:TS}(h:QS X st ts):QS X st (pw ts):=⟨by
 intro pins s σ H D I q
 refine d4 (h.up pins s σ H _ I q) λf s1 h1=>?_
 cases f with
 |next=>
  obtain⟨σ',H1,I1,q1⟩:=h1
  rcases q1 with q1|⟨d,kvs,kvs',o,e1,e2,q1⟩
  ·exact⟨σ',H1,I1,q1⟩
  ·exact⟨σ',_,I1.thawT e2 (I.unfrzT e1),q1⟩
 |ret u=>exact h1
 |brk=>exact h1
 |cont=>exact h1⟩
end
theorem mW{prog:Program}{w:World}{h h':Heap}{k:List bY}{a:Addr}(x:(tupleKind (cS prog w)).is h k a)(f:∀o,o.cls=.type "tuple"->h.get? a=some o->h'.get? a=some o):(tupleKind (cS prog w)).is h' k a:=by
 obtain⟨o,its,n,h1,h2,r⟩:=x
 exact⟨o,its,n,f o h2 h1,h2,r⟩
def kL(kvs more:List (List bY×V)):List (List bY×V):=more.foldl (λacc kv=>iJ acc kv.1 kv.2) kvs
theorem nM:∀(more kvs:List (List bY×V)),(kL kvs more).length<=kvs.length+more.length
 |[],kvs=>ar _
 |p::r,kvs=>by
  have h1:=nM r (iJ kvs p.1 p.2)
  have h2:=gg kvs p.1 p.2
  show(kL (iJ kvs p.1 p.2) r).length<=kvs.length+(r.length+1)
  lia
section
variable{prog:Program}{w:World}{A:Around}{R:Result->Shared->Prop}
def Mn(prog:Program)(w:World)(H:Hp)(h:Heap)(xs:Array Value)(kvs:List (List bY×V)):Prop:=∀(j:Nat) k v x,kvs[j]?=some (k,v)->xs[j]?=some x->∃t a u,x=.ref t/\h.IsTuple t #[.ref a,u]/\(tupleKind (cS prog w)).is h k a/\H a=some (.tup (k.map kN))/\cg v u
theorem Mn.keep{H:Hp}{h h':Heap}{xs:Array Value}{kvs:List (List bY×V)}(p:Mn prog w H h xs kvs)(f:∀c o,o.cls=.type "tuple"->h.get? c=some o->h'.get? c=some o):Mn prog w H h' xs kvs:=λj k v x e1 e2=>by
 obtain⟨t,a,u,e,⟨o,ho,hc,r⟩,i,z⟩:=p j k v x e1 e2
 exact⟨t,a,u,e,⟨o,f t o hc ho,hc,r⟩,mW i (f a),z⟩
theorem EX{H:Hp}{d it l:Addr}{xs:Array Value}{more:List (List bY×V)}{res:Value}(hh:A.handled=none)(hu:A.units+2<cLine)(n1:d≠it)(n2:d≠l)(n3:it≠l)(hk:more.length=xs.size)(hz:xs.size<=100000) :
  ∀(m i:Nat) (s:Shared) (kvs:List (List bY×V)) (ys:List (List bY×Addr×Value)),xs.size-i=m->i<=xs.size->s.heap.IsListIter it l i->s.heap.IsList l xs->Mn prog w H s.heap xs more->KT H kvs ys->s.heap.DictOfH (tupleKind (cS prog w)) d ys->ys.length<=i->
   (∀h' tk ys',KT H (kL kvs (more.drop i)) ys'->h'.DictOfH (tupleKind (cS prog w)) d ys'->(∀c o,c≠d->c≠it->s.heap.get? c=some o->h'.get? c=some o)->R (.ok (.ret res)) {s with heap:=h',toks:=tk})->
   codeAny (model prog w) A (.builtin "dict.update.loop" ⟨[.ref d,.ref it,rawInt i,res],[]⟩) R s:=by
 intro m
 induction m with
 |zero=>
  intro i s kvs ys hm hi hit hl P kt dd hlen hR
  have ei:i=xs.size:=by lia
  refine codeAny_builtin F.entry_dict_update_loop ?_
  rw[Around.under_plainId F.plain_dict_update_loop _]
  show wpAny _ A.in1 (pyNext (.ref it) >>= _) _ _ s
  refine wpAny_bind (wpAny_pyNext_list_end (A:=A.in1) hh hit hl (by rw[ei];simp) λh' eb=>?_)
  rw[show more.drop i=[] from List.drop_of_length_le (by lia)] at hR
  obtain⟨o,es,ep,ho,hc,hd,he,his,hn⟩:=dd
  refine wpAny_bind (wpAny_pure (wpAny_pure (hR h' s.toks ys kt ⟨o,es,ep,eb d o n1 ho,hc,hd,he,λx hx=>mW (his x hx) λo' hc' e=>eb _ o' (λz=>?_) e,hn⟩ λc o _ c2 e=>eb c o c2 e)))
  obtain⟨o2,ho2,hc2,_⟩:=hit
  rw[z,ho2] at e;cases e
  rw[hc2] at hc'
  injection hc' with hc'
  exact absurd hc' (by decide)
 |succ m ih=>
  intro i s kvs ys hm hi hit hl P kt dd hlen hR
  refine codeAny_builtin F.entry_dict_update_loop ?_
  rw[Around.under_plainId F.plain_dict_update_loop _]
  show wpAny _ A.in1 (pyNext (.ref it) >>= _) _ _ s
  have il:i<xs.size:=by lia
  have hx:xs[i]?=some xs[i]:=a6 il
  have kl:i<more.length:=by lia
  obtain⟨t,a,u,et,⟨ot,hot,hct,nt,hdt⟩,his,ha,ru⟩:=P i more[i].1 more[i].2 _ (aa kl) hx
  refine wpAny_bind (wpAny_pyNext_list_item hit hl (x:=.ref t) (by rw[hx,et]) λh' hit' sb=>?_)
  have kp:∀c o,c≠it->s.heap.get? c=some o->h'.get? c=some o:=λc o n e=>(sb.2 c n).trans e
  have nit:∀c o,o.cls=.type "tuple"->s.heap.get? c=some o->c≠it:=λc o hc e z=>by
   obtain⟨o',ho',hc',_⟩:=hit
   rw[z,ho'] at e;cases e
   rw[hc'] at hc
   injection hc with hc
   exact absurd hc (by decide)
  have hot':=kp t ot (nit t ot hct hot) hot
  refine wpAny_bind (wpAny_holding (wpAny_bind (wpAny_tryCatch ?_)))
  unfold Builtin.Dict.pairItems
  refine wpAny_bind (wpAny_typeOf (T:="tuple") ⟨_,hot',hct⟩ ?_)
  rw[if_pos (by decide)]
  refine wpAny_bind (wpAny_seqItems hot' hdt (wpAny_pure ?_))
  have dd':h'.DictOfH (tupleKind (cS prog w)) d ys:=by
   obtain⟨o,es,ep,ho,hc,hd,he,hi2,hn⟩:=dd
   exact⟨o,es,ep,kp d o n1 ho,hc,hd,he,λx hx=>mW (hi2 x hx) λo' hc' e=>kp _ o' (nit _ o' hc' e) e,hn⟩
  refine wpAny_holding (wpAny_dictSet_heap (s:={s with heap:=h'}) (show(tupleKind (cS prog w)).room A.in1 from(by show A.units+1<cLine;lia)) (mW his λo' hc' e=>kp _ o' (nit _ o' hc' e) e) dd' (λh2 d2 s2=>?_) (hsz:=bW (dh (a7 hlen (a7 hi hz)) (by decide))))
  have e1:(i:Int)+1=((i+1:Nat):Int):=by lia
  refine wpAny_pure ⟨plainId_quiet F.plain_dict_update_loop _,?_⟩
  rw[e1]
  rw[b8 kl] at hR
  have nd:∀c o,o.cls=.type "tuple"->h'.get? c=some o->c≠d:=λc o hc e z=>by
   obtain⟨o',_,_,e',x,_⟩:=dd'
   rw[z,e'] at e;cases e
   rw[x.1] at hc
   injection hc with hc
   exact absurd hc (by decide)
  have kt2:=kt.put more[i].1 (b:=a) ha ru
  refine ih (i+1) _ (iJ kvs more[i].1 more[i].2) (storedH ys more[i].1 a u) (by lia) (by lia) (hit'.at λo e=>s2.extBut it o (Ne.symm n1) e) ((hl.at λo e=>kp l o (Ne.symm n3) e).at λo e=>s2.extBut l o (Ne.symm n2) e) (P.keep λc o hc e=>s2.extBut c o (nd c o hc (kp c o (nit c o hc e) e)) (kp c o (nit c o hc e) e)) kt2 d2 ?_ λh3 tk3 ys3 kt3 d3 kp3=>?_
  ·have h1:=Paired.length kt2
   have h2:=Paired.length kt
   have h3:=gg kvs more[i].1 more[i].2
   lia
  ·exact hR h3 tk3 ys3 kt3 d3 λc o c1 c2 e=>kp3 c o c1 c2 (s2.extBut c o c1 (kp c o c2 e))
end
section
variable{prog:Program}{w:World}{A:Around}{E:Value->Shared->Prop}{s:Shared}
theorem BD{H:Hp}{l:Addr}{xs:Array Value}{n:Nat}{more:List (List bY×V)}{Q:Value->Shared->Prop}(hh:A.handled=none)(hu:A.units+5<cLine)(hl:s.heap.get? l=some {cls:=.type "list",dict:=none,data:=.seq xs n,slots:=#[]})(hk:more.length=xs.size)(hz:xs.size<=100000)(P:Mn prog w H s.heap xs more)
  (hQ:∀h' tk ys',KT H (kL [] more) ys'->h'.DictOfH (tupleKind (cS prog w)) s.heap.objs.size ys'->(∀c o,s.heap.get? c=some o->h'.get? c=some o)->Q (.ref s.heap.objs.size) {s with heap:=h',toks:=tk}) :
  wpAny (model prog w) A (call (.type "dict") [.ref l]) Q E s:=by
 refine callType_codes (Q₁:=λobj s₁=>obj=.ref s.heap.objs.size/\s₁={s with heap:=s.heap.push {cls:=.type "dict",data:=.dict #[]}}) F.kt_called_dict (F.kt_typeCall_dict_1 _) F.entry_dict_init (kt_code_dict_new _ ⟨rfl,rfl⟩) ?_
 rintro obj s₁ ⟨rfl,rfl⟩
 have dn:(s.heap.push {cls:=.type "dict",data:=.dict #[]}).DictOfH (tupleKind (cS prog w)) s.heap.objs.size []:=Heap.DictOfH.new s.heap
 have up:∀c o,s.heap.get? c=some o->(s.heap.push {cls:=.type "dict",data:=.dict #[]}).get? c=some o:=λc o e=>ag _ e
 refine⟨dn.typeIs,F.args_dict_init_2 _ _,?_⟩
 refine wpAny_bind (m:=Builtin.Dict.selfAndRest _ _) (wpAny_bind (wpAny_notOrdered_dict dn.typeIs (wpAny_pure ?_)))
 show wpAny _ _ (Builtin.Dict.updateFrom "dict.__init__" s.heap.objs.size (.ref l) [] .none) _ _ _
 refine wpAny_bind (wpAny_typeOf (T:="list") ⟨_,up _ _ hl,rfl⟩ ?_)
 rw[if_pos (by decide)]
 refine wpAny_bind (Er (up _ _ hl) hh λh1 tk1 k1=>?_)
 have k2:∀c o,s.heap.get? c=some o->h1.get? c=some o:=λc o e=>k1 c o (up c o e)
 rw[if_pos (show(none:Option Value).isNone=true from rfl)]
 have hl1:h1.IsList l xs:=⟨_,k2 _ _ hl,rfl,n,rfl⟩
 refine wpAny_bind (wpAny_rule (wpAny_bind (wpAny_pyIter_list (s:={s with heap:=h1,toks:=tk1}) hl1 (wpAny_pure ⟨plainId_quiet F.plain_dict_update_loop _,?_⟩))))
 have dn1:∀{h2:Heap},(∀c o,h1.get? c=some o->h2.get? c=some o)->h2.DictOfH (tupleKind (cS prog w)) s.heap.objs.size []:=λf=>by
  obtain⟨o,es,ep,ho,hc,hd,he,_,hn⟩:=dn
  exact⟨o,es,ep,f _ _ (k1 _ _ ho),hc,hd,he,λx hx=>(nomatch hx),hn⟩
 have up2:∀c o,h1.get? c=some o->(h1.push (v5 false l)).get? c=some o:=λc o e=>ag _ e
 have llt:l<s.heap.objs.size:=aF hl
 have dlt:s.heap.objs.size<h1.objs.size:=let⟨_,_,_,e,_⟩:=dn1 (h2:=h1) λ_ _ e=>e;aF e
 refine EX (A:=A.in1) (H:=H) (more:=more) hh (by show A.units+1+2<cLine;lia) (it:=h1.objs.size) (aN dlt) (cR llt) (cR (i5 llt dlt)) hk hz xs.size 0 _ [] [] rfl (bq _) ⟨_,ax _ rfl,rfl,rfl⟩ (hl1.at λo e=>up2 _ o e) (P.keep λc o _ e=>up2 c o (k2 c o e)) .nil (dn1 up2) (bq _) λh' tk ys' kt d' kp=>⟨rfl,?_⟩
 exact hQ h' tk ys' kt d' λc o e=>by
  have lt:=aF e
  exact kp c o (aN lt) (aN (i5 lt dlt)) (up2 c o (k2 c o e))
end
section
variable{X:Cx}
def tX(K:Fg):List V->Hp->VK->Prop:=λxs H Q=>∃(l:Addr) (ps:List V) (kvs:List (List bY×V)),xs=[.ref l]/\H l=some (.lst ps)/\ps.length=kvs.length/\kvs.length<=100000/\(∀(j:Nat) x k v,ps[j]?=some x->kvs[j]?=some (k,v)->∃t a,x=.ref t/\H t=some (.tup [.ref a,v])/\H a=some (.tup (k.map kN)))/\∀d,H d=none->Q (.ref d) (aQ H d (.dT (kL [] kvs)))
theorem pN(hc:X.calm=true)(hu:X.A.units+5<cLine):g8 X (.type "dict") (tX X.K):=by
 intro pins s σ H xs us Q I r h
 obtain⟨l,ps,kvs,rfl,hl,hlen,hz,hp,q⟩:=h
 obtain⟨u,rfl,rx⟩:=kz r
 cases rx
 obtain⟨z,its,n,rv,el,e⟩:=I.lstM hl
 have l1:=rv.length
 refine BD (H:=H) (more:=kvs) (I.ok.hd hc) hu e (by rw[ay];lia) (by rw[ay];lia) (λj k v x e1 e2=>?_) λh' tk ys kt d' kp=>?_
 ·have jl:j<ps.length:=by have:=(ae.mp e1).1;lia
  obtain⟨t,a,et,ht,ha⟩:=hp j _ k v (aa jl) e1
  obtain⟨u,hu',ru⟩:=rv.get (i:=j) (x:=ps[j]) (aa jl)
  rw[e6,hu'] at e2;cases e2
  rw[et] at ru
  cases ru
  obtain⟨its2,r2,t2,_⟩:=I.tuple (cz.of (K:=X.K) ht)
  obtain⟨a',w',rfl,ra,rw'⟩:=DV r2
  obtain rfl:a'=Value.ref a:=ra
  exact⟨t,a,w',rfl,t2,ml I.hok ha,ha,rw'⟩
 ·have hn:H s.heap.objs.size=none:=I.hok.fresh (ar _)
  have hlen2:(kL [] kvs).length<=sizeLine:=a7 (nM _ _) (a7 (show[].length+kvs.length<=100000 by rw[fS];lia) (show 100000<=sizeLine by decide))
  obtain⟨o,es,ep,ho,hc',hd,he,_,hnd⟩:=d'
  refine⟨.ref s.heap.objs.size,_,I.laid (t':=tk) (o:=.dT (kL [] kvs)) kp (ar _) ⟨hlen2,beq_eq_false_iff_ne.mpr (cR I.big),ys,Paired.mapP kt λp q z=>⟨z.1,?_,z.2.2⟩,o,es,ep,ho,hc',hd,he,hnd⟩,rfl,q _ hn⟩
  rw[az (λc=>by have:=z.2.1;rw[c,hn] at this;cases this)];exact z.2.1
end
section
variable{X:Cx}
def G9:List V->Hp->VK->Prop:=λxs H Q=>∃(d:Addr) (kvs:List (lT×V)),xs=[.ref d]/\Rd H d (.dK kvs)/\kvs≠[]/\(∀kv∈kvs,∃i,kv.1=Sum.inl i)/\
 ∀m:Int,(∃v,(Sum.inl m,v)∈kvs)->(∀i v,(Sum.inl i,v)∈kvs->m<=i)->Q (.int m) H
theorem Bv(hc:X.calm=true):g8 X (.builtin "min") G9:=by
 intro pins s σ H xs us Q I r h
 obtain⟨d,kvs,rfl,hd,ne,ik,q⟩:=h
 obtain⟨u,rfl,rx⟩:=kz r
 cases rx
 obtain⟨z,lo,vs,rel,dd⟩:=pR I.hok hd
 obtain⟨o,es,ep,ho,hx,hdat,r2⟩:=dd
 have da:s.heap.DictAt (eA X.prog X.w) d vs ep:=⟨o,es,ho,hx,hdat,r2⟩
 have kl:=rel.length
 have pos:0<vs.length:=by rw[<-kl];exact dF.mpr ne
 have hh:X.A.in1.handled=none:=I.ok.hd hc
 have nd:d≠s.heap.objs.size:=aN (aF ho)
 have num:∀i,i<kvs.length->∃n:Int,∃v,kvs[i]?=some (Sum.inl n,v):=λi hi=>by
  obtain⟨n,e⟩:=ik kvs[i] (b6 hi)
  exact⟨n,kvs[i].2,by rw[aa hi,<-e]⟩
 let val:Nat->Int:=λi=>match kvs[i]? with
  |some (Sum.inl n,_)=>n
  |_=>0
 have vis:∀i n v,kvs[i]?=some (Sum.inl n,v)->val i=n:=λi n v e=>by show(match kvs[i]? with|some (Sum.inl n,_)=>n|_=>0)=n;rw[e]
 have hv:∀i v,(∃k x,vs[i]?=some (k,x)/\(eA X.prog X.w).is k v=true)->∃t,v=.int (val i) t:=λi v ⟨k,x,e,hk⟩=>by
  have il:i<kvs.length:=by have:=(ae.mp e).1;lia
  obtain⟨n,v',en⟩:=num i il
  have:=(Le rel en e).1
  have ek:k=Sum.inl n:=this.symm
  subst ek
  obtain⟨t,rfl⟩:=Value.isInt_shape (k:=n) (v:=v) hk
  exact⟨t,by rw[vis i n v' en]⟩
 refine call_min_walk (wpAny_pyIter_dict lo da ⟨_,_,_,_,_,_,_,rfl,Walks.dictKeys (A:=X.A.in1) hh s.heap.objs.size d nd vs ep,⟨⟨_,ax _ rfl,rfl,rfl⟩,da.push _⟩,λb hb=>?_,pos,CmpOf.ints_lt val hv,λv h' tk p k=>?_⟩)
 ·rw[bC]
  simp only[aK,cu,or_false] at hb
  rcases hb with rfl|rfl
  ·exact cF _
  ·exact c6 (aF ho)
 ·obtain⟨t,rfl⟩:=hv _ _ p
  obtain⟨b1,b2⟩:=argBest_lt val (vs.length-1)
  generalize argBest (λi j=>decide (val i<val j)) (vs.length-1)=j at b1 b2 p
  have jl:j<kvs.length:=by lia
  obtain⟨n,v',en⟩:=num j jl
  have I1:bw X pins σ H {s with heap:=h',toks:=tk}:=I.kept (t':=tk) λb o e=>k b o (λz=>by
   have:=ao.mp z
   have:=aF e
   lia) (ag _ e)
  refine⟨.int (val j),H,I1,⟨t,rfl⟩,?_⟩
  rw[vis j n v' en] at b2 ⊢
  refine q n ⟨v',aA en⟩ λi v hm=>?_
  obtain⟨m,hm',e⟩:=aS.mp hm
  have:=b2 m (by lia)
  rw[vis m i v (by rw[aa hm',e])] at this
  exact this
end
section
variable{X:Cx}{o e:Expr}{td ty:TE}{pos apos cpos:Pos}
def Kx:List V->Hp->VK->Prop:=λxs H Q=>∃a kvs,xs=[V.ref a]/\H a=some (.dK kvs)/\Q (.int kvs.length) H
theorem Bu:g8 X (.builtin "len") Kx:=Ec
theorem tT:QE X (.Dict [] [] pos) uA:=⟨GH⟩
theorem GY(ho:QE X o td)(he:QE X e ty)(m:M1 X o "pop" apos e cpos):QE X (.Call (.Attribute o "pop" apos) [e] [] cpos) (CA td ty):=⟨GI ho.up he.up m⟩
theorem GU(hu:X.A.units+1<cLine)(ho:QE X o td)(he:QE X e ty)(m:M1 X o "get" apos e cpos):QE X (.Call (.Attribute o "get" apos) [e] [] cpos) (Cv td ty):=⟨GD hu ho.up he.up m⟩
end
end L2
end
section
namespace Bg
open PySem L2
abbrev Bt:=List (Option Str)
def cq(b:Bt):List bY:=b.map λo=>o.map Sum.inr
theorem eh(b:Bt):(cq b).map kN=cH b:=by
 unfold cq cH
 rw[cQ]
 exact c8 λo _=>by cases o<;>rfl
theorem kg{a b:Bt}(h:cq a=cq b):a=b:=by
 unfold cq at h
 refine(List.map_inj_right (f:=λo:Option Str=>o.map (Sum.inr:Str->lT)) λx y e=>?_).mp h
 cases x with
 |none=>cases y with
  |none=>rfl
  |some y=>cases e
 |some x=>cases y with
  |none=>cases e
  |some y=>injection e with e;injection e with e;rw[e]
def iF(H:Hp)(v:V)(b:Bt):Prop:=∃p,v=.ref p/\H p=some (.tup (cH b))
def mT(b:Bt):List Nat:=match b.getLast? with
 |some (some _)=>[b.length-1]
 |_=>(cc b.length).filter λi=>((b[i]?).getD none).isSome
def lb(b:Bt)(i:Nat):Bt:=match(b[i]?).getD none with
 |some x=>jv b x
 |none=>b
def kts(b:Bt):List Bt:=(mT b).map (lb b)
def kC(b:Bt)(x:Option Str)(ns:List Str):Bt:=bR (match x with
 |none=>b
 |some y=>jv b y) ns
def pU(b:Bt)(ns:List Str):Bool:=ns.all λy=>decide (some y∈b)
structure mX(n:Nat)(ns:List Str)(b:Bt):Prop where
 len:b.length=n
 mem:∀x,some x∈b->x∈ns
structure Ir(n:Nat)(ns:List Str):Prop where
 pos:1<=n
 n5:n<=5
 s5:ns.length<=5
def Nk(H:Hp)(v:V)(bs:List Bt):Prop:=∃l us,v=.ref l/\H l=some (.lst us)/\bj (iF H) us bs
def jf(H:Hp)(v:V)(ks:List Bt):Prop:=∃D kvs,v=.ref D/\H D=some (.dT kvs)/\kvs.map (·.1)=ks.map cq/\∀(i:Nat) k u b,kvs[i]?=some (k,u)->ks[i]?=some b->Nk H u (kts b)
structure jg(n:Nat)(ns:List Str)(ebs ks:List Bt):Prop where
 nd:ks.Nodup
 few:ks.length<=7776
 inn:∀b∈ks,mX n ns b
 ent:∀b∈ebs,b∈ks
 cl:∀b∈ks,∀c∈kts b,c∈ks
 ind:∀P:Bt->Prop,(∀b∈ebs,P b)->(∀b,P b->∀c∈kts b,P c)->∀b∈ks,P b
def oH(H:Hp)(v:V)(t:List (Bt×Nat)):Prop:=∃D,v=.ref D/\H D=some (.dT (t.map λp=>(cq p.1,V.int (p.2:Nat))))
structure ie(ks:List Bt)(t0 t:List (Bt×Nat)):Prop where
 nd:(t.map (·.1)).Nodup
 sub:∀b n,(b,n)∈t->b∈ks
 s1:∀b n,(b,n)∈t0->∃m,m<=n/\(b,m)∈t
 s2:∀b∈ks,∀c∈kts b,∀n,(c,n)∈t->∃m,m<=n+1/\(b,m)∈t
 s3:∀b n,(b,n)∈t->(b,n)∈t0\/∃c∈kts b,∃m,(c,m)∈t/\n=m+1
structure Cm(n:Nat)(b0:Bt)(ws:List Wk)(pss:List (List Str))(kss:List (List Bt)):Prop where
 len:kss.length=ws.length+1
 dim:∀ss∈pss,Ir n ss
 fst:∀ks ss,kss[0]?=some ks->pss[0]?=some ss->jg n ss [bR b0 ss] ks
 nxt:∀(k:Nat) ks ks' w ss,kss[k]?=some ks->kss[k+1]?=some ks'->ws[k]?=some w->pss[k+1]?=some ss->jg n ss ((ks.map λb=>kC b w.out ss).filter λb=>pU b ss) ks'
structure j9(n:Nat)(b0:Bt)(ws:List Wk)(pss:List (List Str))(ord:Bt)(kss:List (List Bt))(ts:List (List (Bt×Nat))):Prop where
 cm:Cm n b0 ws pss kss
 len:ts.length=ws.length+1
 fin:∀ks t,kss[ws.length]?=some ks->ts[ws.length]?=some t->∃t0,ie ks t0 t/\∀b m,(b,m)∈t0↔b∈ks/\AW ord b=true/\m=0
 mid:∀(k:Nat) ks t t' w ss,kss[k]?=some ks->ts[k]?=some t->ts[k+1]?=some t'->ws[k]?=some w->pss[k+1]?=some ss->∃t0,ie ks t0 t/\∀b m,(b,m)∈t0↔b∈ks/\(kC b w.out ss,m)∈t'
def eL(b:Bt):List Nat->Prop
 |[]=>True
 |p::r=>p∈mT b/\eL (lb b p) r
def jZ(b:Bt)(ps:List Nat):Bt:=ps.foldl lb b
structure Ni(ws:List Wk)(pss:List (List Str))(kss:List (List Bt))(ord b:Bt)(gs:List (List Nat))(bs:List Bt):Prop where
 len:gs.length=ws.length+1
 ln2:bs.length=ws.length+1
 fst:bs[0]?=some b
 ok:∀(k:Nat) ps c,gs[k]?=some ps->bs[k]?=some c->eL c ps
 nxt:∀(k:Nat) ps c c' w ss,gs[k]?=some ps->bs[k]?=some c->bs[k+1]?=some c'->ws[k]?=some w->pss[k+1]?=some ss->c'=kC (jZ c ps) w.out ss
 fin:∀ps c,gs[ws.length]?=some ps->bs[ws.length]?=some c->AW ord (jZ c ps)=true
 mem:∀(k:Nat) c ks,bs[k]?=some c->kss[k]?=some ks->c∈ks
def dG(_:Fg):Sp:=λvs H Q _=>∃(p:Addr) (b:Bt),vs=[.ref p]/\H p=some (.tup (cH b))/\b≠[]/\b.length<=5/\∀(l:Addr) (H':Hp),H l=none->H' l=some (.lst ((mT b).map λi=>V.int (i:Nat)))->aI H H'->Q (.ref l) H'
def gj(_:Fg):Sp:=λvs H Q _=>∃(p:Addr) (b:Bt) (i:Nat),vs=[.ref p,.int (i:Nat)]/\H p=some (.tup (cH b))/\b.length<=5/\i∈mT b/\∀(r:Addr) (H':Hp),H' r=some (.tup (cH (lb b i)))->aI H H'->Q (.ref r) H'
def gm(_:Fg):Sp:=λvs H Q _=>∃(p n:Addr) (v:V) (b:Bt) (w:Wk) (ss:List Str),vs=[.ref p,v,.ref n]/\H p=some (.tup (cH b))/\FD H v w/\H n=some (.tup (ss.map V.str))/\b≠[]/\b.length<=5/\∀(r:Addr) (H':Hp),H' r=some (.tup (cH (kC b w.out ss)))->aI H H'->Q (.ref r) H'
def kU(_:Fg):Sp:=λvs H Q _=>∃(p n:Addr) (b:Bt) (ss:List Str),vs=[.ref p,.ref n]/\H p=some (.tup (cH b))/\H n=some (.tup (ss.map V.str))/\ss.length<=100/\b.length<=5/\∀(H':Hp),aI H H'->Q (.bl (pU b ss)) H'
def jL(_:Fg):Sp:=λvs H Q _=>∃(e:Addr) (us:List V) (ebs:List Bt) (n:Nat) (ss:List Str),vs=[.ref e]/\H e=some (.lst us)/\bj (iF H) us ebs/\Ir n ss/\(∀b∈ebs,mX n ss b)/\ebs.length<=7776/\
 ∀(v:V) (ks:List Bt) (H':Hp),jf H' v ks->jg n ss ebs ks->aI H H'->Q v H'
structure Bk(H:Hp)(n:Nat)(b0:Bt)(ws:List Wk)(bp wp:Addr):Prop where
 bp:H bp=some (.tup (cH b0))
 len:b0.length=n
 wks:∃wvs,H wp=some (.tup wvs)/\bj (FD H) wvs ws
 few:ws.length<=100
def fj(_:Fg):Sp:=λvs H Q _=>∃(bp wp pt:Addr) (tvs:List V) (n:Nat) (b0:Bt) (ws:List Wk) (pss:List (List Str)),vs=[.ref bp,.ref wp,.ref pt]/\Bk H n b0 ws bp wp/\H pt=some (.lst tvs)/\bj (FC H) tvs pss/\pss.length=ws.length+1/\(∀ss∈pss,Ir n ss)/\
 ∀(l:Addr) (cvs:List V) (kss:List (List Bt)) (H':Hp),H' l=some (.lst cvs)->bj (jf H') cvs kss->Cm n b0 ws pss kss->aI H H'->Q (.ref l) H'
def iK(n:Nat)(g:Nat->Nat):Nat:=((cc n).map g).sum
def KD(H0 H:Hp)(v:V)(ks:List Bt):Prop:=∃(D:Addr) (kvs:List (List bY×V)) (g:Nat->Nat),v=.ref D/\H D=some (.dT kvs)/\H0 D=none/\kvs.map (·.1)=ks.map cq/\iK ks.length g<=40000/\∀(i:Nat) k u c,kvs[i]?=some (k,u)->ks[i]?=some c->∃l us bs,u=.ref l/\H l=some (.lst us)/\H0 l=none/\bj (iF H) us bs/\bs.length=g i/\∀b,b∈bs↔b∈ks/\c∈kts b
def ir(_:Fg):Sp:=λvs H Q _=>∃(v:V) (ks:List Bt) (n:Nat),vs=[v]/\jf H v ks/\ks.Nodup/\ks.length<=7776/\(∀b∈ks,b.length=n)/\1<=n/\n<=5/\(∀b∈ks,∀c∈kts b,c∈ks)/\
 ∀(r:V) (H':Hp),KD H H' r ks->aI H H'->Q r H'
def jK(_:Fg):Sp:=λvs H Q _=>∃(v0 v:V) (ks:List Bt) (t0:List (Bt×Nat)) (n:Nat),vs=[v0,v]/\oH H v0 t0/\jf H v ks/\ks.Nodup/\ks.length<=7776/\(∀b∈ks,b.length=n)/\1<=n/\n<=5/\(∀b∈ks,∀c∈kts b,c∈ks)/\(∀b m,(b,m)∈t0->b∈ks)/\t0.length<=7776/\
 ∀(r:V) (t:List (Bt×Nat)) (H':Hp),oH H' r t->ie ks t0 t->aI H H'->Q r H'
def i8(_:Fg):Sp:=λvs H Q _=>∃(bp wp lt op:Addr) (n:Nat) (b0 ord:Bt) (ws:List Wk) (last dd:List Str),vs=[.ref bp,.ref wp,.ref lt,.ref op]/\Bk H n b0 ws bp wp/\ka H wp lt ws last/\CP dd last ws/\H op=some (.tup (cH ord))/\ord.length=n/\(∀pss,lN last ws pss->∀ss∈pss,Ir n ss)/\
 ∀(l:Addr) (tvs:List V) (pss:List (List Str)) (kss:List (List Bt)) (ts:List (List (Bt×Nat))) (H':Hp),H' l=some (.lst tvs)->bj (oH H') tvs ts->lN last ws pss->j9 n b0 ws pss ord kss ts->aI H H'->Q (.ref l) H'
def fm(_:Fg):Sp:=λvs H Q _=>∃(v:V) (p:Addr) (b:Bt) (t:List (Bt×Nat)) (m:Nat),vs=[v,.ref p]/\oH H v t/\(t.map (·.1)).Nodup/\H p=some (.tup (cH b))/\b≠[]/\b.length<=5/\(b,m+1)∈t/\(∀c∈kts b,∃k,(c,k)∈t)/\(∃c∈kts b,(c,m)∈t)/\
 ∀(i:Nat) (H':Hp),i∈mT b->(lb b i,m)∈t->aI H H'->Q (.int (i:Nat)) H'
def vL(H:Hp)(v:V)(ps:List Nat):Prop:=∃p,v=.ref p/\H p=some (.tup (ps.map λi=>V.int (i:Nat)))
def j6(_:Fg):Sp:=λvs H Q _=>∃(bp wp lt op:Addr) (n:Nat) (b0 ord:Bt) (ws:List Wk) (last dd:List Str),vs=[.ref bp,.ref wp,.ref lt,.ref op]/\Bk H n b0 ws bp wp/\ka H wp lt ws last/\CP dd last ws/\H op=some (.tup (cH ord))/\ord.length=n/\(∀pss,lN last ws pss->∀ss∈pss,Ir n ss)/\
 (∀pss kss ts,lN last ws pss->j9 n b0 ws pss ord kss ts->∀(k:Nat) ks t,kss[k]?=some ks->ts[k]?=some t->∀b∈ks,∃m,(b,m)∈t)/\
 ∀(r:Addr) (gvs:List V) (gs:List (List Nat)) (bs:List Bt) (pss:List (List Str)) (kss:List (List Bt)) (ts:List (List (Bt×Nat))) (ss:List Str) (t:List (Bt×Nat)) (m:Nat) (H':Hp),H' r=some (.tup gvs)->bj (vL H') gvs gs->lN last ws pss->j9 n b0 ws pss ord kss ts->pss[0]?=some ss->ts[0]?=some t->(bR b0 ss,m)∈t->Ni ws pss kss ord (bR b0 ss) gs bs->(gs.map (·.length)).sum=m->aI H H'->Q (.ref r) H'
def gM(_:Fg):Sp:=λvs H Q _=>∃(bp:Addr) (b0:Bt),vs=[.ref bp]/\H bp=some (.tup (cH b0))/\b0≠[]/\b0.length<=5/\∀(r:Addr) (H':Hp),H' r=some (.tup (cH (aU b0.length none)))->aI H H'->Q (.ref r) H'
def jJ(_:Fg):Sp:=λvs H Q _=>∃(bp wp lt:Addr) (n:Nat) (b0:Bt) (ws:List Wk) (last dd:List Str),vs=[.ref bp,.ref wp,.ref lt]/\Bk H n b0 ws bp wp/\1<=n/\n<=5/\ka H wp lt ws last/\CP dd last ws/\(∀pss,lN last ws pss->∀ss∈pss,Ir n ss)/\
 (∀pss kss ts,lN last ws pss->j9 n b0 ws pss (aU n none) kss ts->∀(k:Nat) ks t,kss[k]?=some ks->ts[k]?=some t->∀b∈ks,∃m,(b,m)∈t)/\
 ∀(r:Addr) (gvs:List V) (gs:List (List Nat)) (bs:List Bt) (pss:List (List Str)) (kss:List (List Bt)) (ts:List (List (Bt×Nat))) (ss:List Str) (t:List (Bt×Nat)) (m:Nat) (H':Hp),H' r=some (.tup gvs)->bj (vL H') gvs gs->lN last ws pss->j9 n b0 ws pss (aU n none) kss ts->pss[0]?=some ss->ts[0]?=some t->(bR b0 ss,m)∈t->Ni ws pss kss (aU n none) (bR b0 ss) gs bs->(gs.map (·.length)).sum=m->aI H H'->Q (.ref r) H'
abbrev oQ:Nat:=0
abbrev oD:Nat:=1
abbrev Gm:Nat:=2
abbrev Fi:Nat:=3
abbrev BQ:Nat:=2
abbrev Ba:Nat:=3
abbrev zH:Nat:=0
abbrev yK:Nat:=1
abbrev BO:Nat:=3
abbrev A8:Nat:=4
abbrev m8:Nat:=4
abbrev mY:Nat:=5
abbrev rZ:Nat:=0
abbrev rS:Nat:=1
abbrev BN:Nat:=1
abbrev A7:Nat:=2
abbrev zG:Nat:=5
abbrev yJ:Nat:=6
abbrev vk:Nat:=3
abbrev uZ:Nat:=4
abbrev xR:Nat:=6
abbrev xh:Nat:=7
abbrev vj:Nat:=0
abbrev uY:Nat:=1
abbrev BL:Nat:=7
abbrev A5:Nat:=8
end Bg
end
section
namespace L2
open PySem PySem.Spec PyProof.Rows
def A0(K:Fg)(tp:Bool)(H:Hp)(a:Addr)(xs:List V):Prop:=match tp with
 |true=>cz K H a xs
 |false=>cx K H a xs
theorem bw.seqB{X:Cx}{pins:List (Addr×Obj)}{σ:St}{H:Hp}{s:Shared}{tp:Bool}{a:Addr}{xs:List V}(I:bw X pins σ H s)(h:A0 X.K tp H a xs):∃its:List Value,bX xs its/\eZ tp s.heap a its.toArray:=by
 cases tp with
 |true=>obtain⟨its,r,p,_⟩:=I.tuple h;exact⟨its,r,p⟩
 |false=>obtain⟨its,r,p,_⟩:=I.list h;exact⟨its,r,p.isList⟩
theorem bw.seqB_inj{X:Cx}{pins:List (Addr×Obj)}{σ:St}{H:Hp}{s:Shared}{tp:Bool}{a:Addr}{xs ys:List V}(I:bw X pins σ H s)(h:A0 X.K tp H a xs)(h':A0 X.K tp H a ys):xs=ys:=by
 cases tp with
 |true=>exact I.tuple_inj h h'
 |false=>exact I.list_inj h h'
theorem zw{tp:Bool}{h:Heap}{i l:Addr}{k:Nat}(x:eF tp h i l k):∃o,h.get? i=some o/\∀v,o.data=.cell v->False:=by
 cases tp with
 |true=>obtain⟨o,e,c,d⟩:=(show h.IsTupleIter i l k from x);exact⟨o,e,λv q=>by rw[d] at q;cases q⟩
 |false=>obtain⟨o,e,c,d⟩:=(show h.IsListIter i l k from x);exact⟨o,e,λv q=>by rw[d] at q;cases q⟩
def yH(K:Fg)(t1 t2:Bool)(a b:Addr):It:=
 ⟨λi H=>∃xs x ys y,A0 K t1 H a xs/\xs[i]?=some x/\A0 K t2 H b ys/\ys[i]?=some y,
  λi H x H'=>∃p v u,H p=none/\x=.ref p/\H'=aQ H p (.tup [v,u])/\(∀xs,A0 K t1 H a xs->xs[i]?=some v)/\∀ys,A0 K t2 H b ys->ys[i]?=some u,
  λi H=>∃xs ys,A0 K t1 H a xs/\A0 K t2 H b ys/\xs.length<=i⟩
theorem EW{P:Program}{w:World}{K:Fg}{elts:List Expr}{k:Nat}{pos:Pos}(t1 t2:Bool)(z TI TO i1 i2 l1 l2:Addr)(D:ZipApart z TI TO i1 i2 l1 l2) :
  rT P w K (.Tuple elts k pos) (yH K t1 t2 l1 l2) [z,TI,TO,i1,i2] z (λi h=>IsZip h z TI TO .none/\IsPair h TI (.ref i1) (.ref i2)/\(∃a b,IsPair h TO a b)/\eF t1 h i1 l1 i/\eF t2 h i2 l2 i) where
 mem:=by simp
 obj:=λi h st b hb=>by
  obtain⟨hz,hTI,⟨a',b',hTO⟩,h1,h2⟩:=st
  obtain⟨o1,e1,d1⟩:=zw h1
  obtain⟨o2,e2,d2⟩:=zw h2
  simp only[aK,cu,or_false] at hb
  rcases hb with rfl|rfl|rfl|rfl|rfl
  ·exact⟨_,hz,λv q=>by have q':Data.fields _=Data.cell v:=q;cases q'⟩
  ·exact⟨_,hTI,λv q=>by have q':Data.seq _ _=Data.cell v:=q;cases q'⟩
  ·exact⟨_,hTO,λv q=>by have q':Data.seq _ _=Data.cell v:=q;cases q'⟩
  ·exact⟨o1,e1,λv q=>d1 v q⟩
  ·exact⟨o2,e2,λv q=>d2 v q⟩
 keep:=λi h h' st k=>by
  obtain⟨hz,hTI,⟨a',b',hTO⟩,h1,h2⟩:=st
  exact⟨k z (by simp) _ hz,k TI (by simp) _ hTI,⟨a',b',k TO (by simp) _ hTO⟩,h1.at λo q=>k i1 (by simp) o q,h2.at λo q=>k i2 (by simp) o q⟩
 item:=by
  intro X hP hw hK hc i pins s σ H E I hf st hg
  subst hP hw hK
  obtain⟨hz,hTI,⟨a',b',hTO⟩,h1,h2⟩:=st
  obtain⟨xs,x,ys,y,hq1,hx,hq2,hy⟩:=hg
  obtain⟨its1,rv1,p1⟩:=I.seqB hq1
  obtain⟨its2,rv2,p2⟩:=I.seqB hq2
  obtain⟨u,hu,ru⟩:=rv1.get hx
  obtain⟨v,hv,rv⟩:=rv2.get hy
  have hT:s.TypeIs (.ref z) "zip":=⟨_,hz,rfl⟩
  unfold pyNext
  refine wpAny_bind (wpAny_attempt (wpAny_callSpecial?_slot (name:=Str.ofString "__next__") hT F.slot_zip_next (wpAny_call_entry F.slot_zip_next hT F.entry_zip_next ?_ (F.args_zip_next_1 _))))
  refine E3 D hz hTI hTO h1 h2 p1 p2 (x:=u) (y:=v) (by simpa using hu) (by simpa using hv) λh3 a1 a3 a4 a5 a2 hk=>wpAny_pure ?_
  refine⟨_,rfl,?_⟩
  have fT:oC X pins H s.heap.objs.size:=I.fpOk (ar _) (I.hok.fresh (ar _))
  have lt:∀{c o},s.heap.get? c=some o->c≠s.heap.objs.size:=λe=>aN (aF e)
  refine wpAny_letOwnedTupleGo_zip a1 λh4 hz4 hs4=>?_
  have I1:bw X pins σ H {s with heap:=h4,toks:=s.toks}:=I.turnedL (t':=s.toks) (ch:=[z,TI,TO,i1,i2]) (λb o hb q=>by
   have b1:b≠z:=λe=>hb (by simp[e])
   exact(hs4.2 b b1).trans (hk b o b1 (λe=>hb (by simp[e])) (λe=>hb (by simp[e])) (λe=>hb (by simp[e])) q)) hf
  have gT:h4.get? s.heap.objs.size=some {cls:=.type "tuple",data:=.seq #[u,v]}:=(hs4.2 _ (Ne.symm (lt hz))).trans a5
  have I2:=I1.adopt (T:=s.heap.objs.size) (o:=.tup [x,y]) fT (sG (X:=X) gT ru rv)
  have ext:∀c o,c≠z->h3.get? c=some o->h4.get? c=some o:=λc o hc q=>(hs4.2 c hc).trans q
  refine⟨.ref s.heap.objs.size,_,I2,rfl,⟨s.heap.objs.size,x,y,fT.1,rfl,rfl,λzs hz=>by rw[I.seqB_inj hz hq1];exact hx,λzs hz=>by rw[I.seqB_inj hz hq2];exact hy⟩,
   ⟨hz4,ext _ _ D.TIz (hk _ _ D.TIz D.TITO D.TIi1 D.TIi2 hTI),⟨_,_,ext _ _ D.TOz a2⟩,a3.at λo q=>ext _ o D.i1z q,a4.at λo q=>ext _ o D.i2z q⟩,λb hb=>?_⟩
  have nT:b≠s.heap.objs.size:=by
   simp only[aK,cu,or_false] at hb
   rcases hb with rfl|rfl|rfl|rfl|rfl
   ·exact lt hz
   ·exact lt hTI
   ·exact lt hTO
   ·exact aN h1.lt
   ·exact aN h2.lt
  rw[az nT];exact(hf b hb).1
 done:=by
  intro X hP hw hK hc i pins s σ H E I hf st hg
  subst hP hw hK
  obtain⟨hz,hTI,⟨a',b',hTO⟩,h1,h2⟩:=st
  obtain⟨xs,ys,hq1,hq2,hend⟩:=hg
  obtain⟨its1,rv1,p1⟩:=I.seqB hq1
  obtain⟨its2,rv2,p2⟩:=I.seqB hq2
  have l1':=rv1.length
  refine Ip (I.ok.hd hc) D ⟨hTI,h1,h2,p1,p2,.inl ⟨hz,a',b',hTO⟩⟩ (by simp;lia) λh3 hk=>⟨rfl,?_⟩
  exact I.turnedL (t':=s.toks) (ch:=[z,TI,TO,i1,i2]) (λb o hb q=>hk b o (λe=>hb (by simp[e])) (λe=>hb (by simp[e])) (λe=>hb (by simp[e])) q) hf
 self:=λ_ _ _ _ _ st h=>wpAny_pyIter_zip st.1 h
def Gg(K:Fg)(tl:TA):TI:=λσ H R=>tl σ H λvs H1=>∃t1 t2 a b,vs=[.ref a,.ref b]/\(∃xs,A0 K t1 H1 a xs)/\(∃xs,A0 K t2 H1 b xs)/\R (yH K t1 t2 a b) H1
section
variable{X:Cx}{elts:List Expr}{k:Nat}{tpos:Pos}
theorem JI{a b:Expr}{ta:TA}{p pos:Pos}(hg:Gl X "zip")(hm:X.mg "zip"=none)(ha:PA X [a,b] ta)(hs:starEach [a,b] X.env=[(false,eval a X.env),(false,eval b X.env)]:=by rfl)(hs2:starEach [b] X.env=[(false,eval b X.env)]:=by rfl) :
  PI X (.Tuple elts k tpos) (.Call (.Name "zip" p) [a,b] [] pos) (Gg X.K ta):=by
 intro pins s σ H R I h
 refine Call_ (iq I hg hm boot_zip (br (d4 (ha pos pins s σ H _ I h) λus s1 ⟨vs,H1,I1,r1,q1⟩=>?_) (by rw[hs,hs2]) (by rw[hs2];rfl)))
 obtain⟨t1,t2,l1,l2,e,⟨xs,hq1⟩,⟨ys,hq2⟩,q⟩:=q1
 subst e
 cases r1 with
 |cons r rr=>
  cases rr with
  |cons r' rr=>
   cases rr
   cases r
   cases r'
   obtain⟨its1,rv1,p1⟩:=I1.seqB hq1
   obtain⟨its2,rv2,p2⟩:=I1.seqB hq2
   refine xB (t1:=t1) (t2:=t2) p1 p2 λh1 z TI TO i1 i2 gI D gz gO g1 g2 hz hTO hTI hi1 hi2 hk=>?_
   refine wpAny_pyIter_zip hz ?_
   have I2:bw X pins σ H1 {s1 with heap:=h1}:=I1.kept (t':=s1.toks) hk
   refine⟨_,_,_,_,H1,rfl,I2,EW t1 t2 z TI TO i1 i2 l1 l2 D,⟨hz,hTI,⟨_,_,hTO⟩,hi1,hi2⟩,λb hb=>?_,q⟩
   have hb':s1.heap.objs.size<=b:=by
    simp only[aK,cu,or_false] at hb
    rcases hb with rfl|rfl|rfl|rfl|rfl<;>assumption
   exact I1.fpOk hb' (I1.hok.fresh hb')
theorem JZ{a b:Expr}{ta:TA}{p pos:Pos}(hg:Gl X "zip")(hm:X.mg "zip"=none)(ha:QA X [a,b] ta)(hs:starEach [a,b] X.env=[(false,eval a X.env),(false,eval b X.env)]:=by rfl)(hs2:starEach [b] X.env=[(false,eval b X.env)]:=by rfl):QI X (.Tuple elts k tpos) (.Call (.Name "zip" p) [a,b] [] pos) (Gg X.K ta):=
 ⟨JI hg hm ha.up hs hs2⟩
end
theorem F7{K:Fg}{t1 t2:Bool}{a b:Addr}{xs ys:List V}{g:TG}{tb:TS}{D:lM}{σ:St}{H:Hp}(el:xs.length<=ys.length)(Pv:Nat->St->Hp->Prop)(h0:Pv 0 σ H)(hl:∀i σ H,i<=xs.length->Pv i σ H->A0 K t1 H a xs/\A0 K t2 H b ys)
  (hs:∀i x y σ H p,xs[i]?=some x->ys[i]?=some y->H p=none->Pv i σ H->g (.ref p) σ (aQ H p (.tup [x,y])) λσ2 H2=>tb {D with nx:=Pv (i+1),ct:=Pv (i+1),bk:=D.nx} σ2 H2) (hd:∀σ H,Pv xs.length σ H->D.nx σ H) :
  ∃W:Nat->Nat->St->Hp->Prop,(∃m,W 0 m σ H)/\∀i m σ H,W i m σ H->
   ((yH K t1 t2 a b).stop i H/\D.nx σ H)\/((yH K t1 t2 a b).go i H/\∃N:St->Hp->Prop,(∀σ' H',N σ' H'->∃m',m'<m/\W (i+1) m' σ' H')/\∀x H',(yH K t1 t2 a b).yld i H x H'->g x σ H' λσ2 H2=>tb {D with nx:=N,ct:=N,bk:=D.nx} σ2 H2):=by
 refine⟨λi m σ H=>m=xs.length-i/\i<=xs.length/\Pv i σ H,⟨xs.length,by simp,bq _,h0⟩,?_⟩
 rintro i m σ H ⟨rfl,hi,p⟩
 obtain⟨q1,q2⟩:=hl i σ H hi p
 by_cases hlt:i<xs.length
 ·have hlt2:i<ys.length:=by lia
  refine .inr ⟨⟨xs,xs[i],ys,ys[i],q1,by simp[hlt],q2,by simp[hlt2]⟩,Pv (i+1),λσ' H' p'=>⟨xs.length-(i+1),by lia,rfl,hlt,p'⟩,λx H' y=>?_⟩
  obtain⟨pp,v,u,e1,rfl,rfl,y1,y2⟩:=y
  exact hs i v u σ H pp (y1 xs q1) (y2 ys q2) e1 p
 ·have e:i=xs.length:=by lia
  subst e
  exact .inl ⟨⟨xs,ys,q1,q2,ar _⟩,hd σ H p⟩
theorem Ed{js:List Nat}{k:Nat}{K:Fg}{t1 t2:Bool}{a b:Addr}{xs ys:List V}{g:TG}{tc:TT}{te:TE}{R:Hp->Prop}{σ:St}{H:Hp}{D:Addr}(el:xs.length<=ys.length)(Pv:Nat->St->Hp->Prop)(h0:Pv 0 (vf js k σ) (aQ H D (.lst [])))(hl:∀i σ H,i<=xs.length->Pv i σ H->A0 K t1 H a xs/\A0 K t2 H b ys)
  (hs:∀i x y σ H p,xs[i]?=some x->ys[i]?=some y->H p=none->Pv i σ H->g (.ref p) σ (aQ H p (.tup [x,y])) λσ2 H2=>jw D tc te {nx:=Pv (i+1),rt:=λ_ _=>False,ct:=Pv (i+1),bk:=λ_ H'=>R H'} σ2 H2) (hd:∀σ H,Pv xs.length σ H->R H) :
  ∃W:Nat->Nat->St->Hp->Prop,(∃m,W 0 m (vf js k σ) (aQ H D (.lst [])))/\∀i m σ H,W i m σ H->
   ((yH K t1 t2 a b).stop i H/\R H)\/((yH K t1 t2 a b).go i H/\∃N:St->Hp->Prop,(∀σ' H',N σ' H'->∃m',m'<m/\W (i+1) m' σ' H')/\∀x H',(yH K t1 t2 a b).yld i H x H'->g x σ H' λσ2 H2=>jw D tc te {nx:=N,rt:=λ_ _=>False,ct:=N,bk:=λ_ H'=>R H'} σ2 H2):=
 F7 (D:={nx:=λ_ H'=>R H',rt:=λ_ _=>False}) el Pv h0 hl hs hd
end L2
end
section
namespace PySem.SeqAt
open AutoSeq1 (wpAny_loadPart')
open MeetsSeq MeetsSeq2 MeetsSeq3 SeqRoads2
end PySem.SeqAt
namespace L2
open PySem PySem.Spec PyProof.Rows
section
variable{X:Cx}{o e:Expr}{es:List Expr}{to ta tb:TE}{t:TA}{apos cpos:Pos}
end
section
variable{X:Cx}{C:Addr}{m x:Str}{ps:List Str}{k:Nat}{sp:Sp}{e:Expr}{es:List Expr}{t:TA}{p pos apos:Pos}
end
end L2
end
section
namespace Bg
open PySem PySem.Spec PyProof.Rows L2
end Bg
end
section
namespace BgSet
open PySem
def AZ(ps:Array Nat):Prop:=ps.toList.Pairwise (·<·)
theorem AZ.at{ps:Array Nat}(hr:AZ ps){i j a b:Nat}(hij:i<j)(ha:ps[i]?=some a)(hb:ps[j]?=some b):a<b:=by
 rw[<-bK] at ha hb
 obtain⟨hi,rfl⟩:=ae.mp ha
 obtain⟨hj,rfl⟩:=ae.mp hb
 exact fJ.mp hr i j hi hj hij
theorem FJ{ps:Array Nat}{j:Nat}(hr:AZ ps):∀fl lo hi,hi-lo<=fl->hi<=ps.size->lo<=hi->
  (∀i a,i<lo->ps[i]?=some a->a<j)->(∀i a,hi<=i->ps[i]?=some a->j<=a)->
  SetTable.below.go ps j fl lo hi<=ps.size/\(∀i a,i<SetTable.below.go ps j fl lo hi->ps[i]?=some a->a<j)
   /\(∀i a,SetTable.below.go ps j fl lo hi<=i->ps[i]?=some a->j<=a):=by
 intro fl
 induction fl with
 |zero=>
  intro lo hi hf hs hl h1 h2
  have:lo=hi:=by lia
  subst this
  exact⟨hs,h1,h2⟩
 |succ fl ih=>
  intro lo hi hf hs hl h1 h2
  unfold SetTable.below.go
  by_cases hlt:lo<hi
  ·rw[if_pos hlt]
   have hm:(lo+hi) / 2<ps.size:=by lia
   have hg:ps[(lo+hi) / 2]?=some (ps.getD ((lo+hi) / 2) j):=by
    simp[Array.getD,hm]
   dsimp only
   by_cases hc:ps.getD ((lo+hi) / 2) j<j
   ·rw[if_pos hc]
    refine ih _ _ (by lia) hs (by lia) (λi a hi' ha=>?_) h2
    rcases cf i ((lo+hi) / 2) with hq|hq
    ·exact i5 (hr.at hq ha hg) hc
    ·have:i=(lo+hi) / 2:=by lia
     subst this;rw[hg] at ha;cases ha;exact hc
   ·rw[if_neg hc]
    refine ih _ _ (by lia) (by lia) (by lia) h1 (λi a hi' ha=>?_)
    rcases cf ((lo+hi) / 2) i with hq|hq
    ·exact bW (dh (oA.mp hc) (hr.at hq hg ha))
    ·have:i=(lo+hi) / 2:=by lia
     subst this;rw[hg] at ha;cases ha;exact oA.mp hc
  ·rw[if_neg hlt]
   have:lo=hi:=by lia
   subst this
   exact⟨hs,h1,h2⟩
theorem pL{ps:Array Nat}(hr:AZ ps)(j:Nat):SetTable.below ps j<=ps.size/\(∀i a,i<SetTable.below ps j->ps[i]?=some a->a<j)
  /\(∀i a,SetTable.below ps j<=i->ps[i]?=some a->j<=a):=by
 refine FJ hr ps.size 0 ps.size (ar _) (ar _) (bq _) (λi a h=>absurd h (dC _)) (λi a h ha=>?_)
 rw[dH h] at ha;cases ha
theorem Bq{ps:Array Nat}(hr:AZ ps):SetTable.below ps 0=0:=by
 obtain⟨h1,h2,-⟩:=pL hr 0
 rcases Nat.eq_zero_or_pos (SetTable.below ps 0) with h|h
 ·exact h
 ·have hlt:0<ps.size:=by lia
  exact absurd (h2 0 ps[0] h (a6 hlt)) (dC _)
theorem Bp{ps:Array Nat}(hr:AZ ps){i p:Nat}(hp:ps[i]?=some p):SetTable.below ps (p+1)=i+1:=by
 obtain⟨h1,h2,h3⟩:=pL hr (p+1)
 have hlo:i<SetTable.below ps (p+1):=by
  rcases cf i (SetTable.below ps (p+1)) with h|h
  ·exact h
  ·exact absurd (h3 i p h hp) (by lia)
 rcases cf (i+1) (SetTable.below ps (p+1)) with h|h
 ·have hlt:i+1<ps.size:=by lia
  have hq:=a6 hlt
  have a1:=h2 _ _ h hq
  have a2:=hr.at (cF i) hp hq
  lia
 ·lia
theorem Co{ps:Array Nat}(hr:AZ ps){j:Nat}(hn:∀i:Nat,ps[i]?≠some j):AZ (SetTable.insertAt ps (SetTable.below ps j) j):=by
 obtain⟨h1,h2,h3⟩:=pL hr j
 unfold AZ
 rw[SetTable.toList_insertAt]
 have hlow:∀a∈ps.toList.take (SetTable.below ps j),a<j:=λa ha=>by
  obtain⟨i,hi⟩:=fb ha
  rw[fY] at hi
  split at hi
  ·rename_i hlt;exact h2 i a hlt (by rw[<-bK];exact hi)
  ·cases hi
 have hhigh:∀a∈ps.toList.drop (SetTable.below ps j),j<a:=λa ha=>by
  obtain⟨i,hi⟩:=fb ha
  rw[je,bK] at hi
  have:=h3 _ a (Nat.le_add_right _ _) hi
  rcases Nat.lt_or_eq_of_le this with h|h
  ·exact h
  ·subst h;exact absurd hi (hn _)
 refine List.pairwise_append.mpr ⟨hr.sublist (List.take_sublist _ _),eS.mpr ⟨hhigh,hr.sublist (List.drop_sublist _ _)⟩,λa ha b hb=>?_⟩
 rcases aK.mp hb with rfl|hb
 ·exact hlow a ha
 ·exact i5 (hlow a ha) (hhigh b hb)
structure px(led:Bool)(t:SetTable):Prop where
 led:t.led=led
 dum:t.dummies=#[]
 ris:t.plain=true->AZ t.place
theorem px.fresh(a b:Nat)(led:Bool):px led (SetTable.fresh a b led):=⟨rfl,rfl,λ_=>List.Pairwise.nil⟩
theorem px.standIn{led:Bool}{t:SetTable}(h:px led t)(n:Nat):px led (t.standIn n):=
 ⟨h.led,rfl,λhp=>by simp[SetTable.standIn] at hp⟩
theorem px.orStandIn{led:Bool}{t:SetTable}(h:px led t)(n:Nat):px led (t.orStandIn n):=by
 unfold SetTable.orStandIn
 split
 ·exact h
 ·exact h.standIn n
theorem zq(j:Nat):SetTable.has #[] j=false:=by
 unfold SetTable.has;simp
theorem Cr{t:SetTable}(hd:t.dummies=#[]){j:Nat}:t.slot j≠.dummy:=by
 unfold SetTable.slot
 rw[hd,zq]
 dsimp only
 split<;>simp
theorem BZ{t:SetTable}(hd:t.dummies=#[]){f:Nat->Int}{h:Int}:∀fl (p:SetTable.Probe) (j:Nat) (d:Option Nat),p.dummy=none->
  SetTable.probe.go t f h fl p=some (.empty j d)->d=none/\t.slot j=.empty:=by
 intro fl
 induction fl with
 |zero=>intro p j d hp hq;unfold SetTable.probe.go at hq;cases hq
 |succ fl ih=>
  intro p j d hp hq
  unfold SetTable.probe.go at hq
  have hadv:(t.advance p).dummy=none:=by
   unfold SetTable.advance;split<;>exact hp
  cases hs:t.slot p.j with
  |empty=>rw[hs] at hq;simp only[Option.some.injEq,SetTable.Met.empty.injEq] at hq;obtain⟨rfl,rfl⟩:=hq;exact⟨hp,hs⟩
  |dummy=>exact absurd hs (Cr hd)
  |live i=>
   rw[hs] at hq
   simp only at hq
   split at hq
   ·cases hq
   ·exact ih _ j d hadv hq
theorem Ej{t:SetTable}(hd:t.dummies=#[]){h:Int}{sl:Nat}{wd:Bool}(hq:t.freeSlot h=some (sl,wd)):t.slot sl=.empty:=by
 unfold SetTable.freeSlot SetTable.probe at hq
 split at hq
 ·rename_i j d he
  obtain⟨rfl,hs⟩:=BZ hd _ _ j d rfl he
  simp only[j8,Option.some.injEq,Prod.mk.injEq] at hq
  rw[<-hq.1];exact hs
 ·cases hq
theorem HK{t:SetTable}(hr:AZ t.place){j:Nat}(hs:t.slot j=.empty):∀i:Nat,t.place[i]?≠some j:=by
 intro i hi
 obtain⟨h1,h2,h3⟩:=pL hr j
 have hb:SetTable.below t.place j=i:=by
  rcases Nat.lt_trichotomy (SetTable.below t.place j) i with h|h|h
  ·have hlt:SetTable.below t.place j<t.place.size:=by
    have:=(dQ.mp hi).1;lia
   have hq:=a6 hlt
   have a1:=h3 _ _ (ar _) hq
   have a2:=hr.at h hq hi
   lia
  ·exact h
  ·exact absurd (h2 i j h hi) (cZ _)
 unfold SetTable.slot at hs
 rw[hb] at hs
 dsimp only at hs
 rw[hi] at hs
 simp at hs
theorem px.put{led:Bool}{t:SetTable}(h:px led t){sl:Nat}(hs:t.slot sl=.empty):px led (t.put sl).1:=by
 refine⟨h.led,?_,λhp=>?_⟩
 ·show(if SetTable.has t.dummies sl=true then _ else t.dummies)=#[]
  rw[h.dum,zq];rfl
 ·exact Co (h.ris hp) (HK (h.ris hp) hs)
theorem px.layNew{led:Bool}{t:SetTable}(h:px led t)(es:Array (Int×Value))(hs:Int)(x:Value):px led (layNew t es hs x).2.1:=by
 unfold PySem.layNew
 split
 ·rename_i sl wd hq
  exact(h.put (Ej h.dum hq)).orStandIn _
 ·exact h.standIn _
theorem px.off{led:Bool}{t:SetTable}(h:px led t):px led {t with plain:=false}:=⟨h.led,h.dum,λhp=>by simp at hp⟩
theorem tJ(g:Nat->Option Nat):∀l:List Nat,((l.filterMap λj=>(g j).map (j,·)).map (·.1)).Sublist l
 |[]=>List.Sublist.refl _
 |j::l=>by
  rw[fL]
  cases hg:g j with
  |none=>simpa using(tJ g l).cons j
  |some b=>simpa using(tJ g l).cons_cons j
theorem px.relaid{led:Bool}{t t':SetTable}{hs:Array Int}{n:Nat}{o:Array Nat}(h:px led t)(hq:t.relaid hs n=some (t',o)):px led t':=by
 unfold SetTable.relaid SetTable.laid at hq
 cases ho:SetTable.layClean (SetTable.sizeAbove n-1) hs with
 |none=>rw[ho] at hq;simp at hq
 |some ow=>
  rw[ho] at hq
  simp only[Option.bind_eq_bind,Option.bind_some,Option.pure_def,Option.some.injEq,Prod.mk.injEq] at hq
  rw[<-hq.1]
  refine⟨h.led,rfl,λ_=>?_⟩
  unfold AZ
  rw[List.toList_toArray]
  exact(List.pairwise_lt_range).sublist (tJ (λj=>ow.getD j none) _)
theorem px.relay{led:Bool}{t:SetTable}(h:px led t)(es:Array (Int×Value))(n:Nat):px led (relayAll t es n).2.1:=by
 unfold relayAll
 split
 ·rename_i t' o hq
  dsimp only
  split
  ·exact h.relaid hq
  ·exact h.standIn _
 ·exact h.standIn _
theorem zU{t:SetTable}(h:t.plain=false)(es:Array (Int×Value))(n:Nat):(relayAll t es n).2.1.plain=false:=by
 unfold relayAll
 split
 ·rename_i t' o hq
  dsimp only
  split
  ·unfold SetTable.relaid SetTable.laid at hq
   cases ho:SetTable.layClean (SetTable.sizeAbove n-1) (es.map (·.1)) with
   |none=>rw[ho] at hq;simp at hq
   |some ow=>
    rw[ho] at hq
    simp only[Option.bind_eq_bind,Option.bind_some,Option.pure_def,Option.some.injEq,Prod.mk.injEq] at hq
    rw[<-hq.1];exact h
  ·rfl
 ·rfl
section
variable{prog:Program}{w:World}{K:Type}[DecidableEq K]
def sJ(kd:KeyKind prog w K)(l:List (Int×Value)):Prop:=
 l.Pairwise λe e'=>∀k,kd.is k e.2=true->kd.is k e'.2=false
theorem sJ.perm{kd:KeyKind prog w K}{l l':List (Int×Value)}(h:sJ kd l)(p:l'.Perm l):sJ kd l':=by
 refine(p.pairwise_iff (λ{x y} hxy k hk=>?_)).mpr h
 cases hx:kd.is k x.2 with
 |false=>rfl
 |true=>have:=hxy k hx;rw[hk] at this;cases this
def SetTb(kd:KeyKind prog w K)(h:Heap)(a:Addr)(S:K->Bool)(n:Nat)(led np:Bool):Prop:=
 ∃o es ep t,h.get? a=some o/\o.ExactSet/\o.data=.set es ep t/\ElemsOf kd es.toList/\(∀k,S k=true↔∃e∈es.toList,kd.is k e.2=true)
  /\es.size<scanBound/\t.fits es.size=true/\es.size=n/\px led t/\(np=true->n≠0->t.plain=false)/\sJ kd es.toList
variable{kd:KeyKind prog w K}{A:Around}{E:Value->Shared->Prop}{s:Shared}
theorem SetTb.congr{h:Heap}{a:Addr}{S S':K->Bool}{n n':Nat}{led np:Bool}(hS:SetTb kd h a S n led np)(e:∀k,S k=S' k)(en:n=n'):SetTb kd h a S' n' led np:=by
 cases(funext e:S=S');cases en;exact hS
theorem SetTb.keep{h h':Heap}{a:Addr}{S:K->Bool}{n:Nat}{led np:Bool}(hS:SetTb kd h a S n led np)(e:∀o,h.get? a=some o->h'.get? a=some o):SetTb kd h' a S n led np:=by
 obtain⟨o,es,ep,t,ho,r⟩:=hS
 exact⟨o,es,ep,t,e o ho,r⟩
theorem SetTb.fresh{h:Heap}{a:Addr}{led np:Bool}{x y:Nat}(hg:h.get? a=some {cls:=.type "set",dict:=none,data:=.set #[] 0 (.fresh x y led)}) :
  SetTb kd h a (λ_=>false) 0 led np:=
 ⟨_,#[],0,_,hg,⟨rfl,rfl,rfl⟩,rfl,λe he=>by simp at he,λk=>by simp,by decide,rfl,rfl,px.fresh x y led,λ_ hn=>absurd rfl hn,List.Pairwise.nil⟩
structure Bb(kd:KeyKind prog w K)(S:K->Bool)(n:Nat)(led np:Bool)(es:Array (Int×Value))(t:SetTable):Prop where
 el:ElemsOf kd es.toList
 mem:∀k,S k=true↔∃e∈es.toList,kd.is k e.2=true
 few:es.size<scanBound
 fit:t.fits es.size=true
 many:es.size=n
 tab:px led t
 off:np=true->t.plain=false
 apart:sJ kd es.toList
theorem Bb.relay{S:K->Bool}{n:Nat}{led np:Bool}{es:Array (Int×Value)}{t:SetTable}(h:Bb kd S n led np es t)(wn:Nat) :
  Bb kd S n led np (relayAll t es wn).1 (relayAll t es wn).2.1:=by
 have hp:=relayAll_perm t es wn
 have hz:(relayAll t es wn).1.size=es.size:=by rw[<-bE,hp.length_eq,bE]
 exact⟨h.el.perm hp,λk=>(h.mem k).trans ⟨λ⟨e,he,q⟩=>⟨e,hp.mem_iff.mpr he,q⟩,λ⟨e,he,q⟩=>⟨e,hp.mem_iff.mp he,q⟩⟩,
  by rw[hz];exact h.few,relayAll_fits t es wn,by rw[hz];exact h.many,h.tab.relay es wn,λe=>zU (h.off e) es wn,h.apart.perm hp⟩
theorem Bb.stored{S:K->Bool}{n:Nat}{led np:Bool}{es':Array (Int×Value)}{t':SetTable}(L:Bb kd S n led np es' t')
  {h:Heap} {a:Addr} {o:Obj} {es:Array (Int×Value)} {ep:Nat} {t:SetTable} (ho:h.get? a=some o) (hex:o.ExactSet) (hd:o.data=.set es ep t) :
  (h.update a (Obj.putSet es' t')).get? a=some {o with data:=.set es' (ep+1) t'}/\SetTb kd (h.update a (Obj.putSet es' t')) a S n led np:=by
 have hg:=(SetOf_store (knd:=kd) ho hex hd L.el L.mem L.few L.fit).1
 exact⟨hg,_,es',ep+1,t',hg,hex,rfl,L.el,L.mem,L.few,L.fit,L.many,L.tab,λe _=>L.off e,L.apart⟩
theorem yY{g:Bool->Sem Unit}(hg:∀(b:Bool) (s₁:Shared) (Q':Unit->Shared->Prop),Q' () s₁->wpAny (model prog w) A (g b) Q' E s₁)
  {a:Addr} {o:Obj} {es:Array (Int×Value)} {ep:Nat} {t:SetTable} (ho:s.heap.get? a=some o) (hex:o.ExactSet) (hd:o.data=.set es ep t)
  {es1:Array (Int×Value)} {t2:SetTable} {S:K->Bool} {n:Nat} {led np:Bool} (L:Bb kd S n led np es1 t2) {wd:Bool} {R:Option Bool->Shared->Prop}
  (hR:∀h',Heap.SameBut a s.heap h'->SetTb kd h' a S n led np->R (some true) {s with heap:=h'}) :
  wpAny (model prog w) A (do
    storeSet a es1 t2
    if(!wd&&t2.tooFull)=true then do
      g (relayAll t2 es1 (SetTable.grown es1.size)).2.2
      storeSet a (relayAll t2 es1 (SetTable.grown es1.size)).1 (relayAll t2 es1 (SetTable.grown es1.size)).2.1
      pure (some true)
     else pure (some true)) R E s:=by
 refine wpAny_bind (wpAny_storeSet_of ho hd ?_ (fits_of_scanBound L.few))
 obtain⟨g1,T1⟩:=L.stored ho hex hd
 have sb:=Heap.SameBut.update s.heap a (Obj.putSet es1 t2)
 split
 ·have L2:=L.relay (SetTable.grown es1.size)
  refine wpAny_bind (hg _ _ _ ?_)
  refine wpAny_bind (wpAny_storeSet_of g1 rfl ?_ (fits_of_scanBound L2.few))
  obtain⟨-,T2⟩:=L2.stored g1 hex rfl
  exact wpAny_pure (hR _ (sb.trans (Heap.SameBut.update _ a _)) T2)
 ·exact wpAny_pure (hR _ sb T1)
theorem Ke{a:Addr}{S:K->Bool}{n:Nat}{led np:Bool}{k:K}{x:Value}{Q:Bool->Shared->Prop}(hkey:kd.is k x=true)(hsc:x.scannable=true)
  (hnp:np=true->plainKind x=false) (hS:SetTb kd s.heap a S n led np) (hroom:n+1<scanBound)
  (hQ:∀h',Heap.SameBut a s.heap h'->SetTb kd h' a (λk'=>S k' || decide (k'=k)) (if S k then n else n+1) led np->Q (!S k) {s with heap:=h'}) :
  wpAny (model prog w) A (setAddHashed a x (kd.hash k)) Q E s:=by
 obtain⟨o,es,ep,t,ho,hex,hd,hel,hmem,hb,hf,hn,htab,hoff,hap⟩:=hS
 have hb1:es.size+1<scanBound:=by rw[hn];exact hroom
 unfold setAddHashed setAddHashedIn
 refine wpAny_holding (wpAny_bind (wpAny_setState_of ho hd hf ?_))
 dsimp only
 rw[byScan_of hsc hb hel]
 simp only[↓reduceIte]
 unfold setAddByScan
 refine wpAny_bind ?_
 refine wpAny_bind (wpAny_rule ?_)
 refine wpAny_bind (wpAny_setScan_of hkey ho hd hf hel ?_)
 cases hr:List.findIdx? (λe=>kd.is k e.2) es.toList with
 |some j=>
  dsimp only
  obtain⟨hj,hpj,-⟩:=List.findIdx?_eq_some_iff_getElem.mp hr
  have hk:S k=true:=(hmem k).mpr ⟨_,b6 hj,hpj⟩
  refine wpAny_pure (wpAny_pure ?_)
  have es0:s={s with heap:=s.heap}:=by cases s;rfl
  have done:=hQ s.heap (Heap.SameBut.refl a s.heap) (SetTb.congr (S:=S) (n:=n) ⟨o,es,ep,t,ho,hex,hd,hel,hmem,hb,hf,hn,htab,hoff,hap⟩
   (λk'=>by by_cases e:k'=k<;>simp[e,hk]) (by rw[hk];rfl))
  rw[hk] at done;rw[es0];exact done
 |none=>
  dsimp only
  have hall:=List.findIdx?_eq_none_iff.mp hr
  have hk:S k=false:=by
   cases hk:S k with
   |false=>rfl
   |true=>obtain⟨e,he,hp⟩:=(hmem k).mp hk;rw[hall e he] at hp;cases hp
  have hper:=layNew_perm t es (kd.hash k) x
  have hfit:=layNew_fits t es (kd.hash k) x
  have htb:=htab.layNew es (kd.hash k) x
  generalize layNew t es (kd.hash k) x=L at hper hfit htb ⊢
  obtain⟨es1,t1,wd,gv⟩:=L
  dsimp only at hper hfit htb ⊢
  rw[Array.toList_push] at hper
  have hz:es1.size=n+1:=by rw[<-bE,hper.length_eq,ai,bE,hn];rfl
  have hap1:sJ kd es1.toList:=by
   refine sJ.perm (List.pairwise_append.mpr ⟨hap,gd _ _,λe he e' he' k' hk'=>?_⟩) hper
   rw[ao] at he';subst he'
   cases hq:kd.is k' x with
   |false=>rfl
   |true=>cases kd.inj x k' k hq hkey;rw[hall e he] at hk';cases hk'
  have hL:∀t2:SetTable,t2.fits es1.size=true->px led t2->(np=true->t2.plain=false)->Bb kd (λk'=>S k' || decide (k'=k)) (n+1) led np es1 t2:=
   λt2 f2 tb2 o2=>⟨(hel.push hkey hsc).perm hper,mem_push_iff hkey hmem hper,by rw[hz];exact hroom,f2,hz,tb2,o2,hap1⟩
  have hend:∀h',Heap.SameBut a s.heap h'->SetTb kd h' a (λk'=>S k' || decide (k'=k)) (n+1) led np->Q true {s with heap:=h'}:=by
   intro h' sb T;have q:=hQ h' sb;rw[hk] at q;exact q T
  have gw:∀(c:Bool) {s₁:Shared} {Q₁:Unit->Shared->Prop},Q₁ () s₁->
    wpAny (model prog w) A (match c with|true=>rule "set.scan.the-table-gave-way"|false=>pure ()) Q₁ E s₁:=λc s₁ Q₁ hq=>by
   cases c<;>first|exact wpAny_pure hq|exact wpAny_rule hq
  refine wpAny_bind (gw _ ?_)
  split
  ·refine wpAny_bind ?_
   rw[hashByValue_scannable 8 hsc]
   refine wpAny_pure ?_
   refine yY (n:=n+1) (led:=led) (np:=np) ?_ ho hex hd (hL _ ?_ ?_ ?_) ?_
   ·exact λb s₁ Q' hq=>gw b hq
   ·split
    ·exact hfit
    ·exact SetTable.fits_plain_off hfit
   ·split
    ·exact htb
    ·exact htb.off
   ·intro e;rw[hnp e];rfl
   ·intro h' sb T;dsimp only;exact wpAny_pure (hend h' sb T)
  ·rename_i hpl
   refine wpAny_bind (wpAny_pure ?_)
   simp only[↓reduceIte]
   refine yY (n:=n+1) (led:=led) (np:=np) ?_ ho hex hd (hL _ hfit htb (λ_=>by simpa using hpl)) ?_
   ·exact λb s₁ Q' hq=>gw b hq
   ·intro h' sb T;dsimp only;exact wpAny_pure (hend h' sb T)
end
theorem zz:Manifest.owners.lookup (String.ofList ['r','o','t','a','r','e','t','i','_','t','e','s'].reverse)=some Manifest.sig_set_iterator:=by kernel_rfl
theorem gF:Slot "set_iterator" "__next__" "set_iterator.__next__":=
 .of (owner:="set_iterator") (n:="__next__") (by rw[typeLookup_type,builtinLookup_eq_fast];kernel_rfl) (by decide +kernel) (by decide +kernel)
  (by decide +kernel) (by first|exact .inl (by decide +kernel)|exact .inr (by decide +kernel))
  (by rw[isSubtype_type];kernel_rfl)
theorem iy:entryFor table "set_iterator.__next__"=some Builtin.«set_iterator.__next__»:=entryFor_of_tree (by kernel_rfl)
theorem i6(v:Value):argsOk "set_iterator.__next__" ⟨[v],[]⟩:=by
 unfold argsOk
 rw[signature?_of (id:="set_iterator.__next__") (n:=['_','_','t','x','e','n','_','_']) (o:=['r','o','t','a','r','e','t','i','_','t','e','s']) (by kernel_rfl) zz]
 kernel_rfl
theorem Dd:Slot "set_iterator" "__iter__" "set_iterator.__iter__":=
 .of (owner:="set_iterator") (n:="__iter__") (by rw[typeLookup_type,builtinLookup_eq_fast];kernel_rfl) (by decide +kernel) (by decide +kernel)
  (by decide +kernel) (by first|exact .inl (by decide +kernel)|exact .inr (by decide +kernel))
  (by rw[isSubtype_type];kernel_rfl)
theorem vg:entryFor table "set_iterator.__iter__"=some Builtin.«dict_keyiterator.__iter__»:=
 entryFor_alias (id':="dict_keyiterator.__iter__") (by kernel_rfl) rfl (by decide +kernel) (by kernel_rfl)
theorem xO(v:Value):argsOk "set_iterator.__iter__" ⟨[v],[]⟩:=by
 unfold argsOk
 rw[signature?_of (id:="set_iterator.__iter__") (n:=['_','_','r','e','t','i','_','_']) (o:=['r','o','t','a','r','e','t','i','_','t','e','s']) (by kernel_rfl) zz]
 kernel_rfl
theorem ur:entryFor table "set.__iter__"=some Builtin.«frozenset.__iter__»:=
 entryFor_alias (id':="frozenset.__iter__") (by kernel_rfl) rfl (by decide +kernel) (by kernel_rfl)
def byText(w:World):Bool:=w.params.followText "set-order"
theorem oN{α:Type}:∀{l:List α} {i:Nat} (hi:i<l.length),(l[i]::l.eraseIdx i).Perm l
 |x::l,0,_=>List.Perm.refl _
 |x::l,i+1,hi=>by
  have hi':i<l.length:=by simpa using hi
  have h:=oN hi'
  simp only[List.getElem_cons_succ,List.eraseIdx_cons_succ]
  exact(List.Perm.swap _ _ _).trans (h.cons x)
theorem JJ{α:Type}(nx:Nat->Nat):∀(fl k:Nat) (left:List α) (out:Array α),left.length<=fl->(pickOrder.go nx fl k left out).toList.Perm (out.toList++left):=by
 intro fl
 induction fl with
 |zero=>intro k left out h;cases left with
  |nil=>simp[pickOrder.go]
  |cons x l=>simp at h
 |succ fl ih=>
  intro k left out h
  unfold pickOrder.go
  cases hl:left[nx k % left.length]? with
  |none=>
   have:left=[]:=by
    cases left with
    |nil=>rfl
    |cons x l=>rw[aa (Nat.mod_lt _ (by simp))] at hl;cases hl
   subst this;simp
  |some x=>
   obtain⟨hi,hx⟩:=ae.mp hl
   have hp:=oN hi
   rw[hx] at hp
   refine(ih (k+1) _ _ (by rw[ff];split<;>lia)).trans ?_
   rw[Array.toList_push,d5]
   exact hp.append_left out.toList
theorem qR{α:Type}(nx:Nat->Nat)(xs:Array α):(pickOrder nx xs).toList.Perm xs.toList:=by
 have:=JJ nx xs.size 0 xs.toList #[] (by simp)
 simpa[pickOrder] using this
section
variable{prog:Program}{w:World}{A:Around}{E:Value->Shared->Prop}{s:Shared}
theorem Kk{src:Source}{n:Nat}{Q:Nat->Shared->Prop}(hn:n≠0)(h:∀i d,i<n->Q i {s with drawn:=d}):wpAny (model prog w) A (choose src n) Q E s:=λΓ p hΓ=>by
 show Sem.wp _ _ (Sem.choose src n Sem.pure) _ _ _ _
 rw[Sem.wp_choose]
 refine⟨hn,?_⟩
 rw[Sem.wp_pure]
 exact h _ _ (Nat.mod_lt _ (Nat.pos_of_ne_zero hn))
theorem Ik{α:Type}:∀(n:Nat) (xs:List α) {s:Shared} {Q:List α->Shared->Prop},xs.length=n->(∀ys d,ys.Perm xs->Q ys {s with drawn:=d})->wpAny (model prog w) A (drawOrder n xs) Q E s:=by
 intro n
 induction n with
 |zero=>
  intro xs s Q hl h
  have:xs=[]:=by simpa using hl
  subst this
  unfold drawOrder
  exact wpAny_pure (h [] s.drawn (List.Perm.refl _))
 |succ n ih=>
  intro xs s Q hl h
  cases xs with
  |nil=>simp at hl
  |cons x l=>
   unfold drawOrder
   refine wpAny_bind (Kk (by simp) λi d hi=>?_)
   rw[aa hi]
   dsimp only
   refine wpAny_bind (ih _ (by rw[ff,if_pos hi];lia) λys d' hp=>?_)
   exact wpAny_pure (h _ d' ((hp.cons _).trans (oN hi)))
end
def eF(h:Heap)(I:Addr)(f:Value)(i:Nat)(a:Addr)(n ep:Nat):Prop:=
 h.get? I=some {cls:=.type "set_iterator",dict:=none,data:=.fields #[f,.int (i:Int) 0,.ref a,.int (n:Int) 0,.int (ep:Int) 0],slots:=#[]}
theorem eF.type{s:Shared}{I a:Addr}{f:Value}{i n ep:Nat}(h:eF s.heap I f i a n ep):s.TypeIs (.ref I) "set_iterator":=⟨_,h,rfl⟩
structure fK(h:Heap)(a:Addr)(es:Array (Int×Value))(ep:Nat)(t:SetTable):Prop where
 at_:∃o,h.get? a=some o/\o.cls=.type "set"/\o.data=.set es ep t
 fit:t.fits es.size=true
theorem fK.keep{h h':Heap}{a:Addr}{es:Array (Int×Value)}{ep:Nat}{t:SetTable}(x:fK h a es ep t)(k:∀o,h.get? a=some o->h'.get? a=some o):fK h' a es ep t:=by
 obtain⟨⟨o,ho,r⟩,f⟩:=x
 exact⟨⟨o,k o ho,r⟩,f⟩
section
variable{prog:Program}{w:World}{A:Around}{E:Value->Shared->Prop}{s:Shared}{I a:Addr}{i n ep:Nat}{es:Array (Int×Value)}{t:SetTable}
theorem fK.state{Q:(Array (Int×Value)×Nat×SetTable)->Shared->Prop}(x:fK s.heap a es ep t)(h:Q (es,ep,t) s):wpAny (model prog w) A (setState a) Q E s:=by
 obtain⟨⟨o,ho,-,hd⟩,f⟩:=x
 exact wpAny_setState_of ho hd f h
theorem fK.entries{Q:Array (Int×Value)->Shared->Prop}(x:fK s.heap a es ep t)(h:Q es s):wpAny (model prog w) A (setEntries a) Q E s:=by
 unfold setEntries
 exact wpAny_bind (x.state (wpAny_pure h))
theorem fK.epoch{Q:Nat->Shared->Prop}(x:fK s.heap a es ep t)(h:Q ep s):wpAny (model prog w) A (setEpoch a) Q E s:=by
 unfold setEpoch
 exact wpAny_bind (x.state (wpAny_pure h))
theorem sr{Q:Bool->Shared->Prop}(h:Q (byText w) s):wpAny (model prog w) A setsByText Q E s:=by
 unfold setsByText
 exact wpAny_bind (wpAny_askSetting (wpAny_pure h))
theorem wo{sl:Nat}{Q:Option (Value×Nat)->Shared->Prop}(hb:byText w=true)(x:fK s.heap a es ep t)
  (h:Q (((pickOrder (w.params.setOrder a ep) es)[i]?).map λe=>(e.2,sl)) s):wpAny (model prog w) A (setNext a sl i ep) Q E s:=by
 unfold setNext
 refine wpAny_bind (x.state ?_)
 dsimp only
 refine wpAny_bind (sr ?_)
 rw[hb]
 simp only[bne_self_eq_false,Bool.false_eq_true,↓reduceIte]
 refine wpAny_bind ?_
 unfold setWalk
 refine wpAny_bind (x.state ?_)
 dsimp only
 refine wpAny_bind (sr ?_)
 rw[hb]
 simp only[↓reduceIte]
 exact wpAny_bind (wpAny_askSetting (wpAny_pure (wpAny_pure h)))
theorem tL{sl:Nat}{Q:Option (Value×Nat)->Shared->Prop}(hb:byText w=false)(x:fK s.heap a es ep t)(hl:t.led=true)(hp:t.plain=true\/es.size<=1)
  (h:Q (match es[SetTable.below t.place sl]?,t.place[SetTable.below t.place sl]? with|some (_,x),some j=>some (x,j+1)|_,_=>none) s) :
  wpAny (model prog w) A (setNext a sl i ep) Q E s:=by
 unfold setNext
 refine wpAny_bind (x.state ?_)
 dsimp only
 refine wpAny_bind (sr ?_)
 rw[hb]
 simp only[Bool.false_eq_true,↓reduceIte]
 refine wpAny_ite_split (λhd=>?_) (λ_=>?_)
 ·change (!t.plain&&decide (es.size>1))=true at hd
  rcases hp with hp|hp
  ·rw[hp] at hd;cases hd
  ·rw[Bool.and_eq_true,decide_eq_true_eq] at hd;omega
 ·refine wpAny_bind ?_
  show wpAny _ _ (if(!t.led && !es.isEmpty)=true then _ else _) _ _ _
  rw[hl]
  simp only[Bool.not_true,Bool.false_and,Bool.false_eq_true,↓reduceIte]
  exact wpAny_pure (wpAny_pure h)
theorem zy{sl nx:Nat}{x:Value}{Q:Option Value->Shared->Prop}(hI:eF s.heap I (.int (sl:Int) 0) i a n ep)(S:fK s.heap a es ep t)(hn:es.size=n)
  (hx:∀{E':Value->Shared->Prop} {Q':Option (Value×Nat)->Shared->Prop},Q' (some (x,nx)) s->wpAny (model prog w) A.in1 (setNext a sl i ep) Q' E' s)
  (hQ:∀h',eF h' I (.int (nx:Int) 0) (i+1) a n ep->Heap.SameBut I s.heap h'->Q (some x) {s with heap:=h'}) :
  wpAny (model prog w) A (pyNext (.ref I)) Q E s:=by
 unfold pyNext
 refine wpAny_bind (wpAny_attempt (wpAny_callSpecial?_slot (name:=Str.ofString "__next__") hI.type gF (wpAny_call_entry gF hI.type iy ?_ (i6 _))))
 unfold Builtin.«set_iterator.__next__»
 refine wpAny_bind (m:=slotArgs _ _ _) (wpAny_pure ?_)
 refine wpAny_bind (wpAny_fieldsOf hI rfl ?_)
 dsimp only
 refine wpAny_bind (S.entries ?_)
 rw[hn]
 simp only[bne_self_eq_false,Bool.false_eq_true,↓reduceIte,aY]
 refine wpAny_bind (hx ?_)
 dsimp only
 refine wpAny_bind (cM hI (by simp) λh1 g1 sb1=>?_)
 refine wpAny_bind (cM g1 (by simp) λh2 g2 sb2=>?_)
 refine wpAny_pure ⟨_,rfl,wpAny_pure (hQ h2 ?_ (sb1.trans sb2))⟩
 unfold eF
 rw[g2]
 simp[rawInt]
theorem De{Q:Option Value->Shared->Prop}{h1:Heap}(hh:A.handled=none)(sb:Heap.SameBut I s.heap h1)
  (hQ:∀h',Heap.ExtBut I s.heap h'->Q none {s with heap:=h'}) :
  wpAny (model prog w) A.in1 (newExc (.type "StopIteration") [] >>= λe=>(raiseNew e:Sem Fin)) (λfin s'=>∃v,fin=.done (.ret v)/\wpAny (model prog w) A (pure (some v)) Q E s')
   (λe s'=>wpAny (model prog w) A (do if <-isInstance e (.type "StopIteration") then pure none else throw e) Q E s') {s with heap:=h1}:=by
 refine wpAny_bind ?_
 simp only[newExc,newTuple]
 refine wpAny_bind (wpAny_newObj_type ?_ (by size_fits))
 refine wpAny_bind (m:=firstArgMember _ _) (wpAny_of_eq (a:=Value.none) (by first|rfl|(simp only[firstArgMember];rfl)) ?_)
 refine wpAny_newObj_type ?_ (by size_fits)
 simp only[raiseNew]
 refine wpAny_bind (wpAny_handled ?_)
 rw[show A.in1.handled=none from hh]
 refine wpAny_bind (wpAny_pure (wpAny_throw ?_))
 refine wpAny_bind (wpAny_isInstance (T:="StopIteration") (b:=true) ⟨_,ax _ rfl,rfl⟩ isSubtype_stop ?_)
 exact wpAny_pure (hQ _ ((sb.extBut.push _).push _))
theorem zx{sl:Nat}{Q:Option Value->Shared->Prop}(hh:A.handled=none)(hI:eF s.heap I (.int (sl:Int) 0) i a n ep)(S:fK s.heap a es ep t)(hn:es.size=n)
  (hx:∀{E':Value->Shared->Prop} {Q':Option (Value×Nat)->Shared->Prop},Q' none s->wpAny (model prog w) A.in1 (setNext a sl i ep) Q' E' s)
  (hQ:∀h',Heap.ExtBut I s.heap h'->Q none {s with heap:=h'}) :
  wpAny (model prog w) A (pyNext (.ref I)) Q E s:=by
 unfold pyNext
 refine wpAny_bind (wpAny_attempt (wpAny_callSpecial?_slot (name:=Str.ofString "__next__") hI.type gF (wpAny_call_entry gF hI.type iy ?_ (i6 _))))
 unfold Builtin.«set_iterator.__next__»
 refine wpAny_bind (m:=slotArgs _ _ _) (wpAny_pure ?_)
 refine wpAny_bind (wpAny_fieldsOf hI rfl ?_)
 dsimp only
 refine wpAny_bind (S.entries ?_)
 rw[hn]
 simp only[bne_self_eq_false,Bool.false_eq_true,↓reduceIte,aY]
 refine wpAny_bind (hx ?_)
 dsimp only
 refine wpAny_bind (cM hI (by simp) λh1 g1 sb1=>?_)
 exact De hh sb1 hQ
theorem Gj{T:Addr}{ord:List Nat}{q:Nat}{e:Int×Value}{Q:Option Value->Shared->Prop}(hI:eF s.heap I (.ref T) i a n ep)(S:fK s.heap a es ep t)(hn:es.size=n)
  (hT:∃o c,s.heap.get? T=some o/\o.data=.seq (ord.map λ(i:Nat)=>rawInt i).toArray c) (hq:ord[i]?=some q) (he:es[q]?=some e)
  (hQ:∀h',eF h' I (.ref T) (i+1) a n ep->Heap.SameBut I s.heap h'->Q (some e.2) {s with heap:=h'}) :
  wpAny (model prog w) A (pyNext (.ref I)) Q E s:=by
 obtain⟨oT,c,hoT,hdT⟩:=hT
 unfold pyNext
 refine wpAny_bind (wpAny_attempt (wpAny_callSpecial?_slot (name:=Str.ofString "__next__") hI.type gF (wpAny_call_entry gF hI.type iy ?_ (i6 _))))
 unfold Builtin.«set_iterator.__next__»
 refine wpAny_bind (m:=slotArgs _ _ _) (wpAny_pure ?_)
 refine wpAny_bind (wpAny_fieldsOf hI rfl ?_)
 dsimp only
 refine wpAny_bind (S.entries ?_)
 rw[hn]
 simp only[bne_self_eq_false,Bool.false_eq_true,↓reduceIte,aY]
 refine wpAny_bind (wpAny_seqItems hoT hdT ?_)
 have hg:(ord.map λ(i:Nat)=>rawInt i).toArray[i]?=some (.int (q:Int) 0):=by
  rw[e6,aG,hq];rfl
 dsimp only
 rw[hg]
 dsimp only
 simp only[aY]
 refine wpAny_bind ?_
 unfold setNextDrawn
 refine wpAny_bind (S.state ?_)
 dsimp only
 simp only[bne_self_eq_false,Bool.false_eq_true,↓reduceIte]
 rw[he]
 dsimp only
 refine wpAny_pure ?_
 refine wpAny_bind (cM hI (by simp) λh1 g1 sb1=>?_)
 refine wpAny_pure ⟨_,rfl,wpAny_pure (hQ h1 ?_ sb1)⟩
 unfold eF
 rw[g1]
 simp[rawInt]
theorem Gi{T:Addr}{ord:List Nat}{Q:Option Value->Shared->Prop}(hh:A.handled=none)(hI:eF s.heap I (.ref T) i a n ep)(S:fK s.heap a es ep t)(hn:es.size=n)
  (hT:∃o c,s.heap.get? T=some o/\o.data=.seq (ord.map λ(i:Nat)=>rawInt i).toArray c) (hq:ord[i]?=none)
  (hQ:∀h',Heap.ExtBut I s.heap h'->Q none {s with heap:=h'}) :
  wpAny (model prog w) A (pyNext (.ref I)) Q E s:=by
 obtain⟨oT,c,hoT,hdT⟩:=hT
 unfold pyNext
 refine wpAny_bind (wpAny_attempt (wpAny_callSpecial?_slot (name:=Str.ofString "__next__") hI.type gF (wpAny_call_entry gF hI.type iy ?_ (i6 _))))
 unfold Builtin.«set_iterator.__next__»
 refine wpAny_bind (m:=slotArgs _ _ _) (wpAny_pure ?_)
 refine wpAny_bind (wpAny_fieldsOf hI rfl ?_)
 dsimp only
 refine wpAny_bind (S.entries ?_)
 rw[hn]
 simp only[bne_self_eq_false,Bool.false_eq_true,↓reduceIte,aY]
 refine wpAny_bind (wpAny_seqItems hoT hdT ?_)
 have hg:(ord.map λ(i:Nat)=>rawInt i).toArray[i]?=none:=by
  rw[e6,aG,hq];rfl
 dsimp only
 rw[hg]
 dsimp only
 refine wpAny_bind (cM hI (by simp) λh1 g1 sb1=>?_)
 refine wpAny_bind (cM g1 (by simp) λh2 g2 sb2=>?_)
 exact De (s:=s) hh (sb1.trans sb2) hQ
theorem xP{f:Value}{Q:Value->Shared->Prop}(hI:eF s.heap I f i a n ep)(h:Q (.ref I) s):wpAny (model prog w) A (pyIter (.ref I)) Q E s:=by
 refine wpAny_pyIter_slot hI.type Dd (wpAny_call_entry Dd hI.type vg ?_ (xO _))
 show wpAny _ _ (ret (.ref I)) _ _ s
 exact wpAny_pure ⟨_,rfl,"set_iterator",_,hI.type,gF.lookup,h⟩
theorem EZ(hh:A.handled=none)(hb:byText w=true)(hne:a≠I) :
  Walks prog w A I [I,a] [I] es.size (λi v=>∃e,(pickOrder (w.params.setOrder a ep) es).toList[i]?=some e/\v=e.2) (λi h=>eF h I (.int ((0:Nat):Int) 0) i a es.size ep/\fK h a es ep t) where
 sub:=λb hb=>by simp at hb;simp[hb]
 frame:=λi h h' st hk=>⟨hk I (by simp) _ st.1,st.2.keep λo e=>hk a (by simp) o e⟩
 item:=λi s Q E hi st hQ=>by
  have hz:=(qR (w.params.setOrder a ep) es).length_eq
  have hg:(pickOrder (w.params.setOrder a ep) es).toList[i]?=some ((pickOrder (w.params.setOrder a ep) es).toList[i]'(by rw[hz,bE];exact hi)):=aa _
  refine zy (x:=((pickOrder (w.params.setOrder a ep) es).toList[i]'(by rw[hz,bE];exact hi)).2) (nx:=0) st.1 st.2 rfl (λhq=>wo hb st.2 ?_) λh' hI' sb=>?_
  ·rw[<-bK,hg];exact hq
  ·exact hQ _ h' s.toks ⟨_,hg,rfl⟩ ⟨hI',st.2.keep λo e=>by rw[sb.2 a hne];exact e⟩ λb o hb e=>by rw[sb.2 b (by simpa using hb)];exact e
 done:=λs Q E st hQ=>by
  have hz:=(qR (w.params.setOrder a ep) es).length_eq
  refine zx hh st.1 st.2 rfl (λhq=>wo hb st.2 ?_) λh' hx=>?_
  ·rw[<-bK,aZ (by rw[hz,bE];exact ar _)];exact hq
  ·exact hQ h' s.toks λb o hb e=>hx b o (by simpa using hb) e
 self:=λi s Q E st hQ=>xP st.1 hQ
theorem CL(hh:A.handled=none)(hb:byText w=false)(hne:a≠I)(hl:t.led=true)(hp:t.plain=true\/es.size<=1)(hr:AZ t.place)(hz:t.place.size=es.size) :
  Walks prog w A I [I,a] [I] es.size (λi v=>∃e,es.toList[i]?=some e/\v=e.2) (λi h=>∃sl:Nat,eF h I (.int (sl:Int) 0) i a es.size ep/\fK h a es ep t/\SetTable.below t.place sl=i) where
 sub:=λb hb=>by simp at hb;simp[hb]
 frame:=λi h h' ⟨sl,x1,x2,x3⟩ hk=>⟨sl,hk I (by simp) _ x1,x2.keep λo e=>hk a (by simp) o e,x3⟩
 item:=λi s Q E hi ⟨sl,x1,x2,x3⟩ hQ=>by
  have g1:es[i]?=some es[i]:=a6 hi
  have hi':i<t.place.size:=by rw[hz];exact hi
  have g2:t.place[i]?=some t.place[i]:=a6 hi'
  refine zy (x:=es[i].2) (nx:=t.place[i]+1) x1 x2 rfl (λhq=>tL hb x2 hl hp ?_) λh' hI' sb=>?_
  ·rw[x3,g1,g2];exact hq
  ·exact hQ _ h' s.toks ⟨_,by rw[bK];exact g1,rfl⟩ ⟨_,hI',x2.keep λo e=>by rw[sb.2 a hne];exact e,Bp hr g2⟩ λb o hb e=>by rw[sb.2 b (by simpa using hb)];exact e
 done:=λs Q E ⟨sl,x1,x2,x3⟩ hQ=>by
  refine zx hh x1 x2 rfl (λhq=>tL hb x2 hl hp ?_) λh' hx=>?_
  ·rw[x3,dH (ar _)];exact hq
  ·exact hQ h' s.toks λb o hb e=>hx b o (by simpa using hb) e
 self:=λi s Q E ⟨sl,x1,x2,x3⟩ hQ=>xP x1 hQ
def y3(es:Array (Int×Value))(ord:List Nat):List (Int×Value):=ord.map λq=>(es[q]?).getD (0,.none)
theorem Bo{ord:List Nat}(hp:ord.Perm (cc es.size)):(y3 es ord).Perm es.toList:=by
 refine(hp.map _).trans (List.Perm.of_eq ?_)
 refine d6 λi=>?_
 rw[aG]
 rcases cf i es.size with h|h
 ·rw[iW h,bK,a6 h]
  simp[h]
 ·rw[aZ (by simpa using h),aZ (by simpa using h)];rfl
theorem CK{T:Addr}{ord:List Nat}(hh:A.handled=none)(hne:a≠I)(hTI:T≠I)(hp:ord.Perm (cc es.size)) :
  Walks prog w A I [I,a,T] [I] es.size (λi v=>∃e,(y3 es ord)[i]?=some e/\v=e.2)
   (λi h=>eF h I (.ref T) i a es.size ep/\fK h a es ep t/\∃o c,h.get? T=some o/\o.data=.seq (ord.map λ(i:Nat)=>rawInt i).toArray c) where
 sub:=λb hb=>by simp at hb;simp[hb]
 frame:=λi h h' ⟨x1,x2,o,c,x3,x4⟩ hk=>⟨hk I (by simp) _ x1,x2.keep λo e=>hk a (by simp) o e,o,c,hk T (by simp) _ x3,x4⟩
 item:=λi s Q E hi ⟨x1,x2,x3⟩ hQ=>by
  have hlen:ord.length=es.size:=by rw[hp.length_eq,dB]
  have hi':i<ord.length:=by rw[hlen];exact hi
  have hq:ord[i]?=some ord[i]:=aa hi'
  have hlt:ord[i]<es.size:=by simpa using hp.mem_iff.mp (b6 hi')
  have he:es[ord[i]]?=some es[ord[i]]:=a6 hlt
  have hg:(y3 es ord)[i]?=some es[ord[i]]:=by unfold y3;rw[aG,hq];simp[he]
  refine Gj x1 x2 rfl x3 hq he λh' hI' sb=>?_
  obtain⟨o,c,y1,y2⟩:=x3
  exact hQ _ h' s.toks ⟨_,hg,rfl⟩ ⟨hI',x2.keep λo e=>by rw[sb.2 a hne];exact e,o,c,by rw[sb.2 T hTI];exact y1,y2⟩ λb o hb e=>by rw[sb.2 b (by simpa using hb)];exact e
 done:=λs Q E ⟨x1,x2,x3⟩ hQ=>by
  have hlen:ord.length=es.size:=by rw[hp.length_eq,dB]
  refine Gi hh x1 x2 rfl x3 (aZ (by omega)) λh' hx=>?_
  exact hQ h' s.toks λb o hb e=>hx b o (by simpa using hb) e
 self:=λi s Q E ⟨x1,x2,x3⟩ hQ=>xP x1 hQ
theorem Kb{ps:Array Nat}(h:ps.size<=1):AZ ps:=by
 unfold AZ
 obtain⟨l⟩:=ps
 match l,h with
 |[],_=>exact List.Pairwise.nil
 |[x],_=>exact gd _ _
theorem HI{Q:Value->Shared->Prop}(hh:A.handled=none)(S:fK s.heap a es ep t)(hT:px (!byText w) t)(hz:es.size<=sizeLine)
  (hQ:∀(I:Addr) (h':Heap) d (fp:List Addr) (L:List (Int×Value)) (St:Nat->Heap->Prop),L.Perm es.toList->(∀b o,s.heap.get? b=some o->h'.get? b=some o)->
   (∀b∈fp,b=a\/s.heap.objs.size<=b)->s.heap.objs.size<=I->Walks prog w A I fp [I] es.size (λi v=>∃e,L[i]?=some e/\v=e.2) St->St 0 h'->Q (.ref I) {s with heap:=h',drawn:=d}) :
  wpAny (model prog w) A (pyIter (.ref a)) Q E s:=by
 obtain⟨⟨o,ho,hc,hd⟩,hf⟩:=id S
 have lt:=aF ho
 have hps:t.place.size=es.size:=by
  simp only[SetTable.fits,Bool.and_eq_true,beq_iff_eq] at hf;exact hf.1
 have hty:s.TypeIs (.ref a) "set":=⟨o,ho,hc⟩
 refine wpAny_pyIter_slot hty F.slot_set_iter (wpAny_call_entry F.slot_set_iter hty ur ?_ (F.args_set_iter_1 _))
 unfold Builtin.«frozenset.__iter__»
 refine wpAny_bind (m:=Builtin.Frozenset.slot0 _ _) (wpAny_pure ?_)
 refine wpAny_bind ?_
 unfold Builtin.Frozenset.sizeOf
 refine wpAny_bind (S.entries (wpAny_pure ?_))
 refine wpAny_bind ?_
 unfold setDrawn
 refine wpAny_bind (S.state ?_)
 dsimp only
 refine wpAny_bind (sr (wpAny_pure ?_))
 refine wpAny_ite_split (λhdr=>?_) (λhdr=>?_)
 ·change (!byText w&&(!t.plain&&decide (es.size>1)))=true at hdr
  refine wpAny_bind (Ik _ _ (dB) λys d hp=>?_)
  have hyl:ys.length=es.size:=by rw[hp.length_eq,dB]
  refine wpAny_bind (wpAny_newTuple ?_ (by rw[af,hyl];exact hz))
  refine wpAny_bind (fK.epoch (es:=es) (t:=t) (ep:=ep) (S.keep λo e=>ag _ e) ?_)
  refine wpAny_bind (wpAny_newObj_type (wpAny_pure ⟨_,rfl,"set_iterator",_,⟨_,ax _ rfl,rfl⟩,gF.lookup,?_⟩))
  refine hQ _ _ d [_,a,s.heap.objs.size] (y3 es ys) _ (Bo hp) (λb o e=>ag _ (ag _ e)) (λb hb=>?_) ?_
   (CK (T:=s.heap.objs.size) (ep:=ep) (t:=t) (by exact hh) ?_ ?_ hp) ⟨ax _ rfl,S.keep λo e=>ag _ (ag _ e),_,_,ag _ (ax _ rfl),rfl⟩
  ·rw[bC] at hb
   simp only[aK,cu,or_false] at hb
   rcases hb with rfl|rfl|rfl
   ·exact .inr (by omega)
   ·exact .inl rfl
   ·exact .inr (ar _)
  ·rw[bC];exact d8 _
  ·rw[bC];exact aN (c6 lt)
  ·rw[bC];exact aN (cF _)
 ·change ¬((!byText w&&(!t.plain&&decide (es.size>1)))=true) at hdr
  refine wpAny_bind (wpAny_pure ?_)
  refine wpAny_bind (S.epoch ?_)
  refine wpAny_bind (wpAny_newObj_type (wpAny_pure ⟨_,rfl,"set_iterator",_,⟨_,ax _ rfl,rfl⟩,gF.lookup,?_⟩))
  have hfp:∀b∈[s.heap.objs.size,a],b=a\/s.heap.objs.size<=b:=λb hb=>by
   simp only[aK,cu,or_false] at hb
   rcases hb with rfl|rfl
   ·exact .inr (ar _)
   ·exact .inl rfl
  cases hbt:byText w with
  |true=>
   refine hQ _ _ s.drawn [_,a] _ _ (qR (w.params.setOrder a ep) es) (λb o e=>ag _ e) hfp (ar _)
    (EZ (t:=t) hh hbt (aN lt)) ⟨ax _ rfl,S.keep λo e=>ag _ e⟩
  |false=>
   rw[hbt] at hdr
   have hl:t.led=true:=by rw[hT.led,hbt];rfl
   have hpl:t.plain=true\/es.size<=1:=by
    cases hq:t.plain with
    |true=>exact .inl rfl
    |false=>rw[hq] at hdr;simp at hdr;exact .inr (by omega)
   have hr:AZ t.place:=by
    rcases hpl with h|h
    ·exact hT.ris h
    ·exact Kb (by rw[hps];exact h)
   refine hQ _ _ s.drawn [_,a] _ _ (List.Perm.refl _) (λb o e=>ag _ e) hfp (ar _)
    (CL (t:=t) (ep:=ep) hh hbt (aN lt) hl hpl hr hps) ⟨0,ax _ rfl,S.keep λo e=>ag _ e,Bq hr⟩
end
end BgSet
end
section
namespace BgSet
open PySem PyProof.Rows
section
variable{prog:Program}{w:World}{A:Around}{R:Result->Shared->Prop}{I:Addr}{fp wr:List Addr}{G:Array GenState->Array GenState->Prop}{n:Nat}{P:Nat->Value->Prop}{St:Nat->Shared->Prop}
variable{K:Type}[DecidableEq K]{kd:KeyKind prog w K}
def met(val:Nat->K)(i:Nat)(k:K):Bool:=decide (k∈(cc i).map val)
theorem Gw(val:Nat->K)(i:Nat)(k:K):(met val i k || decide (k=val i))=met val (i+1) k:=by
 unfold met
 rw[Bool.eq_iff_iff,Bool.or_eq_true,decide_eq_true_eq,decide_eq_true_eq,decide_eq_true_eq,fU,aB,aE]
 simp
theorem Am(W:WalksS prog w A.in1 I fp wr G n P St)(S:Addr)(hSf:S∉fp)(val:Nat->K)(led np:Bool)
  (hval:∀i v,P i v->kd.is (val i) v=true/\v.scannable=true/\(np=true->plainKind v=false)) (hb:n+1<scanBound) :
  ∀(k i m:Nat) (s:Shared),n-i=k->i<=n->m<=i->St i s->SetTb kd s.heap S (met val i) m led np->
   (∀s' m',Moved (S::wr) G s s'->m'<=n->SetTb kd s'.heap S (met val n) m' led np->R (.ok (.ret .none)) s')->
   codeAny (model prog w) A (.builtin "set.update.loop" ⟨[.ref S,.ref I],[]⟩) R s:=by
 have hSw:S∉wr:=λh=>hSf (W.sub _ h)
 have more:∀b∈wr,b∈S::wr:=λb hb=>a9 _ hb
 intro k
 induction k with
 |zero=>
  intro i m s hk hi hm st T hR
  cases(by lia:i=n)
  refine codeAny_builtin PyProof.Rows.F.entry_set_update_loop ?_
  rw[Around.under_plainId PyProof.Rows.F.plain_set_update_loop _]
  show wpAny _ A.in1 (pyNext (.ref I) >>= _) _ _ s
  refine wpAny_bind (W.done s _ _ st λs' mv=>?_)
  show wpAny _ A.in1 (ret Value.none) _ _ s'
  exact wpAny_pure (hR s' m (mv.mono more) hm (T.keep λo e=>mv.heap S _ hSw e))
 |succ k ih=>
  intro i m s hk hi hm st T hR
  have lt:i<n:=by lia
  refine codeAny_builtin PyProof.Rows.F.entry_set_update_loop ?_
  rw[Around.under_plainId PyProof.Rows.F.plain_set_update_loop _]
  show wpAny _ A.in1 (pyNext (.ref I) >>= _) _ _ s
  refine wpAny_bind (W.item i s _ _ lt st λv s' hP st' mv=>?_)
  obtain⟨h1,h2,h3⟩:=hval i v hP
  have T':=T.keep (h':=s'.heap) λo e=>mv.heap S _ hSw e
  show wpAny _ A.in1 (holding [v] (setAdd S v) >>= _) _ _ s'
  refine wpAny_bind (wpAny_holding ?_)
  unfold setAdd
  refine wpAny_holding ?_
  refine wpAny_bind (kd.pyHash (k:=val i) h1 ?_)
  refine Ke (s:={s' with toks:=s'.toks+1}) h1 h2 h3 T' (by lia) λh' sb T2=>?_
  have hm2:(if met val i (val i)=true then m else m+1)<=i+1:=by split<;>lia
  refine wpAny_pure ⟨plainId_quiet PyProof.Rows.F.plain_set_update_loop _,ih (i+1) _ _ (by lia) lt hm2 (W.frame _ s' _ _ st' (d8 _) λb hb o e=>?_)
   (T2.congr (λk'=>Gw val i k') rfl) λs'' m' mv2 hm' T3=>?_⟩
  ·rw[sb.2 b (λh:b=S=>hSf (by rw[<-h];exact hb))];exact e
  ·refine hR s'' m' (Moved.trans W.gtrans ((mv.mono more).then_heap (d8 _) λb o hb e=>?_) mv2) hm' T3
   rw[sb.2 b (λh:b=S=>hb (by rw[h];exact bf))];exact e
end
section
variable{prog:Program}{w:World}{A:Around}{E:Value->Shared->Prop}{s:Shared}{K:Type}[DecidableEq K]{kd:KeyKind prog w K}
def c7(w:World):Obj:={cls:=.type "set",dict:=none,data:=.set #[] 0 (.fresh 0 0 (!byText w))}
theorem DA(v:Value){Q:Value->Shared->Prop}(h:Q (.ref s.heap.objs.size) {s with heap:=s.heap.push (c7 w)}) :
  codeAny (model prog w) A (.call (.builtin "set.__new__") ⟨[.type "set",v],[]⟩) (wants Q E) s:=by
 refine codeAny_of_tree ?_
 show wpAny _ A.in1 (checkBuiltinCall "set.__new__" ⟨[.type "set",v],[]⟩ >>= λ_=>again (.builtin "set.__new__" ⟨[.type "set",v],[]⟩)) _ _ s
 refine wpAny_bind (wpAny_of_eq (PySem.F.newCall_set_1 v) (wpAny_pure ⟨plainId_quiet PySem.F.plain_set_new _,codeAny_builtin PySem.F.entry_set_new ?_⟩))
 rw[Around.under_plainId PySem.F.plain_set_new _]
 unfold Builtin.«set.__new__» Builtin.Frozenset.newClass
 have hsub:=sub_set_self
 obtain⟨hp,g,d,tk,os⟩:=s
 dsimp only
 wp_walk
 refine wpAny_askSetting (wpAny_pure ?_)
 dsimp only
 simp only[newObj]
 refine wpAny_bind (wpAny_alloc (wpAny_pure ?_))
 exact wpAny_pure h
end
section
variable{prog:Program}{w:World}{A:Around}{E:Value->Shared->Prop}{s:Shared}{K:Type}[DecidableEq K][Inhabited K]{kd:KeyKind prog w K}
theorem set_of_list{l:Addr}{its:Array Value}(ks:List K)(np:Bool){Q:Value->Shared->Prop}(hh:A.handled=none)(hl:s.heap.IsList l its)(hk:ks.length=its.size)
  (hv:∀(i:Nat) k v,ks[i]?=some k->its[i]?=some v->kd.is k v=true/\v.scannable=true/\(np=true->plainKind v=false)) (hb:its.size+1<scanBound)
  (hQ:∀(h':Heap) (tk m:Nat),m<=its.size->SetTb kd h' s.heap.objs.size (λk=>decide (k∈ks)) m (!byText w) np->
   (∀b o,b<s.heap.objs.size->s.heap.get? b=some o->h'.get? b=some o)->Q (.ref s.heap.objs.size) {s with heap:=h',toks:=tk}) :
  wpAny (model prog w) A (call (.type "set") [.ref l]) Q E s:=by
 obtain⟨c,tl,mro⟩:=PySem.F.called_set.mro
 have made:=PySem.F.called_set.made
 have sub0:=PySem.F.called_set.sub
 refine wpAny_call (codeAny_of_tree ?_)
 show wpAny _ _ (callAny (.type "set") _) _ _ _
 refine wpAny_pure ⟨Code.quiet_builtin _ (by decide +kernel),codeAny_builtin PySem.F.entry_type_call ?_⟩
 rw[Around.under_plain (weight_type_call_type "set" [.ref l] []) rfl]
 have f1:=PySem.F.called_set.notType
 have f2:=PySem.F.called_set.canCreate
 have f3:=PySem.F.typeCall_set_1 (.ref l)
 repeat (any_goals (first|assumption|wp_step))
 refine codeAny_mono (DA (.ref l) (E:=E) (Q:=λv s1=>v=.ref s.heap.objs.size/\s1={s with heap:=s.heap.push (c7 w)}) ⟨rfl,rfl⟩) λr s1 hr=>?_
 cases r with
 |error e=>exact hr
 |ok fl=>
  cases fl with
  |ret v=>
   obtain⟨rfl,rfl⟩:=hr
   have gS:(s.heap.push (c7 w)).get? s.heap.objs.size=some (c7 w):=ax _ rfl
   have tS:Shared.TypeIs {s with heap:=s.heap.push (c7 w)} (.ref s.heap.objs.size) "set":=⟨_,gS,rfl⟩
   have li:=PySem.F.called_set.init.lookup
   have bi:=PySem.F.called_set.init.bind (.ref s.heap.objs.size)
   repeat (any_goals (first|assumption|wp_step))
   refine codeAny_mono (codeAny_call_builtin (R:=wants (λr s2=>r=.none/\∃h' tk m,s2={s with heap:=h',toks:=tk}/\m<=its.size/\
     SetTb kd h' s.heap.objs.size (λk=>decide (k∈ks)) m (!byText w) np/\(∀b o,b<s.heap.objs.size->s.heap.get? b=some o->h'.get? b=some o)) E)
     PySem.F.called_set.init.plain PySem.F.entry_set_init (check_set_init_1 tS ?_)) λr2 s2 hr2=>?_
   ·obtain⟨ol,gl,hcl,nl,hdl⟩:=hl
    obtain⟨ocls,odict,odata,oslots⟩:=ol
    simp only at hcl hdl
    subst hcl;subst hdl
    have gl2:(s.heap.push (c7 w)).get? l=some {cls:=.type "list",dict:=odict,data:=.seq its nl,slots:=oslots}:=ag _ gl
    have u1:=PySem.F.sub_list_set
    have u2:=PySem.F.sub_list_frozenset
    have u3:(Value.type "list"==Value.type "dict")=false:=by decide
    have hl1:(s.heap.push (c7 w)).IsList l its:=⟨_,gl2,rfl,nl,rfl⟩
    unfold Builtin.«set.__init__» noKeywords Builtin.Frozenset.updateFrom
    generalize hPI:pyIter=PI
    wp_walk
    subst hPI
    refine wpAny_pyIter_list hl1 ?_
    refine wpAny_bind (wpAny_runValue ?_)
    have lt:l<s.heap.objs.size:=aF gl
    have hh3:A.in1.in1.in1.handled=none:=by simp[hh]
    have ne:l≠(s.heap.push (c7 w)).objs.size:=by
     rw[bC];exact aN (c6 lt)
    have nf:s.heap.objs.size∉[(s.heap.push (c7 w)).objs.size,l]:=by
     rw[bC]
     simp only[aK,cu,or_false,not_or]
     exact⟨aN (cF _),cR lt⟩
    have hval:∀(i:Nat) (v:Value),its[i]?=some v->kd.is (ks.getD i default) v=true/\v.scannable=true/\(np=true->plainKind v=false):=λi v hi=>by
     have hlt:i<ks.length:=by rw[hk];exact(dQ.mp hi).1
     refine hv i _ v ?_ hi
     rw[bH,aa hlt];rfl
    refine Am ((Walks.list hh3 _ l ne its).toS) s.heap.objs.size nf (λi=>ks.getD i default) (!byText w) np hval hb (its.size-0) 0 0 _ (by lia) (bq _) (ar _)
     ⟨⟨_,ax _ rfl,rfl,rfl⟩,(hl1.push _)⟩ (SetTb.congr (SetTb.fresh (x:=0) (y:=0) (ag _ gS)) (λk=>rfl) rfl) λs' m mv hm T=>?_
    obtain⟨h',g',d',tk',os'⟩:=s'
    have eg:g'=s.gens:=mv.gens
    have ed:d'=s.drawn:=mv.drawn
    have eo:os'=s.os:=mv.os
    subst eg;subst ed;subst eo
    show wpAny _ _ _ _ _ _
    refine wpAny_pure ?_
    show wpAny _ _ (ret Value.none) _ _ _
    refine wpAny_pure ⟨rfl,h',tk',m,rfl,hm,T.congr (λk=>?_) rfl,λb o hb e=>?_⟩
    ·unfold met
     rw[Bool.eq_iff_iff,decide_eq_true_eq,decide_eq_true_eq]
     have:(cc its.size).map (λi=>ks.getD i default)=ks:=by
      refine d6 λi=>?_
      rw[aG]
      rcases cf i its.size with h|h
      ·rw[iW h,aa (by rw[hk];exact h)]
       simp[bH,hk,h]
      ·rw[aZ (by simpa using h),aZ (by rw[hk];exact h)];rfl
     rw[this]
    ·have n1:b≠s.heap.objs.size:=aN hb
     have n2:b≠(s.heap.push (c7 w)).objs.size:=by
      rw[bC];exact aN (c6 hb)
     refine mv.heap b o ?_ (ag _ (ag _ e))
     simp only[aK,cu,or_false,not_or]
     exact⟨n1,n2⟩
   ·cases r2 with
    |error e=>exact hr2
    |ok fl2=>
     cases fl2 with
     |ret r=>
      obtain⟨rfl,h',tk,m,rfl,hm,T,kp⟩:=hr2
      repeat (any_goals (first|assumption|wp_step))
      exact hQ _ _ m hm T kp
     |_=>exact hr2.elim
  |_=>exact hr.elim
theorem set_of_tuple{l:Addr}{its:Array Value}(ks:List K)(np:Bool){Q:Value->Shared->Prop}(hh:A.handled=none)(hl:s.heap.IsTuple l its)(hk:ks.length=its.size)
  (hv:∀(i:Nat) k v,ks[i]?=some k->its[i]?=some v->kd.is k v=true/\v.scannable=true/\(np=true->plainKind v=false)) (hb:its.size+1<scanBound)
  (hQ:∀(h':Heap) (tk m:Nat),m<=its.size->SetTb kd h' s.heap.objs.size (λk=>decide (k∈ks)) m (!byText w) np->
   (∀b o,b<s.heap.objs.size->s.heap.get? b=some o->h'.get? b=some o)->Q (.ref s.heap.objs.size) {s with heap:=h',toks:=tk}) :
  wpAny (model prog w) A (call (.type "set") [.ref l]) Q E s:=by
 obtain⟨c,tl,mro⟩:=PySem.F.called_set.mro
 have made:=PySem.F.called_set.made
 have sub0:=PySem.F.called_set.sub
 refine wpAny_call (codeAny_of_tree ?_)
 show wpAny _ _ (callAny (.type "set") _) _ _ _
 refine wpAny_pure ⟨Code.quiet_builtin _ (by decide +kernel),codeAny_builtin PySem.F.entry_type_call ?_⟩
 rw[Around.under_plain (weight_type_call_type "set" [.ref l] []) rfl]
 have f1:=PySem.F.called_set.notType
 have f2:=PySem.F.called_set.canCreate
 have f3:=PySem.F.typeCall_set_1 (.ref l)
 repeat (any_goals (first|assumption|wp_step))
 refine codeAny_mono (DA (.ref l) (E:=E) (Q:=λv s1=>v=.ref s.heap.objs.size/\s1={s with heap:=s.heap.push (c7 w)}) ⟨rfl,rfl⟩) λr s1 hr=>?_
 cases r with
 |error e=>exact hr
 |ok fl=>
  cases fl with
  |ret v=>
   obtain⟨rfl,rfl⟩:=hr
   have gS:(s.heap.push (c7 w)).get? s.heap.objs.size=some (c7 w):=ax _ rfl
   have tS:Shared.TypeIs {s with heap:=s.heap.push (c7 w)} (.ref s.heap.objs.size) "set":=⟨_,gS,rfl⟩
   have li:=PySem.F.called_set.init.lookup
   have bi:=PySem.F.called_set.init.bind (.ref s.heap.objs.size)
   repeat (any_goals (first|assumption|wp_step))
   refine codeAny_mono (codeAny_call_builtin (R:=wants (λr s2=>r=.none/\∃h' tk m,s2={s with heap:=h',toks:=tk}/\m<=its.size/\
     SetTb kd h' s.heap.objs.size (λk=>decide (k∈ks)) m (!byText w) np/\(∀b o,b<s.heap.objs.size->s.heap.get? b=some o->h'.get? b=some o)) E)
     PySem.F.called_set.init.plain PySem.F.entry_set_init (check_set_init_1 tS ?_)) λr2 s2 hr2=>?_
   ·obtain⟨ol,gl,hcl,nl,hdl⟩:=hl
    obtain⟨ocls,odict,odata,oslots⟩:=ol
    simp only at hcl hdl
    subst hcl;subst hdl
    have gl2:(s.heap.push (c7 w)).get? l=some {cls:=.type "tuple",dict:=odict,data:=.seq its nl,slots:=oslots}:=ag _ gl
    have u1:=PySem.F.sub_tuple_set
    have u2:=PySem.F.sub_tuple_frozenset
    have u3:(Value.type "tuple"==Value.type "dict")=false:=by decide
    have hl1:(s.heap.push (c7 w)).IsTuple l its:=⟨_,gl2,rfl,nl,rfl⟩
    unfold Builtin.«set.__init__» noKeywords Builtin.Frozenset.updateFrom
    generalize hPI:pyIter=PI
    wp_walk
    subst hPI
    refine wpAny_pyIter_tuple hl1 ?_
    refine wpAny_bind (wpAny_runValue ?_)
    have lt:l<s.heap.objs.size:=aF gl
    have hh3:A.in1.in1.in1.handled=none:=by simp[hh]
    have ne:l≠(s.heap.push (c7 w)).objs.size:=by
     rw[bC];exact aN (c6 lt)
    have nf:s.heap.objs.size∉[(s.heap.push (c7 w)).objs.size,l]:=by
     rw[bC]
     simp only[aK,cu,or_false,not_or]
     exact⟨aN (cF _),cR lt⟩
    have hval:∀(i:Nat) (v:Value),its[i]?=some v->kd.is (ks.getD i default) v=true/\v.scannable=true/\(np=true->plainKind v=false):=λi v hi=>by
     have hlt:i<ks.length:=by rw[hk];exact(dQ.mp hi).1
     refine hv i _ v ?_ hi
     rw[bH,aa hlt];rfl
    refine Am ((Walks.tuple hh3 _ l ne its).toS) s.heap.objs.size nf (λi=>ks.getD i default) (!byText w) np hval hb (its.size-0) 0 0 _ (by lia) (bq _) (ar _)
     ⟨⟨_,ax _ rfl,rfl,rfl⟩,(hl1.push _)⟩ (SetTb.congr (SetTb.fresh (x:=0) (y:=0) (ag _ gS)) (λk=>rfl) rfl) λs' m mv hm T=>?_
    obtain⟨h',g',d',tk',os'⟩:=s'
    have eg:g'=s.gens:=mv.gens
    have ed:d'=s.drawn:=mv.drawn
    have eo:os'=s.os:=mv.os
    subst eg;subst ed;subst eo
    show wpAny _ _ _ _ _ _
    refine wpAny_pure ?_
    show wpAny _ _ (ret Value.none) _ _ _
    refine wpAny_pure ⟨rfl,h',tk',m,rfl,hm,T.congr (λk=>?_) rfl,λb o hb e=>?_⟩
    ·unfold met
     rw[Bool.eq_iff_iff,decide_eq_true_eq,decide_eq_true_eq]
     have:(cc its.size).map (λi=>ks.getD i default)=ks:=by
      refine d6 λi=>?_
      rw[aG]
      rcases cf i its.size with h|h
      ·rw[iW h,aa (by rw[hk];exact h)]
       simp[bH,hk,h]
      ·rw[aZ (by simpa using h),aZ (by rw[hk];exact h)];rfl
     rw[this]
    ·have n1:b≠s.heap.objs.size:=aN hb
     have n2:b≠(s.heap.push (c7 w)).objs.size:=by
      rw[bC];exact aN (c6 hb)
     refine mv.heap b o ?_ (ag _ (ag _ e))
     simp only[aK,cu,or_false,not_or]
     exact⟨n1,n2⟩
   ·cases r2 with
    |error e=>exact hr2
    |ok fl2=>
     cases fl2 with
     |ret r=>
      obtain⟨rfl,h',tk,m,rfl,hm,T,kp⟩:=hr2
      repeat (any_goals (first|assumption|wp_step))
      exact hQ _ _ m hm T kp
     |_=>exact hr2.elim
  |_=>exact hr.elim
end
section
variable{prog:Program}{w:World}{A:Around}{E:Value->Shared->Prop}{s:Shared}{a:Addr}{es:Array (Int×Value)}{ep:Nat}{t:SetTable}
theorem HH{Q:Bool->Shared->Prop}(ht:s.TypeIs (.ref a) "set")(h:Q false s):wpAny (model prog w) A (Builtin.List.listLengthHint (.ref a)) Q E s:=by
 unfold Builtin.List.listLengthHint
 refine wpAny_bind (wpAny_specialOf ht PySem.F.slot_set_len.lookup ?_)
 generalize hid:("set.__len__":String)=nm
 wp_delta
 rw[show splitId nm=some ("set","__len__") from by subst hid;decide +kernel]
 subst hid
 refine wpAny_bind (wpAny_isInstance (T:="set") (b:=true) ht (by rw[isSubtype_type];kernel_rfl) ?_)
 refine wpAny_ite_split (λc=>absurd c (by decide)) (λ_=>?_)
 refine wpAny_ite_split (λ_=>?_) (λc=>absurd (by decide +kernel) c)
 exact wpAny_bind (wpAny_typeOf ht (wpAny_pure h))
def Nt(s:Shared)(S:Addr)(es:Array (Int×Value))(s':Shared):Prop:=
 ∃(h':Heap) (d:Drawn) (tk:Nat) (L:List (Int×Value)) (c:Nat),s'={s with heap:=h',drawn:=d,toks:=tk}/\L.Perm es.toList/\(∀b o,b≠S->s.heap.get? b=some o->h'.get? b=some o)/\
  h'.get? S=some {cls:=.type "list",dict:=none,data:=.seq (L.map (·.2)).toArray c,slots:=#[]}
theorem zE{L:List (Int×Value)}{acc:Array Value}(h:ItemsOf (λi v=>∃e,L[i]?=some e/\v=e.2) acc L.length):acc=(L.map (·.2)).toArray:=by
 apply Array.toList_inj.mp
 rw[List.toList_toArray]
 refine d6 λi=>?_
 rw[bK,aG]
 rcases cf i acc.size with hi|hi
 ·obtain⟨e,he,hv⟩:=h.2 i _ (a6 hi)
  rw[a6 hi,he,hv];rfl
 ·rw[dH hi,aZ (by rw[<-h.1];exact hi)];rfl
theorem Cq(hh:A.handled=none)(X:fK s.heap a es ep t)(hT:px (!byText w) t)(hz:es.size<=sizeLine)(S:Addr)(hne:S≠a)(res:Value)(c0:Nat)
  (gS:s.heap.get? S=some {cls:=.type "list",data:=.seq #[] c0}) {R:Result->Shared->Prop} (hR:∀s',Nt s S es s'->R (.ok (.ret res)) s') :
  wpAny (model prog w) A.in1 (Builtin.List.listExtendWith (.ref S) (.ref a) res)
   (λfin s'=>match fin with|.done f=>R (.ok f) s'|.again c'=>c'.quiet=true/\codeAny (model prog w) A c' R s') (λe s'=>R (.error e) s') s:=by
 have ltS:=aF gS
 obtain⟨o,ho,hc,hd⟩:=X.at_
 have lta:=aF ho
 unfold Builtin.List.listExtendWith
 refine wpAny_bind (wpAny_typeOf (T:="set") ⟨o,ho,hc⟩ ?_)
 have h1:Builtin.List.listSameRef (.ref S) (.ref a)=false:=by simp[Builtin.List.listSameRef,hne]
 have h2:(Value.type "set"==Value.type "list")=false:=by decide
 have h3:(Value.type "set"==Value.type "tuple")=false:=by decide
 simp only[h1,h2,h3,Bool.or_false,Bool.false_eq_true,if_false]
 refine wpAny_bind (HI (A:=A.in1) hh X hT hz λI h' d fp L St hp kp hfp hI W st=>?_)
 have hSf:S∉fp:=λhm=>(hfp S hm).elim hne λe=>absurd ltS (oA.mpr e)
 have hlen:L.length=es.size:=by rw[hp.length_eq,bE]
 have key:∀(h:Heap) (c1:Nat),St 0 h->(∀b o,b≠S->s.heap.get? b=some o->h.get? b=some o)->
   h.get? S=some {cls:=.type "list",data:=.seq #[] c1}->codeAny (model prog w) A (.builtin "list.extend.loop" ⟨[.ref S,.ref I,res],[]⟩) R {s with heap:=h,drawn:=d}:=by
  intro h c1 st1 k1 g1
  refine codeAny_extend_loopS W.toS hz S hSf res es.size 0 _ #[] c1 rfl (bq _) st1 g1 (ItemsOf.nil _) λs' acc' c' mv g' hacc=>?_
  refine hR s' ⟨s'.heap,d,s'.toks,L,c',by rw[Moved.eq_with mv],hp,λb o hb e=>mv.heap b o (λhm=>?_) (k1 b o hb e),?_⟩
  ·rcases aK.mp hm with e'|hm
   ·exact hb e'
   ·have:=aF e;rw[ao.mp hm] at this;exact absurd this (oA.mpr hI)
  ·rw[<-zE (by rw[hlen];exact hacc)];exact g'
 have gS':=kp S _ gS
 refine wpAny_bind (wpAny_holding (HH ⟨o,kp a o ho,hc⟩ ?_))
 refine wpAny_ite_split (λ_=>?_) (λ_=>wpAny_pure ⟨plainId_quiet dY _,key _ c0 st (λb o _ e=>kp b o e) gS'⟩)
 refine wpAny_bind (wpAny_rule ?_)
 refine wpAny_bind ?_
 show wpAny _ _ (updateSeq S (·.push .none) >>= λ_=>updateSeq S (·.pop)) _ _ _
 refine wpAny_bind (wpAny_updateSeq gS' rfl ?_)
 have g2:=bZ (Obj.mapSeq (·.push Value.none)) gS' rfl
 refine wpAny_updateSeq (hz:=by seq_fits) g2 rfl ?_
 have g3:=bZ (Obj.mapSeq (·.pop)) g2 rfl
 refine wpAny_pure ⟨plainId_quiet dY _,key _ _ (W.frame 0 _ _ st λb hb o e=>?_) (λb o hb e=>?_) g3⟩
 ·have n:b≠S:=λh=>hSf (h ▸ hb)
  exact(bF _ _ (Ne.symm n)).trans ((bF _ _ (Ne.symm n)).trans e)
 ·exact(bF _ _ (Ne.symm hb)).trans ((bF _ _ (Ne.symm hb)).trans (kp b o e))
theorem set_collect(hh:A.handled=none)(X:fK s.heap a es ep t)(hT:px (!byText w) t)(hz:es.size<=sizeLine){R:List Value->Shared->Prop}
  (hR:∀(h':Heap) (d:Drawn) (tk:Nat) (L:List (Int×Value)),L.Perm es.toList->(∀b o,s.heap.get? b=some o->h'.get? b=some o)->R (L.map (·.2)) {s with heap:=h',drawn:=d,toks:=tk}) :
  wpAny (model prog w) A (collect (.ref a)) R E s:=by
 obtain⟨o,ho,hc,hd⟩:=X.at_
 have lta:=aF ho
 unfold collect
 refine wpAny_bind (wpAny_runValue (codeAny_builtin entry_proto_collect' ?_))
 rw[Around.under_plainId PySem.F.plain_proto_collect _]
 show wpAny _ A.in1 (newList [] >>= λl=>again (.builtin "list.__iadd__" ⟨[l,.ref a],[]⟩)) _ _ s
 refine wpAny_bind (wpAny_newObj_type ?_)
 refine wpAny_pure ⟨plainId_quiet PySem.F.plain_list_iadd _,codeAny_builtin entry_list_iadd' ?_⟩
 rw[Around.under_plainId PySem.F.plain_list_iadd _]
 show wpAny _ A.in1 (Builtin.List.listExtendWith (.ref s.heap.objs.size) (.ref a) (.ref s.heap.objs.size)) _ _ _
 have g1:(s.heap.push {cls:=.type "list",data:=.seq ([]:List Value).toArray}).get? s.heap.objs.size=some {cls:=.type "list",data:=.seq #[]}:=ax _ rfl
 have go:=Cq (prog:=prog) (w:=w) (A:=A) (s:={s with heap:=s.heap.push {cls:=.type "list",data:=.seq ([]:List Value).toArray}}) hh (X.keep λo e=>ag _ e) hT hz s.heap.objs.size
  (cR lta) (.ref s.heap.objs.size) 0 g1 (R:=λq s'=>q=.ok (.ret (.ref s.heap.objs.size))/\∃(h':Heap) (d:Drawn) (tk:Nat) (L:List (Int×Value)) (c:Nat),
   s'={s with heap:=h',drawn:=d,toks:=tk}/\L.Perm es.toList/\(∀b o,s.heap.get? b=some o->h'.get? b=some o)/\
   h'.get? s.heap.objs.size=some {cls:=.type "list",dict:=none,data:=.seq (L.map (·.2)).toArray c,slots:=#[]}) (λs' ⟨h',d,tk,L,c,e,hp,kp,g⟩=>
    ⟨rfl,h',d,tk,L,c,e,hp,λb o e=>kp b o (aN (aF e)) (ag _ e),g⟩)
 refine wpAny_mono go (λfin s' x=>?_) λe s' x=>?_
 ·cases fin with
  |done f=>
   obtain⟨e,h',d,tk,L,c,rfl,hp,kp,g⟩:=x
   cases e
   show wpAny _ A (load s.heap.objs.size >>= _) _ _ _
   refine wpAny_bind (wpAny_load g ?_)
   refine wpAny_pure ?_
   have:=hR h' d tk L hp kp
   simpa using this
  |again c1=>
   refine⟨x.1,codeAny_mono x.2 λq s2 y=>?_⟩
   obtain⟨rfl,h',d,tk,L,c,rfl,hp,kp,g⟩:=y
   show wpAny _ A (load s.heap.objs.size >>= _) _ _ _
   refine wpAny_bind (wpAny_load g ?_)
   refine wpAny_pure ?_
   have:=hR h' d tk L hp kp
   simpa using this
 ·cases x.1
end
end BgSet
end
section
namespace Bg
open PySem PySem.Spec PyProof.Rows L2
abbrev II:List Str:=["_law_state","_law_many"]
abbrev Fn:List Str:=["_law_state","_law_many","_law_script","_law_k","_law_digit","_law_cell"]
def HS(K:Fg):TS:=(de (bO (kr) (bO (kr) (bO (jo K) (av 5) (av 5)) (tC (.int 1999999973))) (av 1)))
def HU(K:Fg):TS:=(bx (bT (bO (kr) (bO (jo K) (av 5) (av 5)) (tC (.int 2147483587))) (aR 5)) (HS K))
def AD(K:Fg):TS:=(bx (bT (bO (kr) (bO (jo K) (bO (kr) (av 5) (tC (.int 2147483629))) (bO (dz K) (av 3) (tC (.int 3)))) (tC (.int 2147483629))) (aR 5)) (HU K))
def HV(K:Fg):TS:=(bx (gu (cC (bO (z9) (eW (fP K) (ak (av 2) aO)) (tC (.int 0)))) (bT (bO (dz K) (av 5) (bO (jo K) (bO (e8 K) (av 2) (bO (kr) (bO (jo K) (av 3) (tC (.int 7))) (eW (fP K) (ak (av 2) aO)))) (bO (dz K) (tC (.int 48271)) (av 3)))) (aR 5)) eE) (AD K))
def qg(K:Fg):TS:=(bx (bT (bO (dz K) (bO (jo K) (av 3) (tC (.int 7919))) (tC (.int 5))) (aR 5)) (HV K))
def HW(K:Fg):TS:=(de (av 4))
def AE(K:Fg):TS:=(gu (cC (bO ((B9 K true)) (bO (e8 K) (av 0) (tC (.int 2))) (lQ (ak (tC (.int 0)) (ak (As oZ (tC (.int 1))) aO))))) (bx (bT (eW (J1) (ak (bO (e8 K) (av 0) (tC (.int 2))) (ak (av 1) aO))) (qK K 2 (eQ (xH (av 0) (tC (.int 2)) Aa) (eQ (aR 4) pT)))) (HW K)) eE)
def AF(K:Fg):TS:=(bx (gu (Ct (cC (bO (Ca) (bO (dz K) (bO (G4) (av 3) (tC (.int 12))) (tC (.int 1))) (eW (fP K) (ak (av 2) aO)))) (cC (bO (vo K) (bO (kr) (bO (e8 K) (av 2) (tC (.int 0))) (tC (.int 2))) (tC (.int 1))))) (bx (gu (cC (bO (vo K) (bO (kr) (av 3) (tC (.int 12))) (tC (.int 0)))) (bT (bO (e8 K) (av 2) (bO (dz K) (bO (G4) (av 3) (tC (.int 12))) (tC (.int 1)))) (xH (av 0) (tC (.int 2)) Aa)) eE) (AE K)) (gu (cC (bO (Ca) (av 3) (eW (fP K) (ak (av 2) aO)))) (de (bO (kr) (bO (e8 K) (av 2) (av 3)) (av 1))) eE)) (qg K))
def HX(K:Fg):TS:=(bx (bT (bO (dz K) (av 3) (tC (.int 1))) (xH (av 0) (tC (.int 1)) Aa)) (AF K))
def HR(K:Fg):TS:=(bx (bT (E5 (Iw K) (av 0) fX (lg (tC (.int 2)))) (Ga K 2 (eQ (aR 2) (eQ (aR 3) pT)))) (HX K))
abbrev Fu:List Str:=["_law_state","_law_many"]
abbrev xm:List Str:=["_law_state","_law_many","_law_letters","_law_size","_law_at","_law_first","_law_base","_law_found","_law_k","_law_some","_law_name"]
def wN(K:Fg):TS:=(de (av 7))
def wO(K:Fg):TS:=(gn (si K "list" dJ (av 7) (ak (av 10) aO)))
def wQ(K:Fg):TS:=(bx (gu (L7 (cC (bO ((B9 K false)) (av 10) (lQ (ak (tC (.str "part")) (ak (tC (.str "call")) (ak (tC (.str "say")) (ak (tC (.str "jump")) (ak (tC (.str "test")) (ak (tC (.str "give")) aO))))))))) (Ct (cC (bO (Ca) (av 3) (tC (.int 8)))) (cC (bO (vo K) (bO (kr) (bO (dz K) (av 3) (av 8)) (tC (.int 3))) (tC (.int 1)))))) (bT (bO (dz K) (av 10) (tC (.str "x"))) (aR 10)) eE) (wO K))
def EK(K:Fg):TS:=(bx (bT (si K "str" (G8 K) (tC (.str "")) (ak (av 9) aO)) (aR 10)) (wQ K))
def EL(K:Fg):TS:=(bx (bT (bO (dz K) (bO (dz K) (E5 (Iw K) (av 6) fX (lg (av 4))) (gx (ak (bO (e8 K) (av 2) (bO (kr) (bO (dz K) (av 5) (bO (jo K) (tC (.int 5)) (av 8))) (tC (.int 26)))) aO))) (E5 (Iw K) (av 6) (lg (bO (dz K) (av 4) (tC (.int 1)))) fX)) (aR 9)) (EK K))
def wR(K:Fg):TS:=(bx (iT (mi (ak (av 1) aO)) (aR 8) (EL K)) (wN K))
def EM(K:Fg):TS:=(bx (bT (gx aO) (aR 7)) (wR K))
def EN(K:Fg):TS:=(bx (bT (dW [] 1 (mi (ak (av 3) aO)) (aR 11) jt (bO (e8 K) (av 2) (bO (kr) (bO (dz K) (av 5) (bO (jo K) (bO (jo K) (tC (.int 7)) (av 11)) (bu (eK K) [] E0 (ak (av 0) (ak (tC (.int 4)) aO))))) (tC (.int 26))))) (aR 6)) (EM K))
def EO(K:Fg):TS:=(bx (bT (bu (eK K) [] E0 (ak (av 0) (ak (tC (.int 26)) aO))) (aR 5)) (EN K))
def uC(K:Fg):TS:=(bx (bT (bu (eK K) [] E0 (ak (av 0) (ak (av 3) aO))) (aR 4)) (EO K))
def CB(K:Fg):TS:=(bx (bT (bO (dz K) (tC (.int 1)) (bu (eK K) [] E0 (ak (av 0) (ak (tC (.int 8)) aO)))) (aR 3)) (uC K))
def DP(K:Fg):TS:=(bx (bT (tC (.str "abcdefghijklmnopqrstuvwxyz")) (aR 2)) (CB K))
end Bg
end
section
namespace Bg
open PySem L2
abbrev IP:Str:="abcdefghijklmnopqrstuvwxyz"
theorem CU:IP.length<=sizeLine:=by decide +kernel
def one(c:Nat):Str:=⟨#[c]⟩
theorem y8:∀cs:List Nat,(Txt.join "" (cs.map one)).cps.toList=cs
 |[]=>by decide +kernel
 |c::r=>by
  unfold Txt.join
  rw[StrLaws.glued_eq_join]
  induction r generalizing c with
  |nil=>rfl
  |cons d r ih=>
   show(one c++("":Str)++Str.join "" ((d::r).map one)).cps.toList=_
   have e:(one c++("":Str)++Str.join "" ((d::r).map one)).cps.toList=(one c).cps.toList++("":Str).cps.toList++(Str.join "" ((d::r).map one)).cps.toList:=by
    show((one c).cps++("":Str).cps++(Str.join "" ((d::r).map one)).cps).toList=_
    rw[iU,iU]
   rw[e,ih d]
   rfl
theorem kh(y:Str):y.length=y.cps.toList.length:=by
 show y.cps.size=_
 rw[bE]
theorem yX:∀j:Nat,j<26->IP.cps.toList[j]?=some (97+j):=by decide +kernel
theorem Hy:∀y∈Hx,y.length<=4:=by decide +kernel
theorem ED:∀y∈Hx,y.cps.toList.getLast?≠some 120:=by decide +kernel
theorem C0(y:Str):(y++"x").cps.toList=y.cps.toList++[120]:=by
 show(y.cps++("x":Str).cps).toList=_
 rw[iU]
 rfl
theorem zQ{y:Str}{cs:List Nat}(h:y.cps.toList=cs)(l1:1<=cs.length)(l8:cs.length<=8)(a:∀c∈cs,97<=c/\c<=122)(n:y∉Hx):Nm y:=
 ⟨by rw[kh,h];exact l1,by rw[kh,h];exact l8,by rw[h];exact a,n⟩
theorem MF{y:Str}{cs:List Nat}(h:y.cps.toList=cs)(l8:cs.length<=7)(a:∀c∈cs,97<=c/\c<=122):Nm (y++"x"):=by
 have e:=C0 y
 rw[h] at e
 refine⟨by rw[kh,e,ai];simp,by rw[kh,e,ai];simp;lia,λc hc=>?_,λhm=>?_⟩
 ·rw[e] at hc
  rcases aE.mp hc with z|z
  ·exact a c z
  ·rw[ao.mp z];decide
 ·have:=ED _ hm
  rw[e,List.getLast?_append] at this
  exact this rfl
def Nw(st b l:Addr)(n sz at':Nat)(f:Int)(H4:Hp)(i:Nat):St->Hp->Prop:=λσ' H'=>∃(ys:List Str) (o1 o2 o3:Option V),σ'=[some (.ref st),some (.int (n:Nat)),some (.str IP),some (.int (sz:Nat)),some (.int (at':Nat)),some (.int f),some (.ref b),some (.ref l),o1,o2,o3]/\H' l=some (.lst (ys.map V.str))/\ys.length=i/\(∀y∈ys,Nm y)/\(∀(j:Nat) y,ys[j]?=some y->y.cps.toList[at']?=some (97+((f+5*(j:Int)) % 26).toNat))/\iN l (aQ H4 l (.lst [])) H'
theorem J6{K:Fg}{vs:List V}{H:Hp}{Q:VK}{E:XK}(h:ux K vs H Q E):DP K {nx:=λ_ H'=>Q .non H',rt:=Q} (start xm vs) H:=by
 obtain⟨st,n,k,rfl,S,hk,hn,q⟩:=h
 refine⟨_,rfl,st,8,k,rfl,S,by lia,by decide,by decide,λd H1 d0 d1 S1 B1=>.inl ⟨_,_,rfl,rfl,?_⟩⟩
 obtain⟨sz,hsz,z1,z8⟩:∃sz:Nat,(1:Int)+d=(sz:Int)/\1<=sz/\sz<=8:=⟨(1+d).toNat,by lia,by lia,by lia⟩
 show uC K _ [some (.ref st),some (.int (n:Nat)),some (.str IP),some (.int ((1:Int)+d)),none,none,none,none,none,none,none] H1
 rw[hsz]
 refine⟨_,rfl,_,rfl,st,_,k+1,rfl,S1,by lia,by lia,by lia,λa H2 a0 a1 S2 B2'=>?_⟩
 obtain⟨at',rfl⟩:∃j:Nat,a=(j:Int):=⟨a.toNat,by lia⟩
 have B2:=B1.trans B2'
 refine⟨_,rfl,st,26,k+2,rfl,S2,by lia,by decide,by decide,λf H3 f0 f1 S3 B3'=>?_⟩
 have B3:=B2.trans B3'
 refine⟨_,rfl,_,rfl,by lia,by lia,λb hb=>?_⟩
 obtain⟨ys3,hs3⟩:=S3.lst
 have nb:b≠st:=λz=>by rw[z,hs3] at hb;cases hb
 refine oK (λi σ' H'=>∃(bc:List Nat) (kk:Nat) (o:Option V),σ'=[some (.ref st),some (.int (n:Nat)),some (.str IP),some (.int (sz:Nat)),some (.int (at':Nat)),some (.int f),none,none,none,none,none,o]/\
  H' b=some (.lst ((bc.map one).map V.str))/\bc.length=i/\(∀c∈bc,97<=c/\c<=122)/\lU K H' st kk/\kk<=k+3+i/\iN st H H') ?_ ?_ ?_
 ·exact⟨[],k+3,none,rfl,aj,rfl,by simp,S3.new hb,by lia,B3.new hb⟩
 ·rintro i σ' H' hi ⟨bs,kk,o,rfl,hbl,hlen,hone,S4,hkk,B4⟩
  have hi:i<sz:=by simpa using hi
  refine fG ?_
  refine⟨_,rfl,_,rfl,_,rfl,.inl ⟨_,_,rfl,rfl,.inl ⟨by decide,by decide⟩,_,rfl,st,4,kk,rfl,S4,by lia,by decide,by decide,λe H5 e0 e1 S5 B5=>.inl ⟨_,_,rfl,rfl,.inr ⟨by lia,by lia⟩,.inl ⟨_,_,rfl,rfl,_,_,rfl,rfl,(by show(0:Int)<26;decide),?_⟩⟩⟩⟩
  have x0:0<=(f+7*(0+(i:Int))*e) % 26:=cB _ (by decide)
  have x1:(f+7*(0+(i:Int))*e) % 26<26:=cA _ (by decide)
  refine NM CU x0 (yX _ (by lia)) ?_
  have x2:((f+7*(0+(i:Int))*e) % 26).toNat<26:=by lia
  generalize ((f+7*(0+(i:Int))*e) % 26).toNat=x at x2
  have h5:=B5 b _ nb hbl
  refine⟨_,h5,bI (by rw[af,af];lia),bs++[97+x],kk+1,_,rfl,?_,by simp[hlen],?_,?_,by lia,?_⟩
  ·rw[aj,aB,aB];rfl
  ·intro y hy
   rcases aE.mp hy with z|z
   ·exact hone y z
   ·rw[ao.mp z];lia
  ·exact S5.mono .upd_at h5 (Ne.symm nb)
  ·exact λc' u n' h'=>by
    have w:=(B4.trans B5) c' u n' h'
    have ncb:c'≠b:=λz=>by
     have:H c'=none:=(B3.free (λz'=>n' z') (by rw[z];exact hb))
     rw[this] at h';cases h'
    rw[az ncb];exact w
 ·rintro σ' H4 ⟨bs,kk,o,rfl,hbl,hlen,hone,S4,hkk,B4⟩
  have hlen:bs.length=sz:=by simpa using hlen
  have hkk:kk<=k+3+sz:=by simpa using hkk
  refine⟨(by show 0<=sizeLine;decide),λl hl=>?_⟩
  have nlb:b≠l:=aJ hbl hl
  obtain⟨ys4,hs4⟩:=S4.lst
  have nls:st≠l:=aJ hs4 hl
  have Hl:H l=none:=B4.free (Ne.symm nls) hl
  show wR K _ [some (.ref st),some (.int (n:Nat)),some (.str IP),some (.int (sz:Nat)),some (.int (at':Nat)),some (.int f),some (.ref b),some (.ref l),none,none,none] (aQ H4 l (.lst []))
  refine⟨_,rfl,_,rfl,by lia,by lia,ig (Nw st b l n sz at' f H4) ⟨[],none,none,none,rfl,aj,rfl,by simp,by simp,.refl _ _⟩ ?_ ?_⟩
  ·rintro i σ' H5 hi ⟨ys,o1,o2,o3,rfl,hyl,ylen,yok,ycd,B5⟩
   have hi:i<n:=by simpa using hi
   have hb5:H5 b=some (.lst ((bs.map one).map V.str)):=B5 b _ nlb (by rw[az nlb];exact hbl)
   refine⟨_,rfl,_,rfl,_,rfl,.inl ⟨b,_,rfl,cx.of hb5,λp1 hp1=>?_⟩⟩
   rw[pP,<-jR,<-jR]
   have np1b:b≠p1:=aJ hb5 hp1
   have np1l:l≠p1:=aJ hyl hp1
   refine⟨_,rfl,_,rfl,_,rfl,.inl ⟨_,_,rfl,rfl,.inl ⟨by decide,by decide⟩,.inl ⟨_,_,rfl,rfl,_,_,rfl,rfl,(by show(0:Int)<26;decide),?_⟩⟩⟩
   have e00:(0:Int)+(i:Int)=(i:Int):=by lia
   rw[e00]
   have x0:0<=(f+5*(i:Int)) % 26:=cB _ (by decide)
   have x1:(f+5*(i:Int)) % 26<26:=cA _ (by decide)
   obtain⟨c,hc⟩:∃c,c=97+((f+5*(i:Int)) % 26).toNat:=⟨_,rfl⟩
   refine NM CU x0 (by rw[yX _ (by lia),<-hc]) ⟨(by show 1<=sizeLine;decide),λp2 hp2=>?_⟩
   have np12:p1≠p2:=aJ aj hp2
   have np2b:b≠p2:=aJ (by rw[az np1b];exact hb5) hp2
   have np2l:l≠p2:=aJ (by rw[az np1l];exact hyl) hp2
   refine .inr (.inr (.inl ⟨p1,p2,_,_,rfl,rfl,by rw[az np12,aj],aj,?_,λp3 hp3=>?_⟩))
   ·have:=bI (n:=9) (by decide)
    rw[af,af,aP]
    show min at' bs.length+1<=sizeLine
    lia
   have np13:p1≠p3:=aJ (by rw[az np12];exact aj) hp3
   have np3b:b≠p3:=aJ (by rw[az np2b,az np1b];exact hb5) hp3
   have np3l:l≠p3:=aJ (by rw[az np2l,az np1l];exact hyl) hp3
   refine⟨_,rfl,_,rfl,.inl ⟨_,_,rfl,rfl,_,rfl,.inl ⟨b,_,rfl,cx.of (by rw[az np3b,az np2b,az np1b];exact hb5),λp4 hp4=>?_⟩⟩⟩
   rw[show((at':Int)+1)=((at'+1:Nat):Int) by lia,zc,<-List.map_drop,<-List.map_drop]
   have np34:p3≠p4:=aJ aj hp4
   have np4l:l≠p4:=aJ (by rw[az np3l,az np2l,az np1l];exact hyl) hp4
   refine .inr (.inr (.inl ⟨p3,p4,_,_,rfl,rfl,by rw[az np34,aj],aj,?_,λp5 hp5=>?_⟩))
   ·have:=bI (n:=100) (by decide)
    rw[ai,af,af,af,af,aP,cE]
    show min at' bs.length+1+(bs.length-(at'+1))<=sizeLine
    lia
   have np5l:l≠p5:=aJ (by rw[az np4l,az np3l,az np2l,az np1l];exact hyl) hp5
   have ew:((bs.take at').map one).map V.str++[V.str ⟨#[c]⟩]++((bs.drop (at'+1)).map one).map V.str=((bs.take at'++[c]++bs.drop (at'+1)).map one).map V.str:=by rw[aB,aB,aB,aB];rfl
   rw[ew]
   have wl:(bs.take at'++[c]++bs.drop (at'+1)).length=sz:=by rw[ai,ai,aP,cE,aM];lia
   have wone:∀y∈bs.take at'++[c]++bs.drop (at'+1),97<=y/\y<=122:=λy hy=>by
    rcases aE.mp hy with z|z
    ·rcases aE.mp z with z|z
     ·exact hone y (iE z)
     ·rw[ao.mp z];lia
    ·exact hone y (dv z)
   have wat:(bs.take at'++[c]++bs.drop (at'+1))[at']?=some c:=by
    have tl:(bs.take at').length=at':=by rw[aP];lia
    rw[d5,aq (by lia),tl,bo]
    rfl
   generalize bs.take at'++[c]++bs.drop (at'+1)=w at wl wone wat ⊢
   have B6:=((((B5.new (o:=.lst (((bs.take at').map one).map V.str)) hp1).new (o:=.lst [V.str ⟨#[c]⟩]) hp2).new (o:=.lst (((bs.take at').map one).map V.str++[V.str ⟨#[c]⟩])) hp3).new (o:=.lst (((bs.drop (at'+1)).map one).map V.str)) hp4).new (o:=.lst ((w.map one).map V.str)) hp5
   have h6:(aQ (aQ (aQ (aQ (aQ H5 p1 (.lst (((bs.take at').map one).map V.str))) p2 (.lst [V.str ⟨#[c]⟩])) p3 (.lst (((bs.take at').map one).map V.str++[V.str ⟨#[c]⟩]))) p4 (.lst (((bs.drop (at'+1)).map one).map V.str))) p5 (.lst ((w.map one).map V.str))) l=some (.lst (ys.map V.str)):=by
    rw[az np5l,az np4l,az np3l,az np2l,az np1l];exact hyl
   have g6:(aQ (aQ (aQ (aQ (aQ H5 p1 (.lst (((bs.take at').map one).map V.str))) p2 (.lst [V.str ⟨#[c]⟩])) p3 (.lst (((bs.take at').map one).map V.str++[V.str ⟨#[c]⟩]))) p4 (.lst (((bs.drop (at'+1)).map one).map V.str))) p5 (.lst ((w.map one).map V.str))) p5=some (.lst ((w.map one).map V.str)):=aj
   generalize (aQ (aQ (aQ (aQ (aQ H5 p1 (.lst (((bs.take at').map one).map V.str))) p2 (.lst [V.str ⟨#[c]⟩])) p3 (.lst (((bs.take at').map one).map V.str++[V.str ⟨#[c]⟩]))) p4 (.lst (((bs.drop (at'+1)).map one).map V.str))) p5 (.lst ((w.map one).map V.str)))=H6 at B6 h6 g6 ⊢
   have wsum:((w.map one).map (·.length)).sum=w.length:=by
    rw[cQ,show((λx:Str=>x.length) ∘ one)=λ_=>1 from rfl,List.map_const',List.sum_replicate_nat,Nat.mul_one]
   refine⟨rfl,_,rfl,"",p5,w.map one,rfl,rfl,cx.of g6,?_,?_⟩
   ·have e:("":Str).length=0:=by decide +kernel
    rw[wsum,e,Nat.mul_zero];lia
   have jl:=y8 w
   generalize Txt.join "" (w.map one)=nmw at jl ⊢
   show wQ K _ [some (.ref st),some (.int (n:Nat)),some (.str IP),some (.int (sz:Nat)),some (.int (at':Nat)),some (.int f),some (.ref b),some (.ref l),some (.int (i:Int)),some (.ref p5),some (.str nmw)] H6
   have nl:nmw.length=sz:=by rw[kh,jl,wl]
   have app:∀(nw:Str) (H7:Hp),Nm nw->nw.cps.toList[at']?=some c->iN l (aQ H4 l (.lst [])) H7->H7 l=some (.lst (ys.map V.str))->wO K {nx:=Nw st b l n sz at' f H4 (i+1),rt:=Q,ct:=Nw st b l n sz at' f H4 (i+1),bk:=wN K {nx:=λ_ H'=>Q .non H',rt:=Q}} [some (.ref st),some (.int (n:Nat)),some (.str IP),some (.int (sz:Nat)),some (.int (at':Nat)),some (.int f),some (.ref b),some (.ref l),some (.int (i:Int)),some (.ref p5),some (.str nw)] H7:=λnw H7 w1 w2 B7 h7=>by
    refine⟨_,rfl,.inl ⟨rfl,_,cx.of h7⟩,_,rfl,l,_,_,rfl,rfl,h7,bI (by rw[af];lia),?_⟩
    refine⟨ys++[nw],_,_,_,rfl,?_,by simp[ylen],?_,?_,B7.trans .upd_at⟩
    ·rw[aj,aB];rfl
    ·intro y hy
     rcases aE.mp hy with z|z
     ·exact yok y z
     ·rw[ao.mp z];exact w1
    ·intro j y hy
     by_cases cj:j<ys.length
     ·rw[au cj] at hy;exact ycd j y hy
     ·have cj2:j=i:=by
       have:=(ae.mp hy).1
       rw[ai,aM] at this
       lia
      subst cj2
      rw[aq (by lia),ylen,bo] at hy
      cases hy
      rw[<-hc];exact w2
   refine⟨_,rfl,(by show 6<=sizeLine;decide),λt ht=>⟨t,_,rfl,.inr (cz.of aj),rfl,rfl,_,rfl,?_⟩⟩
   have ntl:l≠t:=aJ h6 ht
   have B7:=B6.new (o:=.tup [V.str "part",V.str "call",V.str "say",V.str "jump",V.str "test",V.str "give"]) ht
   have h7:(aQ H6 t (.tup [V.str "part",V.str "call",V.str "say",V.str "jump",V.str "test",V.str "give"])) l=some (.lst (ys.map V.str)):=by rw[az ntl];exact h6
   have xl:("x":Str).length=1:=by decide +kernel
   have xat:(nmw++"x").cps.toList[at']?=some c:=by
    rw[C0,jl,au (by rw[wl];lia)];exact wat
   show if xM (.str nmw) (Hx.map V.str)=true then _ else _
   rw[zr]
   refine dE (λhin=>?_) (λhin=>?_)
   ·refine⟨_,rfl,.inr (.inl ⟨_,_,rfl,rfl,by rw[xl];have:=bI (n:=100) (by decide);lia,?_⟩)⟩
    have z4:=Hy _ hin
    exact app _ _ (MF jl (by rw[wl];lia) wone) xat B7 h7
   ·refine⟨_,rfl,_,_,rfl,rfl,_,rfl,dE (λh8=>?_) (λ_=>?_)⟩
    ·refine⟨_,rfl,_,rfl,.inl ⟨_,_,rfl,rfl,_,_,rfl,rfl,(by show(0:Int)<3;decide),.inl ⟨rfl,_,rfl,dE (λ_=>?_) (λ_=>?_)⟩⟩⟩
     ·refine⟨_,rfl,.inr (.inl ⟨_,_,rfl,rfl,by rw[xl];have:=bI (n:=100) (by decide);lia,?_⟩)⟩
      exact app _ _ (MF jl (by rw[wl];lia) wone) xat B7 h7
     ·exact app _ _ (zQ jl (by lia) (by lia) wone hin) (by rw[jl];exact wat) B7 h7
    ·exact gR (app _ _ (zQ jl (by lia) (by lia) wone hin) (by rw[jl];exact wat) B7 h7)
  ·rintro σ' H5 ⟨ys,o1,o2,o3,rfl,hyl,ylen,yok,ycd,B5⟩
   have ylen:ys.length=n:=by simpa using ylen
   have nd:ys.Nodup:=by
    rw[List.Nodup,fJ]
    intro i j hi hj lt e
    have e1:=ycd i _ (aa hi)
    have e2:=ycd j _ (aa hj)
    rw[e,e2] at e1
    have e3:=Option.some.inj e1
    have a1:0<=(f+5*(i:Int)) % 26:=cB _ (by decide)
    have a2:0<=(f+5*(j:Int)) % 26:=cB _ (by decide)
    lia
   refine⟨_,rfl,q l ys kk H5 Hl ylen nd yok hyl ((S4.new hl).mono B5 aj nls) (by lia) (B4.through hl B5)⟩
end Bg
end
section
namespace L2
open PySem PySem.Spec PyProof.Rows
theorem jX{α:Type}[DecidableEq α]{l:List α}:∀{zs:List α},l.Nodup->(∀y∈l,y∈zs)->l.length<=zs.length:=by
 induction l with
 |nil=>intro zs _ _;exact bq _
 |cons a r ih=>
  intro zs nd h
  obtain⟨na,nr⟩:=bU.mp nd
  have ha:a∈zs:=h a bf
  have:=ih (zs:=zs.erase a) nr λy hy=>(List.mem_erase_of_ne (λz=>na (by rw[<-z];exact hy))).mpr (h y (a9 _ hy))
  rw[List.length_erase_of_mem ha] at this
  have:0<zs.length:=List.length_pos_of_mem ha
  simp only[bD]
  lia
section
variable{X:Cx}
theorem bw.drawn{pins:List (Addr×Obj)}{σ:St}{H:Hp}{s:Shared}{d:Drawn}(I:bw X pins σ H s):bw X pins σ H {s with drawn:=d}:=
 ⟨I.ok,I.os,I.bare,I.base,I.loc,I.cell,I.free,I.freeC,I.pin,I.hok,I.len⟩
theorem Ao{pins:List (Addr×Obj)}{s:Shared}{σ:St}{H:Hp}{a:Addr}{ss dd:List Str}{m:Nat}{Q:VK}(hc:X.calm=true)(I:bw X pins σ H s)
  (T:BgSet.SetTb (iw X.prog X.w) s.heap a (λk=>decide (k∈ss)) m (!BgSet.byText X.w) true) (hd:∀x∈ss,x∈dd) (h64:dd.length<64)
  (q:∀(l:Addr) (ss':List Str),H l=none->ss'.Nodup->(∀x,x∈ss'↔x∈ss)->sortedS ss'=true->Q (.ref l) (aQ H l (.lst (ss'.map V.str)))) :
  wpAny (model X.prog X.w) X.A (call (.builtin "sorted") [.ref a]) (EP X pins σ Q) X.xe s:=by
 obtain⟨o,es,ep,t,ho,hex,hdt,hel,hmem,hb,hf,hn,htb,hoff,hap⟩:=T
 have hh:X.A.handled=none:=I.ok.hd hc
 have hz:es.size<=sizeLine:=fits_of_scanBound hb
 refine Calls.call_function_entry kind_sorted plain_sorted entry_sorted (args_sorted1 _) ?_
 unfold Builtin.«sorted»
 refine wpAny_bind (m:=checkCount "sorted" 1 1 _) (wpAny_pure ?_)
 refine wpAny_bind (BgSet.set_collect (A:=X.A.in1) hh ⟨⟨o,ho,hex.1,hdt⟩,hf⟩ htb hz λh' d tk L hp hkp=>?_)
 have hall:∀e∈L,∃x t,e.2=.str x t:=λe he=>by
  obtain⟨⟨k,hk,_⟩,_⟩:=hel e (hp.mem_iff.mp he)
  obtain⟨t,ht⟩:=Value.isStrOf_shape hk
  exact⟨k,t,ht⟩
 have hS:StrsAre (L.map (·.2)) ((L.map (·.2)).map strOf):=strsAre_map _ λv hv=>by
  obtain⟨e,he,rfl⟩:=aC.mp hv
  exact hall e he
 generalize hss:(L.map (·.2)).map strOf=ss0 at hS
 have hmm:∀x,x∈ss0↔x∈ss:=λx=>by
  rw[<-hss,cQ,aC]
  have:=hmem x
  rw[decide_eq_true_eq] at this
  rw[this]
  constructor
  ·rintro⟨e,he,rfl⟩
   obtain⟨y,t,hy⟩:=hall e he
   refine⟨e,hp.mem_iff.mp he,?_⟩
   show Value.isStrOf (strOf e.2) e.2=true
   rw[hy];simp[strOf,Value.isStrOf]
  ·rintro⟨e,he,hk⟩
   obtain⟨t,ht⟩:=Value.isStrOf_shape hk
   exact⟨e,hp.mem_iff.mpr he,by show strOf e.2=x;rw[ht];rfl⟩
 have hnd:ss0.Nodup:=by
  rw[<-hss,cQ]
  unfold List.Nodup
  rw[jA]
  refine List.Pairwise.imp_of_mem (λ{e e'} he he' r heq=>?_) (hap.perm hp)
  obtain⟨y,t,hy⟩:=hall e he
  obtain⟨y',t',hy'⟩:=hall e' he'
  have e1:y=y':=by have:strOf e.2=strOf e'.2:=heq;rw[hy,hy'] at this;exact this
  have h1:Value.isStrOf y e.2=true:=by rw[hy];simp[Value.isStrOf]
  have h2:Value.isStrOf y e'.2=false:=r y h1
  rw[hy',e1] at h2;simp[Value.isStrOf] at h2
 have hlen0:ss0.length<64:=dh (jX hnd λy hy=>hd y ((hmm y).mp hy)) h64
 have hl:(L.map (·.2)).length=ss0.length:=by rw[<-hss,af,af,af]
 generalize L.map (·.2)=vs at hS hl ⊢
 have I0:bw X pins σ H {s with drawn:=d}:=I.drawn
 have I1:bw X pins σ H {s with heap:=h',drawn:=d,toks:=tk}:=I0.kept (s:={s with drawn:=d}) hkp
 refine wpAny_bind (wpAny_newList ?_ (by rw[hl];exact a7 (bW hlen0) (by decide)))
 have hoL:(h'.push (seqObj "list" vs.toArray 0)).get? h'.objs.size=some (seqObj "list" vs.toArray 0):=ax _ rfl
 show wpAny _ _ _ _ _ {s with heap:=h'.push (seqObj "list" vs.toArray 0),drawn:=d,toks:=tk}
 refine wpAny_bind (wpAny_holding (wpAny_call_entry slot_list_sort ⟨_,hoL,rfl⟩ entry_list_sort (list_sort_treeK strKind_oneLt hoL hS.keysOf (λv₁ v₂ rest e=>keyKind_strs (by rw[<-e];exact hS)) (by rw[hl];exact hlen0) λst' hp hs=>?_) (args_list_sort _)))
 obtain⟨ss',a1,a2,a3⟩:=sorted_out_str hS hp hs
 refine⟨_,rfl,?_⟩
 refine wpAny_pure ⟨_,rfl,?_⟩
 obtain⟨e,he⟩:=sortedHeap_at (n:=0) (out:=(arrOf st').map (·.2)) hoL
 have hn:=qX a1
 have hlen:ss'.length=ss0.length:=a2.length_eq
 refine⟨.ref h'.objs.size,_,I1.laid (t':=tk) (λb u q1=>?_) (ar _) (show dR X.prog X.w _ _ _ (.lst (ss'.map V.str)) from⟨?_,((arrOf st').map (·.2)).toList,e,hn,?_⟩),rfl,
  q _ _ (I1.hok.fresh (ar _)) (a2.nodup_iff.mpr hnd) (λx=>by rw[a2.mem_iff];exact hmm x) a3⟩
 ·have lt:=aF q1
  rw[sortedHeap_old (aN lt) (by rw[size_push'];exact c6 lt)]
  exact ag _ q1
 ·rw[af,hlen];exact a7 (bW hlen0) (by decide)
 ·rw[iC];exact he
def mV(K:Fg)(t:TA):TE:=λσ H Q=>t σ H λvs H1=>∃(p:Addr) (tp:Bool) (ss dd:List Str),vs=[.ref p]/\A0 K tp H1 p (ss.map V.str)/\ss.length<=4000/\(∀x∈ss,x∈dd)/\dd.length<64/\
 ∀(l:Addr) (ss':List Str),H1 l=none->ss'.Nodup->(∀x,x∈ss'↔x∈ss)->sortedS ss'=true->Q (.ref l) (aQ H1 l (.lst (ss'.map V.str)))
theorem zT{a:Expr}{ta:TA}{p1 p2 pos pos2:Pos}(hg:Gl X "sorted")(hg2:Gl X "set")(hm:X.mg "sorted"=none)(hm2:X.mg "set"=none)(hc:X.calm=true)(ha:PA X [a] ta)
  (hs2:starEach [a] X.env=[(false,eval a X.env)]:=by rfl) (hs:starEach [.Call (.Name "set" p2) [a] [] pos2] X.env=[(false,eval (.Call (.Name "set" p2) [a] [] pos2) X.env)]:=by rfl) :
  PE X (.Call (.Name "sorted" p1) [.Call (.Name "set" p2) [a] [] pos2] [] pos) (mV X.K ta):=by
 intro pins s σ H Q I h
 refine wpAny_Call_Name_kw (iq I hg hm boot_sorted ?_)
 refine PyProof.Rows.callWith_builtin1 ?_ hs rfl
 rw[hs]
 show wpAny _ _ (spliced ((false,eval (.Call (.Name "set" p2) [a] [] pos2) X.env)::backTo pos [])) _ _ s
 refine Calls.spliced_cons ?_
 refine wpAny_Call_Name_kw (iq I hg2 hm2 (show bootBuiltins "set"=some (.type "set") by kernel_rfl) ?_)
 refine br (d4 (ha pos2 pins s σ H _ I h) λus s1 ⟨vs,H1,I1,r1,q1⟩=>?_) hs2 rfl
 obtain⟨l,tp,ss,dd,rfl,hq,hlen,hdd,h64,q⟩:=q1
 obtain⟨u,rfl,rx⟩:=kz r1
 cases rx
 obtain⟨its,rv,at_⟩:=I1.seqB hq
 have rl:=rv.length
 rw[af] at rl
 have hS:=qe rv
 have hv:∀(i:Nat) k v,ss[i]?=some k->its.toArray[i]?=some v->(iw X.prog X.w).is k v=true/\v.scannable=true/\(true=true->plainKind v=false):=λi k v h1 h2=>by
  rw[e6] at h2
  have:=hS.strs
  rw[<-this,aG,h2] at h1
  obtain⟨x,t,rfl⟩:=hS.all v (aA h2)
  have e:x=k:=by simpa[strOf] using h1
  subst e
  exact⟨by show Value.isStrOf x (.str x t)=true;simp[Value.isStrOf],rfl,λ_=>rfl⟩
 have hb:its.toArray.size+1<scanBound:=by rw[ay,<-rl];unfold scanBound;lia
 have go:∀(h':Heap) (tk m:Nat),m<=its.toArray.size->BgSet.SetTb (iw X.prog X.w) h' s1.heap.objs.size (λk=>decide (k∈ss)) m (!BgSet.byText X.w) true->
   (∀b o,b<s1.heap.objs.size->s1.heap.get? b=some o->h'.get? b=some o)->
   wpAny (model X.prog X.w) X.A (spliced (backTo pos [])) (λvs s'=>wpAny (model X.prog X.w) X.A (call (.builtin "sorted") (.ref s1.heap.objs.size::vs)) (EP X pins σ Q) X.xe s') X.xe {s1 with heap:=h',toks:=tk}:=λh' tk m hm T kp=>by
  have I2:bw X pins σ H1 {s1 with heap:=h',toks:=tk}:=I1.kept λb u e=>kp b u (aF e) e
  exact Calls.spliced_nil (Ao hc I2 T hdd h64 q)
 cases tp with
 |true=>exact BgSet.set_of_tuple (kd:=iw X.prog X.w) ss true (I1.ok.hd hc) at_ (by rw[ay];exact rl) hv hb go
 |false=>exact BgSet.set_of_list (kd:=iw X.prog X.w) ss true (I1.ok.hd hc) at_ (by rw[ay];exact rl) hv hb go
theorem rC{a:Expr}{ta:TA}{p1 p2 pos pos2:Pos}(hg:Gl X "sorted")(hg2:Gl X "set")(hm:X.mg "sorted"=none)(hm2:X.mg "set"=none)(hc:X.calm=true)(ha:QA X [a] ta)
  (hs2:starEach [a] X.env=[(false,eval a X.env)]:=by rfl) (hs:starEach [.Call (.Name "set" p2) [a] [] pos2] X.env=[(false,eval (.Call (.Name "set" p2) [a] [] pos2) X.env)]:=by rfl) :
  QE X (.Call (.Name "sorted" p1) [.Call (.Name "set" p2) [a] [] pos2] [] pos) (mV X.K ta):=⟨zT hg hg2 hm hm2 hc ha.up hs2 hs⟩
end
section
variable{X:Cx}
end
end L2
end
section
namespace BgRev
open PySem
theorem Ag:Manifest.owners.lookup (String.ofList ['d','e','s','r','e','v','e','r'].reverse)=some Manifest.sig_reversed:=by kernel_rfl
theorem p9:Slot "reversed" "__next__" "reversed.__next__":=
 .of (owner:="reversed") (n:="__next__") (by rw[typeLookup_type,builtinLookup_eq_fast];kernel_rfl) (by decide +kernel) (by decide +kernel)
  (by decide +kernel) (by first|exact .inl (by decide +kernel)|exact .inr (by decide +kernel))
  (by rw[isSubtype_type];kernel_rfl)
theorem nN:entryFor table "reversed.__next__"=some Builtin.«reversed.__next__»:=entryFor_of_tree (by kernel_rfl)
theorem qa(v:Value):argsOk "reversed.__next__" ⟨[v],[]⟩:=by
 unfold argsOk
 rw[signature?_of (id:="reversed.__next__") (n:=['_','_','t','x','e','n','_','_']) (o:=['d','e','s','r','e','v','e','r']) (by kernel_rfl) Ag]
 kernel_rfl
theorem Du:Slot "reversed" "__iter__" "reversed.__iter__":=
 .of (owner:="reversed") (n:="__iter__") (by rw[typeLookup_type,builtinLookup_eq_fast];kernel_rfl) (by decide +kernel) (by decide +kernel)
  (by decide +kernel) (by first|exact .inl (by decide +kernel)|exact .inr (by decide +kernel))
  (by rw[isSubtype_type];kernel_rfl)
theorem vz:entryFor table "reversed.__iter__"=some Builtin.«dict_keyiterator.__iter__»:=
 entryFor_alias (id':="dict_keyiterator.__iter__") (by kernel_rfl) rfl (by decide +kernel) (by kernel_rfl)
theorem yg(v:Value):argsOk "reversed.__iter__" ⟨[v],[]⟩:=by
 unfold argsOk
 rw[signature?_of (id:="reversed.__iter__") (n:=['_','_','r','e','t','i','_','_']) (o:=['d','e','s','r','e','v','e','r']) (by kernel_rfl) Ag]
 kernel_rfl
theorem Kc:Slot "reversed" "__init__" "object.__init__":=
 .of (owner:="object") (n:="__init__") (by rw[typeLookup_type,builtinLookup_eq_fast];kernel_rfl) (by decide +kernel) (by decide +kernel)
  (by decide +kernel) (by first|exact .inl (by decide +kernel)|exact .inr (by decide +kernel))
  (by rw[isSubtype_type];kernel_rfl)
theorem qT:TypeCalled "reversed" "reversed.__new__" "object.__init__":=
 ⟨by decide +kernel,by decide +kernel,⟨_,_,F.mro_reversed⟩,F.made_reversed,by decide +kernel,by rw[isSubtype_type];kernel_rfl,Kc⟩
theorem Kh:typeLookup (.type "tuple") "__reversed__"=pure none:=by rw[typeLookup_type,builtinLookup_eq_fast];kernel_rfl
end BgRev
end
section
namespace BgRev
open PySem PyProof.Rows
section
variable{prog:Program}{w:World}{A:Around}{E:Value->Shared->Prop}{s:Shared}
def rvObj(l:Addr)(i:Int):Obj:={cls:=.type "reversed",data:=.fields #[.ref l,rawInt i]}
theorem Jq{l:Addr}{its:Array Value}{Q:Value->Shared->Prop}(hl:IsTup s.heap l its)(hz:(its.size:Int)<2 ^ 63)
  (h:Q (.ref s.heap.objs.size) {s with heap:=s.heap.push (rvObj l ((its.size:Int)-1)),toks:=s.toks+1+1}) :
  codeAny (model prog w) A (.call (.builtin "reversed.__new__") ⟨[.type "reversed",.ref l],[]⟩) (wants Q E) s:=by
 refine codeAny_of_tree ?_
 show wpAny _ A.in1 (checkBuiltinCall "reversed.__new__" ⟨[.type "reversed",.ref l],[]⟩ >>= λ_=>again (.builtin "reversed.__new__" ⟨[.type "reversed",.ref l],[]⟩)) _ _ s
 refine wpAny_bind (wpAny_of_eq (F.newCall_reversed_1 _) (wpAny_pure ⟨plainId_quiet F.plain_reversed_new _,codeAny_builtin F.entry_reversed_new ?_⟩))
 rw[Around.under_plainId F.plain_reversed_new _]
 unfold Builtin.«reversed.__new__»
 refine wpAny_bind (wpAny_of_eq (newClass_reversed _) ?_)
 try dsimp only
 refine wpAny_bind (wpAny_of_eq (a:=()) (by first|rfl|kernel_rfl) ?_)
 refine wpAny_bind (wpAny_of_eq (a:=()) (by first|rfl|kernel_rfl) ?_)
 try dsimp only
 have ht:s.TypeIs (.ref l) "tuple":=hl.typeIs
 refine wpAny_bind (wpAny_specialOf ht Kh ?_)
 refine wpAny_bind ?_
 wp_delta
 refine wpAny_bind (wpAny_isInstance (T:="tuple") (b:=false) ht F.sub_tuple_dict ?_)
 simp only[Bool.false_eq_true,if_false]
 refine wpAny_bind (wpAny_specialOf ht F.slot_tuple_getitem.lookup ?_)
 refine wpAny_ite_split (λ_=>?_) (λc=>absurd (by decide +kernel) c)
 refine wpAny_pure ?_
 simp only[Bool.not_true,Bool.false_eq_true,if_false]
 refine wpAny_bind (len_tuple hl hz ?_)
 refine wpAny_bind (wpAny_of_eq (a:=some (its.size:Int)) rfl ?_)
 dsimp only
 refine wpAny_bind ?_
 unfold Builtin.SmallTypes.newRecord
 exact wpAny_newObj_type (wpAny_pure h)
def RvAt(h:Heap)(it l:Addr)(i:Int):Prop:=h.get? it=some {cls:=.type "reversed",dict:=none,data:=.fields #[.ref l,.int i 0],slots:=#[]}
theorem RvAt.type{it l:Addr}{i:Int}(x:RvAt s.heap it l i):s.TypeIs (.ref it) "reversed":=⟨_,x,rfl⟩
theorem call_rev{l:Addr}{its:Array Value}{Q:Value->Shared->Prop}(hl:IsTup s.heap l its)(hz:(its.size:Int)<2 ^ 63)
  (h:∀tk,Q (.ref s.heap.objs.size) {s with heap:=s.heap.push (rvObj l ((its.size:Int)-1)),toks:=tk}):wpAny (model prog w) A (call (.type "reversed") [.ref l]) Q E s:=by
 refine callType_codes (Q₁:=λv s1=>v=.ref s.heap.objs.size/\s1={s with heap:=s.heap.push (rvObj l ((its.size:Int)-1)),toks:=s.toks+1+1}) qT (F.typeCall_reversed_1 _) F.entry_object_init
  (Jq hl hz ⟨rfl,rfl⟩) ?_
 rintro obj s1 ⟨rfl,rfl⟩
 have ht:Shared.TypeIs {s with heap:=s.heap.push (rvObj l ((its.size:Int)-1)),toks:=s.toks+1+1} (.ref s.heap.objs.size) "reversed":=⟨_,ax _ rfl,rfl⟩
 exact⟨ht,F.args_object_init_2 _ _,object_init_meets qT.init.lookup qT.made (by decide) prog w A.in1 _ _ ⟨ht,rfl,h _⟩⟩
theorem next_rev{it l:Addr}{i:Nat}{its:Array Value}{x:Value}{Q:Option Value->Shared->Prop}(hit:RvAt s.heap it l (i:Int))(hl:IsTup s.heap l its)
  (hz:(its.size:Int)<2 ^ 63) (hx:its[i]?=some x) (hQ:∀h' tk,RvAt h' it l ((i:Int)-1)->Heap.SameBut it s.heap h'->Q (some x) {s with heap:=h',toks:=tk}):wpAny (model prog w) A (pyNext (.ref it)) Q E s:=by
 unfold pyNext
 refine wpAny_bind (wpAny_attempt (wpAny_callSpecial?_slot (name:=Str.ofString "__next__") hit.type p9 (wpAny_call_entry p9 hit.type nN ?_ (qa _))))
 unfold Builtin.«reversed.__next__»
 refine wpAny_bind (m:=slotArgs _ _ _) (wpAny_pure ?_)
 refine wpAny_bind (wpAny_field hit rfl (x:=.ref l) rfl ?_)
 refine wpAny_bind (wpAny_field hit rfl (x:=.int (i:Int) 0) rfl ?_)
 dsimp only
 rw[if_neg (by omega)]
 have ht:s.TypeIs (.ref l) "tuple":=hl.typeIs
 refine wpAny_bind (wpAny_specialOf ht F.slot_tuple_getitem.lookup ?_)
 simp only[Option.isNone_some,Bool.false_eq_true,if_false]
 have hlt:i<its.size:=(dQ.mp hx).1
 refine wpAny_bind (wpAny_mkInt ?_)
 refine wpAny_bind (wpAny_attempt (getItem_tuple (s:={s with toks:=s.toks+1}) (j:=i) hl (by omega) (by omega) (by unfold seqIndex?;rw[if_neg (show ¬((i:Int)<0) by omega)];simp;omega) hx ?_))
 dsimp only
 refine wpAny_bind (wpAny_field hit rfl (x:=.int (i:Int) 0) rfl ?_)
 dsimp only
 refine wpAny_bind (wpAny_setField_rec (s:={s with toks:=s.toks+1}) hit (by simp) λh1 g1 sb1=>?_)
 refine wpAny_pure ⟨_,rfl,wpAny_pure (hQ h1 _ ?_ sb1)⟩
 unfold RvAt
 rw[g1]
 simp[rawInt]
theorem stop_rev{it l:Addr}{Q:Option Value->Shared->Prop}(hh:A.handled=none)(hit:RvAt s.heap it l (-1))(hQ:∀h',Heap.ExtBut it s.heap h'->Q none {s with heap:=h'}):wpAny (model prog w) A (pyNext (.ref it)) Q E s:=by
 unfold pyNext
 refine wpAny_bind (wpAny_attempt (wpAny_callSpecial?_slot (name:=Str.ofString "__next__") hit.type p9 (wpAny_call_entry p9 hit.type nN ?_ (qa _))))
 unfold Builtin.«reversed.__next__»
 refine wpAny_bind (m:=slotArgs _ _ _) (wpAny_pure ?_)
 refine wpAny_bind (wpAny_field hit rfl (x:=.ref l) rfl ?_)
 refine wpAny_bind (wpAny_field hit rfl (x:=.int (-1) 0) rfl ?_)
 dsimp only
 rw[if_pos (by decide)]
 refine wpAny_bind (wpAny_rule ?_)
 refine wpAny_bind ?_
 wp_delta
 refine wpAny_bind (wpAny_setField_rec hit (by simp) λh1 g1 sb1=>?_)
 refine wpAny_setField_rec g1 (by simp) λh2 g2 sb2=>?_
 refine wpAny_bind ?_
 unfold Builtin.SmallTypes.stopIteration
 refine wpAny_bind ?_
 simp only[newExc,newTuple]
 refine wpAny_bind (wpAny_newObj_type ?_ (by size_fits))
 refine wpAny_bind (m:=firstArgMember _ _) (wpAny_of_eq (a:=Value.none) (by first|rfl|(simp only[firstArgMember];rfl)) ?_)
 refine wpAny_newObj_type ?_ (by size_fits)
 simp only[raiseNew]
 refine wpAny_bind (wpAny_handled ?_)
 rw[show A.in1.handled=none from hh]
 refine wpAny_bind (wpAny_pure (wpAny_throw ?_))
 refine wpAny_bind (wpAny_isInstance (T:="StopIteration") (b:=true) ⟨_,ax _ rfl,rfl⟩ isSubtype_stop ?_)
 exact wpAny_pure (hQ _ (((sb1.trans sb2).extBut.push _).push _))
theorem self_rev{it l:Addr}{i:Int}{Q:Value->Shared->Prop}(hit:RvAt s.heap it l i)(h:Q (.ref it) s):wpAny (model prog w) A (pyIter (.ref it)) Q E s:=by
 refine wpAny_pyIter_slot hit.type Du (wpAny_call_entry Du hit.type vz ?_ (yg _))
 show wpAny _ _ (ret (.ref it)) _ _ s
 exact wpAny_pure ⟨_,rfl,"reversed",_,hit.type,p9.lookup,h⟩
end
end BgRev
end
section
namespace L2
open PySem PySem.Spec PyProof.Rows
def Fe(K:Fg)(a:Addr)(xs:List V):It:=
 ⟨λi H=>cz K H a xs/\i<xs.length,λi H x H'=>H'=H/\xs.reverse[i]?=some x,λi H=>cz K H a xs/\xs.length<=i⟩
theorem Ig{P:Program}{w:World}{K:Fg}{tg:Expr}(a it:Addr)(xs:List V)(hz0:xs.length<=sizeLine):rT P w K tg (Fe K a xs) [it] it (λi h=>BgRev.RvAt h it a ((xs.length:Int)-1-(i:Int))/\i<=xs.length) where
 mem:=by simp
 obj:=λi h st b hb=>by
  have e:b=it:=by simpa using hb
  subst e
  exact⟨_,st.1,λv z=>by have z':Data.fields _=Data.cell v:=z;cases z'⟩
 keep:=λi h h' st k=>⟨k it (by simp) _ st.1,st.2⟩
 item:=by
  intro X hP hw hK hc i pins s σ H E I hf st hg
  subst hP hw hK
  obtain⟨hq,hi⟩:=hg
  obtain⟨its,rv,p,hz⟩:=I.tuple hq
  have rl:=rv.length
  obtain⟨x,hx⟩:∃x,xs[xs.length-1-i]?=some x:=⟨_,aa (by lia)⟩
  obtain⟨u,hu,ru⟩:=rv.get hx
  obtain⟨f0,f1,f2,f3,f4,f5⟩:=hf it (by simp)
  have st1:=st.1
  rw[show(xs.length:Int)-1-(i:Int)=((xs.length-1-i:Nat):Int) by lia] at st1
  have hzz:(its.toArray.size:Int)<2 ^ 63:=by
   have:its.toArray.size<=sizeLine:=by rw[ay,<-rl];exact hz
   have h2:sizeLine<2 ^ 63:=by decide
   lia
  refine BgRev.next_rev st1 p hzz (x:=u) (by simpa using hu) λh' tk st' sb=>?_
  have I1:bw X pins σ H {s with heap:=h',toks:=tk}:=I.turned (t':=tk) (λb o hb e=>(sb.2 b hb).trans e) f0 f1 f3 f4 f5
  have hrv:xs.reverse[i]?=some x:=by
   rw[bS hi];exact hx
  refine⟨u,rfl,v3 (s:={s with heap:=h',toks:=tk}) st' rfl rfl (by decide) ⟨x,H,I1,ru,⟨rfl,hrv⟩,⟨?_,hi⟩,λb hb=>(hf b hb).1⟩⟩
  rw[show(xs.length:Int)-1-((i+1:Nat):Int)=((xs.length-1-i:Nat):Int)-1 by lia]
  exact st'
 done:=by
  intro X hP hw hK hc i pins s σ H E I hf st hg
  subst hP hw hK
  obtain⟨hq,hx⟩:=hg
  obtain⟨f0,f1,f2,f3,f4,f5⟩:=hf it (by simp)
  have st1:=st.1
  have st2:=st.2
  rw[show(xs.length:Int)-1-(i:Int)=-1 by lia] at st1
  exact BgRev.stop_rev (I.ok.hd hc) st1 λh' eb=>⟨rfl,I.turned (t':=s.toks) (λb o hb e=>eb b o hb e) f0 f1 f3 f4 f5⟩
 self:=λ_ _ _ _ _ st h=>BgRev.self_rev st.1 h
section
variable{X:Cx}{tg:Expr}
def Gf(K:Fg)(tl:TA):TI:=λσ H R=>tl σ H λvs H1=>∃a xs,vs=[.ref a]/\cz K H1 a xs/\R (Fe K a xs) H1
theorem JH{a:Expr}{ta:TA}{p pos:Pos}(hg:Gl X "reversed")(hm:X.mg "reversed"=none)(ha:PA X [a] ta)(hs:starEach [a] X.env=[(false,eval a X.env)]:=by rfl) :
  PI X tg (.Call (.Name "reversed" p) [a] [] pos) (Gf X.K ta):=by
 intro pins s σ H R I h
 refine Call_ (iq I hg hm boot_reversed (br (d4 (ha pos pins s σ H _ I h) λus s1 ⟨vs,H1,I1,r1,q1⟩=>?_) hs rfl))
 obtain⟨l,xs,e,hq,q⟩:=q1
 subst e
 cases r1 with
 |cons r rr=>
  cases rr
  cases r
  obtain⟨its,rv,p,hz⟩:=I1.tuple hq
  have rl:=rv.length
  have hzz:(its.toArray.size:Int)<2 ^ 63:=by
   have:its.toArray.size<=sizeLine:=by rw[ay,<-rl];exact hz
   have h2:sizeLine<2 ^ 63:=by decide
   lia
  refine BgRev.call_rev p hzz λtk=>?_
  have at_:BgRev.RvAt (s1.heap.push (BgRev.rvObj l ((its.toArray.size:Int)-1))) s1.heap.objs.size l ((xs.length:Int)-1-((0:Nat):Int)):=by
   have:(s1.heap.push (BgRev.rvObj l ((its.toArray.size:Int)-1))).get? s1.heap.objs.size=some (BgRev.rvObj l ((its.toArray.size:Int)-1)):=ax _ rfl
   unfold BgRev.RvAt
   rw[this,ay,<-rl]
   simp[BgRev.rvObj,rawInt]
  refine BgRev.self_rev (s:={s1 with heap:=s1.heap.push (BgRev.rvObj l ((its.toArray.size:Int)-1)),toks:=tk}) at_ ?_
  refine⟨s1.heap.objs.size,[s1.heap.objs.size],_,_,H1,rfl,I1.kept (t':=tk) λb o e=>ag _ e,Ig l _ xs hz,⟨at_,bq _⟩,λb hb=>?_,q⟩
  have e:b=s1.heap.objs.size:=by simpa using hb
  subst e
  exact I1.fpOk (ar _) (I1.hok.fresh (ar _))
theorem JY{a:Expr}{ta:TA}{p pos:Pos}(hg:Gl X "reversed")(hm:X.mg "reversed"=none)(ha:QA X [a] ta)(hs:starEach [a] X.env=[(false,eval a X.env)]:=by rfl) :
  QI X tg (.Call (.Name "reversed" p) [a] [] pos) (Gf X.K ta):=⟨JH hg hm ha.up hs⟩
end
theorem Je{K:Fg}{a:Addr}{xs:List V}{g:TG}{tb:TS}{D:lM}{σ:St}{H:Hp}(Pv:Nat->St->Hp->Prop)(h0:Pv 0 σ H)(hl:∀i σ H,i<=xs.length->Pv i σ H->cz K H a xs)
  (hs:∀i x σ H,xs.reverse[i]?=some x->Pv i σ H->g x σ H λσ2 H2=>tb {D with nx:=Pv (i+1),ct:=Pv (i+1),bk:=D.nx} σ2 H2) (hd:∀σ H,Pv xs.length σ H->D.nx σ H) :
  ∃W:Nat->Nat->St->Hp->Prop,(∃m,W 0 m σ H)/\∀i m σ H,W i m σ H->
   ((Fe K a xs).stop i H/\D.nx σ H)\/((Fe K a xs).go i H/\∃N:St->Hp->Prop,(∀σ' H',N σ' H'->∃m',m'<m/\W (i+1) m' σ' H')/\∀x H',(Fe K a xs).yld i H x H'->g x σ H' λσ2 H2=>tb {D with nx:=N,ct:=N,bk:=D.nx} σ2 H2):=by
 refine⟨λi m σ H=>m=xs.length-i/\i<=xs.length/\Pv i σ H,⟨xs.length,by simp,bq _,h0⟩,?_⟩
 rintro i m σ H ⟨rfl,hi,p⟩
 have q:=hl i σ H hi p
 by_cases lt:i<xs.length
 ·refine .inr ⟨⟨q,lt⟩,Pv (i+1),λσ' H' p'=>⟨xs.length-(i+1),by lia,rfl,lt,p'⟩,λx H' y=>?_⟩
  obtain⟨e,y⟩:=y
  subst e
  exact hs i x σ _ y p
 ·have e:i=xs.length:=by lia
  subst e
  exact .inl ⟨⟨q,ar _⟩,hd σ H p⟩
end L2
end
section
namespace Bg
open PySem PySem.Spec PyProof.Rows L2
abbrev tf:List Str:=["works","last"]
abbrev nI:List Str:=["works","last","names","points","work"]
def sk(K:Fg):TS:=(de (qf K (ak (av 3) aO)))
def lI(K:Fg):TS:=(gn (si K "list" dJ (av 3) (ak (av 2) aO)))
def lJ(K:Fg):TS:=(bx (bT (eW (dA K) (ak (mV K (ak (bO (kQ K) (bu (kX K) [] E0 (ak (av 2) (ak (bO (e8 K) (av 4) (tC (.int 1))) aO))) (eW (dA K) (ak (bO (e8 K) (av 4) (tC (.int 0))) aO))) aO)) aO)) (aR 2)) (lI K))
def lK(K:Fg):TS:=(bx (iT (Gf K (ak (av 0) aO)) (aR 4) (lJ K)) (sk K))
def lL(K:Fg):TS:=(bx (bT (gx (ak (av 2) aO)) (aR 3)) (lK K))
def oz(K:Fg):TS:=(bx (bT (eW (dA K) (ak (mV K (ak (av 1) aO)) aO)) (aR 2)) (lL K))
abbrev xt:List Str:=["names","name"]
abbrev md:List Str:=["names","name"]
def rP(K:Fg):TS:=(de (eW (dA K) (ak (dW [] 1 (iQ K (av 0)) (aR 2) (cC (bO (Cb K) (av 2) (av 1))) (av 2)) aO)))
abbrev Fv:List Str:=["_law_state","_law_names_here"]
abbrev CT:List Str:=["_law_state","_law_names_here"]
def DQ(K:Fg):TS:=(de (bO (e8 K) (bO (dz K) (av 1) (gx (ak (tC .non) aO))) (bu (eK K) [] E0 (ak (av 0) (ak (bO (dz K) (eW (fP K) (ak (av 1) aO)) (tC (.int 1))) aO)))))
abbrev Fw:List Str:=["_law_state","_law_names_here","_law_most"]
abbrev xn:List Str:=["_law_state","_law_names_here","_law_most","_law_works_here","_law_k","_law_size","_law_some"]
def ER(K:Fg):TS:=(de (eW (dA K) (ak (av 3) aO)))
def wV(K:Fg):TS:=(gn (si K "list" dJ (av 3) (ak (lQ (ak (av 6) (ak (bO (e8 K) (gx (ak (tC .non) (ak (bu (qd K) [] E0 (ak (av 0) (ak (av 1) aO))) aO))) (eW (G6) (ak (bO (z9) (bu (eK K) [] E0 (ak (av 0) (ak (tC (.int 4)) aO))) (tC (.int 0))) aO))) aO))) aO)))
def wX(K:Fg):TS:=(bx (bT (eW (dA K) (ak (dW [] 1 (mi (ak (av 5) aO)) (aR 7) jt (bO (e8 K) (av 1) (bu (eK K) [] E0 (ak (av 0) (ak (eW (fP K) (ak (av 1) aO)) aO))))) aO)) (aR 6)) (wV K))
def ES(K:Fg):TS:=(bx (bT (bO (e8 K) (gx (ak (tC (.int 0)) (ak (tC (.int 1)) (ak (tC (.int 2)) (ak (tC (.int 2)) (ak (tC (.int 3)) (ak (tC (.int 8)) aO))))))) (bu (eK K) [] E0 (ak (av 0) (ak (tC (.int 6)) aO)))) (aR 5)) (wX K))
def wY(K:Fg):TS:=(bx (iT (mi (ak (bu (eK K) [] E0 (ak (av 0) (ak (bO (dz K) (av 2) (tC (.int 1))) aO))) aO)) (aR 4) (ES K)) (ER K))
def DR(K:Fg):TS:=(bx (bT (gx aO) (aR 3)) (wY K))
abbrev xo:List Str:=["_law_works_here","_law_last_here","_law_k","_law_name"]
abbrev rh:List Str:=["_law_works_here","_law_last_here","_law_k","_law_name","_law_some","_law_makes"]
def vD(K:Fg):TS:=(de (bO ((B9 K false)) (av 3) (av 1)))
def vE(K:Fg):TS:=(gu (cC (bO (M3 K) (av 5) (av 3))) (de (tC (.bl false))) eE)
def nX(K:Fg):TS:=(bx (gu (cC (bO ((B9 K false)) (av 3) (av 4))) (de (tC (.bl true))) eE) (vE K))
def rL(K:Fg):TS:=(bx (iT (iQ K (E5 (Ey K) (av 0) (lg (av 2)) fX)) (qK K 2 (eQ (aR 4) (eQ (aR 5) pT))) (nX K)) (vD K))
abbrev D6:List Str:=["_law_works_here","_law_last_here","_law_names_here"]
abbrev sV:List Str:=["_law_works_here","_law_last_here","_law_names_here","_law_found","_law_k"]
def CF(K:Fg):TS:=(de (av 3))
def uP(K:Fg):TS:=(gn (si K "list" dJ (av 3) (ak (eW (dA K) (ak (dW [] 1 (iQ K (eW (Ds K) (ak (av 2) aO))) (aR 5) (tB (bu (kT K) [] E0 (ak (av 0) (ak (av 1) (ak (av 4) (ak (av 5) aO)))))) (av 5)) aO)) aO)))
def uQ(K:Fg):TS:=(bx (iT (mi (ak (bO (dz K) (eW (fP K) (ak (av 0) aO)) (tC (.int 1))) aO)) (aR 4) (uP K)) (CF K))
def AO(K:Fg):TS:=(bx (bT (gx aO) (aR 3)) (uQ K))
abbrev Bd:List Str:=["_law_places_here","_law_works_here","_law_points_here"]
abbrev qH:List Str:=["_law_places_here","_law_works_here","_law_points_here","_law_k","_law_rest"]
def Au(K:Fg):TS:=(de (tC .non))
def rJ(K:Fg):TS:=(gu (cC (bO (z9) (eW (fP K) (ak (av 4) aO)) (bO (tY) (av 0) (tC (.int 1))))) (de (lQ (ak (tC (.str "behind")) (ak (av 3) (ak (av 4) aO))))) eE)
def Av(K:Fg):TS:=(gu (Ct (cC (bO (Ca) (av 3) (eW (fP K) (ak (av 1) aO)))) (cC (bO (Dq) (bO (e8 K) (bO (e8 K) (av 1) (av 3)) (tC (.int 1))) (tC .non)))) (bx (bT (eW (dA K) (ak (dW [] 1 (iQ K (bO (e8 K) (av 2) (bO (dz K) (av 3) (tC (.int 1))))) (aR 5) (cC (bO (Cb K) (av 5) (bO (e8 K) (bO (e8 K) (av 1) (av 3)) (tC (.int 1))))) (av 5)) aO)) (aR 4)) (rJ K)) eE)
def rK(K:Fg):TS:=(bx (gu (cC (bO (z9) (eW (fP K) (ak (bO (e8 K) (av 2) (av 3)) aO)) (av 0))) (de (lQ (ak (tC (.str "ahead")) (ak (av 3) (ak (bO (e8 K) (av 2) (av 3)) aO))))) eE) (Av K))
def wM(K:Fg):TS:=(bx (iT (mi (ak (eW (fP K) (ak (av 2) aO)) aO)) (aR 3) (rK K)) (Au K))
abbrev IJ:List Str:=["_law_state","_law_names_here","_law_most"]
abbrev Fo:List Str:=["_law_state","_law_names_here","_law_most","_law_left","_law_found","_law_k"]
def HZ(K:Fg):TS:=(de (eW (dA K) (ak (av 4) aO)))
def Ia(K:Fg):TS:=(gn (si K "list" dJ (av 4) (ak (si K "list" Cc (av 3) (ak (bu (eK K) [] E0 (ak (av 0) (ak (eW (fP K) (ak (av 3) aO)) aO))) aO)) aO)))
def AG(K:Fg):TS:=(bx (iT (mi (ak (eW (Ky) (ak (eW (fP K) (ak (av 1) aO)) (ak (bu (eK K) [] E0 (ak (av 0) (ak (bO (dz K) (av 2) (tC (.int 1))) aO))) aO))) aO)) (aR 5) (Ia K)) (HZ K))
def AH(K:Fg):TS:=(bx (bT (gx aO) (aR 4)) (AG K))
def HY(K:Fg):TS:=(bx (bT (eW (x9 K) (ak (av 1) aO)) (aR 3)) (AH K))
abbrev yR:List Str:=["belt","thing"]
abbrev sS:List Str:=["belt","thing"]
def uJ(K:Fg):TS:=(de (E5 (Iw K) (bO (dz K) (lQ (ak (av 1) aO)) (av 0)) fX (lg (eW (fP K) (ak (av 0) aO)))))
abbrev yU:List Str:=["one","other"]
abbrev oF:List Str:=["one","other"]
def uN(K:Fg):TS:=(de (eW (G2 K) (ak (dW [] 2 (Gg K (ak (av 0) (ak (av 1) aO))) (qK K 2 (eQ (aR 2) (eQ (aR 3) pT))) jt (L8 (bO (G7) (av 2) (tC .non)) (bO (vo K) (av 2) (av 3)))) aO)))
abbrev u6:List Str:=["names","x"]
abbrev kG:List Str:=["names","x"]
def qj(K:Fg):TS:=(de (bu (mD K) [] E0 (ak (eW (dA K) (ak (dW [] 1 (iQ K (av 0)) (aR 2) jt (Nq (cC (bO (vo K) (av 2) (av 1))) (tC .non) (av 2))) aO)) (ak (av 1) aO))))
abbrev D4:List Str:=["belt","names"]
abbrev yO:List Str:=["belt","names","told","thing"]
def CC(K:Fg):TS:=(de (eW (dA K) (ak (av 2) aO)))
def CD(K:Fg):TS:=(gn (si K "list" dJ (av 2) (ak (Nq (Ct (cC (bO ((B9 K false)) (av 3) (av 1))) (cC (bO ((B9 K true)) (av 3) (av 2)))) (av 3) (tC .non)) aO)))
def uK(K:Fg):TS:=(bx (iT (iQ K (av 0)) (aR 3) (CD K)) (CC K))
def AM(K:Fg):TS:=(bx (bT (gx aO) (aR 2)) (uK K))
end Bg
end
section
namespace PySem
open Sem (wp)
open AutoSeq1 (wpAny_loadPart')
section
variable{prog:Program}{w:World}{A:Around}{E:Value->Shared->Prop}{s:Shared}
theorem BU{ib tb:Addr}{i:Nat}{its:Array Value}{x:Value}{Q:Value->Shared->Prop}(hib:s.heap.IsTupleIter ib tb i)(htb:s.heap.IsTuple tb its)(hx:its[i]?=some x)
  (hQ:∀h',h'.IsTupleIter ib tb (i+1)->Heap.SameBut ib s.heap h'->Q x {s with heap:=h'}):wpAny (model prog w) A (Builtin.SmallTypes.nextOf (.ref ib)) Q E s:=by
 obtain⟨ob,hob,hcb,hdb⟩:=id hib
 obtain⟨ot,hot,_,nt,hdt⟩:=htb
 unfold Builtin.SmallTypes.nextOf
 refine wpAny_bind (wpAny_callSpecial?_slot (name:=Str.ofString "__next__") hib.typeIs F.slot_tuple_iterator_next (wpAny_call_entry F.slot_tuple_iterator_next hib.typeIs F.entry_tuple_iterator_next ?_ (F.args_tuple_iterator_next_1 _)))
 show wpAny _ _ (field (.ref ib) 0 >>= _) _ _ s
 refine wpAny_bind (wpAny_field hob hdb (x:=.ref tb) rfl ?_)
 show wpAny _ _ (if(Value.ref tb==Value.none)=true then _ else _) _ _ s
 rw[if_neg (show ¬((Value.ref tb==Value.none)=true) from Bool.false_ne_true)]
 show wpAny _ _ (field (.ref ib) 1 >>= _) _ _ s
 refine wpAny_bind (wpAny_field hob hdb (x:=.int i 0) rfl ?_)
 show wpAny _ _ (seqItems? (.ref tb) >>= _) _ _ s
 refine wpAny_bind (wpAny_seqItems hot hdt ?_)
 simp only[aY,hx]
 refine wpAny_bind (wpAny_setField hob hdb (by simp) (wpAny_pure ⟨x,rfl,wpAny_pure (hQ _ ?_ (Heap.SameBut.update ..))⟩))
 exact⟨_,bZ _ hob (Obj.isFreed_of_fields (Obj.data_mapFields hdb _)),(Obj.cls_mapFields ..).trans hcb,by rw[Obj.data_mapFields hdb];simp[rawInt]⟩
theorem wj{ib tb:Addr}{i:Nat}{its:Array Value}{Q:Value->Shared->Prop}(hh:A.handled=none)(hib:s.heap.IsTupleIter ib tb i)(htb:s.heap.IsTuple tb its)(hx:its[i]?=none)
  (hE:∀h' e,Heap.ExtBut ib s.heap h'->(∃o,h'.get? e=some o/\o.cls=.type "StopIteration")->E (.ref e) {s with heap:=h'}):wpAny (model prog w) A (Builtin.SmallTypes.nextOf (.ref ib)) Q E s:=by
 obtain⟨ob,hob,hcb,hdb⟩:=id hib
 obtain⟨ot,hot,_,nt,hdt⟩:=htb
 unfold Builtin.SmallTypes.nextOf
 refine wpAny_bind (wpAny_callSpecial?_slot (name:=Str.ofString "__next__") hib.typeIs F.slot_tuple_iterator_next (wpAny_call_entry F.slot_tuple_iterator_next hib.typeIs F.entry_tuple_iterator_next ?_ (F.args_tuple_iterator_next_1 _)))
 show wpAny _ _ (field (.ref ib) 0 >>= _) _ _ s
 refine wpAny_bind (wpAny_field hob hdb (x:=.ref tb) rfl ?_)
 show wpAny _ _ (if(Value.ref tb==Value.none)=true then _ else _) _ _ s
 rw[if_neg (show ¬((Value.ref tb==Value.none)=true) from Bool.false_ne_true)]
 show wpAny _ _ (field (.ref ib) 1 >>= _) _ _ s
 refine wpAny_bind (wpAny_field hob hdb (x:=.int i 0) rfl ?_)
 show wpAny _ _ (seqItems? (.ref tb) >>= _) _ _ s
 refine wpAny_bind (wpAny_seqItems hot hdt ?_)
 simp only[aY,hx]
 refine wpAny_bind (wpAny_rule (wpAny_bind (wpAny_setField hob hdb (by simp) ?_)))
 show wpAny _ _ (newExc (.type "StopIteration") [] >>= _) _ _ _
 refine wpAny_bind ?_
 simp only[newExc,newTuple]
 refine wpAny_bind (wpAny_newObj_type ?_ (by size_fits))
 refine wpAny_bind (m:=firstArgMember _ _) (wpAny_of_eq (a:=Value.none) (by first|rfl|(simp only[firstArgMember];rfl)) ?_)
 refine wpAny_newObj_type ?_ (by size_fits)
 simp only[raiseNew]
 refine wpAny_bind (wpAny_handled ?_)
 first|rw[show A.in1.handled=none from hh]|rw[hh]
 refine wpAny_bind (wpAny_pure (wpAny_throw ?_))
 exact hE _ _ (((Heap.SameBut.update ..).extBut.push _).push _) ⟨_,ax _ rfl,rfl⟩
end
theorem KY{prog:Program}{w:World}{A:Around}(hh:A.handled=none)(ib tb:Addr)(hne:tb≠ib)(its:Array Value) :
  Draws prog w A ib [ib,tb] its.size (λi v=>its[i]?=some v) (λi h=>h.IsTupleIter ib tb i/\h.IsTuple tb its) where
 live:=λ_ _ st=>let⟨o,ho,_⟩:=st.1;⟨o,ho⟩
 frame:=λ_ _ _ st hk=>⟨st.1.at λo e=>hk ib (by simp) o e,let⟨o,ho,r⟩:=st.2;⟨o,hk tb (by simp) o ho,r⟩⟩
 item:=λi s Q E hi st hQ=>BU st.1 st.2 (x:=its[i]) (by simp[hi]) λh' hit' hs'=>hQ _ h' s.toks (by simp[hi]) ⟨hit',st.2.extBut hs'.extBut hne⟩ hs'
 done:=λs Q E st hE=>wj hh st.1 st.2 (by simp) hE
theorem zL(tb:Addr)(its:Array Value)(n:Nat)(dct:Option Addr)(sl:Array (Option Value)) :
  Meets (Builtin.«enumerate.__new__» ⟨[.type "enumerate",.ref tb],[]⟩) (λ_ R s=>s.heap.get? tb=some {cls:=.type "tuple",dict:=dct,data:=.seq its n,slots:=sl}/\
   R (.ok (.ret (.ref (s.heap.push {cls:=.type "tuple_iterator",data:=.fields #[.ref tb,.int 0 0]}).objs.size)))
    {s with heap:=(s.heap.push {cls:=.type "tuple_iterator",data:=.fields #[.ref tb,.int 0 0]}).push {cls:=.type "enumerate",data:=.fields #[.none,.bool false,.ref s.heap.objs.size,rawInt 0,.none,.none]}}):=
 .of_wp λprog w A R s h=>by
  obtain⟨hp,g,d,tk,os⟩:=s;obtain⟨hl,h⟩:=h
  have hsub:=sub_enumerate
  have hL:Heap.IsTuple (Shared.heap ⟨hp,g,d,tk,os⟩) tb its:=⟨_,hl,rfl,n,rfl⟩
  wp_walk using wpAny_loadPart' hl
  refine wpAny_stack_any λst=>wpAny_pure ?_
  split
  ·rename_i c _ _ _ _ _
   cases(c==Value.type "enumerate")
   ·wp_walk using wpAny_loadPart' hl,wpAny_pyIter_tuple hL
    exact⟨_,rfl,h⟩
   ·wp_walk using wpAny_loadPart' hl,wpAny_pyIter_tuple hL
    exact⟨_,rfl,h⟩
  ·wp_walk using wpAny_loadPart' hl,wpAny_pyIter_tuple hL
   exact⟨_,rfl,h⟩
theorem Bs{prog:Program}{w:World}{A:Around}{E:Value->Shared->Prop}{s:Shared}{tb:Addr}{its:Array Value}{Q:Value->Shared->Prop}(hL:s.heap.IsTuple tb its)
  (h:∀h',IsEnum h' (s.heap.objs.size+1) s.heap.objs.size 0 .none->h'.IsTupleIter s.heap.objs.size tb 0->h'.objs.size=s.heap.objs.size+2->(∀b o,s.heap.get? b=some o->h'.get? b=some o)->Q (.ref (s.heap.objs.size+1)) {s with heap:=h'}) :
  wpAny (model prog w) A (call (.type "enumerate") [.ref tb]) Q E s:=by
 obtain⟨⟨c,dct,dt,sl⟩,hl,hc,n,hd⟩:=hL
 replace hc:c=.type "tuple":=hc
 replace hd:dt=.seq its n:=hd
 subst hc hd
 refine callType_new F.called_enumerate (by decide) (F.typeCall_enumerate_1 _) (F.newCall_enumerate_1 _) (λobj=>F.args_object_init_2 obj _) F.entry_enumerate_new (zL tb its n dct sl) ⟨hl,?_⟩
 have hz:(s.heap.push {cls:=.type "tuple_iterator",data:=.fields #[.ref tb,.int 0 0]}).objs.size=s.heap.objs.size+1:=bC ..
 show _/\_
 rw[hz]
 have he:IsEnum ((s.heap.push {cls:=.type "tuple_iterator",data:=.fields #[.ref tb,.int 0 0]}).push {cls:=.type "enumerate",data:=.fields #[.none,.bool false,.ref s.heap.objs.size,rawInt 0,.none,.none]}) (s.heap.objs.size+1) s.heap.objs.size 0 .none:=by
  have:=ax (s.heap.push {cls:=.type "tuple_iterator",data:=.fields #[.ref tb,.int 0 0]}) (o:={cls:=.type "enumerate",data:=.fields #[.none,.bool false,.ref s.heap.objs.size,rawInt 0,.none,.none]}) rfl
  rw[hz] at this;exact this
 refine⟨⟨_,he,rfl⟩,h _ he ⟨_,ag _ (ax _ rfl),rfl,rfl⟩ (by rw[bC,hz]) λb o x=>ag _ (ag _ x)⟩
end PySem
namespace L2
open PySem PySem.Spec PyProof.Rows
def yF(K:Fg)(a:Addr):It:=
 ⟨λi H=>∃xs x,cz K H a xs/\xs[i]?=some x,λi H x H'=>∃p v,H p=none/\x=.ref p/\H'=aQ H p (.tup [.int (i:Nat),v])/\∀xs,cz K H a xs->xs[i]?=some v,λi H=>∃xs,cz K H a xs/\xs.length<=i⟩
theorem CG{P:Program}{w:World}{K:Fg}{elts:List Expr}{k:Nat}{pos:Pos}(a e it:Addr)(hne:e≠it) :
  rT P w K (.Tuple elts k pos) (yF K a) [e,it] e (λi h=>(∃old,IsEnum h e it (i:Nat) old)/\h.IsTupleIter it a i) where
 mem:=by simp
 obj:=λi h st b hb=>by
  obtain⟨⟨old,he⟩,⟨o,ho,c,d⟩⟩:=st
  rcases aK.mp hb with rfl|hb
  ·exact⟨_,he,λv z=>by have z':Data.fields _=Data.cell v:=z;cases z'⟩
  ·rw[ao.mp hb]
   exact⟨o,ho,λv z=>by rw[d] at z;cases z⟩
 keep:=λi h h' st k=>⟨let⟨old,he⟩:=st.1;⟨old,k e (by simp) _ he⟩,st.2.at λo q=>k it (by simp) o q⟩
 item:=by
  intro X hP hw hK hc i pins s σ H E I hf st hg
  subst hP hw hK
  obtain⟨⟨old,he⟩,hit⟩:=st
  obtain⟨xs,x,hq,hx⟩:=hg
  obtain⟨its,rv,p,hz⟩:=I.tuple hq
  obtain⟨u,hu,ru⟩:=rv.get hx
  have p':s.heap.IsTuple a its.toArray:=p
  have hlt:i<its.toArray.size:=by have:=(ae.mp hu).1;simpa using this
  have na:a≠it:=by
   intro z;subst z
   obtain⟨o,e1,c1,_⟩:=p'
   obtain⟨o',e2,c2,_⟩:=hit
   rw[e1] at e2;cases e2;rw[c1] at c2
   injection c2 with c3
   exact absurd c3 (by decide)
  have nb:e≠a:=by
   intro z;subst z
   obtain⟨o,e1,c1,_⟩:=p'
   rw[he] at e1;cases e1
   injection c1 with c3
   exact absurd c3 (by decide)
  have Dw:=KY (prog:=X.prog) (w:=X.w) (A:=X.A.in1) (show X.A.in1.handled=none from I.ok.hd hc) it a na its.toArray
  refine wpAny_pyNext_enum_itemD Dw he ⟨hit,p'⟩ hlt hne (by simp[hne,nb]) λy h1 tk hP ho st1 hT hsz hk=>?_
  have ey:y=u:=by
   have h1:its.toArray[i]?=some y:=hP
   have h2:its[i]?=some y:=by simpa using h1
   rw[hu] at h2;exact(Option.some.inj h2).symm
  subst ey
  refine⟨_,rfl,?_⟩
  have fT:oC X pins H s.heap.objs.size:=I.fpOk (ar _) (I.hok.fresh (ar _))
  refine wpAny_letOwnedTupleGo_enum ho λh2 he2 hs2=>?_
  have helt:e<s.heap.objs.size:=aF he
  have I1:bw X pins σ H {s with heap:=h2,toks:=tk+1}:=I.turnedL (t':=tk+1) (ch:=[e,it]) (λb o hb q=>by
   have b1:b≠e:=λz=>hb (by simp[z])
   have b2:b≠it:=λz=>hb (by simp[z])
   exact(hs2.2 b b1).trans (hk b o b1 b2 q)) hf
  have gT:h2.get? s.heap.objs.size=some {cls:=.type "tuple",data:=.seq #[.int i tk,y]}:=(hs2.2 _ (cR helt)).trans hT
  have I2:=I1.adopt (T:=s.heap.objs.size) (o:=.tup [.int (i:Nat),x]) fT (sG (X:=X) gT ⟨tk,rfl⟩ ru)
  refine⟨.ref s.heap.objs.size,_,I2,rfl,⟨s.heap.objs.size,x,fT.1,rfl,rfl,λys hy=>by rw[I.tuple_inj hy hq];exact hx⟩,⟨⟨y,?_⟩,?_⟩,λb hb=>?_⟩
  ·have e2:(((i+1:Nat):Nat):Int)=(i:Int)+1:=by lia
   show IsEnum h2 e it (((i+1:Nat):Nat):Int) y
   rw[e2];exact he2
  ·obtain⟨o,q1,q2⟩:=st1.1
   exact⟨o,(hs2.2 it (Ne.symm hne)).trans q1,q2⟩
  ·have nT:b≠s.heap.objs.size:=by
    rcases aK.mp hb with rfl|hb
    ·exact aN helt
    ·rw[ao.mp hb]
     obtain⟨o,ho,_⟩:=hit
     exact aN (aF ho)
   rw[az nT];exact(hf b hb).1
 done:=by
  intro X hP hw hK hc i pins s σ H E I hf st hg
  subst hP hw hK
  obtain⟨⟨old,he⟩,hit⟩:=st
  obtain⟨xs,hq,hx⟩:=hg
  obtain⟨its,rv,p,hz⟩:=I.tuple hq
  have hl:=rv.length
  have hT:s.TypeIs (.ref e) "enumerate":=⟨_,he,rfl⟩
  unfold pyNext
  refine wpAny_bind (wpAny_attempt (wpAny_callSpecial?_slot (name:=Str.ofString "__next__") hT F.slot_enumerate_next
   (wpAny_call_entry F.slot_enumerate_next hT F.entry_enumerate_next ?_ (F.args_enumerate_next_1 _))))
  show wpAny _ _ (field (.ref e) 2 >>= _) _ _ _
  refine wpAny_bind (wpAny_field he rfl (x:=.ref it) rfl ?_)
  refine wpAny_bind (wj (show X.A.in1.handled=none from I.ok.hd hc) hit (show s.heap.IsTuple a its.toArray from p) (by simp;lia) λh1 x1 eb hx1=>?_)
  obtain⟨o,ho,hcl⟩:=hx1
  refine wpAny_bind (wpAny_isInstance (T:="StopIteration") (b:=true) ⟨o,ho,hcl⟩ isSubtype_stop ?_)
  exact wpAny_pure ⟨rfl,I.turnedL (t':=s.toks) (ch:=[e,it]) (λb ob hb q=>eb b ob (λz=>hb (by simp[z])) q) hf⟩
 self:=λ_ _ _ _ _ st h=>let⟨_,he⟩:=st.1;wpAny_pyIter_enum he h
section
variable{X:Cx}{elts:List Expr}{k:Nat}{tpos:Pos}
def qL(K:Fg)(tl:TA):TI:=λσ H R=>tl σ H λvs H1=>∃a,vs=[.ref a]/\(∃xs,cz K H1 a xs)/\R (yF K a) H1
theorem GN{a:Expr}{ta:TA}{p pos:Pos}(hg:Gl X "enumerate")(hm:X.mg "enumerate"=none)(ha:PA X [a] ta)(hs:starEach [a] X.env=[(false,eval a X.env)]:=by rfl) :
  PI X (.Tuple elts k tpos) (.Call (.Name "enumerate" p) [a] [] pos) (qL X.K ta):=by
 intro pins s σ H R I h
 refine Call_ (iq I hg hm boot_enumerate (br (d4 (ha pos pins s σ H _ I h) λus s1 ⟨vs,H1,I1,r1,q1⟩=>?_) hs rfl))
 obtain⟨l,e,⟨xs,hq⟩,q⟩:=q1
 subst e
 cases r1 with
 |cons r rr=>
  cases rr
  cases r
  obtain⟨its,rv,pl,hz⟩:=I1.tuple hq
  refine Bs (show s1.heap.IsTuple l its.toArray from pl) λh1 he hit hsz hk=>?_
  refine wpAny_pyIter_enum he ?_
  have I2:bw X pins σ H1 {s1 with heap:=h1}:=I1.kept (t':=s1.toks) hk
  refine⟨s1.heap.objs.size+1,[s1.heap.objs.size+1,s1.heap.objs.size],_,_,H1,rfl,I2,CG l _ _ (Nat.succ_ne_self _),⟨⟨.none,he⟩,hit⟩,λb hb=>?_,q⟩
  have hb':s1.heap.objs.size<=b:=by
   rcases aK.mp hb with rfl|hb
   ·lia
   ·rw[ao.mp hb];exact ar _
  exact I1.fpOk hb' (I1.hok.fresh hb')
theorem pZ{a:Expr}{ta:TA}{p pos:Pos}(hg:Gl X "enumerate")(hm:X.mg "enumerate"=none)(ha:QA X [a] ta)(hs:starEach [a] X.env=[(false,eval a X.env)]:=by rfl):QI X (.Tuple elts k tpos) (.Call (.Name "enumerate" p) [a] [] pos) (qL X.K ta):=
 ⟨GN hg hm ha.1 hs⟩
end
theorem mQ{K:Fg}{a:Addr}{xs:List V}{g:TG}{tb:TS}{D:lM}{σ:St}{H:Hp}(Pv:Nat->St->Hp->Prop)(h0:Pv 0 σ H)(hl:∀i σ H,i<=xs.length->Pv i σ H->cz K H a xs)
  (hs:∀i x σ H p,xs[i]?=some x->H p=none->Pv i σ H->g (.ref p) σ (aQ H p (.tup [.int (i:Nat),x])) λσ2 H2=>tb {D with nx:=Pv (i+1),ct:=Pv (i+1),bk:=D.nx} σ2 H2) (hd:∀σ H,Pv xs.length σ H->D.nx σ H) :
  ∃W:Nat->Nat->St->Hp->Prop,(∃m,W 0 m σ H)/\∀i m σ H,W i m σ H->
   ((yF K a).stop i H/\D.nx σ H)\/((yF K a).go i H/\∃N:St->Hp->Prop,(∀σ' H',N σ' H'->∃m',m'<m/\W (i+1) m' σ' H')/\∀x H',(yF K a).yld i H x H'->g x σ H' λσ2 H2=>tb {D with nx:=N,ct:=N,bk:=D.nx} σ2 H2):=by
 refine⟨λi m σ H=>m=xs.length-i/\i<=xs.length/\Pv i σ H,⟨xs.length,by simp,bq _,h0⟩,?_⟩
 rintro i m σ H ⟨rfl,hi,p⟩
 have q:=hl i σ H hi p
 by_cases hlt:i<xs.length
 ·refine .inr ⟨⟨xs,xs[i],q,by simp[hlt]⟩,Pv (i+1),λσ' H' p'=>⟨xs.length-(i+1),by lia,rfl,hlt,p'⟩,λx H' y=>?_⟩
  obtain⟨pp,v,e1,rfl,rfl,y⟩:=y
  exact hs i v σ H pp (y xs q) e1 p
 ·have e:i=xs.length:=by lia
  subst e
  exact .inl ⟨⟨xs,q,ar _⟩,hd σ H p⟩
theorem wH{a:Int}(h:-1<=a):Builtin.Range.rangeSize a (-1) (-1)=a+1:=by
 unfold Builtin.Range.rangeSize
 simp only[show ¬((-1:Int)>0) by decide,if_false]
 split
 ·simp only[Int.neg_neg,Int.ediv_one];omega
 ·omega
theorem Cs{a:Int}(h:-1<=a)(h':a<=100000):Builtin.Range.small a (-1) (-1)=true:=by
 unfold Builtin.Range.small
 rw[wH h]
 simp only[Builtin.Range.rangeFitsLong,Bool.and_eq_true,Bool.or_eq_true,decide_eq_true_eq,beq_iff_eq,show ¬((-1:Int)>0) by decide,if_false]
 omega
def Mh(a:Int)(n:Nat):It:=⟨λi _=>i<n,λi H x H'=>H'=H/\x=.int (a-i),λi _=>n<=i⟩
theorem ET{P:Program}{w:World}{K:Fg}{tg:Expr}(it:Addr)(a:Int)(n:Nat):rT P w K tg (Mh a n) [it] it (λi h=>IsRangeIter h it (a+(i:Nat)*(-1)) ((n:Int)-(i:Nat)) (-1)) where
 mem:=by simp
 obj:=λi h st b hb=>by
  have e:b=it:=by simpa using hb
  subst e
  exact⟨_,st,λv z=>by
   have z':Data.fields _=Data.cell v:=z
   cases z'⟩
 keep:=λi h h' st k=>k it (by simp) _ st
 item:=by
  intro X hP hw hK hc i pins s σ H E I hf st hg
  subst hP hw hK
  obtain⟨f0,f1,f2,f3,f4,f5⟩:=hf it (by simp)
  have W:=Walks.range (prog:=X.prog) (w:=X.w) (I.ok.hd hc) it a (-1) n
  refine W.item i s _ _ hg st λv h' tk hv st' kk=>?_
  obtain⟨t,rfl⟩:=hv
  have I1:bw X pins σ H {s with heap:=h',toks:=tk}:=I.turned (λb o hb e=>kk b o (by simpa using hb) e) f0 f1 f3 f4 f5
  refine⟨_,rfl,v3 (s:={s with heap:=h',toks:=tk}) (n:="range_iterator") st' rfl rfl (by decide) ⟨.int (a-i),H,I1,⟨t,?_⟩,⟨rfl,rfl⟩,st',λb hb=>(hf b hb).1⟩⟩
  rw[show a+(i:Int)*(-1)=a-i by omega]
 done:=by
  intro X hP hw hK hc i pins s σ H E I hf st hg
  subst hP hw hK
  obtain⟨f0,f1,f2,f3,f4,f5⟩:=hf it (by simp)
  exact wpAny_pyNext_range_end (I.ok.hd hc) st (by have:n<=i:=hg;lia) λh' eb=>⟨rfl,I.turned (t':=s.toks) (λb o hb e=>eb b o hb e) f0 f1 f3 f4 f5⟩
 self:=λ_ _ _ _ _ st h=>wpAny_pyIter_rangeiter st h
section
variable{X:Cx}{tg:Expr}
def Kq(ta:TA):TI:=λσ H R=>ta σ H λvs H1=>∃a:Int,vs=[.int a,.int (-1),.int (-1)]/\-1<=a/\a<=100000/\R (Mh a (a+1).toNat) H1
theorem Ex{a b c:Expr}{ta:TA}{p pos:Pos}(hg:Gl X "range")(hm:X.mg "range"=none)(ha:QA X [a,b,c] ta)(hs:starEach [a,b,c] X.env=[(false,eval a X.env),(false,eval b X.env),(false,eval c X.env)]:=by rfl)(hs2:starEach [b,c] X.env=[(false,eval b X.env),(false,eval c X.env)]:=by rfl) :
  QI X tg (.Call (.Name "range" p) [a,b,c] [] pos) (Kq ta):=⟨by
 intro pins s σ H R I h
 refine Call_ (iq I hg hm boot_range (br (d4 (ha.up pos pins s σ H _ I h) λus s1 ⟨vs,H1,I1,r1,q1⟩=>?_) (by rw[hs,hs2]) (by rw[hs2];rfl)))
 obtain⟨i,e,q1,q2,q⟩:=q1
 subst e
 cases r1 with
 |cons r rr=>
  cases rr with
  |cons r' rr=>
   cases rr with
   |cons r'' rr=>
    cases rr
    obtain⟨t,rfl⟩:=r
    obtain⟨u,rfl⟩:=r'
    obtain⟨v,rfl⟩:=r''
    refine call_range_3 (by decide) ?_ (.inl (PyProof.noPylong_small (by decide)))
    refine wpAny_pyIter_range (IsRange.new ..) (Cs q1 q2) ?_
    have I2:bw X pins σ H1 {s1 with heap:=s1.heap.push {cls:=.type "range",data:=.fields #[.int i t,.int (-1) u,.int (-1) v]}}:=I1.kept (t':=s1.toks) λb o e=>ag _ e
    refine⟨_,[_],_,_,H1,rfl,I2.kept (t':=s1.toks) λb o e=>ag _ e,ET _ i (i+1).toNat,?_,λb hb=>?_,q⟩
    ·show IsRangeIter _ _ (i+((0:Nat):Int)*(-1)) ((((i+1).toNat:Nat):Int)-((0:Nat):Int)) (-1)
     rw[show i+((0:Nat):Int)*(-1)=i by omega,show(((i+1).toNat:Nat):Int)-((0:Nat):Int)=Builtin.Range.rangeSize i (-1) (-1) by rw[wH q1];omega]
     exact ax _ rfl
    ·have e:b=(s1.heap.push {cls:=.type "range",data:=.fields #[.int i t,.int (-1) u,.int (-1) v]}).objs.size:=by simpa using hb
     subst e
     exact I2.fpOk (ar _) (I2.hok.fresh (ar _))⟩
theorem F5{a:Int}{n:Nat}{g:TG}{tb:TS}{D:lM}{σ:St}{H:Hp}(Pv:Nat->St->Hp->Prop)(h0:Pv 0 σ H)
  (hs:∀i σ H,i<n->Pv i σ H->g (.int (a-i)) σ H λσ2 H2=>tb {D with nx:=Pv (i+1),ct:=Pv (i+1),bk:=D.nx} σ2 H2) (hd:∀σ H,Pv n σ H->D.nx σ H) :
  ∃W:Nat->Nat->St->Hp->Prop,(∃m,W 0 m σ H)/\∀i m σ H,W i m σ H->
   ((Mh a n).stop i H/\D.nx σ H)\/((Mh a n).go i H/\∃N:St->Hp->Prop,(∀σ' H',N σ' H'->∃m',m'<m/\W (i+1) m' σ' H')/\∀x H',(Mh a n).yld i H x H'->g x σ H' λσ2 H2=>tb {D with nx:=N,ct:=N,bk:=D.nx} σ2 H2):=by
 refine⟨λi m σ H=>m=n-i/\i<=n/\Pv i σ H,⟨n,by simp,bq _,h0⟩,?_⟩
 rintro i m σ H ⟨rfl,hi,hp⟩
 rcases cf i n with lt|ge
 ·refine .inr ⟨lt,Pv (i+1),λσ' H' q=>⟨n-(i+1),by lia,rfl,lt,q⟩,?_⟩
  rintro x H' ⟨rfl,rfl⟩
  exact hs i σ H' lt hp
 ·have:i=n:=Nat.le_antisymm hi ge
  subst this
  exact .inl ⟨ge,hd σ H hp⟩
end
end L2
end
section
namespace Bg
open PySem PySem.Spec PyProof.Rows L2
abbrev yQ:List Str:=["begin","works","last"]
abbrev sR:List Str:=["begin","works","last"]
def uE(K:Fg):TS:=(de (bu (j6 K) [] E0 (ak (av 0) (ak (av 1) (ak (av 2) (ak (bu (gM K) [] E0 (ak (av 0) aO)) aO))))))
abbrev sY:List Str:=["begin"]
abbrev nH:List Str:=["begin"]
def nY(K:Fg):TS:=(de (bO (jo K) (lQ (ak (tC .non) aO)) (eW (fP K) (ak (av 0) aO))))
abbrev xp:List Str:=["begin","works","last","order"]
abbrev jC:List Str:=["begin","works","last","order","points","come","ends","tables","k","starts","belt","to"]
def n0(K:Fg):TS:=(de (qf K (ak (av 7) aO)))
def n6(K:Fg):TS:=(gn (si K "list" dJ (av 7) (ak (bu (jK K) [] E0 (ak (av 9) (ak (bO (e8 K) (av 5) (av 8)) aO))) aO)))
def n8(K:Fg):TS:=(gu (cC (bO ((G5 false)) (av 11) (bO (e8 K) (av 7) (As oZ (tC (.int 1)))))) (bT (nS (bO (e8 K) (av 7) (As oZ (tC (.int 1)))) (av 11)) (xH (av 9) (av 10) Dr)) eE)
def og(K:Fg):TS:=(bx (bT (bu (gm K) [] E0 (ak (av 10) (ak (bO (e8 K) (av 1) (av 8)) (ak (bO (e8 K) (av 4) (bO (dz K) (av 8) (tC (.int 1)))) aO)))) (aR 11)) (n8 K))
def oh(K:Fg):TS:=(bx (pw (iT (tG (bO (e8 K) (av 5) (av 8))) (aR 10) (og K))) (n6 K))
def oi(K:Fg):TS:=(bx (bT uA (aR 9)) (oh K))
def oj(K:Fg):TS:=(bx (iT (Kq (ak (bO (tY) (eW (fP K) (ak (av 1) aO)) (tC (.int 1))) (ak (As oZ (tC (.int 1))) (ak (As oZ (tC (.int 1))) aO)))) (aR 8) (oi K)) (n0 K))
def om(K:Fg):TS:=(bx (bT (gx (ak (bu (jK K) [] E0 (ak (eW (tX K) (ak (dW [10] 0 (iQ K (av 6)) (aR 10) jt (lQ (ak (av 10) (ak (tC (.int 0)) aO)))) aO)) (ak (bO (e8 K) (av 5) (As oZ (tC (.int 1)))) aO))) aO)) (aR 7)) (oj K))
def oo(K:Fg):TS:=(bx (pw (bT (dW [10] 0 (tG (bO (e8 K) (av 5) (As oZ (tC (.int 1))))) (aR 10) (tB (bu (mE K) [] E0 (ak (av 3) (ak (av 10) aO)))) (av 10)) (aR 6))) (om K))
def mJ(K:Fg):TS:=(bx (bT (bu (fj K) [] E0 (ak (av 0) (ak (av 1) (ak (av 4) aO)))) (aR 5)) (oo K))
def rM(K:Fg):TS:=(bx (bT (bu (gN K) [] E0 (ak (av 1) (ak (av 2) aO))) (aR 4)) (mJ K))
abbrev mf:List Str:=["begin","works","points"]
abbrev eI:List Str:=["begin","works","points","come","k","work","names","entered"]
def lR(K:Fg):TS:=(de (av 3))
def g9(K:Fg):TS:=(gn (si K "list" dJ (av 3) (ak (bu (jL K) [] E0 (ak (dW [] 1 (iQ K (av 7)) (aR 8) (tB (bu (kU K) [] E0 (ak (av 8) (ak (av 6) aO)))) (av 8)) aO)) aO)))
def hJ(K:Fg):TS:=(bx (pw (bT (dW [] 1 (tG (bO (e8 K) (av 3) (av 4))) (aR 8) jt (bu (gm K) [] E0 (ak (av 8) (ak (av 5) (ak (av 6) aO))))) (aR 7))) (g9 K))
def hU(K:Fg):TS:=(bx (bT (bO (e8 K) (av 2) (bO (dz K) (av 4) (tC (.int 1)))) (aR 6)) (hJ K))
def hV(K:Fg):TS:=(bx (iT (qL K (ak (av 1) aO)) (qK K 2 (eQ (aR 4) (eQ (aR 5) pT))) (hU K)) (lR K))
def iZ(K:Fg):TS:=(bx (bT (gx (ak (bu (jL K) [] E0 (ak (gx (ak (bu (ja K) [] E0 (ak (av 0) (ak (bO (e8 K) (av 2) (tC (.int 0))) aO))) aO)) aO)) aO)) (aR 3)) (hV K))
abbrev yT:List Str:=["entered"]
abbrev oE:List Str:=["entered","come","waiting","belt"]
def qw(K:Fg):TS:=(de (av 1))
def qx(K:Fg):TS:=(gn (si K "list" x8 (av 2) (ak (nS (av 1) (av 3)) aO)))
def qy(K:Fg):TS:=(gu (cC (bO ((G5 true)) (av 3) (av 1))) (bx (bT (dW [] 1 (iQ K (bu (dG K) [] E0 (ak (av 3) aO))) (aR 4) jt (bu (gj K) [] E0 (ak (av 3) (ak (av 4) aO)))) (xH (av 1) (av 3) Dr)) (qx K)) eE)
def yy(K:Fg):TS:=(bx (bT (L6 K "list" M7 (av 2)) (aR 3)) (qy K))
def qz(K:Fg):TS:=(bx (mF (cC (bO (z9) (eW (fP K) (ak (av 2) aO)) (tC (.int 0)))) (yy K)) (qw K))
def qA(K:Fg):TS:=(bx (bT (eW (x9 K) (ak (av 0) aO)) (aR 2)) (qz K))
def uM(K:Fg):TS:=(bx (bT uA (aR 1)) (qA K))
abbrev mZ:List Str:=["belt"]
abbrev f6:List Str:=["belt","last"]
def iL(K:Fg):TS:=(de (dW [] 2 (qL K (ak (av 0) aO)) (qK K 2 (eQ (aR 2) (eQ (aR 3) pT))) (cC (bO (Dq) (av 3) (tC .non))) (av 2)))
def iM(K:Fg):TS:=(bx (gu (cC (bO (Dq) (bO (e8 K) (av 0) (av 1)) (tC .non))) (de (gx (ak (av 1) aO))) eE) (iL K))
def ju(K:Fg):TS:=(bx (bT (bO (tY) (eW (fP K) (ak (av 0) aO)) (tC (.int 1))) (aR 1)) (iM K))
abbrev D3:List Str:=["belt","place"]
abbrev yN:List Str:=["belt","place"]
def AL(K:Fg):TS:=(de (bu (iB K) [] E0 (ak (av 0) (ak (bO (e8 K) (av 0) (av 1)) aO))))
abbrev yV:List Str:=["belt","work","names"]
abbrev sU:List Str:=["belt","work","names"]
def yz(K:Fg):TS:=(de (bu (ja K) [] E0 (ak (bu (iB K) [] E0 (ak (av 0) (ak (bO (e8 K) (av 1) (tC (.int 1))) aO))) (ak (av 2) aO))))
def uO(K:Fg):TS:=(bx (gu (cC (bO (G7) (bO (e8 K) (av 1) (tC (.int 1))) (tC .non))) (de (bu (ja K) [] E0 (ak (av 0) (ak (av 2) aO)))) eE) (yz K))
abbrev xq:List Str:=["belt","names"]
abbrev ma:List Str:=["belt","names"]
def rN(K:Fg):TS:=(de (eW (G2 K) (ak (dW [] 1 (iQ K (av 1)) (aR 2) jt (bO ((B9 K false)) (av 2) (av 0))) aO)))
abbrev yS:List Str:=["starts","come"]
abbrev sT:List Str:=["starts","come","ahead","waiting","belt","number","found","lot"]
def qk(K:Fg):TS:=(de (av 6))
def ql(K:Fg):TS:=(gn (si K "list" x8 (uB (av 3) (bO (dz K) (av 5) (tC (.int 1))) (gx aO)) (ak (nS (av 2) (av 4)) aO)))
def qm(K:Fg):TS:=(gu (cC (bO ((G5 true)) (av 4) (av 6))) (bx (bT (av 5) (xH (av 6) (av 4) Dr)) (ql K)) eE)
def qo(K:Fg):TS:=(iT (iQ K (av 7)) (aR 4) (qm K))
def qp(K:Fg):TS:=(bx (bT (CA (av 3) (av 5)) (aR 7)) (qo K))
def yx(K:Fg):TS:=(bx (bT (eW G9 (ak (av 3) aO)) (aR 5)) (qp K))
def qr(K:Fg):TS:=(bx (mF (cC (bO (z9) (eW Kx (ak (av 3) aO)) (tC (.int 0)))) (yx K)) (qk K))
def qt(K:Fg):TS:=(bx (bT uA (aR 6)) (qr K))
def qu(K:Fg):TS:=(gn (si K "list" dJ (uB (av 3) (av 5) (gx aO)) (ak (av 4) aO)))
def ou(K:Fg):TS:=(bx (pw (iT (su (av 0)) (qK K 2 (eQ (aR 4) (eQ (aR 5) pT))) (qu K))) (qt K))
def vF(K:Fg):TS:=(bx (bT Cy (aR 3)) (ou K))
def uL(K:Fg):TS:=(bx (bT (bu (ir K) [] E0 (ak (av 1) aO)) (aR 2)) (vF K))
abbrev qI:List Str:=["come"]
abbrev iP:List Str:=["come","ahead","belt","brought","to"]
def jM(K:Fg):TS:=(de (av 1))
def jN(K:Fg):TS:=(gn (si K "list" dJ (nS (av 1) (av 4)) (ak (av 2) aO)))
def jO(K:Fg):TS:=(iT (iQ K (av 3)) (aR 4) (jN K))
def jP(K:Fg):TS:=(bx (pw (iT (su (av 0)) (qK K 2 (eQ (aR 2) (eQ (aR 3) pT))) (jO K))) (jM K))
def ly(K:Fg):TS:=(bx (bT (eW (tX K) (ak (HN (dW [2] 0 (tG (av 0)) (aR 2) jt (lQ (ak (av 2) (ak (gx aO) aO))))) aO)) (aR 1)) (jP K))
abbrev u5:List Str:=["begin","works","last","order"]
abbrev pI:List Str:=["begin","works","last","order","points","tables","belt","told","k","work","done"]
def mK(K:Fg):TS:=(de (bO (kQ K) (eW (dA K) (ak (av 7) aO)) (lQ (ak (eW (dA K) (ak (av 10) aO)) aO))))
def uF(K:Fg):TS:=(bT (bu (gj K) [] E0 (ak (av 6) (ak (bO (e8 K) (av 10) (As oZ (tC (.int 1)))) aO))) (aR 6))
def uG(K:Fg):TS:=(bx (gn (si K "list" dJ (av 10) (ak (bu (fm K) [] E0 (ak (bO (e8 K) (av 5) (As oZ (tC (.int 1)))) (ak (av 6) aO))) aO))) (uF K))
def mL(K:Fg):TS:=(bx (mF (cC (bO (Cb K) (nS (bO (e8 K) (av 5) (As oZ (tC (.int 1)))) (av 6)) (tC (.int 0)))) (uG K)) (mK K))
def mM(K:Fg):TS:=(bx (bT (gx aO) (aR 10)) (mL K))
def mN(K:Fg):TS:=(bT (bu (gm K) [] E0 (ak (av 6) (ak (av 9) (ak (bO (e8 K) (av 4) (bO (kQ K) (av 8) (tC (.int 1)))) aO)))) (aR 6))
def mO(K:Fg):TS:=(bx (gn (si K "list" dJ (av 7) (ak (eW (dA K) (ak (av 10) aO)) aO))) (mN K))
def uH(K:Fg):TS:=(bT (bu (gj K) [] E0 (ak (av 6) (ak (bO (e8 K) (av 10) (As oZ (tC (.int 1)))) aO))) (aR 6))
def uI(K:Fg):TS:=(bx (gn (si K "list" dJ (av 10) (ak (bu (fm K) [] E0 (ak (bO (e8 K) (av 5) (av 8)) (ak (av 6) aO))) aO))) (uH K))
def lz(K:Fg):TS:=(bx (mF (cC (bO (Cb K) (nS (bO (e8 K) (av 5) (av 8)) (av 6)) (Cv (bO (e8 K) (av 5) (bO (kQ K) (av 8) (tC (.int 1)))) (bu (gm K) [] E0 (ak (av 6) (ak (av 9) (ak (bO (e8 K) (av 4) (bO (kQ K) (av 8) (tC (.int 1)))) aO))))))) (uI K)) (mO K))
def lA(K:Fg):TS:=(bx (bT (gx aO) (aR 10)) (lz K))
def lB(K:Fg):TS:=(bx (iT (qL K (ak (av 1) aO)) (qK K 2 (eQ (aR 8) (eQ (aR 9) pT))) (lA K)) (mM K))
def lD(K:Fg):TS:=(bx (bT (gx aO) (aR 7)) (lB K))
def lE(K:Fg):TS:=(bx (bT (bu (ja K) [] E0 (ak (av 0) (ak (bO (e8 K) (av 4) (tC (.int 0))) aO))) (aR 6)) (lD K))
def lG(K:Fg):TS:=(bx (bT (bu (i8 K) [] E0 (ak (av 0) (ak (av 1) (ak (av 2) (ak (av 3) aO))))) (aR 5)) (lE K))
def qi(K:Fg):TS:=(bx (bT (bu (gN K) [] E0 (ak (av 1) (ak (av 2) aO))) (aR 4)) (lG K))
abbrev sZ:List Str:=["table","belt"]
abbrev jW:List Str:=["table","belt"]
def oq(K:Fg):TS:=(de (bO (e8 K) (dW [] 1 (iQ K (bu (dG K) [] E0 (ak (av 1) aO))) (aR 2) (cC (bO (vo K) (nS (av 0) (bu (gj K) [] E0 (ak (av 1) (ak (av 2) aO)))) (bO (tY) (nS (av 0) (av 1)) (tC (.int 1))))) (av 2)) (tC (.int 0))))
end Bg
end
section
namespace Bg
open PySem L2
theorem FN{xs:List V}(h:xs≠[]):m4 xs none (some (-1))=xs.dropLast:=by
 have hl:0<xs.length:=dF.mpr h
 have e:HT.sIx xs.length xs.length (some (-1))=xs.length-1:=by
  show(if(-1:Int)<0 then((-1:Int)+(xs.length:Int)).toNat else min (-1:Int).toNat xs.length)=xs.length-1
  rw[if_pos (by decide)];omega
 unfold m4
 rw[HT.sIx_none,e,jc,Nat.sub_zero,List.dropLast_eq_take]
theorem Ce{K:Fg}{vs:List V}{H:Hp}{Q:VK}{E:XK}(h:mD K vs H Q E):uJ K {nx:=λ_ H'=>Q .non H',rt:=Q} (start sS vs) H:=by
 obtain⟨b,x,xs,rfl,hb,hne,hl,q⟩:=h
 refine⟨_,rfl,(by show 1<=sizeLine;decide),λt ht=>⟨_,rfl,?_⟩⟩
 have hb1:(aQ H t (.tup [x])) b=some (.tup xs):=by rw[az (aJ hb ht)];exact hb
 refine .inr (.inr (.inr ⟨t,b,[x],xs,rfl,rfl,cz.of aj,cz.of hb1,by simp,?_,λz=>absurd z hne,λ_ p hp=>?_⟩))
 ·exact bW (bI (by rw[aM];omega))
 have hb2:(aQ (aQ H t (.tup [x])) p (.tup ([x]++xs))) b=some (.tup xs):=by rw[az (aJ hb1 hp)];exact hb1
 refine⟨_,rfl,_,_,rfl,.inr ⟨xs,cz.of hb2,rfl⟩,_,rfl,.inr ⟨p,_,rfl,cz.of aj,?_,λp2 hp2=>?_⟩⟩
 ·rintro⟨_,z⟩
  rw[HT.sIx_nat] at z
  simp at z
 ·refine q p2 _ ?_ (((aI.refl H).new ht).new hp |>.new hp2)
  rw[aj,pP]
  rfl
theorem Cp(a b:Option Str):HG (oV a) (oV b)=true:=by cases a<;>cases b<;>rfl
theorem gq{α:Type}{xs:List α}{i:Nat}{x:α}(h:xs[i]?=some x):xs.take (i+1)=xs.take i++[x]:=by rw[gB,h];rfl
theorem Mb{α β:Type}{xs:List α}{ys:List β}{i:Nat}{x:α}{y:β}(h:xs[i]?=some x)(h':ys[i]?=some y):(xs.zip ys)[i]?=some (x,y):=by
 rw[dX];exact⟨h,h'⟩
theorem Ci{K:Fg}{vs:List V}{H:Hp}{Q:VK}{E:XK}(h:mE K vs H Q E):uN K {nx:=λ_ H'=>Q .non H',rt:=Q} (start oF vs) H:=by
 obtain⟨a,b,as,bs,rfl,ha,hb,hl,h1000,q⟩:=h
 refine⟨_,rfl,_,rfl,true,true,a,b,rfl,⟨_,cz.of ha⟩,⟨_,cz.of hb⟩,λD hD=>?_⟩
 refine Ed (xs:=cH as) (ys:=cH bs) (by rw[cG,cG];omega) (λi σ' H'=>∃o1 o2,σ'=[some (.ref a),some (.ref b),o1,o2]/\H' D=some (.lst ((((as.zip bs).take i).map KC).map V.bl))/\aI H H') ?_ ?_ ?_ ?_
 ·exact⟨none,none,rfl,by rw[eM];exact aj,(aI.refl H).new hD⟩
 ·rintro i σ' H' _ ⟨o1,o2,_,_,s'⟩
  exact⟨cz.of (s' _ _ ha),cz.of (s' _ _ hb)⟩
 ·rintro i x y σ' H' p hx hy hp ⟨o1,o2,rfl,hD',s'⟩
  obtain⟨ox,ex,rfl⟩:=oS hx
  obtain⟨oy,ey,rfl⟩:=oS hy
  refine⟨p,_,rfl,cz.of aj,rfl,_,_,rfl,_,_,rfl,rfl,fG ?_⟩
  have nD:D≠p:=aJ hD' hp
  have hD2:aQ H' p (.tup [oV ox,oV oy]) D=some (.lst ((((as.zip bs).take i).map KC).map V.bl)):=by rw[az nD];exact hD'
  have li:((((as.zip bs).take i).map KC).map V.bl).length<=1000:=by rw[af,af,aP,kZ];omega
  have HD:H D=none:=by
   cases e:H D with
   |none=>rfl
   |some o=>have:=((aI.refl H).new hD (o:=.lst [])) D o e;rw[aj] at this;rw[hD] at e;cases e
  have app:∀c:Bool,c=KC (ox,oy)->∃ys,aQ H' p (.tup [oV ox,oV oy]) D=some (.lst ys)/\ys.length<sizeLine/\∃o1 o2,[some (V.ref a),some (V.ref b),some (oV ox),some (oV oy)]=[some (.ref a),some (.ref b),o1,o2]/\
    aQ (aQ H' p (.tup [oV ox,oV oy])) D (.lst (ys++[.bl c])) D=some (.lst ((((as.zip bs).take (i+1)).map KC).map V.bl))/\aI H (aQ (aQ H' p (.tup [oV ox,oV oy])) D (.lst (ys++[.bl c]))):=by
   rintro c rfl
   refine⟨_,hD2,bI (by omega),_,_,rfl,?_,?_⟩
   ·rw[aj,gq (Mb ex ey),aB,aB];rfl
   ·intro c o hc
    have n1:c≠D:=aJ hc HD
    rw[az n1]
    exact(s'.new hp) c o hc
  refine⟨_,rfl,rfl,_,rfl,dE (λe=>?_) (λe=>?_)⟩
  ·refine app true ?_
   unfold KC
   rw[decide_eq_true (show(ox,oy).1=none from Gy.mp e),Bool.true_or]
  ·refine⟨_,rfl,_,rfl,.inl ⟨Cp ox oy,app _ ?_⟩⟩
   unfold KC
   rw[decide_eq_false (show ¬(ox,oy).1=none from λz=>e (Gy.mpr z)),Bool.false_or]
   by_cases c:ox=oy
   ·rw[decide_eq_true (show oV ox=oV oy by rw[c]),decide_eq_true (show(ox,oy).1=(ox,oy).2 from c)]
   ·rw[decide_eq_false (show ¬oV ox=oV oy from λz=>c (xX z)),decide_eq_false (show ¬(ox,oy).1=(ox,oy).2 from c)]
 ·rintro σ' H' ⟨o1,o2,_,hD',s'⟩
  have e:(as.zip bs).take (cH as).length=as.zip bs:=dI (by rw[kZ,cG];omega)
  rw[e] at hD'
  exact⟨D,_,rfl,cx.of hD',q _ s'⟩
theorem yd{K:Fg}{vs:List V}{H:Hp}{Q:VK}{E:XK}(h:iB K vs H Q E):qj K {nx:=λ_ H'=>Q .non H',rt:=Q} (start kG vs) H:=by
 obtain⟨a,os,x,rfl,ha,hne,hl,q⟩:=h
 refine .inr ⟨_,rfl,a,rfl,⟨_,cz.of ha⟩,λD hD=>?_⟩
 refine jh (xs:=cH os) (λi σ' H'=>∃o1,σ'=[some (.ref a),some (.str x),o1]/\H' D=some (.lst (cH ((os.take i).map (blank x))))/\aI H H') ?_ ?_ ?_ ?_
 ·exact⟨none,rfl,by rw[eM];exact aj,(aI.refl H).new hD⟩
 ·rintro i σ' H' _ ⟨o1,_,_,s'⟩
  exact cz.of (s' _ _ ha)
 ·rintro i y σ' H' hy ⟨o1,rfl,hD',s'⟩
  obtain⟨oy,ey,rfl⟩:=oS hy
  have li:(cH ((os.take i).map (blank x))).length<=1000:=by rw[cG,af,aP];omega
  have app:∀c:V,c=oV (blank x oy)->∃ys,H' D=some (.lst ys)/\ys.length<sizeLine/\∃o1,[some (V.ref a),some (V.str x),some (oV oy)]=[some (.ref a),some (.str x),o1]/\
    aQ H' D (.lst (ys++[c])) D=some (.lst (cH ((os.take (i+1)).map (blank x))))/\aI H (aQ H' D (.lst (ys++[c]))):=by
   rintro c rfl
   refine⟨_,hD',bI (by omega),_,rfl,?_,λb o hb=>?_⟩
   ·rw[aj,gq ey,aB];unfold cH;rw[aB];rfl
   ·rw[az (aJ hb hD)];exact s' b o hb
  refine fG ⟨_,rfl,_,rfl,.inl ⟨Cp oy (some x),_,rfl,dE (λe=>?_) (λe=>?_)⟩⟩
  ·refine app _ ?_
   unfold blank
   rw[if_pos (show oy=some x from xX (b:=some x) e)]
   rfl
  ·refine⟨_,rfl,app _ ?_⟩
   unfold blank
   rw[if_neg (show ¬oy=some x from λz=>e (by rw[z];rfl))]
 ·rintro σ' H' ⟨o1,_,hD',s'⟩
  rw[cG,a8] at hD'
  refine⟨D,_,rfl,.inl ⟨cx.of hD',λP nP=>⟨_,rfl,P,.str x,_,rfl,aj,?_,?_,λp H2 h2 s2=>q p H2 ?_ ((s'.new nP).trans s2)⟩⟩⟩
  ·intro z
   have:=congrArg jy z
   rw[cG,af] at this
   exact hne (aV.mp this)
  ·rw[cG,af];exact hl
  ·rw[h2]
   have e:=LM (os.map (blank x)) (some x)
   show some (HO.tup (Dp (cH (os.map (blank x))) (oV (some x))))=_
   rw[e];rfl
theorem Hm{K:Fg}{vs:List V}{H:Hp}{Q:VK}{E:XK}(h:ja K vs H Q E):AM K {nx:=λ_ H'=>Q .non H',rt:=Q} (start yO vs) H:=by
 obtain⟨b,n,os,ns,rfl,hb,hn,ol,q⟩:=h
 refine⟨(by show 0<=sizeLine;decide),λT nT=>?_⟩
 have hb1:aQ H T (.lst []) b=some (.tup (cH os)):=by rw[az (aJ hb nT)];exact hb
 show uK K _ [some (.ref b),some (.ref n),some (.ref T),none] (aQ H T (.lst []))
 refine .inr ⟨_,rfl,b,rfl,⟨_,cz.of hb1⟩,?_⟩
 refine mR (xs:=cH os) (λi σ' H'=>∃o,σ'=[some (.ref b),some (.ref n),some (.ref T),o]/\H' T=some (.lst (cH ((os.take i).foldl (df ns) [])))/\aI H H') ?_ ?_ ?_ ?_
 ·exact⟨none,rfl,by rw[eM];exact aj,(aI.refl H).new nT⟩
 ·rintro i σ' H' _ ⟨o,_,_,s'⟩
  exact cz.of (s' _ _ hb)
 ·rintro i x σ' H' hx ⟨o,rfl,hT,s'⟩
  obtain⟨ox,ex,rfl⟩:=oS hx
  have hn':=s' _ _ hn
  have li:(cH ((os.take i).foldl (df ns) [])).length<=1000:=by rw[cG,mB,aP];simp;omega
  have app:∀w:V,w=oV (if ox∈ns.map some/\ox∉(os.take i).foldl (df ns) [] then ox else none)->dJ (.ref T) [w] H' λ_ H1=>∃o,[some (V.ref b),some (V.ref n),some (V.ref T),some (oV ox)]=[some (.ref b),some (.ref n),some (.ref T),o]/\H1 T=some (.lst (cH ((os.take (i+1)).foldl (df ns) [])))/\aI H H1:=by
   rintro w rfl
   refine⟨T,_,_,rfl,rfl,hT,bI (by omega),_,rfl,?_,λc oc hc=>?_⟩
   ·rw[aj,gq ex,gy]
    show some (HO.lst _)=some (HO.lst (cH (df ns ((os.take i).foldl (df ns) []) ox)))
    unfold df cH
    rw[aB]
    rfl
   ·rw[az (aJ hc nT)];exact s' c oc hc
  refine⟨_,rfl,.inl ⟨rfl,_,cx.of hT⟩,_,rfl,_,rfl,n,_,rfl,.inr (cz.of hn'),xW _,vX _,_,rfl,?_⟩
  show if xM (oV ox) (ns.map V.str)=true then _ else _
  rw[yv,C9]
  refine dE (λm=>⟨_,rfl,_,rfl,T,_,rfl,.inl (cx.of hT),xW _,mq _,_,rfl,?_⟩) (λm=>gR (app _ ?_))
  ·show if(!xM (oV ox) (cH _))=true then _ else _
   rw[C9]
   refine oP (λm2=>⟨_,rfl,app _ ?_⟩) (λm2=>app _ ?_)
   ·rw[if_pos ⟨m,m2⟩]
   ·rw[if_neg λz=>z.2 m2];rfl
  ·rw[if_neg λz=>m z.1];rfl
 ·rintro σ' H' ⟨o,rfl,hT,s'⟩
  rw[cG,a8] at hT
  exact⟨_,rfl,T,_,rfl,.inl ⟨cx.of hT,λP nP=>q P _ aj (s'.new nP)⟩⟩
end Bg
end
section
namespace Bg
open PySem PySem.Spec PyProof.Rows L2
end Bg
end
section
namespace Bg
open PySem L2
theorem dD{H H1:Hp}{a:Addr}{o:HO}(s:aI H H1)(h:H a=none):aI H (aQ H1 a o):=λb u e=>by
 rw[az (aJ e h)];exact s b u e
theorem Bw{js:List Nat}{k:Nat}{K:Fg}{a:Addr}{xs:List V}{g:TG}{tc:TT}{te:TE}{R:Hp->Prop}{σ:St}{H:Hp}{D:Addr}(Pv:Nat->St->Hp->Prop)(h0:Pv 0 (vf js k σ) (aQ H D (.lst [])))(hl:∀i σ H,i<=xs.length->Pv i σ H->cz K H a xs)
  (hs:∀i x σ H p,xs[i]?=some x->H p=none->Pv i σ H->g (.ref p) σ (aQ H p (.tup [.int (i:Nat),x])) λσ2 H2=>jw D tc te {nx:=Pv (i+1),rt:=λ_ _=>False,ct:=Pv (i+1),bk:=λ_ H'=>R H'} σ2 H2) (hd:∀σ H,Pv xs.length σ H->R H) :
  ∃W:Nat->Nat->St->Hp->Prop,(∃m,W 0 m (vf js k σ) (aQ H D (.lst [])))/\∀i m σ H,W i m σ H->
   ((yF K a).stop i H/\R H)\/((yF K a).go i H/\∃N:St->Hp->Prop,(∀σ' H',N σ' H'->∃m',m'<m/\W (i+1) m' σ' H')/\∀x H',(yF K a).yld i H x H'->g x σ H' λσ2 H2=>jw D tc te {nx:=N,rt:=λ_ _=>False,ct:=N,bk:=λ_ H'=>R H'} σ2 H2):=
 mQ (D:={nx:=λ_ H'=>R H',rt:=λ_ _=>False}) Pv h0 hl hs hd
theorem Ar{ys:List Str}{i:Nat}{x:V}(h:(ys.map V.str)[i]?=some x):∃y,ys[i]?=some y/\x=.str y:=by
 rw[aG] at h
 cases e:ys[i]? with
 |none=>rw[e] at h;cases h
 |some y=>rw[e] at h;exact⟨y,rfl,(Option.some.inj h).symm⟩
theorem xY(o:Option Str):i7 o=oV o:=by cases o<;>rfl
theorem Gh(y:Str)(b:Bt):xM (.str y) (cH b)=decide (some y∈b):=by
 rw[Bool.eq_iff_iff,decide_eq_true_eq]
 unfold xM
 rw[fB]
 constructor
 ·rintro⟨v,hv,e⟩
  obtain⟨o,ho,rfl⟩:=aC.mp hv
  have:=C4 o (some y)
  rw[show zk (oV o) (V.str y)=zk (oV o) (oV (some y)) from rfl,this,decide_eq_true_eq] at e
  rw[<-e];exact ho
 ·intro h
  refine⟨oV (some y),aC.mpr ⟨_,h,rfl⟩,?_⟩
  show zk (oV (some y)) (oV (some y))=true
  rw[C4];exact decide_eq_true rfl
theorem tQ{b:Bt}{x:Str}(h:b[b.length-1]?=some (some x)):mT b=[b.length-1]:=by
 unfold mT
 rw[fI,h]
theorem GP{b:Bt}(h:b[b.length-1]?=some none):mT b=(cc b.length).filter λi=>((b[i]?).getD none).isSome:=by
 unfold mT
 rw[fI,h]
theorem iI{b:Bt}{i:Nat}(h:i∈mT b):∃x,b[i]?=some (some x):=by
 unfold mT at h
 split at h
 ·rename_i x e
  rw[fI] at e
  rw[ao.mp h];exact⟨x,e⟩
 ·obtain⟨_,h⟩:=bh.mp h
  cases e:b[i]? with
  |none=>rw[e] at h;cases h
  |some o=>
   cases o with
   |none=>rw[e] at h;cases h
   |some x=>exact⟨x,rfl⟩
theorem oR{b:Bt}{i:Nat}{x:Str}(h:b[i]?=some (some x)):lb b i=jv b x:=by unfold lb;rw[h];rfl
theorem Dj(o:Option Str):decide (oV o=.non)=!o.isSome:=by cases o<;>rfl
theorem pe{K:Fg}{vs:List V}{H:Hp}{Q:VK}{E:XK}(h:dG K vs H Q E):ju K {nx:=λ_ H'=>Q .non H',rt:=Q} (start f6 vs) H:=by
 obtain⟨p,b,rfl,hp,ne,l5,q⟩:=h
 have pos:0<b.length:=dF.mpr ne
 refine⟨_,rfl,_,_,rfl,.inr ⟨_,cz.of hp,rfl⟩,_,_,rfl,rfl,?_⟩
 rw[cG]
 show iM K _ [some (.ref p),some (.int ((b.length:Int)-1))] H
 have hl:b[b.length-1]?=some b[b.length-1]:=aa (by lia)
 generalize b[b.length-1]'(by lia)=o at hl
 refine⟨_,rfl,_,rfl,yD hp (by lia) (by rw[show((b.length:Int)-1).toNat=b.length-1 by lia];exact pX hl) ⟨rfl,_,rfl,?_⟩⟩
 rw[Dj,Bool.not_not]
 cases o with
 |some x=>
  refine rY ⟨_,rfl,(by show 1<=sizeLine;decide),λl nl=>q l _ nl ?_ ((aI.refl H).new nl)⟩
  rw[aj,tQ hl]
  show some (HO.lst [.int ((b.length:Int)-1)])=some (.lst [.int ((b.length-1:Nat):Int)])
  rw[show((b.length-1:Nat):Int)=(b.length:Int)-1 by lia]
 |none=>
  refine gR ?_
  show iL K _ [some (.ref p),some (.int ((b.length:Int)-1))] H
  refine⟨_,rfl,p,rfl,⟨_,cz.of hp⟩,λD nD=>?_⟩
  refine Bw (xs:=cH b) (λi σ' H'=>∃o2 o3,σ'=[some (.ref p),some (.int ((b.length:Int)-1)),o2,o3]/\H' D=some (.lst (((cc i).filter λi=>((b[i]?).getD none).isSome).map λi=>V.int (i:Nat)))/\aI H H') ?_ ?_ ?_ ?_
  ·exact⟨none,none,rfl,aj,(aI.refl H).new nD⟩
  ·rintro i σ' H' _ ⟨_,_,_,_,s⟩;exact cz.of (s _ _ hp)
  ·rintro i v σ' H1 t hv nt ⟨o2,o3,rfl,hD,s⟩
   obtain⟨o,ho,rfl⟩:=oS hv
   have il:i<b.length:=(ae.mp ho).1
   refine⟨t,_,rfl,cz.of aj,rfl,_,_,rfl,_,_,rfl,rfl,?_⟩
   have s1:aI H1 (aQ H1 t (.tup [.int (i:Nat),oV o])):=(aI.refl H1).new nt
   show jw D _ _ _ [some (.ref p),some (.int ((b.length:Int)-1)),some (.int (i:Nat)),some (oV o)] _
   generalize aQ H1 t (.tup [.int (i:Nat),oV o])=H2 at s1 ⊢
   have fl:(cc (i+1)).filter (λi=>((b[i]?).getD none).isSome)=(cc i).filter (λi=>((b[i]?).getD none).isSome)++if o.isSome then[i] else[]:=by
    rw[fU,eR,cV,ho]
    rfl
   refine⟨_,rfl,rfl,_,rfl,?_⟩
   rw[Dj,Bool.not_not]
   cases o with
   |none=>
    refine gR ⟨_,_,rfl,?_,s.trans s1⟩
    rw[fl];simpa using s1 _ _ hD
   |some x=>
    refine rY ⟨_,rfl,_,s1 _ _ hD,bI ?_,_,_,rfl,?_,dD (s.trans s1) nD⟩
    ·rw[af]
     have:=bt (λi=>((b[i]?).getD none).isSome) (cc i)
     rw[dB] at this
     lia
    ·rw[aj,fl,aB];rfl
  ·rintro σ' H1 ⟨_,_,_,hD,s⟩
   rw[cG,<-GP hl] at hD
   exact q D H1 nD hD s
theorem Hk{K:Fg}{vs:List V}{H:Hp}{Q:VK}{E:XK}(h:gj K vs H Q E):AL K {nx:=λ_ H'=>Q .non H',rt:=Q} (start yN vs) H:=by
 obtain⟨p,b,i,rfl,hp,l5,hi,q⟩:=h
 obtain⟨x,hx⟩:=iI hi
 refine⟨_,rfl,_,rfl,_,rfl,yD hp (b9 _) (by rw[aY];exact pX hx) ⟨p,b,x,rfl,hp,(λz=>by rw[z] at hx;cases hx),by lia,λr H' hr s=>q r H' (by rw[oR hx];exact hr) s⟩⟩
theorem Cj{K:Fg}{vs:List V}{H:Hp}{Q:VK}{E:XK}(h:gm K vs H Q E):uO K {nx:=λ_ H'=>Q .non H',rt:=Q} (start sU vs) H:=by
 obtain⟨p,n,v,b,w,ss,rfl,hp,⟨wp,wt,rfl,hw,_⟩,hn,ne,l5,q⟩:=h
 refine⟨_,rfl,yD hw (by decide) (v:=i7 w.out) rfl ⟨rfl,_,rfl,?_⟩⟩
 rw[xY,Dj]
 cases ho:w.out with
 |none=>
  refine rY ⟨_,rfl,_,rfl,p,n,b,ss,rfl,hp,hn,by lia,λr H' hr s=>q r H' ?_ s⟩
  unfold kC;rw[ho];exact hr
 |some y=>
  refine gR ⟨_,rfl,_,rfl,yD hw (by decide) (v:=i7 w.out) rfl ?_⟩
  rw[ho]
  refine⟨p,b,y,rfl,hp,ne,by lia,λr H1 hr s1=>⟨_,rfl,r,n,jv b y,ss,rfl,hr,s1 _ _ hn,?_,λr2 H2 hr2 s2=>q r2 H2 ?_ (s1.trans s2)⟩⟩
  ·unfold jv pY;rw[aP,bD,af];lia
  ·unfold kC;rw[ho];exact hr2
theorem Ad{K:Fg}{vs:List V}{H:Hp}{Q:VK}{E:XK}(h:kU K vs H Q E):rN K {nx:=λ_ H'=>Q .non H',rt:=Q} (start ma vs) H:=by
 obtain⟨p,n,b,ss,rfl,hp,hn,few,l5,q⟩:=h
 refine .inr ⟨_,rfl,n,rfl,⟨_,cz.of hn⟩,λD nD=>?_⟩
 refine jh (xs:=ss.map V.str) (λi σ' H'=>∃o,σ'=[some (.ref p),some (.ref n),o]/\H' D=some (.lst (((ss.take i).map λy=>decide (some y∈b)).map V.bl))/\aI H H') ?_ ?_ ?_ ?_
 ·exact⟨none,rfl,aj,(aI.refl H).new nD⟩
 ·rintro i σ' H' _ ⟨_,_,_,s⟩;exact cz.of (s _ _ hn)
 ·rintro i v σ' H1 hv ⟨o,rfl,hD,s⟩
  obtain⟨y,hy,rfl⟩:=Ar hv
  have il:i<ss.length:=(ae.mp hy).1
  refine fG ⟨_,rfl,_,rfl,p,_,rfl,.inr (cz.of (s _ _ hp)),rfl,mq b,?_⟩
  rw[show(if false=true then !xM (V.str y) (cH b) else xM (V.str y) (cH b))=decide (some y∈b) from Gh y b]
  refine⟨_,hD,bI (by rw[af,af,aP];lia),_,rfl,?_,dD s nD⟩
  rw[aj,gB,hy,aB,aB];rfl
 ·rintro σ' H1 ⟨o,_,hD,s⟩
  rw[af,a8] at hD
  refine⟨D,_,rfl,cx.of hD,?_⟩
  have e:(ss.map λy=>decide (some y∈b)).all id=pU b ss:=by unfold pU;rw[List.all_map];rfl
  rw[e];exact q H1 s
theorem vt{K:Fg}{vs:List V}{H:Hp}{Q:VK}{E:XK}(h:gM K vs H Q E):nY K {nx:=λ_ H'=>Q .non H',rt:=Q} (start nH vs) H:=by
 obtain⟨p,b,rfl,hp,ne,l5,q⟩:=h
 have rep:∀k,(aU k [V.non]).flatten=cH (aU k none):=λk=>by
  unfold cH
  induction k with
  |zero=>rfl
  |succ k ih=>rw[cJ,d7,ih,cJ];rfl
 refine⟨(by show 1<=sizeLine;decide),λt nt=>⟨_,rfl,_,_,rfl,.inr ⟨_,cz.of ((aI.refl H).new nt _ _ hp),rfl⟩,.inr ⟨t,b.length,[V.non],rfl,by rw[cG],cz.of aj,(by simp),?_,λe=>?_,λ_ r nr=>?_⟩⟩⟩
 ·rw[aM];exact bW (bI (by lia))
 ·refine q t _ ?_ ((aI.refl H).new nt)
  rw[aj,e];rfl
 ·refine q r _ ?_ (((aI.refl H).new nt).new nr)
  rw[aj,rep]
def D9(ss:List Str):Nat->List Bt
 |0=>[[]]
 |n+1=>((none::ss.map some).map λo=>(D9 ss n).map (o::·)).flatten
theorem yZ(ss:List Str):∀n,(D9 ss n).length=(ss.length+1) ^ n
 |0=>rfl
 |n+1=>by
  have h:∀(os:List (Option Str)),((os.map λo=>(D9 ss n).map (o::·)).flatten).length=os.length*(ss.length+1) ^ n:=λos=>by
   induction os with
   |nil=>simp
   |cons o r ih=>rw[bA,d7,ai,ih,af,yZ ss n,bD,Nat.add_mul,Nat.one_mul,Nat.add_comm]
  show(((none::ss.map some).map λo=>(D9 ss n).map (o::·)).flatten).length=_
  rw[h,bD,af,Nat.pow_succ,pB]
theorem y0{ss:List Str}:∀{n:Nat} {b:Bt},mX n ss b->b∈D9 ss n
 |0,b,h=>by
  have:b=[]:=aV.mp h.len
  rw[this];exact ao.mpr rfl
 |n+1,[],h=>absurd h.len (by simp)
 |n+1,o::r,h=>by
  refine j7.mpr ⟨_,aC.mpr ⟨o,?_,rfl⟩,aC.mpr ⟨r,y0 ⟨by have:=h.len;simpa using this,λx hx=>h.mem x (a9 _ hx)⟩,rfl⟩⟩
  cases o with
  |none=>exact bf
  |some x=>exact a9 _ (aC.mpr ⟨x,h.mem x bf,rfl⟩)
theorem vW{n:Nat}{ss:List Str}{ks:List Bt}(d:Ir n ss)(nd:ks.Nodup)(h:∀b∈ks,mX n ss b):ks.length<=7776:=by
 have h1:=jX (zs:=D9 ss n) nd λb hb=>y0 (h b hb)
 rw[yZ] at h1
 have h2:(ss.length+1) ^ n<=6 ^ n:=Nat.pow_le_pow_left (by have:=d.s5;lia) n
 have h3:(6:Nat) ^ n<=6 ^ 5:=Nat.pow_le_pow_right (by decide) d.n5
 have:(6:Nat) ^ 5=7776:=by decide
 lia
theorem iG(b:Bt)(x:Str):(jv b x).length=b.length:=by unfold jv pY;rw[aP,bD,af];lia
theorem Dh(b:Bt)(i:Nat):(lb b i).length=b.length:=by
 unfold lb
 split
 ·exact iG _ _
 ·rfl
theorem FH{b:Bt}{x y:Str}(h:some y∈jv b x):y=x\/some y∈b:=by
 unfold jv pY at h
 rcases aK.mp (iE h) with e|h
 ·exact .inl (Option.some.inj e)
 ·obtain⟨o,ho,e⟩:=aC.mp h
  right
  unfold blank at e
  split at e
  ·cases e
  ·rw[<-e];exact ho
theorem mX.kt{n:Nat}{ss:List Str}{b:Bt}(h:mX n ss b){i:Nat}(hi:i∈mT b):mX n ss (lb b i):=by
 obtain⟨x,hx⟩:=iI hi
 refine⟨(Dh b i).trans h.len,λy hy=>?_⟩
 rw[oR hx] at hy
 rcases FH hy with rfl|hy
 ·exact h.mem _ (aA hx)
 ·exact h.mem y hy
theorem mX.kts{n:Nat}{ss:List Str}{b c:Bt}(h:mX n ss b)(hc:c∈kts b):mX n ss c:=by
 obtain⟨i,hi,rfl⟩:=aC.mp hc
 exact h.kt hi
theorem Do(b:Bt):(mT b).length<=b.length+1:=by
 unfold mT
 split
 ·show 1<=_;lia
 ·have:=bt (λi=>((b[i]?).getD none).isSome) (cc b.length)
  rw[dB] at this
  lia
theorem zV{b:Bt}(h:b≠[]):(mT b).length<=b.length:=by
 have pos:0<b.length:=dF.mpr h
 unfold mT
 split
 ·show 1<=_;lia
 ·have:=bt (λi=>((b[i]?).getD none).isSome) (cc b.length)
  rw[dB] at this
  exact this
def cI(t:List (Bt×Nat)):List (List bY×V):=t.map λp=>(cq p.1,V.int (p.2:Nat))
theorem fq{t:List (Bt×Nat)}(nd:(t.map (·.1)).Nodup){b:Bt}{m:Nat}(h:(b,m)∈t):cY (cI t) (cq b)=some (.int (m:Nat)):=by
 induction t with
 |nil=>cases h
 |cons p r ih=>
  rw[bA,bU] at nd
  unfold cY cI
  rw[bA,cP]
  by_cases e:p.1=b
  ·have:decide (cq p.1=cq b)=true:=decide_eq_true (by rw[e])
   dsimp only
   rw[this]
   rcases aK.mp h with h|h
   ·rw[<-h];rfl
   ·exact absurd (aC.mpr ⟨_,h,rfl⟩) (by rw[<-e];exact nd.1)
  ·have:decide (cq p.1=cq b)=false:=decide_eq_false λz=>e (kg z)
   dsimp only
   rw[this]
   rcases aK.mp h with h|h
   ·exact absurd (by rw[<-h]) e
   ·exact ih nd.2 h
theorem qB{t:List (Bt×Nat)}{b:Bt}(h:∀m,(b,m)∉t):cY (cI t) (cq b)=none:=by
 induction t with
 |nil=>rfl
 |cons p r ih=>
  unfold cY cI
  rw[bA,cP]
  have e:p.1≠b:=λz=>h p.2 (by rw[<-z];exact bf)
  have:decide (cq p.1=cq b)=false:=decide_eq_false λz=>e (kg z)
  dsimp only
  rw[this]
  exact ih λm z=>h m (a9 _ z)
theorem qC{t:List (Bt×Nat)}(nd:(t.map (·.1)).Nodup){b:Bt}{m k:Nat}(h:(b,m)∈t)(h':(b,k)∈t):m=k:=by
 have:=(fq nd h).symm.trans (fq nd h')
 injection this with this
 injection this with this
 lia
theorem nJ{H:Hp}{D p:Addr}{kvs:List (List bY×V)}{b:Bt}{o:Option V}(hD:H D=some (.dT kvs))(hp:H p=some (.tup (cH b)))(e:cY kvs (cq b)=o):qG H D (.ref p) o:=by
 rw[<-e]
 exact qG.t hD (by rw[eh];exact hp)
theorem AX:∀(b:Bt),AW (aU b.length none) b=true
 |[]=>rfl
 |o::r=>by
  have h:=AX r
  unfold AW at h ⊢
  rw[bD,cJ,List.zip_cons_cons,bA,nh,h,Bool.and_true]
  rfl
theorem ie.lead{ks:List Bt}{t0 t:List (Bt×Nat)}(sp:ie ks t0 t)(cl:∀b∈ks,∀c∈kts b,c∈ks):∀{ps:List Nat} {b:Bt} {m:Nat},b∈ks->eL b ps->(jZ b ps,m)∈t->∃m',m'<=m+ps.length/\(b,m')∈t
 |[],b,m,_,_,h=>⟨m,ar _,h⟩
 |p::r,b,m,hb,ok,h=>by
  have hk:lb b p∈kts b:=aC.mpr ⟨p,ok.1,rfl⟩
  obtain⟨m1,l1,h1⟩:=ie.lead sp cl (ps:=r) (b:=lb b p) (cl b hb _ hk) ok.2 h
  obtain⟨m2,l2,h2⟩:=sp.s2 b hb _ hk m1 h1
  exact⟨m2,by rw[bD];lia,h2⟩
theorem ie.start{ks:List Bt}{t0 t:List (Bt×Nat)}(sp:ie ks t0 t)(cl:∀b∈ks,∀c∈kts b,c∈ks){ps:List Nat}{b:Bt}{m:Nat}(hb:b∈ks)(ok:eL b ps)(h:(jZ b ps,m)∈t0):∃m',m'<=m+ps.length/\(b,m')∈t:=by
 obtain⟨m1,l1,h1⟩:=sp.s1 _ _ h
 obtain⟨m2,l2,h2⟩:=sp.lead cl hb ok h1
 exact⟨m2,by lia,h2⟩
def Uq(b:Bt):Prop:=∀(i j:Nat) x,b[i]?=some (some x)->b[j]?=some (some x)->i=j
theorem rot{l:Bt}{y:Str}(u:Uq (l++[some y])):mT (l++[some y])=[l.length]/\lb (l++[some y]) l.length=some y::l:=by
 have e:(l++[some y])[l.length]?=some (some y):=by rw[aq (ar _),bo];rfl
 have ln:(l++[some y]).length=l.length+1:=by rw[ai];rfl
 refine⟨?_,?_⟩
 ·rw[tQ (x:=y) (by rw[ln,cT];exact e),ln,cT]
 ·rw[oR e]
  have hl:l.map (Bg.blank y)=l:=by
   conv=>rhs;rw[<-List.map_id l]
   refine c8 λo ho=>?_
   obtain⟨i,hi,eo⟩:=aS.mp ho
   have ne:o≠some y:=λz=>by
    have h1:(l++[some y])[i]?=some (some y):=by rw[au hi,aa hi,eo,z]
    have:=u i l.length y h1 e
    lia
   unfold Bg.blank
   rw[if_neg ne];rfl
  unfold jv pY
  rw[aB,hl]
  show(some y::(l++[Bg.blank y (some y)])).take _=_
  rw[ai,show(List.map (Bg.blank y) [some y]).length=1 from rfl,List.take_succ_cons,List.take_append_of_le_length (ar _),a8]
theorem Uq.rot{l:Bt}{o:Option Str}(u:Uq (l++[o])):Uq (o::l):=by
 have key:∀(i:Nat) x,(o::l)[i]?=some (some x)->∃i',(l++[o])[i']?=some (some x)/\(i=0->i'=l.length)/\(∀k,i=k+1->i'=k):=λi x h=>by
  cases i with
  |zero=>
   refine⟨l.length,?_,(λ_=>rfl),(λk z=>by cases z)⟩
   rw[aq (ar _),bo]
   simpa using h
  |succ k=>
   have h:l[k]?=some (some x):=by simpa using h
   refine⟨k,?_,(λz=>by cases z),(λk' z=>by injection z)⟩
   rw[au (ae.mp h).1];exact h
 intro i j x h1 h2
 obtain⟨i',a1,a2,a3⟩:=key i x h1
 obtain⟨j',b1,b2,b3⟩:=key j x h2
 have e:=u i' j' x a1 b1
 have lt:∀{k:Nat},(o::l)[k+1]?=some (some x)->k<l.length:=λh=>(ae.mp (by simpa using h)).1
 cases i with
 |zero=>cases j with
  |zero=>rfl
  |succ j=>have:=a2 rfl;have:=b3 j rfl;have:=lt h2;lia
 |succ i=>cases j with
  |zero=>have:=b2 rfl;have:=a3 i rfl;have:=lt h1;lia
  |succ j=>have:=a3 i rfl;have:=b3 j rfl;lia
theorem ym{b:Bt}{ss:List Str}{i:Nat}{x:Str}(h:(bR b ss)[i]?=some (some x)):b[i]?=some (some x)/\pG b i/\x∈ss:=by
 have hi:i<b.length:=by have:=(ae.mp h).1;rwa [eD] at this
 obtain⟨w,hw,pk⟩:=sD (ns:=ss) (aa hi)
 rw[h] at hw
 have hw:some x=w:=Option.some.inj hw
 by_cases c:b[i]∈ss.map some/\pG b i
 ·have e:=pk.1 c
  rw[<-hw] at e
  obtain⟨y,hy,ey⟩:=aC.mp c.1
  refine⟨by rw[aa hi,e],c.2,?_⟩
  rw[<-e] at ey
  rw[<-Option.some.inj ey];exact hy
 ·have e:=pk.2 c
  rw[<-hw] at e;cases e
theorem Kd(b:Bt)(ss:List Str):Uq (bR b ss):=λi j x h1 h2=>by
 obtain⟨a1,a2,_⟩:=ym h1
 obtain⟨b1,b2,_⟩:=ym h2
 rcases Nat.lt_trichotomy i j with lt|eq|lt
 ·exact absurd (a1.trans b1.symm) (b2 i lt)
 ·exact eq
 ·exact absurd (b1.trans a1.symm) (a2 j lt)
theorem F4{b:Bt}{o:Option Str}:∀{i:Nat},b[i]?=some o->∃k,b[k]?=some o/\pG b k:=by
 intro i
 induction i using Nat.strongRecOn with
 |ind i ih=>
  intro h
  by_cases c:pG b i
  ·exact⟨i,h,c⟩
  ·have:∃j,j<i/\b[j]?=b[i]?:=by
    apply Classical.byContradiction
    intro z
    exact c λj hj e=>z ⟨j,hj,e⟩
   obtain⟨j,hj,e⟩:=this
   exact ih j hj (e.trans h)
theorem um{b:Bt}{ss:List Str}{x:Str}(hx:x∈ss)(h:some x∈b):some x∈bR b ss:=by
 obtain⟨i,hi,e⟩:=aS.mp h
 obtain⟨k,hk,fk⟩:=F4 (i:=i) (by rw[aa hi,e])
 obtain⟨w,hw,pk⟩:=sD (ns:=ss) hk
 rw[pk.1 ⟨aC.mpr ⟨x,hx,rfl⟩,fk⟩] at hw
 exact aA hw
theorem Br{a b:Bt}(hl:a.length=b.length)(h:∀(i:Nat) x,a[i]?=some (some x)↔b[i]?=some (some x)):a=b:=by
 refine List.ext_getElem hl λi h1 h2=>?_
 have e1:a[i]?=some a[i]:=aa h1
 have e2:b[i]?=some b[i]:=aa h2
 cases ea:a[i] with
 |some x=>
  rw[ea] at e1
  have:=(h i x).mp e1
  rw[e2] at this
  exact(Option.some.inj this).symm
 |none=>
  cases eb:b[i] with
  |none=>rfl
  |some x=>
   rw[eb] at e2
   have:=(h i x).mpr e2
   rw[e1,ea] at this
   cases this
theorem Eb{b:Bt}(x:Str)(h:b≠[]):(jv b x)[0]?=some (some x):=by
 cases b with
 |nil=>exact absurd rfl h
 |cons o r=>rfl
theorem IQ(b:Bt)(x:Str)(k:Nat)(h:k+1<b.length):(jv b x)[k+1]?=(b[k]?).map (Bg.blank x):=by
 unfold jv pY
 rw[fY,if_pos (by rw[af];exact h),List.getElem?_cons_succ,aG]
theorem fi{b:Bt}{x z:Str}{k:Nat}(ne:b≠[]):(jv b x)[k]?=some (some z)↔(k=0/\z=x)\/∃j,k=j+1/\j+1<b.length/\b[j]?=some (some z)/\z≠x:=by
 cases k with
 |zero=>
  rw[Eb x ne]
  constructor
  ·intro h;exact .inl ⟨rfl,by injection h with h;injection h with h;exact h.symm⟩
  ·rintro(⟨_,rfl⟩|⟨j,e,_⟩)
   ·rfl
   ·cases e
 |succ j=>
  by_cases hj:j+1<b.length
  ·rw[IQ b x j hj,aa (show j<b.length by lia)]
   constructor
   ·intro h
    have h:Bg.blank x b[j]=some z:=Option.some.inj h
    unfold Bg.blank at h
    by_cases c:b[j]=some x
    ·rw[if_pos c] at h;cases h
    ·rw[if_neg c] at h
     exact .inr ⟨j,rfl,hj,by rw[aa (show j<b.length by lia),h],λe=>c (by rw[h,e])⟩
   ·rintro(⟨e,_⟩|⟨j',e,_,h,n⟩)
    ·cases e
    ·cases e
     rw[aa (show j<b.length by lia)] at h
     have h:b[j]=some z:=Option.some.inj h
     show some (Bg.blank x b[j])=_
     unfold Bg.blank
     rw[h,if_neg λe=>n (Option.some.inj e)]
  ·constructor
   ·intro h
    have:=(ae.mp h).1
    rw[iG] at this
    exact absurd this hj
   ·rintro(⟨e,_⟩|⟨j',e,h,_⟩)
    ·cases e
    ·cases e;exact absurd h hj
theorem dU{b:Bt}{ss:List Str}{i:Nat}{x:Str}:(bR b ss)[i]?=some (some x)↔b[i]?=some (some x)/\(∀j,j<i->b[j]?≠some (some x))/\x∈ss:=by
 constructor
 ·intro h
  obtain⟨h1,h2,h3⟩:=ym h
  exact⟨h1,λj hj e=>h2 j hj (e.trans h1.symm),h3⟩
 ·rintro⟨h1,h2,h3⟩
  obtain⟨w,hw,pk⟩:=sD (ns:=ss) h1
  rw[hw,pk.1 ⟨aC.mpr ⟨x,h3,rfl⟩,λj hj e=>h2 j hj (e.trans h1)⟩]
theorem wF{b:Bt}{ss:List Str}{k:Nat}{y z:Str}(ne:b≠[]):(bR (jv b y) ss)[k]?=some (some z)↔z∈ss/\((k=0/\z=y)\/∃j,k=j+1/\j+1<b.length/\b[j]?=some (some z)/\z≠y/\∀i,i<j->b[i]?≠some (some z)):=by
 rw[dU,fi ne]
 constructor
 ·rintro⟨h1,h2,h3⟩
  refine⟨h3,?_⟩
  rcases h1 with h1|⟨j,rfl,hj,h1,n⟩
  ·exact .inl h1
  ·exact .inr ⟨j,rfl,hj,h1,n,λi hi e=>h2 (i+1) (by lia) ((fi ne).mpr (.inr ⟨i,rfl,by lia,e,n⟩))⟩
 ·rintro⟨h3,h1⟩
  rcases h1 with⟨rfl,rfl⟩|⟨j,rfl,hj,h1,n,f⟩
  ·exact⟨.inl ⟨rfl,rfl⟩,λj hj=>absurd hj (dC _),h3⟩
  ·refine⟨.inr ⟨j,rfl,hj,h1,n⟩,λi hi e=>?_,h3⟩
   rcases(fi ne).mp e with⟨_,e⟩|⟨i',rfl,_,e,_⟩
   ·exact n e
   ·exact f i' (by lia) e
theorem EH{B:Bt}{ss ss':List Str}(sub:∀z∈ss',z∈ss):bR (bR B ss) ss'=bR B ss':=by
 refine Br (by simp only[eD]) λi x=>?_
 rw[dU,dU,dU]
 constructor
 ·rintro⟨⟨h1,h2,h3⟩,h4,h5⟩
  exact⟨h1,h2,h5⟩
 ·rintro⟨h1,h2,h5⟩
  exact⟨⟨h1,h2,sub _ h5⟩,λj hj e=>h2 j hj (dU.mp e).1,h5⟩
theorem uk{B:Bt}{ss ss':List Str}{y:Str}(ne:B≠[])(sub:∀z∈ss',z≠y->z∈ss):bR (jv (bR B ss) y) ss'=bR (jv B y) ss':=by
 have ne':bR B ss≠[]:=λz=>ne (aV.mp (by rw[<-eD B ss,z];rfl))
 refine Br (by simp only[eD,iG]) λi x=>?_
 rw[wF ne',wF ne,eD]
 constructor
 ·rintro⟨h1,h2|⟨j,e,hj,h2,n,f⟩⟩
  ·exact⟨h1,.inl h2⟩
  ·obtain⟨a,b,c⟩:=dU.mp h2
   exact⟨h1,.inr ⟨j,e,hj,a,n,b⟩⟩
 ·rintro⟨h1,h2|⟨j,e,hj,h2,n,f⟩⟩
  ·exact⟨h1,.inl h2⟩
  ·exact⟨h1,.inr ⟨j,e,hj,dU.mpr ⟨h2,f,sub x h1 n⟩,n,λi hi z=>f i hi (dU.mp z).1⟩⟩
def zK(B:Bt)(p:Nat):Bt:=(B[p]?).getD none::B.dropLast
theorem Dg{B:Bt}(ne:B≠[])(p:Nat):(zK B p).length=B.length:=by
 have:=dF.mpr ne
 unfold zK
 rw[bD,fc];lia
theorem sx{B:Bt}{p k:Nat}{x z:Str}(hp:B[p]?=some (some x)):(zK B p)[k]?=some (some z)↔(k=0/\z=x)\/∃j,k=j+1/\j+1<B.length/\B[j]?=some (some z):=by
 unfold zK
 rw[hp]
 cases k with
 |zero=>
  constructor
  ·intro h;exact .inl ⟨rfl,by injection h with h;injection h with h;exact h.symm⟩
  ·rintro(⟨_,rfl⟩|⟨j,e,_⟩)
   ·rfl
   ·cases e
 |succ j=>
  rw[List.getElem?_cons_succ,List.getElem?_dropLast]
  constructor
  ·intro h
   by_cases c:j<B.length-1
   ·rw[if_pos c] at h
    exact .inr ⟨j,rfl,by lia,h⟩
   ·rw[if_neg c] at h;cases h
  ·rintro(⟨e,_⟩|⟨j',e,hj,h⟩)
   ·cases e
   ·cases e
    rw[if_pos (by lia)];exact h
theorem Dz{B:Bt}{ss:List Str}{p:Nat}{x:Str}(hp:B[p]?=some (some x))(hx:x∈ss):bR (zK B p) ss=jv (bR B ss) x:=by
 have ne:B≠[]:=λz=>by rw[z] at hp;simp at hp
 have ne':bR B ss≠[]:=λz=>ne (aV.mp (by rw[<-eD B ss,z];rfl))
 refine Br (by rw[eD,Dg ne,iG,eD]) λi z=>?_
 rw[dU,sx hp,fi ne',eD]
 constructor
 ·rintro⟨h1|⟨j,rfl,hj,h1⟩,h2,h3⟩
  ·exact .inl h1
  ·refine .inr ⟨j,rfl,hj,dU.mpr ⟨h1,λi hi e=>h2 (i+1) (by lia) ((sx hp).mpr (.inr ⟨i,rfl,by lia,e⟩)),h3⟩,λe=>h2 0 (by lia) ((sx hp).mpr (.inl ⟨rfl,e⟩))⟩
 ·rintro(⟨rfl,rfl⟩|⟨j,rfl,hj,h1,n⟩)
  ·exact⟨.inl ⟨rfl,rfl⟩,λj hj=>absurd hj (dC _),hx⟩
  ·obtain⟨a,b,c⟩:=dU.mp h1
   refine⟨.inr ⟨j,rfl,hj,a⟩,λi hi e=>?_,c⟩
   rcases(sx hp).mp e with⟨_,e⟩|⟨i',rfl,_,e⟩
   ·exact n e
   ·exact b i' (by lia) e
theorem Al{B:Bt}{ss:List Str}{z:Str}(h:some z∈bR B ss):some z∈B:=by
 obtain⟨i,hi,e⟩:=aS.mp h
 exact aA (dU.mp (by rw[aa hi,e])).1
theorem Ld{b:Bt}{i:Nat}(hi:i∈mT b){z:Str}(hz:some z∈b):some z∈lb b i:=by
 obtain⟨x,hx⟩:=iI hi
 have ne:b≠[]:=λe=>by rw[e] at hz;cases hz
 rw[oR hx]
 obtain⟨k,hk,e⟩:=aS.mp hz
 have ek:b[k]?=some (some z):=by rw[aa hk,e]
 by_cases c:z=x
 ·exact aA ((fi (k:=0) ne).mpr (.inl ⟨rfl,c⟩))
 ·refine aA ((fi (k:=k+1) ne).mpr (.inr ⟨k,rfl,?_,ek,c⟩))
  apply Classical.byContradiction
  intro nk
  have kl:k=b.length-1:=by lia
  rw[kl] at ek
  rw[tQ ek] at hi
  rw[ao.mp hi,ek] at hx
  exact c (Option.some.inj (Option.some.inj hx))
theorem MD{b:Bt}{i:Nat}(hi:i∈mT b)(u:Uq b):Uq (lb b i):=by
 obtain⟨x,hx⟩:=iI hi
 have ne:b≠[]:=λe=>by rw[e] at hx;simp at hx
 rw[oR hx]
 intro j k z h1 h2
 rcases(fi ne).mp h1 with⟨rfl,e⟩|⟨j,rfl,_,h1,n1⟩
 ·rcases(fi ne).mp h2 with⟨rfl,e⟩|⟨k,rfl,_,h2,n2⟩
  ·rfl
  ·exact absurd e n2
 ·rcases(fi ne).mp h2 with⟨rfl,e⟩|⟨k,rfl,_,h2,n2⟩
  ·exact absurd e n1
  ·rw[u j k z h1 h2]
theorem uT:∀(m:Nat) (l1 l2:Bt) (o:Option Str),l2.length=m->(∀q∈l2,q.isSome=true)->Uq (l1++o::l2)->∃ps,eL (l1++o::l2) ps/\jZ (l1++o::l2) ps=l2++l1++[o]
 |0,l1,l2,o,hm,_,_=>by
  have:l2=[]:=aV.mp hm
  subst this
  exact⟨[],trivial,by simp[jZ]⟩
 |m+1,l1,l2,o,hm,hs,u=>by
  have ne:l2≠[]:=λz=>by rw[z] at hm;cases hm
  obtain⟨d,q,rfl⟩:∃d q,l2=d++[q]:=⟨l2.dropLast,l2.getLast ne,(eX ne).symm⟩
  obtain⟨y,rfl⟩:∃y,q=some y:=du.mp (hs q (by simp))
  have e:l1++o::(d++[some y])=(l1++o::d)++[some y]:=by simp
  rw[e] at u ⊢
  obtain⟨r1,r2⟩:=rot u
  have u2:=u.rot
  obtain⟨ps,h1,h2⟩:=uT m (some y::l1) d o (by rw[ai] at hm;simpa using hm) (λq hq=>hs q (by simp[hq])) u2
  refine⟨(l1++o::d).length::ps,⟨by rw[r1];exact ao.mpr rfl,by rw[r2];exact h1⟩,?_⟩
  show jZ (lb _ _) ps=_
  rw[r2]
  have h2:jZ (some y::(l1++o::d)) ps=d++(some y::l1)++[o]:=h2
  rw[h2];simp
structure Bm(n:Nat)(ws:List Wk)(pss:List (List Str)):Prop where
 len:∀ss∈pss,ss.length<=n
 mid:∀(k:Nat) w y ss,ws[k]?=some w->w.out=some y->pss[k+1]?=some ss->(ss.filter λz=>!decide (some y=some z)).length+1<=n
theorem zb{n:Nat}{ws:List Wk}{pss:List (List Str)}(pl:pss.length=ws.length+1):∀(f k:Nat),f+k=ws.length+1->(A2 (n:Nat) ws pss f k=none↔(∀(j:Nat) ss,k<=j->pss[j]?=some ss->ss.length<=n)/\∀(j:Nat) w y ss,k<=j->ws[j]?=some w->w.out=some y->pss[j+1]?=some ss->(ss.filter λz=>!decide (some y=some z)).length+1<=n)
 |0,k,h=>by
  refine⟨λ_=>⟨λj ss hj e=>?_,λj w y ss hj e=>?_⟩,λ_=>rfl⟩
  ·have:=(ae.mp e).1;lia
  ·have:=(ae.mp e).1;lia
 |f+1,k,h=>by
  have ih:=zb (n:=n) (ws:=ws) (pss:=pss) pl f (k+1) (by lia)
  have ek:pss[k]?=some (pss[k]'(by lia)):=aa _
  generalize pss[k]'(by lia)=s0 at ek
  have gk:pss.getD k []=s0:=by rw[bH,ek];rfl
  unfold A2
  rw[gk]
  by_cases c:(n:Int)<(s0.length:Int)
  ·rw[if_pos c]
   refine⟨(λz=>by cases z),λz=>?_⟩
   have:=z.1 k s0 (ar _) ek
   lia
  ·rw[if_neg c]
   have fst:∀(P:Nat->List Str->Prop),(∀(j:Nat) ss,k+1<=j->pss[j]?=some ss->ss.length<=n)->∀(j:Nat) ss,k<=j->pss[j]?=some ss->ss.length<=n:=λ_ hh j ss hj e=>by
    by_cases q:j=k
    ·subst q;rw[ek] at e;cases e;lia
    ·exact hh j ss (by lia) e
   cases hw:(ws[k]?).bind (·.out) with
   |none=>
    rw[ih]
    refine⟨λz=>⟨fst (λ_ _=>True) z.1,λj w y ss hj a b d=>?_⟩,λz=>⟨λj ss hj e=>z.1 j ss (by lia) e,λj w y ss hj a b d=>z.2 j w y ss (by lia) a b d⟩⟩
    by_cases q:j=k
    ·subst q;rw[a] at hw;have hw:w.out=none:=hw;rw[b] at hw;cases hw
    ·exact z.2 j w y ss (by lia) a b d
   |some y=>
    obtain⟨w,ew,eo⟩:=Option.bind_eq_some_iff.mp hw
    have kl:k<ws.length:=(ae.mp ew).1
    have e1:pss[k+1]?=some (pss[k+1]'(by lia)):=aa _
    generalize pss[k+1]'(by lia)=s1 at e1
    have g1:pss.getD (k+1) []=s1:=by rw[bH,e1];rfl
    dsimp only
    rw[g1]
    by_cases c2:(n:Int)-1<(((s1.filter λz=>!decide (some y=some z)).length:Nat):Int)
    ·rw[if_pos c2]
     refine⟨(λz=>by cases z),λz=>?_⟩
     have:=z.2 k w y s1 (ar _) ew eo e1
     lia
    ·rw[if_neg c2,ih]
     refine⟨λz=>⟨fst (λ_ _=>True) z.1,λj w' y' ss hj a b d=>?_⟩,λz=>⟨λj ss hj e=>z.1 j ss (by lia) e,λj w y ss hj a b d=>z.2 j w y ss (by lia) a b d⟩⟩
     by_cases q:j=k
     ·subst q
      rw[ew] at a;cases a;rw[eo] at b;cases b;rw[e1] at d;cases d;lia
     ·exact z.2 j w' y' ss (by lia) a b d
theorem za{n:Nat}{ws:List Wk}{pss:List (List Str)}(pl:pss.length=ws.length+1):A2 (n:Nat) ws pss (ws.length+1) 0=none↔Bm n ws pss:=by
 rw[zb pl (ws.length+1) 0 rfl]
 constructor
 ·rintro⟨a,b⟩
  refine⟨λss hs=>?_,λk w y ss=>b k w y ss (bq _)⟩
  obtain⟨k,hk⟩:=e7.mp hs
  exact a k ss (bq _) hk
 ·intro h
  exact⟨λj ss _ e=>h.len ss (aA e),λj w y ss _=>h.mid j w y ss⟩
theorem lN.ins{last:List Str}{ws:List Wk}{pss:List (List Str)}(h:lN last ws pss){k:Nat}{w:Wk}{ss:List Str}(hw:ws[k]?=some w)(hs:pss[k]?=some ss):∀z∈w.ins,z∈ss:=λz hz=>by
 have kl:=(ae.mp hw).1
 rw[(h.at_ k ss hs).mem,b8 kl,(ae.mp hw).2]
 show(decide (z∈w.ins) || _)=true
 rw[decide_eq_true hz];rfl
theorem lN.thru{last:List Str}{ws:List Wk}{pss:List (List Str)}(h:lN last ws pss){k:Nat}{w:Wk}{ss ss':List Str}(hw:ws[k]?=some w)(hs:pss[k]?=some ss)(hs':pss[k+1]?=some ss'):∀z∈ss',w.out≠some z->z∈ss:=λz hz ho=>by
 have kl:=(ae.mp hw).1
 rw[(h.at_ k ss hs).mem,b8 kl,(ae.mp hw).2]
 show(decide (z∈w.ins) || (!decide (w.out=some z)&&wn last (ws.drop (k+1)) z))=true
 rw[decide_eq_false ho,(((h.at_ (k+1) ss' hs').mem z).mp hz)]
 simp
theorem lN.fin{last:List Str}{ws:List Wk}{pss:List (List Str)}(h:lN last ws pss){ss:List Str}(hs:pss[ws.length]?=some ss)(z:Str):z∈ss↔z∈last:=by
 rw[(h.at_ _ ss hs).mem,fE]
 show decide (z∈last)=true↔_
 exact decide_eq_true_iff
structure yC(n:Nat)(ss:List Str)(b:Bt):Prop where
 inn:mX n ss b
 uq:Uq b
 has:∀z∈ss,some z∈b
theorem yC.kt{n:Nat}{ss:List Str}{b:Bt}(h:yC n ss b){i:Nat}(hi:i∈mT b):yC n ss (lb b i):=⟨h.inn.kt hi,MD hi h.uq,λz hz=>Ld hi (h.has z hz)⟩
theorem yC.run{n:Nat}{ss:List Str}:∀{ps:List Nat} {b:Bt},yC n ss b->eL b ps->yC n ss (jZ b ps)
 |[],b,h,_=>h
 |p::r,b,h,ok=>yC.run (ps:=r) (h.kt ok.1) ok.2
theorem jg.ful{n:Nat}{ss:List Str}{ebs ks:List Bt}(t:jg n ss ebs ks)(h:∀b∈ebs,yC n ss b):∀b∈ks,yC n ss b:=t.ind (yC n ss) h λb hb c hc=>by
 obtain⟨i,hi,rfl⟩:=aC.mp hc
 exact hb.kt hi
theorem Ak{n:Nat}{ss:List Str}{B:Bt}(l:B.length=n)(h:∀z∈ss,some z∈B):yC n ss (bR B ss):=by
 refine⟨⟨by rw[eD];exact l,λx hx=>?_⟩,Kd B ss,λz hz=>um hz (h z hz)⟩
 obtain⟨i,hi,e⟩:=aS.mp hx
 exact(dU.mp (by rw[aa hi,e])).2.2
theorem xI{b:Bt}{ss:List Str}:pU b ss=true↔∀z∈ss,some z∈b:=by
 unfold pU
 rw[dN]
 exact⟨λh z hz=>of_decide_eq_true (h z hz),λh z hz=>decide_eq_true (h z hz)⟩
theorem Ki{n:Nat}{ss:List Str}{b:Bt}{x:Option Str}(l:b.length=n)(h:pU (kC b x ss) ss=true):yC n ss (kC b x ss):=by
 have h:=xI.mp h
 unfold kC at h ⊢
 refine Ak ?_ λz hz=>Al (h z hz)
 cases x with
 |none=>exact l
 |some y=>rw[iG];exact l
theorem Cm.ful{n:Nat}{b0:Bt}{ws:List Wk}{pss:List (List Str)}{kss:List (List Bt)}(cm:Cm n b0 ws pss kss)(pl:pss.length=ws.length+1)(l0:b0.length=n)(h0:∀ss,pss[0]?=some ss->∀z∈ss,some z∈b0):∀(k:Nat) ks ss,kss[k]?=some ks->pss[k]?=some ss->∀b∈ks,yC n ss b
 |0,ks,ss,hk,hs=>(cm.fst ks ss hk hs).ful λb hb=>by
  rw[ao.mp hb]
  exact Ak l0 (h0 ss hs)
 |k+1,ks,ss,hk,hs=>by
  have kl:=(ae.mp hk).1
  have cl:=cm.len
  have h1:kss[k]?=some (kss[k]'(by lia)):=aa _
  have h2:ws[k]?=some (ws[k]'(by lia)):=aa _
  have h3:pss[k]?=some (pss[k]'(by lia)):=aa _
  refine(cm.nxt k _ ks _ ss h1 hk h2 hs).ful λb hb=>?_
  obtain⟨hb1,hb2⟩:=bh.mp hb
  obtain⟨c,hc,rfl⟩:=aC.mp hb1
  exact Ki (Cm.ful cm pl l0 h0 k _ _ h1 h3 c hc).inn.len hb2
theorem yC.ready{n:Nat}{ss ss':List Str}{b:Bt}{x:Option Str}(f:yC n ss b)(pos:1<=n)(thru:∀z∈ss',x≠some z->z∈ss)(room:∀y,x=some y->(ss'.filter λz=>!decide (some y=some z)).length+1<=n):∃ps,eL b ps/\pU (kC (jZ b ps) x ss') ss'=true:=by
 cases x with
 |none=>exact⟨[],trivial,xI.mpr λz hz=>um hz (f.has z (thru z hz (λe=>by cases e)))⟩
 |some y=>
  have room:=room y rfl
  generalize hrs:ss'.filter (λz=>!decide (some y=some z))=rs at room
  have rsm:∀z,z∈rs↔z∈ss'/\z≠y:=λz=>by
   rw[<-hrs,bh]
   constructor
   ·rintro⟨a,c⟩;exact⟨a,λe=>by rw[e] at c;simp at c⟩
   ·rintro⟨a,c⟩;exact⟨a,by simp;exact λe=>c e.symm⟩
  have split:∀(m:Nat),m<=b.length->(∃l1 o l2,b=l1++o::l2/\(∀q∈l2,∃z,q=some z/\z∈rs)/\∀z,o=some z->z∉rs)\/∃l1 l2,b=l1++l2/\l2.length=m/\∀q∈l2,∃z,q=some z/\z∈rs:=by
   intro m
   induction m with
   |zero=>exact λ_=>.inr ⟨b,[],by simp,rfl,λq hq=>by cases hq⟩
   |succ m ih=>
    intro hm
    rcases ih (by lia) with h|⟨l1,l2,e,hl,hq⟩
    ·exact .inl h
    ·have ne:l1≠[]:=λz=>by rw[e,z] at hm;simp at hm;lia
     obtain⟨d,o,rfl⟩:∃d o,l1=d++[o]:=⟨l1.dropLast,l1.getLast ne,(eX ne).symm⟩
     by_cases c:∃z,o=some z/\z∈rs
     ·refine .inr ⟨d,o::l2,by rw[e];simp,by rw[bD,hl],λq hq'=>?_⟩
      rcases aK.mp hq' with rfl|hq'
      ·exact c
      ·exact hq q hq'
     ·exact .inl ⟨d,o,l2,by rw[e];simp,hq,λz e2 hz=>c ⟨z,e2,hz⟩⟩
  rcases split b.length (ar _) with⟨l1,o,l2,e,hq,ho⟩|⟨l1,l2,e,hl,hq⟩
  ·have uq:=f.uq
   rw[e] at uq
   obtain⟨ps,h1,h2⟩:=uT _ l1 l2 o rfl (λq hq'=>by obtain⟨z,rfl,_⟩:=hq q hq';rfl) uq
   rw[<-e] at h1 h2
   refine⟨ps,h1,xI.mpr λz hz=>um hz ?_⟩
   rw[h2]
   dsimp only
   have ne:l2++l1++[o]≠[]:=by simp
   by_cases c:z=y
   ·exact aA ((fi (k:=0) ne).mpr (.inl ⟨rfl,c⟩))
   ·have hb:=f.has z (thru z hz λe=>c (Option.some.inj e).symm)
    rw[e] at hb
    have:some z∈l2++l1:=by
     rcases aE.mp hb with h|h
     ·exact aE.mpr (.inr h)
     ·rcases aK.mp h with h|h
      ·exact absurd ((rsm z).mpr ⟨hz,c⟩) (ho z h.symm)
      ·exact aE.mpr (.inl h)
    obtain⟨j,hj,ej⟩:=aS.mp this
    refine aA ((fi (k:=j+1) ne).mpr (.inr ⟨j,rfl,by rw[ai,aM];lia,?_,c⟩))
    rw[au hj,aa hj,ej]
  ·-- each place would hold another name that is wanted behind
   exfalso
   have:l1=[]:=aV.mp (by have:=congrArg jy e;rw[ai,hl] at this;lia)
   subst this
   have e:b=l2:=e
   subst e
   have nd:(b.map λq=>q.getD "").Nodup:=by
    refine fJ.mpr λi j hi hj hij=>?_
    rw[af] at hi hj
    rw[List.getElem_map,List.getElem_map]
    obtain⟨z1,e1,_⟩:=hq b[i] (b6 _)
    obtain⟨z2,e2,_⟩:=hq b[j] (b6 _)
    rw[e1,e2]
    intro z
    have z:z1=z2:=z
    have:=f.uq i j z1 (by rw[aa hi,e1]) (by rw[aa hj,e2,z])
    lia
   have:=jX (zs:=rs) nd λz hz=>by
    obtain⟨q,hq',rfl⟩:=aC.mp hz
    obtain⟨z,rfl,hz2⟩:=hq q hq'
    exact hz2
   rw[af,f.inn.len] at this
   lia
theorem Cm.cl{n:Nat}{b0:Bt}{ws:List Wk}{pss:List (List Str)}{kss:List (List Bt)}(cm:Cm n b0 ws pss kss)(pl:pss.length=ws.length+1):∀(k:Nat) ks,kss[k]?=some ks->∀b∈ks,∀c∈kts b,c∈ks:=λk ks hk=>by
 have kl:=(ae.mp hk).1
 have cl:=cm.len
 cases k with
 |zero=>
  have h3:pss[0]?=some (pss[0]'(by lia)):=aa _
  exact(cm.fst ks _ hk h3).cl
 |succ k=>
  have h1:kss[k]?=some (kss[k]'(by lia)):=aa _
  have h2:ws[k]?=some (ws[k]'(by lia)):=aa _
  have h3:pss[k+1]?=some (pss[k+1]'(by lia)):=aa _
  exact(cm.nxt k _ ks _ _ h1 hk h2 h3).cl
theorem j9.all{n:Nat}{b0:Bt}{ws:List Wk}{last:List Str}{pss:List (List Str)}{kss:List (List Bt)}{ts:List (List (Bt×Nat))}(tb:j9 n b0 ws pss (aU n none) kss ts)(pts:lN last ws pss)(wd:Bm n ws pss)(pos:1<=n)(l0:b0.length=n)(h0:∀ss,pss[0]?=some ss->∀z∈ss,some z∈b0):∀(f k:Nat),f+k=ws.length->∀ks t,kss[k]?=some ks->ts[k]?=some t->∀b∈ks,∃m,(b,m)∈t
 |0,k,hf,ks,t,hk,ht=>λb hb=>by
  have:k=ws.length:=by lia
  subst this
  obtain⟨t0,sp,st⟩:=tb.fin ks t hk ht
  have pl:=pts.len
  have h3:pss[ws.length]?=some (pss[ws.length]'(by lia)):=aa _
  have fu:=tb.cm.ful pl l0 h0 _ ks _ hk h3 b hb
  obtain⟨m,_,hm⟩:=sp.s1 b 0 ((st b 0).mpr ⟨hb,by rw[<-fu.inn.len];exact AX b,rfl⟩)
  exact⟨m,hm⟩
 |f+1,k,hf,ks,t,hk,ht=>λb hb=>by
  have pl:=pts.len
  have kl:=tb.cm.len
  have tl:=tb.len
  have h1:kss[k+1]?=some (kss[k+1]'(by lia)):=aa _
  have h2:ws[k]?=some (ws[k]'(by lia)):=aa _
  have h3:pss[k]?=some (pss[k]'(by lia)):=aa _
  have h4:pss[k+1]?=some (pss[k+1]'(by lia)):=aa _
  have h5:ts[k+1]?=some (ts[k+1]'(by lia)):=aa _
  generalize kss[k+1]'(by lia)=ks' at h1
  generalize ws[k]'(by lia)=w at h2
  generalize pss[k]'(by lia)=ss at h3
  generalize pss[k+1]'(by lia)=ss' at h4
  generalize ts[k+1]'(by lia)=t' at h5
  have fu:=tb.cm.ful pl l0 h0 _ ks _ hk h3 b hb
  obtain⟨ps,ok,hh⟩:=fu.ready (x:=w.out) (ss':=ss') pos (pts.thru h2 h3 h4) λy ey=>wd.mid k w y ss' h2 ey h4
  obtain⟨t0,sp,st⟩:=tb.mid k ks t t' w ss' hk ht h5 h2 h4
  have cl:=tb.cm.cl pl k ks hk
  have rin:∀{ps:List Nat} {b:Bt},b∈ks->eL b ps->jZ b ps∈ks:=λ{ps}=>by
   induction ps with
   |nil=>exact λh _=>h
   |cons p r ih=>exact λ{b} h ok=>ih (b:=lb b p) (cl b h _ (aC.mpr ⟨p,ok.1,rfl⟩)) ok.2
  have hr:=rin hb ok
  have hw:kC (jZ b ps) w.out ss'∈ks':=(tb.cm.nxt k ks ks' w ss' hk h1 h2 h4).ent _ (bh.mpr ⟨aC.mpr ⟨_,hr,rfl⟩,hh⟩)
  obtain⟨m,hm⟩:=j9.all tb pts wd pos l0 h0 f (k+1) (by lia) ks' t' h1 h5 _ hw
  obtain⟨m',_,hm'⟩:=sp.start cl hb ok ((st _ _).mpr ⟨hr,hm⟩)
  exact⟨m',hm'⟩
def MG(B:Bt):List Nat->Prop
 |[]=>True
 |p::r=>(∃x,B[p]?=some (some x))/\MG (zK B p) r
def f9(B:Bt)(ps:List Nat):Bt:=ps.foldl zK B
def Iv(B:Bt):Option Str->Bt
 |none=>B
 |some y=>jv B y
def rb(B:Bt)(ws:List Wk)(gs:List (List Nat)):Nat->Bt
 |0=>B
 |k+1=>Iv (f9 (rb B ws gs k) ((gs[k]?).getD [])) ((ws[k]?).bind (·.out))
structure Fc(B:Bt)(ws:List Wk)(last:List Str)(gs:List (List Nat)):Prop where
 len:gs.length=ws.length+1
 ok:∀(k:Nat) ps,gs[k]?=some ps->MG (rb B ws gs k) ps
 ins:∀(k:Nat) ps w,gs[k]?=some ps->ws[k]?=some w->∀z∈w.ins,some z∈f9 (rb B ws gs k) ps
 fin:∀ps,gs[ws.length]?=some ps->∀z∈last,some z∈f9 (rb B ws gs ws.length) ps
theorem ue{n:Nat}{ss:List Str}:∀{ps:List Nat} {B:Bt},yC n ss (bR B ss)->eL (bR B ss) ps->MG B ps/\bR (f9 B ps) ss=jZ (bR B ss) ps
 |[],B,_,_=>⟨trivial,rfl⟩
 |p::r,B,f,ok=>by
  obtain⟨x,hx⟩:=iI ok.1
  obtain⟨h1,_,h3⟩:=dU.mp hx
  have e:bR (zK B p) ss=lb (bR B ss) p:=by rw[Dz h1 h3,oR hx]
  obtain⟨a,b⟩:=ue (ps:=r) (B:=zK B p) (by rw[e];exact f.kt ok.1) (by rw[e];exact ok.2)
  refine⟨⟨⟨x,h1⟩,a⟩,?_⟩
  show bR (f9 (zK B p) r) ss=jZ (lb (bR B ss) p) r
  rw[b,e]
theorem FK{B:Bt}{ss ss':List Str}{x:Option Str}(ne:B≠[])(thru:∀z∈ss',x≠some z->z∈ss):bR (Iv B x) ss'=kC (bR B ss) x ss':=by
 cases x with
 |none=>exact(EH λz hz=>thru z hz λe=>by cases e).symm
 |some y=>exact(uk ne λz hz nz=>thru z hz λe=>nz (Option.some.inj e).symm).symm
theorem p8{ps:List Nat}:∀{B:Bt},B≠[]->(f9 B ps).length=B.length:=by
 induction ps with
 |nil=>exact λ_=>rfl
 |cons p r ih=>exact λ{B} ne=>(ih (B:=zK B p) (by unfold zK;simp)).trans (Dg ne p)
theorem IS(B:Bt)(x:Option Str):(Iv B x).length=B.length:=by
 cases x with
 |none=>rfl
 |some y=>exact iG B y
theorem Ck{B:Bt}{ws:List Wk}{gs:List (List Nat)}(ne:B≠[]):∀k,(rb B ws gs k).length=B.length
 |0=>rfl
 |k+1=>by
  have ih:=Ck (ws:=ws) (gs:=gs) ne k
  have ne':rb B ws gs k≠[]:=λz=>by rw[z] at ih;exact ne (aV.mp ih.symm)
  show(Iv (f9 _ _) _).length=_
  rw[IS,p8 ne',ih]
structure rV(n:Nat)(b0:Bt)(ws:List Wk)(pss:List (List Str))(kss:List (List Bt))(gs:List (List Nat))(bs:List Bt):Prop where
 fol:Ni ws pss kss (aU n none) (bR b0 (pss.getD 0 [])) gs bs
 ful:∀(k:Nat) c ss,bs[k]?=some c->pss[k]?=some ss->yC n ss c
theorem rV.seen{n:Nat}{b0:Bt}{ws:List Wk}{last:List Str}{pss:List (List Str)}{kss:List (List Bt)}{gs:List (List Nat)}{bs:List Bt}(h:rV n b0 ws pss kss gs bs)(pts:lN last ws pss)(ne:b0≠[]):∀(k:Nat) c ss,bs[k]?=some c->pss[k]?=some ss->bR (rb b0 ws gs k) ss=c
 |0,c,ss,hc,hs=>by
  rw[h.fol.fst] at hc
  cases hc
  show bR b0 ss=_
  rw[bH,hs];rfl
 |k+1,c,ss',hc,hs'=>by
  have l2:=h.fol.ln2
  have l1:=h.fol.len
  have pl:=pts.len
  have kl:=(ae.mp hc).1
  have h1:bs[k]?=some (bs[k]'(by lia)):=aa _
  have h2:ws[k]?=some (ws[k]'(by lia)):=aa _
  have h3:pss[k]?=some (pss[k]'(by lia)):=aa _
  have h4:gs[k]?=some (gs[k]'(by lia)):=aa _
  generalize bs[k]'(by lia)=d at h1
  generalize ws[k]'(by lia)=w at h2
  generalize pss[k]'(by lia)=ss at h3
  generalize gs[k]'(by lia)=ps at h4
  have ih:=rV.seen h pts ne k d ss h1 h3
  have fu:=h.ful k d ss h1 h3
  have ok:=h.fol.ok k ps d h4 h1
  rw[<-ih] at fu ok
  obtain⟨_,e⟩:=ue fu ok
  have rl:=Ck (ws:=ws) (gs:=gs) ne k
  have ne':rb b0 ws gs k≠[]:=λz=>by rw[z] at rl;exact ne (aV.mp rl.symm)
  have ne2:f9 (rb b0 ws gs k) ps≠[]:=λz=>by have:=p8 (ps:=ps) ne';rw[z] at this;exact ne' (aV.mp this.symm)
  rw[h.fol.nxt k ps d c w ss' h4 h1 hc h2 hs']
  show bR (Iv (f9 _ ((gs[k]?).getD [])) ((ws[k]?).bind (·.out))) ss'=_
  rw[h4,h2]
  show bR (Iv (f9 _ ps) w.out) ss'=_
  rw[FK ne2 (pts.thru h2 h3 hs'),e,ih]
theorem rV.run{n:Nat}{b0:Bt}{ws:List Wk}{last:List Str}{pss:List (List Str)}{kss:List (List Bt)}{gs:List (List Nat)}{bs:List Bt}(h:rV n b0 ws pss kss gs bs)(pts:lN last ws pss)(ne:b0≠[]){k:Nat}{ps:List Nat}(hp:gs[k]?=some ps):MG (rb b0 ws gs k) ps/\∀ss,pss[k]?=some ss->∀z∈ss,some z∈f9 (rb b0 ws gs k) ps:=by
 have l2:=h.fol.ln2
 have l1:=h.fol.len
 have pl:=pts.len
 have kl:=(ae.mp hp).1
 have h1:bs[k]?=some (bs[k]'(by lia)):=aa _
 have h3:pss[k]?=some (pss[k]'(by lia)):=aa _
 generalize bs[k]'(by lia)=d at h1
 generalize pss[k]'(by lia)=ss at h3
 have ih:=h.seen pts ne k d ss h1 h3
 have fu:=h.ful k d ss h1 h3
 have ok:=h.fol.ok k ps d hp h1
 rw[<-ih] at fu ok
 obtain⟨a,e⟩:=ue fu ok
 refine⟨a,λss' hs z hz=>?_⟩
 rw[h3] at hs;cases hs
 have:=(fu.run ok).has z hz
 rw[<-e] at this
 exact Al this
theorem rV.done{n:Nat}{b0:Bt}{ws:List Wk}{last:List Str}{pss:List (List Str)}{kss:List (List Bt)}{gs:List (List Nat)}{bs:List Bt}(h:rV n b0 ws pss kss gs bs)(pts:lN last ws pss)(ne:b0≠[]):Fc b0 ws last gs:=by
 have l1:=h.fol.len
 have pl:=pts.len
 refine⟨l1,λk ps hp=>(h.run pts ne hp).1,λk ps w hp hw z hz=>?_,λps hp z hz=>?_⟩
 ·have kl:=(ae.mp hw).1
  have h3:pss[k]?=some (pss[k]'(by lia)):=aa _
  exact(h.run pts ne hp).2 _ h3 z (pts.ins hw h3 z hz)
 ·have h3:pss[ws.length]?=some (pss[ws.length]'(by lia)):=aa _
  exact(h.run pts ne hp).2 _ h3 z ((pts.fin h3 z).mpr hz)
def qW(K:Fg):Sp:=λvs H Q _=>∃(st:Addr) (k:Nat),vs=[.ref st]/\lU K H st k/\k<=900000/\∀(n:Nat) (H':Hp),1<=n->n<=5->lU K H' st (k+1)->iN st H H'->Q (.int (n:Nat)) H'
def pq(_:Fg):Sp:=λvs H Q _=>∃(n:Nat) (wp lt nm:Addr) (ws:List Wk) (last ys:List Str),vs=[.int (n:Nat),.ref wp,.ref lt,.ref nm]/\ka H wp lt ws last/\CP ys last ws/\H nm=some (.lst (ys.map V.str))/\ys.Nodup/\last.length<=n/\
 ∀(wp':Addr) (ws':List Wk) (pss:List (List Str)) (H':Hp),ka H' wp' lt ws' last->CP ys last ws'->lN last ws' pss->Bm n ws' pss->ws'.length<=ws.length->aI H H'->Q (.ref wp') H'
def uw(K:Fg):Sp:=λvs H Q _=>∃(st nd nm:Addr) (n k:Nat) (ss ys:List Str),vs=[.ref st,.int (n:Nat),.ref nd,.ref nm]/\lU K H st k/\k<=500000/\nm≠st/\H nm=some (.lst (ys.map V.str))/\ys.length<=20/\H nd=some (.tup (ss.map V.str))/\ss.length<=n/\n<=5/\
 ∀(bp:Addr) (B:Bt) (k':Nat) (H':Hp),H' bp=some (.tup (cH B))->B.length=n->(∀z∈ss,some z∈B)->lU K H' st k'->k'<=k+20->iN st H H'->Q (.ref bp) H'
def jq(_:Fg):Sp:=λvs H Q _=>∃(bp:Addr) (B:Bt) (x:Option Str),vs=[.ref bp,i7 x]/\H bp=some (.tup (cH B))/\B≠[]/\B.length<=10/\∀(r:Addr) (H':Hp),H' r=some (.tup (cH (Iv B x)))->aI H H'->Q (.ref r) H'
abbrev Gp:Nat:=1
abbrev Fk:Nat:=2
abbrev En:Nat:=2
abbrev DZ:Nat:=3
abbrev Jh:Nat:=2
abbrev IC:Nat:=3
abbrev vh:Nat:=0
abbrev uW:Nat:=1
theorem jg.one{n:Nat}{ss:List Str}{e e' ks ks':List Bt}(t:jg n ss e ks)(t':jg n ss e' ks')(h:∀b∈e,b∈e'):∀b∈ks,b∈ks':=t.ind (·∈ks') (λb hb=>t'.ent b (h b hb)) λb hb c hc=>t'.cl b hb c hc
theorem Cm.one{n:Nat}{b0:Bt}{ws:List Wk}{pss:List (List Str)}{kss kss':List (List Bt)}(c:Cm n b0 ws pss kss)(c':Cm n b0 ws pss kss')(pl:pss.length=ws.length+1):∀(k:Nat) ks ks',kss[k]?=some ks->kss'[k]?=some ks'->∀b∈ks,b∈ks'
 |0,ks,ks',h,h'=>by
  have h3:pss[0]?=some (pss[0]'(by lia)):=aa _
  exact(c.fst ks _ h h3).one (c'.fst ks' _ h' h3) λb hb=>hb
 |k+1,ks,ks',h,h'=>by
  have kl:=(ae.mp h).1
  have l1:=c.len
  have l2:=c'.len
  have h1:kss[k]?=some (kss[k]'(by lia)):=aa _
  have h1':kss'[k]?=some (kss'[k]'(by lia)):=aa _
  have h2:ws[k]?=some (ws[k]'(by lia)):=aa _
  have h3:pss[k+1]?=some (pss[k+1]'(by lia)):=aa _
  have ih:=Cm.one c c' pl k _ _ h1 h1'
  refine(c.nxt k _ ks _ _ h1 h h2 h3).one (c'.nxt k _ ks' _ _ h1' h' h2 h3) λb hb=>?_
  obtain⟨hb1,hb2⟩:=bh.mp hb
  obtain⟨d,hd,rfl⟩:=aC.mp hb1
  exact bh.mpr ⟨aC.mpr ⟨d,ih d hd,rfl⟩,hb2⟩
theorem ie.le{ks ks':List Bt}{t0 t0' t t':List (Bt×Nat)}(s:ie ks t0 t)(s':ie ks' t0' t')(hk:∀b∈ks,b∈ks')(h0:∀b n,(b,n)∈t0->∃m,m<=n/\(b,m)∈t0'):∀(n:Nat) b,(b,n)∈t->∃m,m<=n/\(b,m)∈t':=by
 intro n
 induction n using Nat.strongRecOn with
 |ind n ih=>
  intro b hb
  rcases s.s3 b n hb with h|⟨c,hc,m,hm,rfl⟩
  ·obtain⟨m,l,h⟩:=h0 b n h
   obtain⟨m2,l2,h2⟩:=s'.s1 b m h
   exact⟨m2,by lia,h2⟩
  ·obtain⟨m2,l2,h2⟩:=ih m (cF _) c hm
   obtain⟨m3,l3,h3⟩:=s'.s2 b (hk b (s.sub b _ hb)) c hc m2 h2
   exact⟨m3,by lia,h3⟩
theorem j9.le{n:Nat}{b0 ord:Bt}{ws:List Wk}{pss:List (List Str)}{kss kss':List (List Bt)}{ts ts':List (List (Bt×Nat))}(tb:j9 n b0 ws pss ord kss ts)(tb':j9 n b0 ws pss ord kss' ts')(pl:pss.length=ws.length+1):∀(f k:Nat),f+k=ws.length->∀t t',ts[k]?=some t->ts'[k]?=some t'->∀(m:Nat) b,(b,m)∈t->∃m',m'<=m/\(b,m')∈t'
 |0,k,hf,t,t',ht,ht'=>by
  have:k=ws.length:=by lia
  subst this
  have l1:=tb.cm.len
  have l2:=tb'.cm.len
  have h1:kss[ws.length]?=some (kss[ws.length]'(by lia)):=aa _
  have h1':kss'[ws.length]?=some (kss'[ws.length]'(by lia)):=aa _
  obtain⟨t0,sp,st⟩:=tb.fin _ t h1 ht
  obtain⟨t0',sp',st'⟩:=tb'.fin _ t' h1' ht'
  have hk:=tb.cm.one tb'.cm pl _ _ _ h1 h1'
  exact sp.le sp' hk λb n h=>by
   obtain⟨a,b2,c⟩:=(st b n).mp h
   exact⟨n,ar _,(st' b n).mpr ⟨hk b a,b2,c⟩⟩
 |f+1,k,hf,t,t',ht,ht'=>by
  have l1:=tb.cm.len
  have l2:=tb'.cm.len
  have l3:=tb.len
  have l4:=tb'.len
  have h1:kss[k]?=some (kss[k]'(by lia)):=aa _
  have h1':kss'[k]?=some (kss'[k]'(by lia)):=aa _
  have h2:ws[k]?=some (ws[k]'(by lia)):=aa _
  have h3:pss[k+1]?=some (pss[k+1]'(by lia)):=aa _
  have h5:ts[k+1]?=some (ts[k+1]'(by lia)):=aa _
  have h5':ts'[k+1]?=some (ts'[k+1]'(by lia)):=aa _
  obtain⟨t0,sp,st⟩:=tb.mid k _ t _ _ _ h1 ht h5 h2 h3
  obtain⟨t0',sp',st'⟩:=tb'.mid k _ t' _ _ _ h1' ht' h5' h2 h3
  have hk:=tb.cm.one tb'.cm pl _ _ _ h1 h1'
  have ih:=j9.le tb tb' pl f (k+1) (by lia) _ _ h5 h5'
  exact sp.le sp' hk λb n h=>by
   obtain⟨a,b2⟩:=(st b n).mp h
   obtain⟨m,lm,hm⟩:=ih n _ b2
   exact⟨m,lm,(st' b m).mpr ⟨hk b a,hm⟩⟩
theorem j9.nd{n:Nat}{b0 ord:Bt}{ws:List Wk}{pss:List (List Str)}{kss:List (List Bt)}{ts:List (List (Bt×Nat))}(tb:j9 n b0 ws pss ord kss ts)(pl:pss.length=ws.length+1){k:Nat}{t:List (Bt×Nat)}(h:ts[k]?=some t):(t.map (·.1)).Nodup/\∀ks,kss[k]?=some ks->∀b m,(b,m)∈t->b∈ks:=by
 have kl:=tb.cm.len
 have tl:=tb.len
 have kk:k<ts.length:=(ae.mp h).1
 have hk:kss[k]?=some (kss[k]'(by lia)):=aa _
 by_cases c:k=ws.length
 ·subst c
  obtain⟨t0,sp,_⟩:=tb.fin _ t hk h
  exact⟨sp.nd,λks e=>by rw[hk] at e;cases e;exact sp.sub⟩
 ·have h1:ts[k+1]?=some (ts[k+1]'(by lia)):=aa _
  have h2:ws[k]?=some (ws[k]'(by lia)):=aa _
  have h3:pss[k+1]?=some (pss[k+1]'(by lia)):=aa _
  obtain⟨t0,sp,_⟩:=tb.mid k _ t _ _ _ hk h h1 h2 h3
  exact⟨sp.nd,λks e=>by rw[hk] at e;cases e;exact sp.sub⟩
theorem j9.one{n:Nat}{b0 ord:Bt}{ws:List Wk}{pss:List (List Str)}{kss kss':List (List Bt)}{ts ts':List (List (Bt×Nat))}(tb:j9 n b0 ws pss ord kss ts)(tb':j9 n b0 ws pss ord kss' ts')(pl:pss.length=ws.length+1){k:Nat}{t t':List (Bt×Nat)}(ht:ts[k]?=some t)(ht':ts'[k]?=some t'){b:Bt}{m:Nat}(h:(b,m)∈t):(b,m)∈t':=by
 have kl:=(ae.mp ht).1
 have tl:=tb.len
 obtain⟨m1,l1,h1⟩:=tb.le tb' pl (ws.length-k) k (by lia) t t' ht ht' m b h
 obtain⟨m2,l2,h2⟩:=tb'.le tb pl (ws.length-k) k (by lia) t' t ht' ht m1 b h1
 have:=qC (tb.nd pl ht).1 h h2
 have:m1=m:=by lia
 rw[<-this];exact h1
theorem Jd{n:Nat}{B:Bt}{ws:List Wk}{last:List Str}{pss:List (List Str)}(P:lN last ws pss)(wd:Bm n ws pss)(n1:1<=n)(n5:n<=5)(l0:B.length=n)(h0:∀ss,pss[0]?=some ss->∀z∈ss,some z∈B) :
  (∀pss,lN last ws pss->∀ss∈pss,Ir n ss)/\(∀pss kss ts,lN last ws pss->j9 n B ws pss (aU n none) kss ts->∀(k:Nat) ks t,kss[k]?=some ks->ts[k]?=some t->∀b∈ks,∃m,(b,m)∈t):=by
 refine⟨λpss' P' ss hs=>?_,λpss' kss ts P' tb k ks t hk ht b hb=>?_⟩
 ·cases P'.one P
  have:=wd.len ss hs
  exact⟨n1,n5,by lia⟩
 ·cases P'.one P
  have:=(ae.mp hk).1
  have:=tb.cm.len
  exact tb.all P wd n1 l0 h0 (ws.length-k) k (by lia) ks t hk ht b hb
theorem L9{n:Nat}{B:Bt}{ws:List Wk}{last:List Str}{pss:List (List Str)}{kss:List (List Bt)}{ts:List (List (Bt×Nat))}{gs:List (List Nat)}{bs:List Bt}{ss:List Str}(P:lN last ws pss)(l0:B.length=n)(h0:∀ss,pss[0]?=some ss->∀z∈ss,some z∈B)(tb:j9 n B ws pss (aU n none) kss ts)(hs:pss[0]?=some ss)(fo:Ni ws pss kss (aU n none) (bR B ss) gs bs):rV n B ws pss kss gs bs:=by
 refine⟨by rw[bH,hs];exact fo,λk c ss hc hs=>?_⟩
 have kl:=(ae.mp hc).1
 have l2:=fo.ln2
 have cl:=tb.cm.len
 have hk:kss[k]?=some (kss[k]'(by lia)):=aa _
 exact tb.cm.ful P.len l0 h0 k _ ss hk hs c (fo.mem k c _ hc hk)
theorem rE{n:Nat}{ss:List Str}:∀{ps:List Nat} {B:Bt},yC n ss (bR B ss)->eL (bR B ss) ps->∀(j p:Nat),ps[j]?=some p->∃x,(bR (f9 B (ps.take j)) ss)[p]?=some (some x)
 |[],B,_,_,j,p,h=>by simp at h
 |a::r,B,f,ok,0,p,h=>by
  cases h
  exact iI ok.1
 |a::r,B,f,ok,j+1,p,h=>by
  obtain⟨x,hx⟩:=iI ok.1
  obtain⟨h1,_,h3⟩:=dU.mp hx
  have e:bR (zK B a) ss=lb (bR B ss) a:=by rw[Dz h1 h3,oR hx]
  exact rE (ps:=r) (B:=zK B a) (by rw[e];exact f.kt ok.1) (by rw[e];exact ok.2) j p (by simpa using h)
theorem rV.seenAt{n:Nat}{b0:Bt}{ws:List Wk}{last:List Str}{pss:List (List Str)}{kss:List (List Bt)}{gs:List (List Nat)}{bs:List Bt}(h:rV n b0 ws pss kss gs bs)(pts:lN last ws pss)(ne:b0≠[]){k:Nat}{ps:List Nat}{ss:List Str}(hp:gs[k]?=some ps)(hs:pss[k]?=some ss):∀(j p:Nat),ps[j]?=some p->∃x,(bR (f9 (rb b0 ws gs k) (ps.take j)) ss)[p]?=some (some x):=by
 have l2:=h.fol.ln2
 have l1:=h.fol.len
 have kl:=(ae.mp hp).1
 have h1:bs[k]?=some (bs[k]'(by lia)):=aa _
 generalize bs[k]'(by lia)=d at h1
 have ih:=h.seen pts ne k d ss h1 hs
 have fu:=h.ful k d ss h1 hs
 have ok:=h.fol.ok k ps d hp h1
 rw[<-ih] at fu ok
 exact rE fu ok
end Bg
end
section
namespace L2
open PySem PySem.Spec PyProof.Rows
abbrev KP:=bY×List bY
def Ko(H:Hp)(p:Addr)(k:KP):Prop:=∃b,H p=some (.tup [kN k.1,.ref b])/\H b=some (.tup (k.2.map kN))
theorem Ko.tp{H H':Hp}{p:Addr}{k:KP}(h:Ko H p k)(t:∀b xs,H b=some (.tup xs)->H' b=some (.tup xs)):Ko H' p k:=let⟨b,h1,h2⟩:=h;⟨b,t _ _ h1,t _ _ h2⟩
abbrev CQ(H:Hp):List (KP×V)->List (KP×Addr×Value)->Prop:=Paired λp q=>p.1=q.1/\(∃b,H q.2.1=some (.tup [kN p.1.1,.ref b])/\H b=some (.tup (p.1.2.map kN)))/\cg p.2 q.2.2
theorem CQ.val{H:Hp}{kvs:List (KP×V)}{xs:List (KP×Addr×Value)}(r:CQ H kvs xs)(k:KP):oG (cY kvs k) ((atKey xs k).map (·.2)):=by
 induction r with
 |nil=>exact True.intro
 |@cons p q ps qs h t ih=>
  obtain⟨h1,_,h2⟩:=h
  by_cases e:p.1=k
  ·have e':q.1=k:=h1.symm.trans e
   have b:atKey (q::qs) k=some q.2:=by simp[atKey,cP,e']
   rw[fz e,b];exact h2
  ·have e':¬q.1=k:=λz=>e (h1.trans z)
   have b:atKey (q::qs) k=atKey qs k:=by simp[atKey,cP,e']
   rw[ft e,b];exact ih
theorem CQ.repl{H:Hp}{kvs:List (KP×V)}{xs:List (KP×Addr×Value)}(r:CQ H kvs xs)(k:KP){y:V}{u:Value}(ry:cg y u) :
  CQ H (kvs.map λkv=>if kv.1=k then(kv.1,y) else kv) (xs.map (putAt k u)):=by
 induction r with
 |nil=>exact .nil
 |@cons p q ps qs h t ih=>
  rw[bA,bA]
  refine .cons ?_ ih
  obtain⟨h1,h2,h3⟩:=h
  unfold putAt
  by_cases e:p.1=k
  ·rw[if_pos e,if_pos (h1.symm.trans e)];exact⟨h1,h2,ry⟩
  ·rw[if_neg e,if_neg (λz=>e (h1.trans z))];exact⟨h1,h2,h3⟩
theorem CQ.put{H:Hp}{kvs:List (KP×V)}{xs:List (KP×Addr×Value)}(r:CQ H kvs xs)(k:KP){b:Addr}{y:V}{u:Value}(hb:Ko H b k)(ry:cg y u) :
  CQ H (iJ kvs k y) (storedH xs k b u):=by
 have e:(kvs.any λkv=>decide (kv.1=k))=(atKey xs k).isSome:=by
  rw[ky,(r.val k).isSome_eq,gC]
 unfold iJ storedH
 rw[e]
 by_cases q:(atKey xs k).isSome=true
 ·rw[if_pos q,if_pos q];exact r.repl k ry
 ·rw[if_neg q,if_neg q];exact Paired.snoc r ⟨rfl,hb,ry⟩
theorem CQ.keeps{H H':Hp}{kvs:List (KP×V)}{xs:List (KP×Addr×Value)}(r:CQ H kvs xs)(ht:∀b ys,H b=some (.tup ys)->H' b=some (.tup ys)):CQ H' kvs xs:=
 Paired.mapP r λ_ _ z=>⟨z.1,(show Ko _ _ _ from z.2.1).tp ht,z.2.2⟩
section
variable{P:Program}{w:World}{H:Hp}{h:Heap}{a:Addr}
theorem xT{k:KP}(ok:ny P w H h)(e:Ko H a k):(kj (cS P w)).is h k a:=by
 obtain⟨b,h1,h2⟩:=e
 obtain⟨_,its,r,o,g1,g2,n,g3⟩:=(show dR P w H h a (.tup [kN k.1,.ref b]) from ok a _ h1)
 cases r with
 |cons r1 rr=>
  cases rr with
  |cons r2 rn=>
   cases rn
   cases(show _=Value.ref b from r2)
   exact⟨o,_,b,n,g1,g2.1,g3,Kr r1,ml ok h2⟩
theorem FW{kvs:List (KP×V)}(ok:ny P w H h)(e:Rd H a (.dP kvs)):kvs.length<=sizeLine/\(a==sysModules)=false/\
  ∃xs,CQ H kvs xs/\h.DictOfH (kj (cS P w)) a xs:=by
 obtain⟨z,y,xs,r,o,es,ep,h1,h2,h3,h4,h5⟩:=(show dR P w H h a (.dP kvs) from Ht ok e)
 refine⟨z,y,xs,r,o,es,ep,h1,h2,h3,h4,λx hx=>?_,h5⟩
 have all:∀{l:List (KP×V)} {m:List (KP×Addr×Value)},CQ H l m->∀x∈m,(kj (cS P w)).is h x.1 x.2.1:=by
  intro l m q
  induction q with
  |nil=>intro x hx;exact nomatch hx
  |@cons p q ps qs hq t ih=>
   intro x hx
   rcases aK.mp hx with e|hx
   ·subst e
    exact xT ok (by rw[<-hq.1];exact hq.2.1)
   ·exact ih x hx
 exact all r x hx
theorem Mw{kvs:List (KP×V)}(ok:ny P w H h)(e:H a=some (.dP kvs)):kvs.length<=sizeLine/\(a==sysModules)=false/\
  ∃xs,CQ H kvs xs/\h.DictOfH (kj (cS P w)) a xs:=FW ok (.inl e)
theorem zS{A:Around}{P:Program}{w:World}(hu:A.units+2<cLine):(kj (cS P w)).room A.in1:=by show A.units+1+1<cLine;lia
end
def Fb(H:Hp)(a:Addr)(y:V)(r:Option V):Prop:=∃kvs k b,Rd H a (.dP kvs)/\y=.ref b/\Ko H b k/\r=cY kvs k
def Km(H:Hp)(a:Addr)(y v:V)(H':Hp):Prop:=∃kvs k b,H a=some (.dP kvs)/\y=.ref b/\Ko H b k/\kvs.length<sizeLine/\H'=aQ H a (.dP (iJ kvs k v))
section
variable{X:Cx}{pins:List (Addr×Obj)}{σ:St}{H:Hp}{s:Shared}{a:Addr}{y v:V}{u r:Value}{o:Option V}{A:Around}{E:Value->Shared->Prop}
theorem BF{Q:Value->Shared->Prop}(hu:A.units+2<cLine)(I:bw X pins σ H s)(g:Fb H a y (some v))(ry:cg y u)(h:∀w' s',bw X pins σ H s'->cg v w'->Q w' s') :
  wpAny (model X.prog X.w) A (getItem (.ref a) u) Q E s:=by
 obtain⟨kvs,k,b,e,ey,eb,l⟩:=g
 subst ey
 cases(show u=Value.ref b from ry)
 obtain⟨z,hd,xs,rel,dd⟩:=FW I.hok e
 obtain⟨w',hw,rw'⟩:=oG.some_of (v:=v) (o:=(atKey xs k).map (·.2)) (by rw[l];exact rel.val k)
 obtain⟨p,hp,hp2⟩:=eT.mp hw
 refine wpAny_getItem_heap (zS hu) (xT I.hok eb) dd hp ?_
 rw[hp2]
 exact h w' _ (I.tok _) rw'
theorem BG{H':Hp}{Q:Unit->Shared->Prop}(hu:A.units+2<cLine)(I:bw X pins σ H s)(g:Km H a y v H')(ry:cg y u)(rv:cg v r)(h:∀s',bw X pins σ H' s'->Q () s') :
  wpAny (model X.prog X.w) A (setItem (.ref a) u r) Q E s:=by
 obtain⟨kvs,k,b,e,ey,eb,l,eH⟩:=g
 subst ey eH
 cases(show u=Value.ref b from ry)
 obtain⟨z,hd,xs,rel,dd⟩:=Mw I.hok e
 have hz:xs.length<=sizeLine:=by rw[<-Paired.length rel];exact z
 have hl:(iJ kvs k v).length<=sizeLine:=by have:=gg kvs k v;lia
 refine wpAny_setItem_heap (hsz:=hz) (zS hu) (xT I.hok eb) dd λh' dd' hs=>h _ ?_
 obtain⟨q,es,ep,hq,h2,h3,h4,_,h5⟩:=dd'
 refine pQ I (by rw[e];exact True.intro) hs ⟨q,hq⟩ ⟨hl,hd,_,(rel.put k eb rv).keeps λc ys ec=>?_,q,es,ep,hq,h2,h3,h4,h5⟩
 rw[az (zP ec e (λz=>nomatch z))]
 exact ec
theorem Ei(I:bw X pins σ H s)(g:Fb H a y o):s.TypeIs (.ref a) "dict":=by
 obtain⟨kvs,k,b,e,_,_,_⟩:=g
 obtain⟨_,_,xs,_,dd⟩:=FW I.hok e
 exact dd.typeIs
end
def Cw(td ty:TE):TE:=λσ H Q=>td σ H λx H1=>ty σ H1 λy H2=>∃a v,x=.ref a/\Fb H2 a y (some v)/\Q v H2
def Cz:TE:=λ_ H Q=>∀p,H p=none->Q (.ref p) (aQ H p (.dP []))
section
variable{X:Cx}{o i e value:Expr}{pos pos' tpos:Pos}{td ty tv:TE}
theorem GE(hu:X.A.units+2<cLine)(ho:PE X o td)(hi:PE X i ty)(hs:Fq i):PE X (.Subscript o i pos) (Cw td ty):=by
 intro pins s σ H Q I h
 refine DB PySem.F.slot_dict_getitem.lookup hs (d4 (ho pins s σ H _ I h) λu s1 ⟨x,H1,I1,rx,q1⟩=>d4 (hi pins s1 σ H1 _ I1 q1) λiv s2 ⟨y,H2,I2,ry,a,v,ex,g,q2⟩=>?_)
 subst ex
 obtain rfl:u=Value.ref a:=rx
 exact⟨Ei I2 g,BF hu I2 g ry λw' s3 I3 rw'=>⟨v,H2,I3,rw',q2⟩⟩
theorem FV{P:Program}{w:World}{H:Hp}(h:Heap)(hb:sysModules<h.objs.size):dR P w H (h.push {cls:=.type "dict",data:=.dict #[]}) h.objs.size (.dP []):=
 ⟨bq _,beq_eq_false_iff_ne.mpr (Ne.symm (aN hb)),[],.nil,_,#[],0,ax _ rfl,⟨rfl,rfl,rfl⟩,rfl,rfl,cL⟩
theorem GG:PE X (.Dict [] [] pos) Cz:=λpins s σ H Q I h=>
 wpAny_Dict_empty ⟨.ref s.heap.objs.size,_,I.laid (a:=s.heap.objs.size) (o:=.dP []) (t':=s.toks) (λ_ _ q=>ag _ q) (ar _) (FV s.heap I.big),rfl,h _ (I.hok.fresh (ar _))⟩
end
section
variable{X:Cx}{o i:Expr}{td ty:TE}{pos:Pos}
def Hi:V->V->V->Hp->(Hp->Prop)->Prop:=λo i v H Q=>∃a H',o=.ref a/\Km H a i v H'/\Q H'
theorem EI(hu:X.A.units+5<cLine):Fx X Hi:=by
 intro pins s σ H o i v ov iv u Q I ro ri rv h
 obtain⟨a,H',rfl,g,q⟩:=h
 cases ro
 exact BG (by lia) I g ri rv λs' I'=>⟨H',I',q⟩
theorem GX:QE X (.Dict [] [] pos) Cz:=⟨GG⟩
theorem GV(hu:X.A.units+5<cLine)(ho:QE X o td)(hi:QE X i ty)(hs:Fq i):QE X (.Subscript o i pos) (Cw td ty):=⟨GE (by lia) ho.up hi.up hs⟩
end
end L2
end
section
namespace Bg
open PySem L2
def kI(k:Nat):bY:=some (Sum.inl (k:Int))
def ud(k:Nat)(t:List (Bt×Nat)):List (KP×V):=t.map λp=>((kI k,cq p.1),V.int (p.2:Nat))
def pJ(ts:List (List (Bt×Nat)))(i:Nat):List (KP×V):=((cc i).map λk=>ud k ((ts[k]?).getD [])).flatten
def j5(_:Fg):Sp:=λvs H Q _=>∃(l:Addr) (tvs:List V) (ts:List (List (Bt×Nat))),vs=[.ref l]/\H l=some (.lst tvs)/\bj (oH H) tvs ts/\ts.length<=11/\(∀t∈ts,(t.map (·.1)).Nodup/\t.length<=7776)/\
 ∀(D:Addr) (H':Hp),H D=none->H' D=some (.dP (pJ ts ts.length))->aI H H'->Q (.ref D) H'
def kW(_:Fg):Sp:=λvs H Q _=>∃(bp wp lt:Addr) (n:Nat) (b0:Bt) (ws:List Wk) (last dd:List Str),vs=[.ref bp,.ref wp,.ref lt]/\Bk H n b0 ws bp wp/\1<=n/\n<=5/\ws.length<=10/\ka H wp lt ws last/\CP dd last ws/\(∀pss,lN last ws pss->∀ss∈pss,Ir n ss)/\
 ∀(D:Addr) (pss:List (List Str)) (kss:List (List Bt)) (ts:List (List (Bt×Nat))) (H':Hp),H D=none->H' D=some (.dP (pJ ts ts.length))->lN last ws pss->j9 n b0 ws pss (aU n none) kss ts->aI H H'->Q (.ref D) H'
def sE(_:Fg):Sp:=λvs H Q _=>∃(b n:Addr) (os:Bt) (ns:List Str),vs=[.ref b,.ref n]/\H b=some (.tup (cH os))/\H n=some (.tup (ns.map V.str))/\os.length<=1000/\
 ∀(p:Addr) (H':Hp),H' p=some (.tup (cH (bR os ns)))->aI H H'->Q (.ref p) H'
abbrev xQ:Nat:=0
abbrev xg:Nat:=1
abbrev zI:Nat:=6
abbrev yL:Nat:=7
abbrev K5:Nat:=0
abbrev KI:Nat:=1
def Fy(B:Bt)(ws:List Wk)(pss:List (List Str))(gs:List (List Nat)):Prop:=∀(k:Nat) ps ss,gs[k]?=some ps->pss[k]?=some ss->∀(j p:Nat),ps[j]?=some p->∃x,(bR (f9 (rb B ws gs k) (ps.take j)) ss)[p]?=some (some x)
def yp(_:Fg):Sp:=λvs H Q _=>∃(bp wp pt gp lt:Addr) (B:Bt) (ws:List Wk) (last dd:List Str) (pvs gvs:List V) (pss:List (List Str)) (gs:List (List Nat)),vs=[.ref bp,.ref wp,.ref pt,.ref gp]/\H bp=some (.tup (cH B))/\B≠[]/\B.length<=10/\ka H wp lt ws last/\CP dd last ws/\H pt=some (.lst pvs)/\bj (FC H) pvs pss/\lN last ws pss/\H gp=some (.tup gvs)/\bj (vL H) gvs gs/\Fc B ws last gs/\Fy B ws pss gs/\
 ∀(r:Addr) (H':Hp),H' r=some (.tup (cH (rb B ws gs (ws.length+1))))->aI H H'->Q (.ref r) H'
def jr(_:Fg):Sp:=λvs H Q _=>∃(gp:Addr) (gvs:List V) (gs:List (List Nat)) (m n:Nat),vs=[.ref gp,.int (m:Nat),.int (n:Nat)]/\H gp=some (.tup gvs)/\bj (vL H) gvs gs/\gs.length=m+1/\(∀ps∈gs,∀p∈ps,p<n)/\∀(H':Hp),aI H H'->Q (.bl true) H'
abbrev K2:Nat:=1
abbrev KF:Nat:=2
abbrev vi:Nat:=0
abbrev uX:Nat:=1
abbrev Ks:Nat:=8
abbrev Fh:Nat:=9
end Bg
end
section
namespace Bg
open PySem PySem.Spec PyProof.Rows L2
abbrev D5:List Str:=["_law_state"]
abbrev yP:List Str:=["_law_state"]
def AN(K:Fg):TS:=(de (bO (e8 K) (gx (ak (tC (.int 1)) (ak (tC (.int 2)) (ak (tC (.int 3)) (ak (tC (.int 2)) (ak (tC (.int 3)) (ak (tC (.int 3)) (ak (tC (.int 2)) (ak (tC (.int 3)) (ak (tC (.int 4)) (ak (tC (.int 4)) (ak (tC (.int 4)) (ak (tC (.int 4)) (ak (tC (.int 1)) (ak (tC (.int 2)) (ak (tC (.int 3)) (ak (tC (.int 5)) aO))))))))))))))))) (bu (eK K) [] E0 (ak (av 0) (ak (tC (.int 16)) aO)))))
abbrev Be:List Str:=["_law_places_here","_law_works_here","_law_last_here","_law_names_here"]
abbrev vM:List Str:=["_law_places_here","_law_works_here","_law_last_here","_law_names_here","_law_far","_law_k"]
def AS(K:Fg):TS:=(de (av 1))
def jQ(K:Fg):TS:=(bT (bu (kS K) [] E0 (ak (av 0) (ak (av 1) (ak (bu (kx K) [] E0 (ak (av 1) (ak (av 2) (ak (av 3) aO)))) aO)))) (aR 4))
def rQ(K:Fg):TS:=(bx (bT (bO (kQ K) (E5 (Ey K) (av 1) fX (lg (av 5))) (E5 (Ey K) (av 1) (lg (bO (kQ K) (av 5) (tC (.int 1)))) fX)) (aR 1)) (jQ K))
def AU(K:Fg):TS:=(bx (bT (eW (Ky) (ak (bO (e8 K) (av 4) (tC (.int 1))) (ak (bO (tY) (eW (fP K) (ak (av 1) aO)) (tC (.int 1))) aO))) (aR 5)) (rQ K))
def rR(K:Fg):TS:=(bx (mF (Ct (cC (bO (Dq) (av 4) (tC .non))) (cC (bO (z9) (eW (fP K) (ak (av 1) aO)) (tC (.int 0))))) (AU K)) (AS K))
def wU(K:Fg):TS:=(bx (bT (bu (kS K) [] E0 (ak (av 0) (ak (av 1) (ak (bu (kx K) [] E0 (ak (av 1) (ak (av 2) (ak (av 3) aO)))) aO)))) (aR 4)) (rR K))
abbrev Fs:List Str:=["_law_state","_law_places_here","_law_needs","_law_names_here"]
abbrev xj:List Str:=["_law_state","_law_places_here","_law_needs","_law_names_here","_law_left","_law_belt"]
def wJ(K:Fg):TS:=(de (eW (dA K) (ak (av 5) aO)))
def EJ(K:Fg):TS:=(gn (si K "list" dJ (av 5) (ak (si K "list" Cc (av 4) (ak (bu (eK K) [] E0 (ak (av 0) (ak (eW (fP K) (ak (av 4) aO)) aO))) aO)) aO)))
def wK(K:Fg):TS:=(bx (mF (cC (bO (z9) (eW (fP K) (ak (av 4) aO)) (tC (.int 0)))) (EJ K)) (wJ K))
def wL(K:Fg):TS:=(bx (bT (gx aO) (aR 5)) (wK K))
def DE(K:Fg):TS:=(bx (bT (bO (dz K) (eW (x9 K) (ak (av 2) aO)) (dW [] 1 (mi (ak (bO (tY) (av 1) (eW (fP K) (ak (av 2) aO))) aO)) (aR 6) jt (bu (qd K) [] E0 (ak (av 0) (ak (av 3) aO))))) (aR 4)) (wL K))
abbrev sW:List Str:=["_law_belt","_law_makes"]
abbrev jV:List Str:=["_law_belt","_law_makes"]
def lh(K:Fg):TS:=(de (bO (dz K) (lQ (ak (av 1) aO)) (E5 (Iw K) (eW (dA K) (ak (dW [] 1 (iQ K (av 0)) (aR 2) jt (bO (e8 K) (gx (ak (av 2) (ak (tC .non) aO))) (eW (G6) (ak (bO (vo K) (av 2) (av 1)) aO)))) aO)) fX (lg (As oZ (tC (.int 1)))))))
def nU(K:Fg):TS:=(bx (gu (cC (bO (G7) (av 1) (tC .non))) (de (av 0)) eE) (lh K))
abbrev xr:List Str:=["begin","works","last"]
abbrev rj:List Str:=["begin","works","last"]
def rO(K:Fg):TS:=(de (bu (j5 K) [] E0 (ak (bu (i8 K) [] E0 (ak (av 0) (ak (av 1) (ak (av 2) (ak (bu (gM K) [] E0 (ak (av 0) aO)) aO))))) aO)))
abbrev u4:List Str:=["tables"]
abbrev pH:List Str:=["tables","found","k","table","belt","number"]
def uD(K:Fg):TS:=(de (av 1))
def mG(K:Fg):TS:=(bT (av 5) (xH (av 1) (lQ (ak (av 2) (ak (av 4) aO))) Hi))
def mH(K:Fg):TS:=(pw (iT (su (av 3)) (qK K 2 (eQ (aR 4) (eQ (aR 5) pT))) (mG K)))
def mI(K:Fg):TS:=(bx (iT (Ge K (ak (av 0) aO)) (qK K 2 (eQ (aR 2) (eQ (aR 3) pT))) (mH K)) (uD K))
def qh(K:Fg):TS:=(bx (bT Cz (aR 1)) (mI K))
abbrev IK:List Str:=["_law_belt","_law_names_here"]
abbrev Fp:List Str:=["_law_belt","_law_names_here","_law_found","_law_k","_law_thing_here"]
def Ic(K:Fg):TS:=(de (eW (dA K) (ak (av 2) aO)))
def AQ(K:Fg):TS:=(gn (si K "list" dJ (av 2) (ak (bO (e8 K) (gx (ak (tC .non) (ak (av 4) aO))) (eW (G6) (ak (HM (bO ((B9 K false)) (av 4) (av 1)) (bO ((B9 K true)) (av 4) (E5 (Iw K) (av 0) fX (lg (av 3))))) aO))) aO)))
def AR(K:Fg):TS:=(bx (iT (qL K (ak (av 0) aO)) (qK K 2 (eQ (aR 3) (eQ (aR 4) pT))) (AQ K)) (Ic K))
def Ib(K:Fg):TS:=(bx (bT (gx aO) (aR 2)) (AR K))
end Bg
end
section
namespace PySem.W
open PySem PySem.Calls PyProof.Rows PyProof.V PySem.Spec Builtin Builtin.Str Builtin.Int
section
variable{prog:Program}{w:World}{A:Around}{E:Value->Shared->Prop}{s:Shared}{r l:Addr}
end
end PySem.W
namespace L2
open PySem PySem.Spec PyProof.Rows
section
variable{X:Cx}
end
section
variable{X:Cx}
end
section
variable{M:Model}{A:Around}{E:Value->Shared->Prop}{s:Shared}{base:Heap}{env:Env}{outer:List Env}{L e T:Addr}{oe:Obj}{vs:Array Value}
end
open Builtin Builtin.ObjectAttr
section
variable{prog:Program}{w:World}{A:Around}{E:Value->Shared->Prop}{h:Heap}{g:Array GenState}{d:Drawn}{t:Nat}{os:OsState}
variable{nm q:Str}{C N B:Addr}{bs:List Value}{hdct:Bool}{sn:List Str}{sub:List Value}{ab:Bool}{col:Option Bool}{dd:Option Addr}{k0 k1 k2 k3 k5:Option Value}
end
end L2
end
section
namespace L2
open PySem PySem.Spec PyProof.Rows PySem.W
section
variable{prog:Program}{w:World}{A:Around}{E:Value->Shared->Prop}{s:Shared}{K:Fg}{x C D:Addr}{ox od:Obj}{odo:Option Obj}{name:Str}
end
end L2
end
section
namespace L2
open PySem PySem.Spec PyProof.Rows
open Builtin Builtin.ObjectAttr
section
variable{P:Program}{w:World}{H:Hp}{h:Heap}{x C T dx:Addr}{od:Option Addr}{fs:List (Str×V)}
end
section
variable{prog:Program}{w:World}{A:Around}{E:Value->Shared->Prop}{K:Fg}{C x:Addr}{s:Shared}{R:Result->Shared->Prop}
end
section
variable{X:Cx}{pins:List (Addr×Obj)}{σ:St}{H:Hp}{s:Shared}{x C dx:Addr}{fs:List (Str×V)}{f:Str}{v y:V}{u:Value}{A:Around}{E:Value->Shared->Prop}
end
section
variable{X:Cx}{pins:List (Addr×Obj)}{σ:St}{H:Hp}{s:Shared}{x C T T':Addr}{od:Option Addr}{M:Model}{E:Value->Shared->Prop}
end
section
variable{P:Program}{w:World}{K:Fg}{mg:Str->Option Value}{base:Heap}{N:List Str}{qual:Str}{scope:Scope}{f:Addr}{cd:Value}{A:Around}{outer:List Env}{s:Shared}{H:Hp}{E:XK}
end
section
variable{X:Cx}{k:Nat}{f C:Addr}{fd:FuncData}{ps:List Str}{sp:Sp}{x:Str}{p pos apos:Pos}{e o value:Expr}{es:List Expr}{ta tv:TE}{t:TA}
end
section
variable{X:Cx}{pins pins':List (Addr×Obj)}{σ:St}{H:Hp}{s:Shared}{E:Value->Shared->Prop}{x:Addr}
end
section
variable{X:Cx}
end
section
variable{prog:Program}{w:World}{A:Around}{E:Value->Shared->Prop}{s:Shared}{K:Fg}{x C D:Addr}{ox od:Obj}
end
section
variable{prog:Program}{w:World}{A:Around}{R:Result->Shared->Prop}{I:Addr}{fp wr:List Addr}{n:Nat}{P:Nat->Value->Prop}{St:Nat->Heap->Prop}
end
section
variable{prog:Program}{w:World}{A:Around}{E:Value->Shared->Prop}{s:Shared}{l:Addr}{xs:Array (Int×Tok)}
end
section
variable{X:Cx}
end
section
variable{prog:Program}{w:World}{A:Around}{E:Value->Shared->Prop}{s:Shared}
end
section
variable{X:Cx}
end
section
variable{X:Cx}{k:Nat}{C:Addr}{ps:List Str}{sp:Sp}{x:Str}{p pos:Pos}{e o value:Expr}{es:List Expr}{ta tv te:TE}{t:TA}{E:XK}
end
section
variable{P:Program}{w:World}{K:Fg}{mg:Str->Option Value}{base:Heap}{N:List Str}{qual:Str}{scope:Scope}{f:Addr}{cd:Value}{A:Around}{outer:List Env}{s:Shared}{H:Hp}{E:XK}
end
section
variable{X:Cx}
end
end L2
end
section
namespace HT
open PySem PySem.Spec PyProof.Rows
section
variable{prog:Program}{w:World}{A:Around}{E:Value->Shared->Prop}{s:Shared}
end
end HT
namespace L2
open PySem PySem.Spec PyProof.Rows
section
variable{X:Cx}{e st:Expr}{te ts:TE}{pos p2:Pos}
end
section
variable{X:Cx}
theorem f7(ha:QE X a ta)(hb:QE X b tb)(h:xu b:=by exact λ_ _=>rfl):QE X (.Subscript a b pos) (bO (e8 X.K) ta tb):=MX KZ ha hb h
theorem e9{x:Str}(c:b7 X.prog X.w X.K X.mg X.base x ps k sp)(ha:QA X (e::es) t)(hr:ic k X.A:=by exact ic.mono (by assumption) (by decide))(hg:Gl X x:=by rfl)(h1:(x==("__debug__":Str))=false:=by decide)
  (h2:starEach (e::es) X.env=(false,eval e X.env)::starEach es X.env:=by rfl) (h3:(backTo pos (starEach es X.env)).any (·.1)=false:=by rfl):QE X (.Call (.Name x p) (e::es) [] pos) (bu sp [] E0 t):=MW c hr hg ha h1 h2 h3
theorem gL(B:kD X.mg)(ha:QA X (e::es) t)(hg:Gl X "len":=by rfl)(h2:starEach (e::es) X.env=(false,eval e X.env)::starEach es X.env:=by rfl)(h3:(backTo pos (starEach es X.env)).any (·.1)=false:=by rfl):QE X (.Call (.Name "len" p) (e::es) [] pos) (eW (fP X.K) t):=dy FL hg B.len_ boot_len ha (by decide) (by decide) h2 h3
theorem fA(i:Nat){x:Str}(he:QE X e te)(hi:X.N[i]?=some x:=by rfl)(hN:X.N.Nodup:=by assumption)(hx:Fm X.env.scope x:=by first|exact Or.inl rfl|exact Or.inr rfl)(hs:swapsWith e (some (.Name x pos')) pos.line X.env=pure false:=by rfl)
  (hf:X.fn x=true\/X.env.scope.names.lookup x=some .local:=by first|exact .inl rfl|exact .inr rfl|assumption):QS X (.Assign [.Name x pos'] e pos) (bT te (aR i)):=LR hN hi hx he hs hf
theorem gQ(i:Nat){x:Str}(hi:X.N[i]?=some x:=by rfl)(hN:X.N.Nodup:=by first|assumption|(dsimp only[cU];decide +kernel))(hx:Fm X.env.scope x:=by first|exact Or.inl rfl|exact Or.inr rfl)
  (hf:X.fn x=true\/X.env.scope.names.lookup x=some .local:=by first|exact .inl rfl|exact .inr rfl|assumption):QG X (.Name x pos) (aR i):=JV hN hi hx hf
theorem wB{s1:Stmt}(hc:QT X c tc)(ha:QS X s1 t):QS X (.If c [s1] [] pos) (gu tc t eE):=tV hc (aT ha) mU
theorem bQ(ha:QE X e te)(hs:starEach [e] X.env=(false,eval e X.env)::starEach [] X.env:=by rfl):QA X [e] (ak te aO):=aD ha gH hs
theorem oW(ho:QE X o to)(ha:QE X e te)(hbase:attributeBase o "append" X.env (eval o X.env)=eval o X.env:=by rfl)
  (hfew:((backTo cpos (starEach [e] X.env)).all (λx=>!x.1)&&(backToKw cpos (keywordEach [] X.env)).all (λx=>x.1.isSome)&&decide (([e]:List Expr).length+([]:List Keyword).length+(if([]:List Keyword).isEmpty then 0 else 1)<30))=true:=by rfl)
  (hline:(apos.endLine==cpos.line)=true:=by rfl) (hs:starEach [e] X.env=(false,eval e X.env)::starEach [] X.env:=by rfl) (hp:(backTo cpos (starEach [] X.env)).any (·.1)=false:=by rfl) :
  QE X (.Call (.Attribute o "append" apos) [e] [] cpos) (si X.K "list" dJ to (ak te aO)):=wA cW PySem.F.slot_list_append PySem.F.type_list_append we ho (bQ ha hs) hbase hfew hline hs hp
theorem N2(ho:QE X o to)(ha:QE X e te)(hbase:attributeBase o "join" X.env (eval o X.env)=eval o X.env:=by rfl)
  (hfew:((backTo cpos (starEach [e] X.env)).all (λx=>!x.1)&&(backToKw cpos (keywordEach [] X.env)).all (λx=>x.1.isSome)&&decide (([e]:List Expr).length+([]:List Keyword).length+(if([]:List Keyword).isEmpty then 0 else 1)<30))=true:=by rfl)
  (hline:(apos.endLine==cpos.line)=true:=by rfl) (hs:starEach [e] X.env=(false,eval e X.env)::starEach [] X.env:=by rfl) (hp:(backTo cpos (starEach [] X.env)).any (·.1)=false:=by rfl) :
  QE X (.Call (.Attribute o "join" apos) [e] [] cpos) (si X.K "str" (G8 X.K) to (ak te aO)):=wA PySem.F.plainAttrs_str PySem.F.slot_str_join PySem.F.type_str_join Jo ho (bQ ha hs) hbase hfew hline hs hp
theorem x5(st:Stmt)(N ext:List Str)(js:List Nat)(it:QI X target iter wi)(hg:∀{cl C s₀ H₀ fp},QG (cU X (N++ext) scope cl C s₀ H₀ fp) target g)(hi:∀{cl C s₀ H₀ fp},D7 (cU X (N++ext) scope cl C s₀ H₀ fp) ifs tc)(he:∀{cl C s₀ H₀ fp},QE (cU X (N++ext) scope cl C s₀ H₀ fp) elt te)
  (ok:oB (cN st) N scope (N++ext) js:=by exact⟨rfl,by decide +kernel,by decide +kernel,by decide +kernel,rfl,by decide +kernel⟩) (h1:X.env.scope=cN st:=by rfl) (h2:X.N=N:=by rfl) (h3:(N++ext).length=N.length+k:=by rfl) (h4:X.calm=true:=by rfl)
  (hs:∀x,foldedSetIterable iter X.env x=pure x:=by intro _;rfl):QE X (.ListComp elt [⟨target,iter,ifs,0⟩] scope pos) (dW js k wi g tc te):=JU ok h1 h2 h3 h4 it (λ_ _ _ _ _=>hg) (λ_ _ _ _ _=>hi) (λ_ _ _ _ _=>he) hs
theorem ND(st:Stmt)(N ext:List Str)(js:List Nat)(i:Nat){y:Str}(it:QI X target iter wi)(hg:∀{cl C s₀ H₀ fp},QG (cU X (N++ext) scope cl C s₀ H₀ fp) target g)(hi:∀{cl C s₀ H₀ fp},D7 (cU X (N++ext) scope cl C s₀ H₀ fp) ifs tc)(he:∀{cl C s₀ H₀ fp},QE (cU X (N++ext) scope cl C s₀ H₀ fp) elt te)
  (ok:oB (cN st) N scope (N++ext) js:=by exact⟨rfl,by decide +kernel,by decide +kernel,by decide +kernel,rfl,by decide +kernel⟩) (h1:X.env.scope=cN st:=by rfl) (h2:X.N=N:=by rfl) (h3:(N++ext).length=N.length+k:=by rfl) (h4:X.calm=true:=by rfl)
  (nd:X.N.Nodup:=by assumption) (hy:X.N[i]?=some y:=by rfl) (hl:Fm X.env.scope y:=by first|exact Or.inl rfl|exact Or.inr rfl) (hw:swapsWith (.ListComp elt [⟨target,iter,ifs,0⟩] scope pos) (some (.Name y py)) spos.line X.env=pure true:=by rfl)
  (hs:∀x,foldedSetIterable iter X.env x=pure x:=by intro _;rfl) (hf:X.fn y=true\/X.env.scope.names.lookup y=some .local:=by first|exact .inl rfl|exact .inr rfl|assumption):QS X (.Assign [.Name y py] (.ListComp elt [⟨target,iter,ifs,0⟩] scope pos) spos) (bT (dW js k wi g tc te) (aR i)):=J0 ok h1 h2 h3 h4 it (λ_ _ _ _ _=>hg) (λ_ _ _ _ _=>hi) (λ_ _ _ _ _=>he) nd hy hl hw hs hf
end
end L2
namespace Bg
open PySem PySem.Spec PyProof.Rows L2
def cX(K:Fg)(x:Str)(st:Stmt):Prop:=∃(f:Addr) (oc:Value) (od:Option Addr) (kV doc pm:Value) (an:Option Addr) (cdv ct:Value) (osl:Array (Option Value)),
 bB K mainGlobals x=some (some (.ref f))/\K.lookup f=some ⟨oc,od,.func (d9 x x (kJ st) (ix st) (cN st) .none kV doc pm an cdv ct),osl⟩/\gE K cdv x=true/\fh K (.ref f)=true
theorem defAt{K:Fg}{x:Str}{st:Stmt}{f:Addr}{oc:Value}{od:Option Addr}{kV doc pm:Value}{an:Option Addr}{cdv ct:Value}{osl:Array (Option Value)}(a:bB K mainGlobals x=some (some (.ref f)))(l:K.lookup f=some ⟨oc,od,.func (d9 x x (kJ st) (ix st) (cN st) .none kV doc pm an cdv ct),osl⟩)(c:gE K cdv x=true)(k:fh K (.ref f)=true):cX K x st:=⟨f,oc,od,kV,doc,pm,an,cdv,ct,osl,a,l,c,k⟩
def kB(P:Program)(w:World)(K:Fg)(mg:Str->Option Value)(base:Heap)(N:List Str)(q:Str)(st:Stmt)(k:Nat)(t:TS):Prop:=
 ∀{f:Addr} {cdv:Value} {A:Around} {outer:List Env} {s:Shared} {H:Hp} {E:XK},ic k (A.deeper (envOfC q (cN st) s.heap.objs.size f cdv))->Bf (zd Iq P w K mg base N q (cN st) f cdv A outer s H E).nox (ix st) t
section
variable{P:Program}{w:World}{K:Fg}{mg:Str->Option Value}{base h:Heap}{x q:Str}{N ps:List Str}{st:Stmt}{k:Nat}{sp:Sp}
theorem lO{t:TS}(d:∀{f:Addr} {cdv:Value} {A:Around} {outer:List Env} {s:Shared} {H:Hp} {E:XK},N.Nodup->(A.deeper (envOfC q (cN st) s.heap.objs.size f cdv)).units<cLine->(A.deeper (envOfC q (cN st) s.heap.objs.size f cdv)).units+1<cLine->ic k (A.deeper (envOfC q (cN st) s.heap.objs.size f cdv))->
  IL (zd Iq P w K mg base N q (cN st) f cdv A outer s H E).nox (ix st) t) (nd:N.Nodup:=by decide +kernel):kB P w K mg base N q st k t:=λhr=>(d nd hr.units0 (Mz hr) hr).up
structure NJ(x:Str)(N ps:List Str)(st:Stmt)(sp:Sp):Prop where
 S:so N ps (cN st):=by exact⟨rfl,rfl,rfl,by decide +kernel,rfl,by decide +kernel,by decide +kernel⟩
 len:∀vs H Q E,sp vs H Q E->vs.length=ps.length:=by(intro _ _ _ _ h;(repeat obtain⟨_,h⟩:=h)<;>(subst_vars;rfl))
 bd:∀(kV doc pm:Value) (an:Option Addr) (cdv ct:Value) (us:List Value),us.length=ps.length->bindArgs (d9 x x (kJ st) (ix st) (cN st) .none kV doc pm an cdv ct) ⟨us,[]⟩=pure (ps.zip us):=by
   (intro _ _ _ _ _ _ us hl;first|(obtain⟨_,rfl⟩:=NV (us:=us) hl;rfl)|(obtain⟨_,_,rfl⟩:=NW (us:=us) hl;rfl)|(obtain⟨_,_,_,rfl⟩:=NX (us:=us) hl;rfl)|(obtain⟨_,_,_,_,rfl⟩:=NZ (us:=us) hl;rfl)|(obtain⟨_,_,_,_,_,rfl⟩:=le5 (us:=us) hl;rfl)|(obtain⟨_,_,_,_,_,_,rfl⟩:=le6 (us:=us) hl;rfl)|(obtain⟨_,_,_,_,_,_,_,rfl⟩:=le7 (us:=us) hl;rfl)|(obtain rfl:=le0 (us:=us) hl;rfl))
theorem lV{t:TS}(X:K.In h)(G:h.Ns mainGlobals mg)(l:cX K x st)(d:kB P w K mg base N x st k t)(r:∀vs H Q E,sp vs H Q E->t {nx:=λ_ H'=>Q .non H',rt:=Q} (start N vs) H)(z:NJ x N ps st sp:=by exact{}):b7 P w K mg base x ps (k+1) sp:=by
 obtain⟨f,oc,od,kV,doc,pm,an,cdv,ct,osl,a,lk,c,kp⟩:=l
 have F:=F9 lk c kp
 exact⟨⟨f,_,PySem.W.mg_of X G a,kp,F.binds (ps:=ps) z.bd,F.ok z.S z.len λcdv A outer s H vs Q E hr z=>⟨t,d hr,r vs H Q E z⟩⟩⟩
theorem ME{p:Str}{fa:Addr}{t:TS}(X:K.In h)(G:h.Ns mainGlobals mg)(hfa:mg "law"=some (.ref fa))(l:cX K "law" st)(d:∀base,kB P w K mg base N "law" st k t)(r:∀vs H Q E,sp vs H Q E->t {nx:=λ_ H'=>Q .non H',rt:=Q} (start N vs) H)(z:NJ "law" N [p] st sp:=by exact{}) :
  ∃fd:FuncData,(∀(s:Shared) (v:Value),BindsTo s fd ⟨[v],[]⟩ [(p,v)])/\∀base:Heap,K.In base->base.Ns mainGlobals mg->uU P w K mg base Iq (k+1) fa fd [p] sp:=by
 obtain⟨f,oc,od,kV,doc,pm,an,cdv,ct,osl,a,lk,c,kp⟩:=l
 have e:=hfa.symm.trans (PySem.W.mg_of X G a)
 cases e
 have F:=F9 lk c kp
 exact⟨_,λs v=>.of_eq (z.bd kV doc pm an cdv ct [v] rfl),λbase _ _=>F.ok z.S z.len λcdv A outer s H vs Q E hr z=>⟨t,d base hr,r vs H Q E z⟩⟩
end
end Bg
end
section
namespace L2
open PySem PySem.Spec PyProof.Rows
section
variable{X:Cx}
def Hj(K:Fg):List V->Hp->VK->Prop:=λxs H Q=>∃(p:Addr) (ns:List Int),xs=[.ref p]/\cx K H p (ns.map V.int)/\Q (.int ns.sum) H
theorem vT(hc:X.calm=true):g8 X (.builtin "sum") (Hj X.K):=by
 intro pins s σ H xs us Q I r h
 obtain⟨p,ns,rfl,hq,q⟩:=h
 obtain⟨u,rfl,rx⟩:=kz r
 cases rx
 obtain⟨its,rv,pl,hz⟩:=I.list hq
 have intsOf:∀(ns:List Int) (its:List Value),bX (ns.map V.int) its->∃xs:List (Int×Tok),(its=xs.map λp=>Value.int p.1 p.2)/\ns=xs.map (·.1):=by
  intro ns
  induction ns with
  |nil=>intro its r;cases r;exact⟨[],rfl,rfl⟩
  |cons n ns ih=>
   intro its r
   cases r with
   |cons r rr=>
    obtain⟨xs,rfl,e⟩:=ih _ rr
    obtain⟨t,rfl⟩:=r
    exact⟨(n,t)::xs,rfl,by rw[e];rfl⟩
 obtain⟨xs,rfl,rfl⟩:=intsOf ns its rv
 refine sum_intListG (xs:=xs.toArray) (I.ok.hd hc) ?_ λh' tk t' hk=>⟨.int _,H,I.kept hk,⟨t',rfl⟩,?_⟩
 ·have e:=pl.isList
  simpa[intItems] using e
 ·rw[preSum_eq,dI (by simp)]
  simpa using q
end
end L2
end
section
namespace Bg
open PySem PySem.Spec PyProof.Rows L2
def lS(i:Nat):Stmt:=PySem.Challenge.pw_beltgarth_k64_whole_fewest_done.main.body.getD i (.Pass ⟨0,0,0,0⟩)
abbrev ug:Stmt:=lS 1
abbrev pj:Stmt:=lS 3
abbrev kR:Stmt:=lS 4
abbrev nR:Stmt:=lS 6
abbrev mz:Stmt:=lS 7
abbrev Ai:Stmt:=lS 8
abbrev rG:Stmt:=lS 10
abbrev uf:Stmt:=lS 11
abbrev nQ:Stmt:=lS 12
abbrev qb:Stmt:=lS 13
abbrev jI:Stmt:=lS 14
abbrev eJ:Stmt:=lS 15
abbrev ph:Stmt:=lS 16
abbrev gb:Stmt:=lS 17
abbrev Ah:Stmt:=lS 18
abbrev ui:Stmt:=lS 19
abbrev my:Stmt:=lS 20
abbrev uh:Stmt:=lS 21
abbrev iS:Stmt:=lS 22
abbrev qc:Stmt:=lS 23
abbrev j4:Stmt:=lS 24
abbrev HC:Stmt:=lS 26
abbrev yj:Stmt:=lS 27
abbrev Aj:Stmt:=lS 28
abbrev Dx:Stmt:=lS 29
abbrev yk:Stmt:=lS 30
abbrev rF:Stmt:=lS 31
abbrev uj:Stmt:=lS 32
abbrev qU:Stmt:=lS 33
abbrev HE:Stmt:=lS 34
abbrev wD:Stmt:=lS 35
abbrev yh:Stmt:=lS 36
abbrev HF:Stmt:=lS 37
abbrev j3:Stmt:=lS 38
abbrev yi:Stmt:=lS 39
abbrev IH:List Str:=["_law_begin_here","_law_works_here","_law_points_here","_law_groups"]
abbrev xk:List Str:=["_law_begin_here","_law_works_here","_law_points_here","_law_groups","_law_belt","_law_k","_law_place"]
def HQ(K:Fg):TS:=(de (av 4))
def Aw(K:Fg):TS:=(bx (gu (yw (tB (eW (G2 K) (ak (dW [] 1 (iQ K (bO (e8 K) (av 2) (As oZ (tC (.int 1))))) (aR 7) jt (bO ((B9 K false)) (av 7) (av 4))) aO)))) (de (tC .non)) eE) (HQ K))
def Ax(K:Fg):TS:=(bT (bu (jq K) [] E0 (ak (av 4) (ak (bO (e8 K) (bO (e8 K) (av 1) (av 5)) (tC (.int 1))) aO))) (aR 4))
def Ay(K:Fg):TS:=(gu (cC (bO (Ca) (av 5) (eW (fP K) (ak (av 1) aO)))) (bx (gu (yw (tB (eW (G2 K) (ak (dW [] 1 (iQ K (bO (e8 K) (bO (e8 K) (av 1) (av 5)) (tC (.int 0)))) (aR 7) jt (bO ((B9 K false)) (av 7) (av 4))) aO)))) (de (tC .non)) eE) (Ax K)) eE)
def Az(K:Fg):TS:=(bT (bO (dz K) (lQ (ak (bO (e8 K) (av 4) (av 6)) aO)) (E5 (Iw K) (av 4) fX (lg (As oZ (tC (.int 1)))))) (aR 4))
def AA(K:Fg):TS:=(bx (gu (cC (bO (G7) (bO (e8 K) (bu (sE K) [] E0 (ak (av 4) (ak (bO (e8 K) (av 2) (av 5)) aO))) (av 6)) (tC .non))) (de (tC .non)) eE) (Az K))
def AB(K:Fg):TS:=(bx (iT (iQ K (bO (e8 K) (av 3) (av 5))) (aR 6) (AA K)) (Ay K))
def AC(K:Fg):TS:=(bx (iT (mi (ak (bO (dz K) (eW (fP K) (ak (av 1) aO)) (tC (.int 1))) aO)) (aR 5) (AB K)) (Aw K))
def HP(K:Fg):TS:=(bx (bT (av 0) (aR 4)) (AC K))
abbrev nO:Stmt:=lS 40
abbrev sX:List Str:=["_law_groups","_law_many","_law_places_here"]
abbrev nB:List Str:=["_law_groups","_law_many","_law_places_here","_law_group","_law_place"]
def sj(K:Fg):TS:=(de (tC (.bl true)))
def lp(K:Fg):TS:=(gu (L7 (yw (tB (eW (J4 K) (ak (av 4) (ak (tC (.ty "int")) aO))))) (L7 (tB (eW (J4 K) (ak (av 4) (ak (tC (.ty "bool")) aO)))) (yw (cC (Cu (NF) (Ca) (tC (.int 0)) (av 4) (av 2)))))) (de (tC (.bl false))) eE)
def lq(K:Fg):TS:=(iT (iQ K (av 3)) (aR 4) (lp K))
def lu(K:Fg):TS:=(bx (gu (yw (tB (eW (J4 K) (ak (av 3) (ak (tC (.ty "tuple")) aO))))) (de (tC (.bl false))) eE) (lq K))
def lx(K:Fg):TS:=(bx (iT (iQ K (av 0)) (aR 3) (lu K)) (sj K))
def nV(K:Fg):TS:=(bx (gu (L7 (yw (tB (eW (J4 K) (ak (av 0) (ak (tC (.ty "tuple")) aO))))) (cC (bO (Cb K) (eW (fP K) (ak (av 0) aO)) (bO (dz K) (av 1) (tC (.int 1)))))) (de (tC (.bl false))) eE) (lx K))
abbrev Dv:Stmt:=lS 41
abbrev Ft:List Str:=["_law_script"]
abbrev CS:List Str:=["_law_script","_law_state","_law_places_here","_law_names_here","_law_works_here","_law_last_here","_law_points_here","_law_begin_here","_law_groups","_law_many"]
def DF(K:Fg):TS:=(de (bO (vo K) (eW (Hj K) (ak (dW [] 1 (iQ K (bu (jJ K) [] E0 (ak (av 7) (ak (av 4) (ak (av 5) aO))))) (aR 10) jt (eW (fP K) (ak (av 10) aO))) aO)) (av 9)))
def DG(K:Fg):TS:=(bx (gu (cC (bO (Cb K) (Cw (bu (kW K) [] E0 (ak (av 7) (ak (av 4) (ak (av 5) aO)))) (lQ (ak (tC (.int 0)) (ak (bu (sE K) [] E0 (ak (av 7) (ak (bO (e8 K) (av 6) (tC (.int 0))) aO))) aO)))) (av 9))) (de (tC (.bl false))) eE) (DF K))
def DH(K:Fg):TS:=(bx (bT (eW (Hj K) (ak (dW [] 1 (iQ K (av 8)) (aR 10) jt (eW (fP K) (ak (av 10) aO))) aO)) (aR 9)) (DG K))
def DI(K:Fg):TS:=(bx (gu (L7 (yw (tB (bu (jr K) [] E0 (ak (av 8) (ak (eW (fP K) (ak (av 4) aO)) (ak (av 2) aO)))))) (cC (bO (G7) (bu (yp K) [] E0 (ak (av 7) (ak (av 4) (ak (av 6) (ak (av 8) aO))))) (tC .non)))) (de (tC (.bl false))) eE) (DH K))
def DJ(K:Fg):TS:=(bx (bT (bu (jJ K) [] E0 (ak (av 7) (ak (av 4) (ak (av 5) aO)))) (aR 8)) (DI K))
def DK(K:Fg):TS:=(bx (bT (bu (uw K) [] E0 (ak (av 1) (ak (av 2) (ak (bO (e8 K) (av 6) (tC (.int 0))) (ak (av 3) aO))))) (aR 7)) (DJ K))
def DM(K:Fg):TS:=(bx (bT (bu (kx K) [] E0 (ak (av 4) (ak (av 5) (ak (av 3) aO)))) (aR 6)) (DK K))
def DN(K:Fg):TS:=(bx (bT (bu (pq K) [] E0 (ak (av 2) (ak (av 4) (ak (av 5) (ak (av 3) aO))))) (aR 4)) (DM K))
def DO(K:Fg):TS:=(bx (bT (bu (yr K) [] E0 (ak (av 1) (ak (av 3) (ak (av 2) aO)))) (aR 5)) (DN K))
def AI(K:Fg):TS:=(bx (bT (bu (uy K) [] E0 (ak (av 1) (ak (av 3) (ak (bO (e8 K) (gx (ak (tC (.int 10)) (ak (tC (.int 10)) (ak (tC (.int 10)) (ak (tC (.int 6)) (ak (tC (.int 3)) aO)))))) (bO (tY) (av 2) (tC (.int 1)))) aO)))) (aR 4)) (DO K))
def AJ(K:Fg):TS:=(bx (bT (bu (ux K) [] E0 (ak (av 1) (ak (bO (dz K) (tC (.int 1)) (bu (eK K) [] E0 (ak (av 1) (ak (bO (dz K) (av 2) (tC (.int 2))) aO)))) aO))) (aR 3)) (AI K))
def AK(K:Fg):TS:=(bx (bT (bu (qW K) [] E0 (ak (av 1) aO)) (aR 2)) (AJ K))
def KB(K:Fg):TS:=(bx (bT (gx (ak (av 0) (ak (tC (.int 0)) (ak (tC (.int 0)) aO)))) (aR 1)) (AK K))
section
variable(P:Program)(w:World)(K:Fg)(mg:Str->Option Value)(base:Heap)
abbrev sM:=b7 P w K mg base "pushed" yR A6 (mD K)
abbrev rg:=b7 P w K mg base "without" xt yM (kX K)
abbrev jS:=b7 P w K mg base "any_order" sY uY (gM K)
abbrev lZ:=b7 P w K mg base "counted" xp yJ (i8 K)
abbrev pC:=b7 P w K mg base "by_pairs" u4 xg (j5 K)
abbrev pD:=b7 P w K mg base "followed" u5 xh (j6 K)
abbrev sN:=b7 P w K mg base "spread" yS A7 (jK K)
abbrev kF:=b7 P w K mg base "worked" yV Ba (gm K)
abbrev sP:=b7 P w K mg base "weaker" yU A9 (mE K)
abbrev iX:=b7 P w K mg base "belts_that_come" mf mY (fj K)
abbrev jT:=b7 P w K mg base "wanted_at" tf u0 (gN K)
abbrev q0:=b7 P w K mg base "has_all" xq yK (kU K)
abbrev sO:=b7 P w K mg base "turned" yT A8 (jL K)
abbrev pF:=b7 P w K mg base "seen" D4 Fj (ja K)
abbrev fZ:=b7 P w K mg base "places_to_keep" mZ oD (dG K)
abbrev pE:=b7 P w K mg base "kept" D3 Fi (gj K)
abbrev kE:=b7 P w K mg base "set_anew" u6 xi (iB K)
abbrev k9:=b7 P w K mg base "belts_ahead" qI rS (ir K)
abbrev nv:=b7 P w K mg base "next_keep" sZ uZ (fm K)
abbrev lY:=b7 P w K mg base "_law_draw" II KG (eK K)
abbrev xc:=b7 P w K mg base "_law_thing" Fv IE (qd K)
abbrev qZ:=b7 P w K mg base "_law_is_wanted" xo yI (kT K)
abbrev sQ:=b7 P w K mg base "_law_points" D6 Fl (kx K)
abbrev vJ:=b7 P w K mg base "_law_crowded" Bd DY (kS K)
abbrev ni:=b7 P w K mg base "_law_behind_work" sW uW (jq K)
abbrev A3:=b7 P w K mg base "_law_seen" IK KI (sE K)
abbrev sL:=b7 P w K mg base "fewest" yQ A5 (jJ K)
abbrev q9:=b7 P w K mg base "numbers" xr yL (kW K)
abbrev E7:=b7 P w K mg base "_law_done" IH KF (yp K)
abbrev nj:=b7 P w K mg base "_law_groups_good" sX uX (jr K)
abbrev CM:=b7 P w K mg base "_law_begin" Fs IC (uw K)
abbrev vK:=b7 P w K mg base "_law_thinned" Be DZ (pq K)
abbrev E8:=b7 P w K mg base "_law_last" IJ KH (yr K)
abbrev CO:=b7 P w K mg base "_law_works" Fw IF (uy K)
abbrev CN:=b7 P w K mg base "_law_names" Fu ID (ux K)
abbrev yE:=b7 P w K mg base "_law_places" D5 Fk (qW K)
end
section
variable{P:Program}{w:World}{K:Fg}{mg:Str->Option Value}{base:Heap}
theorem vc(B:kD mg) :kB P w K mg base nH "any_order" nQ vj (nY K):=lO λnd hu hu1 hr=>by exact
 (aT (bG (bJ fN (gK (bQ eP)) (gL B (bQ (qv 0))))))
theorem By(B:kD mg) :kB P w K mg base sS "pushed" ug BM (uJ K):=lO λnd hu hu1 hr=>by exact
 (aT (bG (fO mC (bJ b5 (gK (bQ (qv 1))) (qv 0)) iz (iA (gL B (bQ (qv 0)))))))
theorem xF(B:kD mg)(c_p_pushed:sM P w K mg base):kB P w K mg base kG "set_anew" kR xS (qj K):=lO λnd hu hu1 hr=>by exact
 (aT (bG (e9 c_p_pushed (aD (bV bP rfl B.tuple_ boot_tuple (bQ (x5 kR kG ["name"] [] (eG (qv 0)) (gQ 2) eU (zY (bM (kM hu) (qv 2) (qv 1) rfl) eP (qv 2))))) (bQ (qv 1))))))
theorem FO(B:kD mg)(c_p_set_anew:kE P w K mg base):kB P w K mg base yN "kept" Ah Gm (AL K):=lO λnd hu hu1 hr=>by exact
 (aT (bG (e9 c_p_set_anew (aD (qv 0) (bQ (f7 (qv 0) (qv 1)))))))
theorem oM(B:kD mg) :kB P w K mg base f6 "places_to_keep" gb oQ (ju K):=lO λnd hu hu1 hr=>by exact
 (aH (fA 1 (bJ oU (gL B (bQ (qv 0))) aL)) (aH (wB (bM sy (f7 (qv 0) (qv 1)) eP rfl) (bG (dq (bQ (qv 1))))) (aT (bG (x5 gb f6 ["place","name"] [] (pZ rfl B.enumerate_ (bQ (qv 0))) (jn rfl (cy (gQ 2) (cy (gQ 3) fW))) (kP (bM sy (qv 3) eP rfl)) (qv 2))))))
theorem vd(B:kD mg)(c_p_places_to_keep:fZ P w K mg base)(c_p_kept:pE P w K mg base):kB P w K mg base jW "next_keep" j4 vk (oq K):=lO λnd hu hu1 hr=>by exact
 (aT (bG (f7 (x5 j4 jW ["place"] [] (eG (e9 c_p_places_to_keep (bQ (qv 1)))) (gQ 2) (kP (bM (kM hu) (jG hu1 (qv 0) (e9 c_p_kept (aD (qv 1) (bQ (qv 2)))) (λ_ _=>rfl)) (bJ oU (jG hu1 (qv 0) (qv 1) (λ_ _=>rfl)) aL) rfl)) (qv 2)) aL)))
theorem FP(B:kD mg) :kB P w K mg base yO "seen" Ai Gn (AM K):=lO λnd hu hu1 hr=>by exact
 (aH (fA 2 (dq gH)) (aH (dS PassesOwn.never rfl (eG (qv 0)) (gQ 3) (aT (eC (oW (qv 2) (zY (QW.pt (tW (bM gi (qv 3) (qv 1) rfl) (p7 (bM kO (qv 3) (qv 2) rfl)))) (qv 3) eP))))) (aT (bG (bV bP rfl B.tuple_ boot_tuple (bQ (qv 2)))))))
theorem BC(B:kD mg)(c_p_set_anew:kE P w K mg base)(c_p_seen:pF P w K mg base):kB P w K mg base sU "worked" ui BQ (uO K):=lO λnd hu hu1 hr=>by exact
 (aH (wB (bM tN (f7 (qv 1) aL) eP rfl) (bG (e9 c_p_seen (aD (qv 0) (bQ (qv 2)))))) (aT (bG (e9 c_p_seen (aD (e9 c_p_set_anew (aD (qv 0) (bQ (f7 (qv 1) aL)))) (bQ (qv 2)))))))
theorem rW(B:kD mg) :kB P w K mg base iP "belts_ahead" iS rZ (ly K):=lO λnd hu hu1 hr=>by exact
 (aH (fA 1 (bV (pN rfl (xK hr)) rfl B.dict_ boot_dict (bQ (G0 (x5 iS iP [] [2] (p6 (qv 0)) (gQ 2) eU (gK (aD (qv 2) (bQ (dq gH))))))))) (aH (ko (dS PassesOwn.never rfl (qS (qv 0) ⟨rfl,rfl⟩) (jn rfl (cy (gQ 2) (cy (gQ 3) fW))) (aT (dS PassesOwn.never rfl (eG (qv 3)) (gQ 4) (aT (eC (oW (jG hu1 (qv 1) (qv 4) (λ_ _=>rfl)) (qv 2)))))))) (aT (bG (qv 1)))))
theorem Bz(B:kD mg)(c_p_belts_ahead:k9 P w K mg base):kB P w K mg base sT "spread" uh BN (uL K):=lO λnd hu hu1 hr=>by exact
 (aH (fA 2 (e9 c_p_belts_ahead (bQ (qv 1)))) (aH (fA 3 GW) (aH (ko (dS PassesOwn.never rfl (qS (qv 0) ⟨rfl,rfl⟩) (jn rfl (cy (gQ 4) (cy (gQ 5) fW))) (aT (eC (oW (zX (qv 3) (qv 5) (dq gH) ⟨rfl,rfl,rfl,rfl⟩) (qv 4)))))) (aH (fA 6 tT) (aH (kq PassesOwn.never (bM rA (dy Bu rfl B.len_ boot_len (bQ (qv 3))) aL rfl) (aH (fA 5 (dy (Bv rfl) rfl B.min_ boot_min (bQ (qv 3)))) (aH (fA 7 (GY (qv 3) (qv 5) ⟨rfl,rfl,rfl,rfl⟩)) (aT (dS PassesOwn.never rfl (eG (qv 7)) (gQ 4) (aT (tV (bM (wx hu1) (qv 4) (qv 6) rfl) (aH (mx (qv 5) (oX (qv 6) (qv 4) (uo hu1))) (aT (eC (wA cW PySem.F.slot_list_extend PySem.F.type_list_extend wg (zX (qv 3) (bJ b5 (qv 5) aL) (dq gH) ⟨rfl,rfl,rfl,rfl⟩) (bQ (jG hu1 (qv 2) (qv 4) (λ_ _=>rfl))))))) mU))))))) (aT (bG (qv 6))))))))
theorem BB(B:kD mg) :kB P w K mg base oF "weaker" pj BP (uN K):=lO λnd hu hu1 hr=>by exact
 (aT (bG (dy (jE rfl) rfl B.all_ boot_all (bQ (x5 pj oF ["name","fellow"] [] (JZ rfl B.zip_ (aD (qv 0) (bQ (qv 1)))) (jn rfl (cy (gQ 2) (cy (gQ 3) fW))) eU (MY (gJ tN (qv 2) eP rfl) (GZ (gJ (kM hu) (qv 2) (qv 3) rfl))))))))
theorem zg(B:kD mg) :kB P w K mg base ma "has_all" my zH (rN K):=lO λnd hu hu1 hr=>by exact
 (aT (bG (dy (jE rfl) rfl B.all_ boot_all (bQ (x5 my ma ["name"] [] (eG (qv 1)) (gQ 2) eU (gJ gi (qv 2) (qv 0) rfl))))))
theorem BA(B:kD mg)(c_p_places_to_keep:fZ P w K mg base)(c_p_kept:pE P w K mg base):kB P w K mg base oE "turned" ph BO (uM K):=lO λnd hu hu1 hr=>by exact
 (aH (fA 1 tT) (aH (fA 2 (bV kH rfl B.list_ boot_list (bQ (qv 0)))) (aH (kq PassesOwn.never (bM rA (gL B (bQ (qv 2))) aL rfl) (aH (fA 3 (LQ cW gZ g0 Lf (qv 2))) (aT (tV (bM (wx hu1) (qv 3) (qv 1) rfl) (aH (mx (x5 ph oE ["place"] [] (eG (e9 c_p_places_to_keep (bQ (qv 3)))) (gQ 4) eU (e9 c_p_kept (aD (qv 3) (bQ (qv 4))))) (oX (qv 1) (qv 3) (uo hu1))) (aT (eC (wA cW PySem.F.slot_list_extend PySem.F.type_list_extend wg (qv 2) (bQ (jG hu1 (qv 1) (qv 3) (λ_ _=>rfl))))))) mU)))) (aT (bG (qv 1))))))
theorem m5(B:kD mg)(c_p_has_all:q0 P w K mg base)(c_p_turned:sO P w K mg base)(c_p_worked:kF P w K mg base)(c_p_seen:pF P w K mg base):kB P w K mg base eI "belts_that_come" eJ m8 (iZ K):=lO λnd hu hu1 hr=>by exact
 (aH (fA 3 (dq (bQ (e9 c_p_turned (bQ (dq (bQ (e9 c_p_seen (aD (qv 0) (bQ (f7 (qv 2) aL))))))))))) (aH (dS PassesOwn.never rfl (pZ rfl B.enumerate_ (bQ (qv 1))) (jn rfl (cy (gQ 4) (cy (gQ 5) fW))) (aH (fA 6 (f7 (qv 2) (bJ b5 (qv 4) aL))) (aH (ko (ND eJ eI ["belt"] [] 7 (p6 (f7 (qv 3) (qv 4))) (gQ 8) eU (e9 c_p_worked (aD (qv 8) (aD (qv 5) (bQ (qv 6))))))) (aT (eC (oW (qv 3) (e9 c_p_turned (bQ (x5 eJ eI ["belt"] [] (eG (qv 7)) (gQ 8) (kP (jY (e9 c_p_has_all (aD (qv 8) (bQ (qv 6)))))) (qv 8)))))))))) (aT (bG (qv 3)))))
theorem zi(B:kD mg) :kB P w K mg base md "without" mz zJ (rP K):=lO λnd hu hu1 hr=>by exact
 (aT (bG (bV bP rfl B.tuple_ boot_tuple (bQ (x5 mz md ["one"] [] (eG (qv 0)) (gQ 2) (kP (bM (qQ hu) (qv 2) (qv 1) rfl)) (qv 2))))))
theorem ve(B:kD mg)(c_p_without:rg P w K mg base):kB P w K mg base nI "wanted_at" nR vm (oz K):=lO λnd hu hu1 hr=>by exact
 (aH (fA 2 (bV bP rfl B.tuple_ boot_tuple (bQ (rC rfl rfl B.sorted_ B.set_ rfl (bQ (qv 1)))))) (aH (fA 3 (dq (bQ (qv 2)))) (aH (dS PassesOwn.never rfl (JY rfl B.reversed_ (bQ (qv 0))) (gQ 4) (aH (fA 2 (bV bP rfl B.tuple_ boot_tuple (bQ (rC rfl rfl B.sorted_ B.set_ rfl (bQ (bJ jj (e9 c_p_without (aD (qv 2) (bQ (f7 (qv 4) aL)))) (bV bP rfl B.tuple_ boot_tuple (bQ (f7 (qv 4) aL))))))))) (aT (eC (oW (qv 3) (qv 2)))))) (aT (bG (tU rfl rfl B.list_ B.reversed_ rfl (bQ (qv 3))))))))
theorem zf(B:kD mg)(c_p_spread:sN P w K mg base)(c_p_worked:kF P w K mg base)(c_p_weaker:sP P w K mg base)(c_p_belts_that_come:iX P w K mg base)(c_p_wanted_at:jT P w K mg base):kB P w K mg base jC "counted" jI zG (rM K):=lO λnd hu hu1 hr=>by exact
 (aH (fA 4 (e9 c_p_wanted_at (aD (qv 1) (bQ (qv 2))))) (aH (fA 5 (e9 c_p_belts_that_come (aD (qv 0) (aD (qv 1) (bQ (qv 4)))))) (aH (ko (ND jI jC [] [10] 6 (p6 (f7 (qv 5) (jH gP aL))) (gQ 10) (kP (jY (e9 c_p_weaker (aD (qv 3) (bQ (qv 10)))))) (qv 10))) (aH (fA 7 (dq (bQ (e9 c_p_spread (aD (bV (pN rfl (xK hr)) rfl B.dict_ boot_dict (bQ (x5 jI jC [] [10] (eG (qv 6)) (gQ 10) eU (gK (aD (qv 10) (bQ aL)))))) (bQ (f7 (qv 5) (jH gP aL)))))))) (aH (dS PassesOwn.never rfl (Ex rfl B.range_ (aD (bJ oU (gL B (bQ (qv 1))) aL) (aD (jH gP aL) (bQ (jH gP aL))))) (gQ 8) (aH (fA 9 tT) (aH (ko (dS PassesOwn.never rfl (p6 (f7 (qv 5) (qv 8))) (gQ 10) (aH (fA 11 (e9 c_p_worked (aD (qv 10) (aD (f7 (qv 1) (qv 8)) (bQ (f7 (qv 4) (bJ b5 (qv 8) aL))))))) (aT (wB (bM (Lm hu1) (qv 11) (f7 (qv 7) (jH gP aL)) rfl) (mx (jG hu1 (f7 (qv 7) (jH gP aL)) (qv 11) (λ_ _=>rfl)) (oX (qv 9) (qv 10) (uo hu1)))))))) (aT (eC (oW (qv 7) (e9 c_p_spread (aD (qv 9) (bQ (f7 (qv 5) (qv 8))))))))))) (aT (bG (tU rfl rfl B.list_ B.reversed_ rfl (bQ (qv 7))))))))))
theorem xE(B:kD mg)(c_p_kept:pE P w K mg base)(c_p_next_keep:nv P w K mg base)(c_p_worked:kF P w K mg base)(c_p_seen:pF P w K mg base)(c_p_counted:lZ P w K mg base)(c_p_wanted_at:jT P w K mg base):kB P w K mg base pI "followed" qc xR (qi K):=lO λnd hu hu1 hr=>by exact
 (aH (fA 4 (e9 c_p_wanted_at (aD (qv 1) (bQ (qv 2))))) (aH (fA 5 (e9 c_p_counted (aD (qv 0) (aD (qv 1) (aD (qv 2) (bQ (qv 3))))))) (aH (fA 6 (e9 c_p_seen (aD (qv 0) (bQ (f7 (qv 4) aL))))) (aH (fA 7 (dq gH)) (aH (dS PassesOwn.never rfl (pZ rfl B.enumerate_ (bQ (qv 1))) (jn rfl (cy (gQ 8) (cy (gQ 9) fW))) (aH (fA 10 (dq gH)) (aH (kq PassesOwn.never (bM (qQ hu) (jG hu1 (f7 (qv 5) (qv 8)) (qv 6) (λ_ _=>rfl)) (GU hu1 (f7 (qv 5) (bJ jj (qv 8) aL)) (e9 c_p_worked (aD (qv 6) (aD (qv 9) (bQ (f7 (qv 4) (bJ jj (qv 8) aL)))))) ⟨rfl,rfl,rfl,rfl⟩) rfl) (aH (eC (oW (qv 10) (e9 c_p_next_keep (aD (f7 (qv 5) (qv 8)) (bQ (qv 6)))))) (aT (fA 6 (e9 c_p_kept (aD (qv 6) (bQ (f7 (qv 10) (jH gP aL))))))))) (aH (eC (oW (qv 7) (bV bP rfl B.tuple_ boot_tuple (bQ (qv 10))))) (aT (fA 6 (e9 c_p_worked (aD (qv 6) (aD (qv 9) (bQ (f7 (qv 4) (bJ jj (qv 8) aL)))))))))))) (aH (fA 10 (dq gH)) (aH (kq PassesOwn.never (bM (qQ hu) (jG hu1 (f7 (qv 5) (jH gP aL)) (qv 6) (λ_ _=>rfl)) aL rfl) (aH (eC (oW (qv 10) (e9 c_p_next_keep (aD (f7 (qv 5) (jH gP aL)) (bQ (qv 6)))))) (aT (fA 6 (e9 c_p_kept (aD (qv 6) (bQ (f7 (qv 10) (jH gP aL))))))))) (aT (bG (bJ jj (bV bP rfl B.tuple_ boot_tuple (bQ (qv 7))) (gK (bQ (bV bP rfl B.tuple_ boot_tuple (bQ (qv 10)))))))))))))))
theorem Bx(B:kD mg)(c_p_any_order:jS P w K mg base)(c_p_followed:pD P w K mg base):kB P w K mg base sR "fewest" uf BL (uE K):=lO λnd hu hu1 hr=>by exact
 (aT (bG (e9 c_p_followed (aD (qv 0) (aD (qv 1) (aD (qv 2) (bQ (e9 c_p_any_order (bQ (qv 0))))))))))
theorem xD(B:kD mg) :kB P w K mg base pH "by_pairs" qb xQ (qh K):=lO λnd hu hu1 hr=>by exact
 (aH (fA 1 GX) (aH (dS PassesOwn.never rfl (JX rfl B.enumerate_ (bQ (qv 0))) (jn rfl (cy (gQ 2) (cy (gQ 3) fW))) (aT (ko (dS PassesOwn.never rfl (qS (qv 3) ⟨rfl,rfl⟩) (jn rfl (cy (gQ 4) (cy (gQ 5) fW))) (aT (mx (qv 5) (oX (qv 1) (gK (aD (qv 2) (bQ (qv 4)))) (EI (xK hr))))))))) (aT (bG (qv 1)))))
theorem zh(B:kD mg)(c_p_any_order:jS P w K mg base)(c_p_counted:lZ P w K mg base)(c_p_by_pairs:pC P w K mg base):kB P w K mg base rj "numbers" rG zI (rO K):=lO λnd hu hu1 hr=>by exact
 (aT (bG (e9 c_p_by_pairs (bQ (e9 c_p_counted (aD (qv 0) (aD (qv 1) (aD (qv 2) (bQ (e9 c_p_any_order (bQ (qv 0))))))))))))
theorem KW(B:kD mg) :kB P w K mg base Fp "_law_seen" HF K5 (Ib K):=lO λnd hu hu1 hr=>by exact
 (aH (fA 2 (dq gH)) (aH (dS PassesOwn.never rfl (pZ rfl B.enumerate_ (bQ (qv 0))) (jn rfl (cy (gQ 3) (cy (gQ 4) fW))) (aT (eC (oW (qv 2) (f7 (dq (aD eP (bQ (qv 4)))) (bV qJ rfl B.int_ boot_int (bQ (LP (gJ gi (qv 4) (qv 1) rfl) (GZ (gJ kO (qv 4) (fO mC (qv 0) iz (iA (qv 3))) rfl)))))))))) (aT (bG (bV bP rfl B.tuple_ boot_tuple (bQ (qv 2)))))))
theorem u7(B:kD mg) :kB P w K mg base jV "_law_behind_work" j3 vh (nU K):=lO λnd hu hu1 hr=>by exact
 (aH (wB (bM tN (qv 1) eP rfl) (bG (qv 0))) (aT (bG (bJ b5 (gK (bQ (qv 1))) (fO mC (bV bP rfl B.tuple_ boot_tuple (bQ (x5 j3 jV ["_law_thing_here"] [] (eG (qv 0)) (gQ 2) eU (f7 (dq (aD (qv 2) (bQ eP))) (bV qJ rfl B.int_ boot_int (bQ (gJ (kM hu) (qv 2) (qv 1) rfl))))))) iz (iA (jH gP aL)))))))
theorem KQ(B:kD mg)(c_behind_work:ni P w K mg base)(c_seen:A3 P w K mg base):kB P w K mg base xk "_law_done" yi K2 (HP K):=lO λnd hu hu1 hr=>by exact
 (aH (fA 4 (qv 0)) (aH (dS PassesOwn.never rfl (fH rfl B.range_ (bQ (bJ b5 (gL B (bQ (qv 1))) aL))) (gQ 5) (aH (dS PassesOwn.never rfl (eG (f7 (qv 3) (qv 5))) (gQ 6) (aH (wB (bM tN (f7 (e9 c_seen (aD (qv 4) (bQ (f7 (qv 2) (qv 5))))) (qv 6)) eP rfl) (bG eP)) (aT (fA 4 (bJ b5 (gK (bQ (f7 (qv 4) (qv 6)))) (fO mC (qv 4) iz (iA (jH gP aL)))))))) (aT (tV (bM wu (qv 5) (gL B (bQ (qv 1))) rfl) (aH (wB (oY (jY (dy (jE rfl) rfl B.all_ boot_all (bQ (x5 yi xk ["_law_name"] [] (eG (f7 (f7 (qv 1) (qv 5)) aL)) (gQ 7) eU (gJ gi (qv 7) (qv 4) rfl)))))) (bG eP)) (aT (fA 4 (e9 c_behind_work (aD (qv 4) (bQ (f7 (f7 (qv 1) (qv 5)) aL))))))) mU)))) (aH (wB (oY (jY (dy (jE rfl) rfl B.all_ boot_all (bQ (x5 yi xk ["_law_name"] [] (eG (f7 (qv 2) (jH gP aL))) (gQ 7) eU (gJ gi (qv 7) (qv 4) rfl)))))) (bG eP)) (aT (bG (qv 4))))))
theorem u9(B:kD mg) :kB P w K mg base nB "_law_groups_good" nO vi (nV K):=lO λnd hu hu1 hr=>by exact
 (aH (wB (QW.pt (z0 (oY (jY (dy pO rfl B.isinstance_ boot_isinstance (aD (qv 0) (bQ (sA rfl B.tuple_ boot_tuple (v:=.ty "tuple") rfl)))))) (x6 (bM (qQ hu) (gL B (bQ (qv 0))) (bJ b5 (qv 1) aL) rfl)))) (bG rB)) (aH (dS PassesOwn.never rfl (eG (qv 0)) (gQ 3) (aH (wB (oY (jY (dy pO rfl B.isinstance_ boot_isinstance (aD (qv 3) (bQ (sA rfl B.tuple_ boot_tuple (v:=.ty "tuple") rfl)))))) (bG rB)) (aT (dS PassesOwn.never rfl (eG (qv 3)) (gQ 4) (aT (wB (QW.pt (z0 (oY (jY (dy pO rfl B.isinstance_ boot_isinstance (aD (qv 4) (bQ (sA rfl B.int_ boot_int (v:=.ty "int") rfl)))))) (z0 (jY (dy pO rfl B.isinstance_ boot_isinstance (aD (qv 4) (bQ (sA rfl B.bool_ boot_bool (v:=.ty "bool") rfl))))) (x6 (oY (G1 MK wu aL (qv 4) (qv 2))))))) (bG rB))))))) (aT (bG rB))))
theorem KR(B:kD mg) :kB P w K mg base Fn "_law_draw" HC K3 (HR K):=lO λnd hu hu1 hr=>by exact
 (aH (mx (fO mC (qv 0) iz (iA aL)) (JW rfl (cy (gQ 2) (cy (gQ 3) fW)))) (aH (mx (bJ b5 (qv 3) aL) (oX (qv 0) aL uu)) (aH (tV (QW.pt (tW (bM wu (bJ b5 (bJ Dl (qv 3) aL) aL) (gL B (bQ (qv 2))) rfl) (p7 (bM (kM hu) (bJ iR (f7 (qv 2) aL) aL) aL rfl)))) (aH (wB (bM (kM hu) (bJ iR (qv 3) aL) aL rfl) (mx (f7 (qv 2) (bJ b5 (bJ Dl (qv 3) aL) aL)) (oX (qv 0) aL uu))) (aT (tV (bM kO (f7 (qv 0) aL) (gK (aD aL (bQ (jH gP aL)))) rfl) (aH (mx (dy xA rfl B.divmod_ boot_divmod (aD (f7 (qv 0) aL) (bQ (qv 1)))) (jn rfl (cy (oX (qv 0) aL uu) (cy (gQ 4) fW)))) (aT (bG (qv 4)))) mU))) (aT (wB (bM wu (qv 3) (gL B (bQ (qv 2))) rfl) (bG (bJ iR (f7 (qv 2) (qv 3)) (qv 1)))))) (aH (fA 5 (bJ b5 (bJ fN (qv 3) aL) aL)) (aH (wB (bM rA (gL B (bQ (qv 2))) aL rfl) (fA 5 (bJ b5 (qv 5) (bJ fN (f7 (qv 2) (bJ iR (bJ fN (qv 3) aL) (gL B (bQ (qv 2))))) (bJ b5 aL (qv 3)))))) (aH (fA 5 (bJ iR (bJ fN (bJ iR (qv 5) aL) (bJ b5 (qv 3) aL)) aL)) (aH (fA 5 (bJ iR (bJ fN (qv 5) (qv 5)) aL)) (aT (bG (bJ iR (bJ iR (bJ fN (qv 5) (qv 5)) aL) (qv 1)))))))))))
theorem IZ(B:kD mg)(c_draw:lY P w K mg base):kB P w K mg base CT "_law_thing" Dx Jj (DQ K):=lO λnd hu hu1 hr=>by exact
 (aT (bG (f7 (bJ b5 (qv 1) (dq (bQ eP))) (e9 c_draw (aD (qv 0) (bQ (bJ b5 (gL B (bQ (qv 1))) aL)))))))
theorem IU(B:kD mg)(c_draw:lY P w K mg base)(c_thing:xc P w K mg base):kB P w K mg base xj "_law_begin" yh Jh (DE K):=lO λnd hu hu1 hr=>by exact
 (aH (fA 4 (bJ b5 (bV kH rfl B.list_ boot_list (bQ (qv 2))) (x5 yh xj ["_law_k"] [] (fH rfl B.range_ (bQ (bJ oU (qv 1) (gL B (bQ (qv 2)))))) (gQ 6) eU (e9 c_thing (aD (qv 0) (bQ (qv 3))))))) (aH (fA 5 (dq gH)) (aH (kq PassesOwn.never (bM rA (gL B (bQ (qv 4))) aL rfl) (aT (eC (oW (qv 5) (wA cW gZ g0 zO (qv 4) (bQ (e9 c_draw (aD (qv 0) (bQ (gL B (bQ (qv 4)))))))))))) (aT (bG (bV bP rfl B.tuple_ boot_tuple (bQ (qv 5))))))))
theorem ze(B:kD mg) :kB P w K mg base rh "_law_is_wanted" rF zF (rL K):=lO λnd hu hu1 hr=>by exact
 (aH (dS PassesOwn.never rfl (eG (fO yn (qv 0) (iA (qv 2)) iz)) (jn rfl (cy (gQ 4) (cy (gQ 5) fW))) (aH (wB (bM gi (qv 3) (qv 4) rfl) (bG rB)) (aT (wB (bM (Ll hu) (qv 5) (qv 3) rfl) (bG rB))))) (aT (bG (gJ gi (qv 3) (qv 1) rfl))))
theorem FR(B:kD mg)(c_is_wanted:qZ P w K mg base):kB P w K mg base sV "_law_points" uj Gq (AO K):=lO λnd hu hu1 hr=>by exact
 (aH (fA 3 (dq gH)) (aH (dS PassesOwn.never rfl (fH rfl B.range_ (bQ (bJ b5 (gL B (bQ (qv 0))) aL))) (gQ 4) (aT (eC (oW (qv 3) (bV bP rfl B.tuple_ boot_tuple (bQ (x5 uj sV ["_law_name"] [] (eG (dy y4 rfl B.sorted_ boot_sorted (bQ (qv 2)))) (gQ 5) (kP (jY (e9 c_is_wanted (aD (qv 0) (aD (qv 1) (aD (qv 4) (bQ (qv 5)))))))) (qv 5)))))))) (aT (bG (qv 3)))))
theorem Ee(B:kD mg) :kB P w K mg base qH "_law_crowded" qU Em (wM K):=lO λnd hu hu1 hr=>by exact
 (aH (dS PassesOwn.never rfl (fH rfl B.range_ (bQ (gL B (bQ (qv 2))))) (gQ 3) (aH (wB (bM rA (gL B (bQ (f7 (qv 2) (qv 3)))) (qv 0) rfl) (bG (gK (aD jk (aD (qv 3) (bQ (f7 (qv 2) (qv 3)))))))) (aT (tV (QW.pt (tW (bM wu (qv 3) (gL B (bQ (qv 1))) rfl) (p7 (bM sy (f7 (f7 (qv 1) (qv 3)) aL) eP rfl)))) (aH (fA 4 (bV bP rfl B.tuple_ boot_tuple (bQ (x5 qU qH ["_law_name"] [] (eG (f7 (qv 2) (bJ b5 (qv 3) aL))) (gQ 5) (kP (bM (qQ hu) (qv 5) (f7 (f7 (qv 1) (qv 3)) aL) rfl)) (qv 5))))) (aT (wB (bM rA (gL B (bQ (qv 4))) (bJ oU (qv 0) aL) rfl) (bG (gK (aD jk (aD (qv 3) (bQ (qv 4))))))))) mU)))) (aT (bG eP)))
theorem Eh(B:kD mg)(c_points:sQ P w K mg base)(c_crowded:vJ P w K mg base):kB P w K mg base vM "_law_thinned" wD En (wU K):=lO λnd hu hu1 hr=>by exact
 (aH (fA 4 (e9 c_crowded (aD (qv 0) (aD (qv 1) (bQ (e9 c_points (aD (qv 1) (aD (qv 2) (bQ (qv 3)))))))))) (aH (kq PassesOwn.never (QW.pt (tW (bM sy (qv 4) eP rfl) (p7 (bM rA (gL B (bQ (qv 1))) aL rfl)))) (aH (fA 5 (dy (vS rfl) rfl B.min_ boot_min (aD (f7 (qv 4) aL) (bQ (bJ oU (gL B (bQ (qv 1))) aL))))) (aH (fA 1 (bJ jj (fO yn (qv 1) iz (iA (qv 5))) (fO yn (qv 1) (iA (bJ jj (qv 5) aL)) iz))) (aT (fA 4 (e9 c_crowded (aD (qv 0) (aD (qv 1) (bQ (e9 c_points (aD (qv 1) (aD (qv 2) (bQ (qv 3)))))))))))))) (aT (bG (qv 1)))))
theorem KU(B:kD mg)(c_draw:lY P w K mg base):kB P w K mg base Fo "_law_last" HE K4 (HY K):=lO λnd hu hu1 hr=>by exact
 (aH (fA 3 (bV kH rfl B.list_ boot_list (bQ (qv 1)))) (aH (fA 4 (dq gH)) (aH (dS PassesOwn.never rfl (fH rfl B.range_ (bQ (dy (vS rfl) rfl B.min_ boot_min (aD (gL B (bQ (qv 1))) (bQ (e9 c_draw (aD (qv 0) (bQ (bJ b5 (qv 2) aL))))))))) (gQ 5) (aT (eC (oW (qv 4) (wA cW gZ g0 zO (qv 3) (bQ (e9 c_draw (aD (qv 0) (bQ (gL B (bQ (qv 3)))))))))))) (aT (bG (bV bP rfl B.tuple_ boot_tuple (bQ (qv 4))))))))
theorem Ja(B:kD mg)(c_draw:lY P w K mg base)(c_thing:xc P w K mg base):kB P w K mg base xn "_law_works" yk Jk (DR K):=lO λnd hu hu1 hr=>by exact
 (aH (fA 3 (dq gH)) (aH (dS PassesOwn.never rfl (fH rfl B.range_ (bQ (e9 c_draw (aD (qv 0) (bQ (bJ b5 (qv 2) aL)))))) (gQ 4) (aH (fA 5 (f7 (dq (aD aL (aD aL (aD aL (aD aL (aD aL (bQ aL))))))) (e9 c_draw (aD (qv 0) (bQ aL))))) (aH (fA 6 (bV bP rfl B.tuple_ boot_tuple (bQ (x5 yk xn ["_law_j"] [] (fH rfl B.range_ (bQ (qv 5))) (gQ 7) eU (f7 (qv 1) (e9 c_draw (aD (qv 0) (bQ (gL B (bQ (qv 1))))))))))) (aT (eC (oW (qv 3) (gK (aD (qv 6) (bQ (f7 (dq (aD eP (bQ (e9 c_thing (aD (qv 0) (bQ (qv 1))))))) (bV qJ rfl B.int_ boot_int (bQ (gJ rA (e9 c_draw (aD (qv 0) (bQ aL))) aL rfl))))))))))))) (aT (bG (bV bP rfl B.tuple_ boot_tuple (bQ (qv 3)))))))
theorem IV(B:kD mg)(c_draw:lY P w K mg base):kB P w K mg base xm "_law_names" yj Ji (DP K):=lO λnd hu hu1 hr=>by exact
 (aH (fA 2 jk) (aH (fA 3 (bJ b5 aL (e9 c_draw (aD (qv 0) (bQ aL))))) (aH (fA 4 (e9 c_draw (aD (qv 0) (bQ (qv 3))))) (aH (fA 5 (e9 c_draw (aD (qv 0) (bQ aL)))) (aH (ND yj xm ["_law_j"] [] 6 (fH rfl B.range_ (bQ (qv 3))) (gQ 11) eU (f7 (qv 2) (bJ iR (bJ b5 (qv 5) (bJ fN (bJ fN aL (qv 11)) (e9 c_draw (aD (qv 0) (bQ aL))))) aL))) (aH (fA 7 (dq gH)) (aH (dS PassesOwn.never rfl (fH rfl B.range_ (bQ (qv 1))) (gQ 8) (aH (fA 9 (bJ b5 (bJ b5 (fO mC (qv 6) iz (iA (qv 4))) (dq (bQ (f7 (qv 2) (bJ iR (bJ b5 (qv 5) (bJ fN aL (qv 8))) aL))))) (fO mC (qv 6) (iA (bJ b5 (qv 4) aL)) iz))) (aH (fA 10 (N2 jk (qv 9))) (aH (wB (QW.pt (z0 (bM gi (qv 10) (gK (aD jk (aD jk (aD jk (aD jk (aD jk (bQ jk))))))) rfl) (x6 (QW.pt (tW (bM wu (qv 3) aL rfl) (p7 (bM (kM hu) (bJ iR (bJ b5 (qv 3) (qv 8)) aL) aL rfl))))))) (fA 10 (bJ b5 (qv 10) jk))) (aT (eC (oW (qv 7) (qv 10)))))))) (aT (bG (qv 7))))))))))
theorem FQ(B:kD mg)(c_draw:lY P w K mg base):kB P w K mg base yP "_law_places" Aj Gp (AN K):=lO λnd hu hu1 hr=>by exact
 (aT (bG (f7 (dq (aD aL (aD aL (aD aL (aD aL (aD aL (aD aL (aD aL (aD aL (aD aL (aD aL (aD aL (aD aL (aD aL (aD aL (aD aL (bQ aL))))))))))))))))) (e9 c_draw (aD (qv 0) (bQ aL))))))
theorem Mt(B:kD mg)(c_p_fewest:sL P w K mg base)(c_p_numbers:q9 P w K mg base)(c_seen:A3 P w K mg base)(c_done:E7 P w K mg base)(c_groups_good:nj P w K mg base)(c_begin:CM P w K mg base)(c_points:sQ P w K mg base)(c_thinned:vK P w K mg base)(c_last:E8 P w K mg base)(c_works:CO P w K mg base)(c_draw:lY P w K mg base)(c_names:CN P w K mg base)(c_places:yE P w K mg base):kB P w K mg base CS "law" Dv Ks (KB K):=lO λnd hu hu1 hr=>by exact
 (aH (fA 1 (dq (aD (qv 0) (aD aL (bQ aL))))) (aH (fA 2 (e9 c_places (bQ (qv 1)))) (aH (fA 3 (e9 c_names (aD (qv 1) (bQ (bJ b5 aL (e9 c_draw (aD (qv 1) (bQ (bJ b5 (qv 2) aL))))))))) (aH (fA 4 (e9 c_works (aD (qv 1) (aD (qv 3) (bQ (f7 (dq (aD aL (aD aL (aD aL (aD aL (bQ aL)))))) (bJ oU (qv 2) aL))))))) (aH (fA 5 (e9 c_last (aD (qv 1) (aD (qv 3) (bQ (qv 2)))))) (aH (fA 4 (e9 c_thinned (aD (qv 2) (aD (qv 4) (aD (qv 5) (bQ (qv 3))))))) (aH (fA 6 (e9 c_points (aD (qv 4) (aD (qv 5) (bQ (qv 3)))))) (aH (fA 7 (e9 c_begin (aD (qv 1) (aD (qv 2) (aD (f7 (qv 6) aL) (bQ (qv 3))))))) (aH (fA 8 (e9 c_p_fewest (aD (qv 7) (aD (qv 4) (bQ (qv 5)))))) (aH (wB (QW.pt (z0 (oY (jY (e9 c_groups_good (aD (qv 8) (aD (gL B (bQ (qv 4))) (bQ (qv 2))))))) (x6 (bM tN (e9 c_done (aD (qv 7) (aD (qv 4) (aD (qv 6) (bQ (qv 8)))))) eP rfl)))) (bG rB)) (aH (fA 9 (dy (vT rfl) rfl B.sum_ boot_sum (bQ (x5 Dv CS ["_law_group"] [] (eG (qv 8)) (gQ 10) eU (gL B (bQ (qv 10))))))) (aH (wB (bM (qQ hu) (GV (xK hr) (e9 c_p_numbers (aD (qv 7) (aD (qv 4) (bQ (qv 5))))) (gK (aD aL (bQ (e9 c_seen (aD (qv 7) (bQ (f7 (qv 6) aL))))))) (λ_ _=>rfl)) (qv 9) rfl) (bG rB)) (aT (bG (gJ (kM hu) (dy (vT rfl) rfl B.sum_ boot_sum (bQ (x5 Dv CS ["_law_group"] [] (eG (e9 c_p_fewest (aD (qv 7) (aD (qv 4) (bQ (qv 5)))))) (gQ 10) eU (gL B (bQ (qv 10)))))) (qv 9) rfl)))))))))))))))
end
end Bg
end
section
namespace Bg
open PySem L2
theorem rD{K:Fg}{st scr:Addr}{m:Int}{k:Nat}{ns:List Int}{c:Int}{H H2:Hp}{Q:VK}{o4 o5:Option V}{nx:St->Hp->Prop}(hk:k<=1000000)(m0:0<m)
  (q:∀(d:Int) (H':Hp),0<=d->d<m->lU K H' st (k+1)->iN st H H'->Q (.int d) H') (hS:H2 st=some (.lst [.ref scr,.int ((k:Int)+1),.int c])) (hscr:jD K H2 scr ns) (hns:ns.length<=63) (hB:iN st H H2) :
  qg K {nx:=nx,rt:=Q} [some (.ref st),some (.int m),some (.ref scr),some (.int (k:Nat)),o4,o5] H2:=by
 have e1:(((k+1:Nat):Nat):Int)=(k:Int)+1:=by lia
 have S2:lU K H2 st (k+1):=⟨scr,ns,c,by rw[e1];exact hS,hscr,hns⟩
 refine⟨_,rfl,.inl ⟨_,_,rfl,rfl,.inr ⟨by decide,by decide⟩,.inl ⟨_,_,rfl,rfl,?_⟩⟩⟩
 have rest:∀z:Int,AD K {nx:=nx,rt:=Q} [some (.ref st),some (.int m),some (.ref scr),some (.int (k:Nat)),o4,some (.int z)] H2:=λz=>by
  have b1:0<=z % 2147483629:=cB _ (by decide)
  have b2:z % 2147483629<2147483629:=cA _ (by decide)
  refine⟨_,rfl,_,_,rfl,rfl,(by show(0:Int)<2147483629;decide),_,rfl,.inl ⟨_,_,rfl,rfl,.inl ⟨_,_,rfl,rfl,.inl ⟨by lia,by lia⟩,_,_,rfl,rfl,(by show(0:Int)<2147483629;decide),?_⟩⟩⟩
  generalize hy:z % 2147483629*((k:Int)+3) % 2147483629=y
  have c1:0<=y:=by rw[<-hy];exact cB _ (by decide)
  have c2:y<2147483629:=by rw[<-hy];exact cA _ (by decide)
  refine⟨_,rfl,_,rfl,.inl ⟨_,_,rfl,rfl,.inl ⟨by lia,by lia⟩,_,_,rfl,rfl,(by show(0:Int)<2147483587;decide),?_⟩⟩
  generalize hx:y*y % 2147483587=x
  have d1:0<=x:=by rw[<-hx];exact cB _ (by decide)
  have d2:x<2147483587:=by rw[<-hx];exact cA _ (by decide)
  refine⟨_,rfl,_,rfl,.inl ⟨_,_,rfl,rfl,.inl ⟨by lia,by lia⟩,_,_,rfl,rfl,(by show(0:Int)<1999999973;decide),_,rfl,_,_,rfl,rfl,m0,?_⟩⟩
  exact q _ H2 (cB _ (by lia)) (cA _ m0) S2 hB
 refine⟨_,rfl,_,_,rfl,.inl ⟨_,hscr.sq,rfl⟩,_,_,rfl,rfl,_,rfl,dE (λhl=>?_) (λ_=>rest _)⟩
 rw[af] at hl
 have hlp:0<ns.length:=by lia
 refine⟨_,rfl,_,rfl,_,rfl,.inl ⟨_,_,rfl,rfl,.inr ⟨by decide,by decide⟩,_,rfl,_,_,rfl,.inl ⟨_,hscr.sq,rfl⟩,_,_,rfl,rfl,(by rw[af];lia),?_⟩⟩
 have i1:0<=(k:Int)*7 % ((ns.map V.int).length:Nat):=cB _ (by rw[af];lia)
 have i2:(k:Int)*7 % ((ns.map V.int).length:Nat)<((ns.map V.int).length:Nat):=cA _ (by rw[af];lia)
 rw[af] at i1 i2
 have i3:((k:Int)*7 % (ns.length:Nat)).toNat<ns.length:=by lia
 refine mj hscr.sq (by rw[af];exact i1) (v:=.int ns[((k:Int)*7 % (ns.length:Nat)).toNat]) (by simp only[af];rw[aG,aa i3];rfl) ?_
 exact⟨_,rfl,.inl ⟨_,_,rfl,rfl,.inl ⟨_,_,rfl,rfl,.inr ⟨by lia,by lia⟩,.inl ⟨_,_,rfl,rfl,rest _⟩⟩⟩⟩
theorem LU{K:Fg}{vs:List V}{H:Hp}{Q:VK}{E:XK}(h:eK K vs H Q E):HR K {nx:=λ_ H'=>Q .non H',rt:=Q} (start Fn vs) H:=by
 obtain⟨st,m,k,rfl,S,hk,m0,m1,q⟩:=h
 obtain⟨scr,ns,c,hst,hscr,hns⟩:=S
 refine⟨_,rfl,_,rfl,.inl ⟨st,_,rfl,cx.of hst,λp hp=>?_⟩⟩
 refine⟨p,_,rfl,cx.of aj,rfl,_,_,rfl,_,_,rfl,rfl,?_⟩
 have np:st≠p:=aJ hst hp
 have B1:iN st H (aQ H p (.lst (m4 [V.ref scr,V.int (k:Nat),V.int c] none (some 2)))):=(iN.refl st H).new hp
 have h1:(aQ H p (.lst (m4 [V.ref scr,V.int (k:Nat),V.int c] none (some 2)))) st=some (.lst [.ref scr,.int (k:Nat),.int c]):=by rw[az np];exact hst
 have s1:jD K (aQ H p (.lst (m4 [V.ref scr,V.int (k:Nat),V.int c] none (some 2)))) scr ns:=hscr.mono (.of_but B1 hst)
 generalize aQ H p (.lst (m4 [V.ref scr,V.int (k:Nat),V.int c] none (some 2)))=H1 at B1 h1 s1 ⊢
 refine⟨_,rfl,.inl ⟨_,_,rfl,rfl,_,rfl,L3 h1 (by decide) (by show 1<3;decide) ?_⟩⟩
 have B2:iN st H (aQ H1 st (.lst [.ref scr,.int ((k:Int)+1),.int c])):=B1.trans .upd_at
 have h2:(aQ H1 st (.lst [.ref scr,.int ((k:Int)+1),.int c])) st=some (.lst [.ref scr,.int ((k:Int)+1),.int c]):=aj
 have s2:jD K (aQ H1 st (.lst [.ref scr,.int ((k:Int)+1),.int c])) scr ns:=s1.mono (.of_but .upd_at h1)
 show AF K _ [some (.ref st),some (.int m),some (.ref scr),some (.int (k:Nat)),none,none] (aQ H1 st (.lst [.ref scr,.int ((k:Int)+1),.int c]))
 generalize aQ H1 st (.lst [.ref scr,.int ((k:Int)+1),.int c])=H2 at B2 h2 s2 ⊢
 have tail:=@rD K st scr m k ns c H H2 Q none none (λ_ H'=>Q .non H') hk m0 q h2 s2 hns B2
 have dig:∀(c':Int) (H3:Hp),H3 st=some (.lst [.ref scr,.int ((k:Int)+1),.int c'])->jD K H3 scr ns->iN st H H3->
   AE K {nx:=qg K {nx:=λ_ H'=>Q .non H',rt:=Q},rt:=Q} [some (.ref st),some (.int m),some (.ref scr),some (.int (k:Nat)),none,none] H3:=λc' H3 h3 s3 B3=>by
  refine⟨_,rfl,mj (cx.of h3) (by decide) rfl ?_⟩
  refine⟨_,rfl,(by show 2<=sizeLine;decide),λt ht=>⟨t,_,rfl,.inr (cz.of aj),rfl,rfl,_,rfl,?_⟩⟩
  have n3:st≠t:=aJ h3 ht
  have B4:iN st H (aQ H3 t (.tup [.int 0,.int (-1)])):=B3.new ht
  have h4:(aQ H3 t (.tup [.int 0,.int (-1)])) st=some (.lst [.ref scr,.int ((k:Int)+1),.int c']):=by rw[az n3];exact h3
  have s4:jD K (aQ H3 t (.tup [.int 0,.int (-1)])) scr ns:=s3.mono (.of_same ((aI.refl H3).new ht))
  refine MB (λ_=>?_) (λ_=>?_)
  ·-- _law_state[2],_law_digit=divmod(_law_state[2],_law_many)
   refine⟨_,rfl,.inl ⟨st,_,_,_,rfl,rfl,cx.of h4,xx (by decide) rfl,_,rfl,_,_,rfl,⟨m0,m1⟩,λp2 hp2=>?_⟩⟩
   have n4:st≠p2:=aJ h4 hp2
   refine⟨p2,_,rfl,cz.of aj,rfl,_,_,rfl,_,rfl,L3 (by rw[az n4];exact h4) (by decide) (by show 2<3;decide) ?_⟩
   refine⟨_,_,rfl,rfl,_,rfl,?_⟩
   have B5:=(B4.new (o:=.tup [.int (c' / m),.int (c' % m)]) hp2)
   have s5:jD K (aQ (aQ H3 t (.tup [.int 0,.int (-1)])) p2 (.tup [.int (c' / m),.int (c' % m)])) scr ns:=s4.mono (.of_same ((aI.refl _).new hp2))
   have h5:(aQ (aQ H3 t (.tup [.int 0,.int (-1)])) p2 (.tup [.int (c' / m),.int (c' % m)])) st=some (.lst [.ref scr,.int ((k:Int)+1),.int c']):=by rw[az n4];exact h4
   refine q _ _ (cB _ (by lia)) (cA _ m0) ⟨scr,ns,c' / m,?_,s5.mono (.of_but .upd_at h5),hns⟩ (B5.trans .upd_at)
   have e1:(((k+1:Nat):Nat):Int)=(k:Int)+1:=by lia
   rw[aj,e1]
   rfl
  ·exact rD hk m0 q h4 s4 hns B4
 have e1:(((k+1:Nat):Nat):Int)=(k:Int)+1:=by lia
 have elif:gu (cC (bO Ca (av 3) (eW (fP K) (ak (av 2) aO)))) (de (bO kr (bO (e8 K) (av 2) (av 3)) (av 1))) eE
   {nx:=qg K {nx:=λ_ H'=>Q V.non H',rt:=Q},rt:=Q} [some (V.ref st),some (V.int m),some (V.ref scr),some (V.int (k:Nat)),none,none] H2:=by
  refine⟨_,rfl,_,rfl,_,_,rfl,.inl ⟨_,s2.sq,rfl⟩,_,_,rfl,rfl,_,rfl,dE (λhlt=>?_) (λ_=>tail)⟩
  rw[af] at hlt
  have j2:((k:Nat):Int).toNat<ns.length:=by lia
  refine⟨_,rfl,_,rfl,mj s2.sq (by lia) (v:=.int ns[((k:Nat):Int).toNat]) (by rw[aG,aa j2];rfl) ?_⟩
  refine⟨_,rfl,_,_,rfl,rfl,m0,?_⟩
  exact q _ H2 (cB _ (by lia)) (cA _ m0) ⟨scr,ns,c,by rw[e1];exact h2,s2,hns⟩ B2
 refine⟨_,rfl,_,_,rfl,rfl,⟨by decide,by decide⟩,.inl ⟨_,_,rfl,rfl,_,rfl,_,_,rfl,.inl ⟨_,s2.sq,rfl⟩,_,_,rfl,rfl,_,rfl,dE (λhlt=>?_) (λ_=>?_)⟩⟩
 ·rw[af] at hlt
  have hlp:0<ns.length:=by lia
  have i0:(ns.map V.int)[(0:Int).toNat]?=some (.int ns[0]):=by
   show(ns.map V.int)[0]?=_
   rw[aG,aa hlp];rfl
  refine⟨_,rfl,mj s2.sq (by decide) i0 ⟨_,_,rfl,rfl,(by show(0:Int)<2;decide),.inl ⟨rfl,_,rfl,dE (λ_=>?_) (λ_=>?_)⟩⟩⟩
  ·-- if _law_k % 12==0
   refine⟨_,rfl,_,_,rfl,rfl,(by show(0:Int)<12;decide),.inl ⟨rfl,_,rfl,dE (λ_=>?_) (λ_=>dig c H2 h2 s2 B2)⟩⟩
   have j2:((k:Int) / 12+1).toNat<ns.length:=by lia
   refine⟨_,rfl,_,rfl,_,_,rfl,rfl,⟨by decide,by decide⟩,.inl ⟨_,_,rfl,rfl,mj s2.sq (by lia) (v:=.int ns[((k:Int) / 12+1).toNat]) (by rw[aG,aa j2];rfl) ?_⟩⟩
   refine⟨_,rfl,L3 h2 (by decide) (by show 2<3;decide) ?_⟩
   exact dig _ _ aj (s2.mono (.of_but .upd_at h2)) (B2.trans .upd_at)
  ·exact elif
 ·exact gR elif
end Bg
end
section
namespace Bg
open PySem PySem.Spec PyProof.Rows L2
end Bg
end
section
namespace Bg
open PySem L2
theorem yu{ys:List Str}{i:Nat}{x:V}(hx:(ys.map V.str)[i]?=some x):∃y:Str,ys[i]?=some y/\x=.str y:=by
 rw[aG] at hx
 cases e:ys[i]? with
 |none=>rw[e] at hx;cases hx
 |some n=>rw[e] at hx;exact⟨n,rfl,(Option.some.inj hx).symm⟩
theorem wz(y:Str)(m:Option Str):HG (.str y) (i7 m)=true:=by cases m<;>rfl
theorem Dm(y:Str)(m:Option Str):decide (V.str y=i7 m)=decide (m=some y):=by
 cases m with
 |none=>simp[i7]
 |some z=>
  by_cases e:z=y
  ·subst e;simp[i7]
  ·have:y≠z:=λh=>e h.symm
   simp[i7,e,this]
theorem Af{K:Fg}{vs:List V}{H:Hp}{Q:VK}{E:XK}(h:kX K vs H Q E):rP K {nx:=λ_ H'=>Q .non H',rt:=Q} (start md vs) H:=by
 obtain⟨t,m,ss,rfl,ht,hl,q⟩:=h
 refine .inr ⟨_,rfl,t,rfl,⟨_,cz.of ht⟩,λD nD=>?_⟩
 refine jh (xs:=ss.map V.str) (λi σ' H'=>∃o,σ'=[some (.ref t),some (i7 m),o]/\H' D=some (.lst (((ss.take i).filter λy=>!decide (m=some y)).map V.str))/\aI H H') ?_ ?_ ?_ ?_
 ·exact⟨none,rfl,aj,(aI.refl H).new nD⟩
 ·rintro i σ' H' _ ⟨o,_,_,s⟩
  exact cz.of (s _ _ ht)
 ·rintro i x σ' H1 hx ⟨o,rfl,hD,s⟩
  obtain⟨y,hy,rfl⟩:=yu hx
  have fl:((ss.take i).filter λy=>!decide (m=some y)).length<=ss.length:=a7 (bt _ _) (by rw[aP];exact ia _ _)
  refine⟨_,rfl,_,rfl,.inl ⟨wz y m,_,rfl,?_⟩⟩
  have tk:(ss.take (i+1)).filter (λy=>!decide (m=some y))=((ss.take i).filter λy=>!decide (m=some y))++if(!decide (m=some y))=true then[y] else[]:=by
   rw[lX,hy,eR]
   congr 1
   show[y].filter _=_
   rw[cV]
   split<;>simp_all
  rw[Dm]
  refine oP (λhs=>?_) (λhs=>?_)
  ·refine⟨_,rfl,_,hD,bI (by rw[af];lia),_,rfl,?_,λb u e=>by rw[az (aJ e nD)];exact s b u e⟩
   rw[aj,tk,decide_eq_false hs,aB];rfl
  ·refine⟨_,rfl,?_,s⟩
   rw[tk,decide_eq_true hs]
   simpa using hD
 ·rintro σ' H1 ⟨o,_,hD,s⟩
  rw[af,a8] at hD
  exact⟨D,_,rfl,.inl ⟨cx.of hD,λp np=>q p _ aj (s.new np)⟩⟩
theorem An{K:Fg}{H:Hp}{wp:Addr}{xs:List V}{k:Nat}{Q:VK}(hwp:H wp=some (.tup xs))(hk:k<=xs.length)(h:∀(p:Addr) (H':Hp),H' p=some (.tup (xs.drop k))->aI H H'->Q (.ref p) H') :
  Ey K (.ref wp) (some (k:Int)) none H Q:=by
 by_cases c:k=0
 ·subst c
  refine .inl ⟨wp,xs,rfl,cz.of hwp,⟨?_,?_⟩,h wp H (by rw[jc];exact hwp) (aI.refl H)⟩
  ·rw[HT.sIx_nat];simp
  ·rw[HT.sIx_none]
 ·refine .inr (.inr ⟨wp,xs,rfl,cz.of hwp,λz=>?_,λp np=>?_⟩)
  ·have:=z.1
   rw[HT.sIx_nat] at this
   lia
  ·rw[zc]
   exact h p _ aj ((aI.refl H).new np)
theorem NL{K:Fg}{H:Hp}{p:Addr}{y:Str}{ls:List Str}{Q:VK}(hp:H p=some (.tup (ls.map V.str)))(h:Q (.bl (decide (y∈ls))) H):B9 K false (.str y) (.ref p) H Q:=by
 refine⟨p,_,rfl,.inr (cz.of hp),rfl,vX ls,?_⟩
 rw[zr]
 exact h
theorem Ab{K:Fg}{vs:List V}{H:Hp}{Q:VK}{E:XK}(h:kT K vs H Q E):rL K {nx:=λ_ H'=>Q .non H',rt:=Q} (start rh vs) H:=by
 obtain⟨wp,lt,k,y,ws,last,rfl,⟨⟨wvs,hwp,hA⟩,hlt⟩,hk,q⟩:=h
 have wl:wvs.length=ws.length:=hA.len
 refine .inr ⟨_,rfl,_,rfl,_,rfl,An hwp (by lia) λp H1 hp s1=>⟨p,rfl,⟨_,cz.of hp⟩,mR (xs:=wvs.drop k) (λi σ' H'=>∃o4 o5,σ'=[some (.ref wp),some (.ref lt),some (.int (k:Nat)),some (.str y),o4,o5]/\wn last (ws.drop k) y=wn last (ws.drop (k+i)) y/\aI H1 H') ⟨_,_,rfl,rfl,aI.refl _⟩ ?_ ?_ ?_⟩⟩
 ·rintro i σ' H' _ ⟨_,_,_,_,s⟩
  exact cz.of (s _ _ hp)
 ·rintro i x σ' H2 hx ⟨o4,o5,rfl,e,s2⟩
  rw[je] at hx
  obtain⟨w,ew,a,t,rfl,ha,ht⟩:=hA.of_v hx
  have S:=s1.trans s2
  have ed:ws.drop (k+i)=w::ws.drop (k+(i+1)):=by
   have hlt':k+i<ws.length:=(ae.mp ew).1
   rw[b8 hlt',<-(ae.mp ew).2]
   rfl
  rw[ed] at e
  have e':wn last (ws.drop k) y=(decide (y∈w.ins) || (!decide (w.out=some y)&&wn last (ws.drop (k+(i+1))) y)):=e
  refine⟨a,_,rfl,cz.of (S _ _ ha),rfl,_,_,rfl,_,_,rfl,rfl,?_⟩
  show nX K _ [some (.ref wp),some (.ref lt),some (.int (k:Nat)),some (.str y),some (.ref t),some (i7 w.out)] H2
  refine⟨_,rfl,_,rfl,NL (S _ _ ht) ⟨_,rfl,dE (λc=>?_) (λc=>?_)⟩⟩
  ·have:=q H2 S
   rw[e',decide_eq_true c] at this
   exact this
  ·rw[decide_eq_false c,Bool.false_or] at e'
   refine⟨_,rfl,_,rfl,.inr (.inl ⟨by cases w.out<;>rfl,_,rfl,dE (λd=>?_) (λd=>?_)⟩)⟩
   ·have:=q H2 S
    have d':w.out=some y:=by cases ho:w.out with
     |none=>rw[ho] at d;cases d
     |some z=>rw[ho] at d;injection d with d;rw[d]
    rw[e',decide_eq_true d'] at this
    exact this
   ·have d':w.out≠some y:=λz=>d (by rw[z];rfl)
    rw[decide_eq_false d',Bool.not_false,Bool.true_and] at e'
    exact⟨_,_,rfl,e',s2⟩
 ·rintro σ' H2 ⟨o4,o5,rfl,e,s2⟩
  have S:=s1.trans s2
  rw[cE,show k+(wvs.length-k)=ws.length by lia,fE] at e
  refine⟨_,rfl,_,rfl,NL (S _ _ hlt) ?_⟩
  have:=q H2 S
  rw[e] at this
  exact this
theorem Mr{K:Fg}{H:Hp}{a b:Addr}{xs ys:List V}{Q:VK}(ha:H a=some (.tup xs))(hb:H b=some (.tup ys))(hl:xs.length+ys.length<=sizeLine)(h:∀(p:Addr) (H':Hp),H' p=some (.tup (xs++ys))->aI H H'->Q (.ref p) H') :
  kQ K (.ref a) (.ref b) H Q:=by
 by_cases c:xs=[]
 ·subst c
  exact .inl ⟨a,b,ys,rfl,rfl,cz.of ha,cz.of hb,h b H hb (aI.refl H)⟩
 ·refine .inr (.inr (.inr (.inr ⟨a,b,xs,ys,rfl,rfl,cz.of ha,cz.of hb,c,hl,λe=>?_,λ_ p np=>h p _ aj ((aI.refl H).new np)⟩)))
  subst e
  exact h a H (by rw[dZ];exact ha) (aI.refl H)
theorem AY{dd last:List Str}(hl:∀y∈last,y∈dd):∀{ws:List Wk},(∀w∈ws,∀y∈w.ins,y∈dd)->∀{y:Str},wn last ws y=true->y∈dd
 |[],_,y,h=>hl y (by simpa[wn] using h)
 |w::r,hw,y,h=>by
  have h':(decide (y∈w.ins) || (!decide (w.out=some y)&&wn last r y))=true:=h
  rw[Bool.or_eq_true,Bool.and_eq_true,decide_eq_true_eq] at h'
  rcases h' with h'|h'
  ·exact hw w bf y h'
  ·exact AY hl (λw' m=>hw w' (a9 _ m)) h'.2
theorem bj.rev{α:Type}{R:V->α->Prop}{vs:List V}{rs:List α}(h:bj R vs rs):bj R vs.reverse rs.reverse:=by
 refine⟨by rw[bN,bN];exact h.len,λi v r a b=>?_⟩
 have l1:i<vs.length:=by have:=(ae.mp a).1;rwa [bN] at this
 have l2:i<rs.length:=by rw[<-h.len];exact l1
 rw[bS l1] at a
 rw[bS l2,<-h.len] at b
 exact h.at_ _ v r a b
theorem FC.mono{H H':Hp}{v:V}{ss:List Str}(h:FC H v ss)(s:∀b xs,H b=some (.tup xs)->H' b=some (.tup xs)):FC H' v ss:=by
 obtain⟨p,e,a⟩:=h
 exact⟨p,e,s _ _ a⟩
structure NU(H:Hp)(pl:Addr)(last:List Str)(ws:List Wk)(H':Hp)(i:Nat)(t:Addr)(us:List Str)(tvs:List V)(pss:List (List Str)):Prop where
 ht:H' t=some (.tup (us.map V.str))
 ok:Bj last ws (ws.length-i) us
 hp:H' pl=some (.lst tvs)
 all:bj (FC H') tvs pss
 len:pss.length=i+1
 oks:∀(j:Nat) ss,pss[j]?=some ss->Bj last ws (ws.length-j) ss
 sm:aI H H'
theorem vx{K:Fg}{vs:List V}{H:Hp}{Q:VK}{E:XK}(h:gN K vs H Q E):oz K {nx:=λ_ H'=>Q .non H',rt:=Q} (start nI vs) H:=by
 obtain⟨wp,lt,ws,last,dd,rfl,⟨⟨wvs,hwp,hA⟩,hlt⟩,F,q⟩:=h
 have wl:wvs.length=ws.length:=hA.len
 have w100:=F.w100
 have d64:=F.d64
 have win:∀(k:Nat) {y:Str},wn last (ws.drop k) y=true->y∈dd:=λk y h=>AY F.lst (λw m=>(F.ins w (dv m)).2) h
 refine⟨_,rfl,lt,true,last,dd,rfl,cz.of hlt,a7 F.l100 (by decide),F.lst,F.d64,λl us nl und umem usrt=>⟨l,_,rfl,.inl ⟨cx.of aj,λt nt=>?_⟩⟩⟩
 have s1:aI H (aQ (aQ H l (.lst (us.map V.str))) t (.tup (us.map V.str))):=((aI.refl H).new nl).new nt
 have ht1:(aQ (aQ H l (.lst (us.map V.str))) t (.tup (us.map V.str))) t=some (.tup (us.map V.str)):=aj
 show lL K _ [some (.ref wp),some (.ref lt),some (.ref t),none,none] _
 generalize aQ (aQ H l (.lst (us.map V.str))) t (.tup (us.map V.str))=H1 at s1 ht1 ⊢
 refine⟨_,rfl,(by show 1<=sizeLine;decide),λpl npl=>?_⟩
 have s2:aI H (aQ H1 pl (.lst [.ref t])):=s1.new npl
 have ht2:aQ H1 pl (.lst [.ref t]) t=some (.tup (us.map V.str)):=by rw[az (aJ ht1 npl)];exact ht1
 have hp2:aQ H1 pl (.lst [.ref t]) pl=some (.lst [.ref t]):=aj
 have Hpl:H pl=none:=by
  cases ee:H pl with
  |none=>rfl
  |some u=>rw[s1 _ _ ee] at npl;cases npl
 show lK K _ [some (.ref wp),some (.ref lt),some (.ref t),some (.ref pl),none] _
 generalize aQ H1 pl (.lst [.ref t])=H2 at s2 ht2 hp2 ⊢
 have ok0:Bj last ws ws.length us:=⟨qV usrt,und,λy=>by rw[umem,fE];simp[wn]⟩
 refine⟨_,rfl,wp,wvs,rfl,cz.of (s2 _ _ hwp),Je (xs:=wvs) (λi σ' H'=>∃(t:Addr) (o4:Option V) (us:List Str) (tvs:List V) (pss:List (List Str)),σ'=[some (.ref wp),some (.ref lt),some (.ref t),some (.ref pl),o4]/\NU H pl last ws H' i t us tvs pss)
  ⟨t,none,us,[.ref t],[us],rfl,ht2,ok0,hp2,⟨rfl,λi v r a b=>?_⟩,rfl,λj ss e=>?_,s2⟩ ?_ ?_ ?_⟩
 ·cases i with
  |zero=>cases a;cases b;exact⟨t,rfl,ht2⟩
  |succ n=>simp at a
 ·cases j with
  |zero=>cases e;exact ok0
  |succ n=>simp at e
 ·rintro i σ' H' _ ⟨_,_,_,_,_,_,W⟩
  exact cz.of (W.sm _ _ hwp)
 ·rintro i x σ' H3 hx ⟨t,o4,us,tvs,pss,rfl,W⟩
  have ilt:i<wvs.length:=by have:=(ae.mp hx).1;rwa [bN] at this
  rw[bS ilt] at hx
  obtain⟨w,ew,a,ti,rfl,ha,hti⟩:=hA.of_v hx
  have ed:ws.drop (ws.length-(i+1))=w::ws.drop (ws.length-i):=by
   rw[show ws.length-(i+1)=wvs.length-1-i by lia]
   rw[b8 (ae.mp ew).1,(ae.mp ew).2,show wvs.length-1-i+1=ws.length-i by lia]
  have ul:us.length<64:=dh (jX W.ok.nd λy hy=>win _ ((W.ok.mem y).mp hy)) d64
  have S3:=W.sm
  obtain⟨il,iin⟩:=F.ins w (aA ew)
  show lJ K _ [some (.ref wp),some (.ref lt),some (.ref t),some (.ref pl),some (.ref a)] H3
  refine⟨_,rfl,_,rfl,yD (S3 _ _ ha) (by decide) rfl ⟨t,w.out,us,rfl,W.ht,by lia,λp H4 hp4 s4=>⟨_,rfl,yD (s4 _ _ (S3 _ _ ha)) (by decide) rfl ⟨ti,_,rfl,.inr ⟨cz.of (s4 _ _ (S3 _ _ hti)),?_⟩⟩⟩⟩⟩
  have fl:(us.filter λy=>!decide (w.out=some y)).length<=us.length:=bt _ _
  refine Mr hp4 (s4 _ _ (S3 _ _ hti)) (bW (bI (by rw[af,af];lia))) λp5 H5 hp5 s5=>?_
  rw[<-aB] at hp5
  refine⟨p5,true,_,dd,rfl,cz.of hp5,by rw[ai];lia,λy hy=>?_,d64,λl us' nl und umem usrt=>⟨l,_,rfl,.inl ⟨cx.of aj,λt' nt=>?_⟩⟩⟩
  ·rcases aE.mp hy with hy|hy
   ·exact win _ ((W.ok.mem y).mp (bh.mp hy).1)
   ·exact iin y hy
  have s6:aI H3 (aQ (aQ H5 l (.lst (us'.map V.str))) t' (.tup (us'.map V.str))):=(((s4.trans s5)).new nl).new nt
  have ht6:(aQ (aQ H5 l (.lst (us'.map V.str))) t' (.tup (us'.map V.str))) t'=some (.tup (us'.map V.str)):=aj
  show lI K _ [some (.ref wp),some (.ref lt),some (.ref t'),some (.ref pl),some (.ref a)] _
  generalize aQ (aQ H5 l (.lst (us'.map V.str))) t' (.tup (us'.map V.str))=H6 at s6 ht6 ⊢
  have hpl6:=s6 _ _ W.hp
  have tl:tvs.length=i+1:=by rw[W.all.len,W.len]
  have ok':Bj last ws (ws.length-(i+1)) us':=⟨qV usrt,und,λy=>by
   rw[umem,aE,bh,W.ok.mem,ed]
   show _↔(decide (y∈w.ins) || (!decide (w.out=some y)&&wn last (ws.drop (ws.length-i)) y))=true
   rw[Bool.or_eq_true,Bool.and_eq_true,decide_eq_true_eq]
   exact⟨λh=>h.elim (λh=>.inr ⟨h.2,h.1⟩) .inl,λh=>h.elim .inr λh=>.inl ⟨h.2,h.1⟩⟩⟩
  refine⟨_,rfl,.inl ⟨rfl,_,cx.of hpl6⟩,_,rfl,pl,tvs,_,rfl,rfl,hpl6,bI (by lia),t',_,us',tvs++[.ref t'],pss++[us'],rfl,?_⟩
  have up:∀b xs,H6 b=some (.tup xs)->aQ H6 pl (.lst (tvs++[.ref t'])) b=some (.tup xs):=λb xs e=>by
   rw[az (zP e hpl6 (by intro z;cases z))];exact e
  refine⟨up _ _ ht6,ok',aj,⟨by rw[ai,ai,W.all.len];rfl,λj v r e1 e2=>?_⟩,by rw[ai,W.len];rfl,λj ss e=>?_,λb u e=>by rw[az (aJ e Hpl)];exact s6 _ _ (S3 b u e)⟩
  ·rcases cf j tvs.length with hj|hj
   ·rw[au hj] at e1
    rw[au (by rw[<-W.all.len];exact hj)] at e2
    exact(W.all.at_ j v r e1 e2).mono λb xs e=>up _ _ (s6 _ _ e)
   ·rw[aq hj] at e1
    rw[aq (by rw[<-W.all.len];exact hj),<-W.all.len] at e2
    cases ej:j-tvs.length with
    |zero=>rw[ej] at e1 e2;cases e1;cases e2;exact⟨t',rfl,up _ _ ht6⟩
    |succ n=>rw[ej] at e1;simp at e1
  ·rcases cf j pss.length with hj|hj
   ·rw[au hj] at e
    exact W.oks j ss e
   ·rw[aq hj] at e
    cases ej:j-pss.length with
    |zero=>
     rw[ej] at e;cases e
     have:j=i+1:=by have:=W.len;lia
     rw[this];exact ok'
    |succ n=>rw[ej] at e;simp at e
 ·rintro σ' H3 ⟨t,o4,us,tvs,pss,rfl,W⟩
  refine⟨_,rfl,pl,tvs,rfl,cx.of W.hp,λl nl=>?_⟩
  have up:∀b xs,H3 b=some (.tup xs)->aQ H3 l (.lst tvs.reverse) b=some (.tup xs):=λb xs e=>by
   rw[az (aJ e nl)];exact e
  have Hl:H l=none:=by
   cases ee:H l with
   |none=>rfl
   |some u=>rw[W.sm _ _ ee] at nl;cases nl
  refine q l tvs.reverse pss.reverse _ Hl aj (W.all.rev.imp λ_ _ z=>z.mono up) ⟨by rw[bN,W.len,wl],λk ss e=>?_⟩ (W.sm.new nl)
  have lk:k<pss.length:=by have:=(ae.mp e).1;rwa [bN] at this
  rw[bS lk] at e
  have:=W.oks _ ss e
  have hl:=W.len
  rw[show ws.length-(pss.length-1-k)=k by lia] at this
  exact this
theorem FM(pl:Int)(ws:List Wk)(pss:List (List Str))(f k:Nat):A2 pl ws pss (f+1) k =
  if pl<((pss.getD k []).length:Int) then some (("ahead":Str),k,pss.getD k []) else
  match(ws[k]?).bind (·.out) with
  |some y=>if pl-1<(((pss.getD (k+1) []).filter λz=>!decide (some y=some z)).length:Int) then some (("behind":Str),k,(pss.getD (k+1) []).filter λz=>!decide (some y=some z)) else A2 pl ws pss f (k+1)
  |none=>A2 pl ws pss f (k+1):=rfl
theorem C8{pss:List (List Str)}{k:Nat}{ss:List Str}(h:pss[k]?=some ss):pss.getD k []=ss:=by
 rw[bH,h];rfl
theorem Ez{K:Fg}{vs:List V}{H:Hp}{Q:VK}{E:XK}(h:kS K vs H Q E):wM K {nx:=λ_ H'=>Q .non H',rt:=Q} (start qH vs) H:=by
 obtain⟨pl,wp,l,wvs,tvs,ws,pss,rfl,hwp,hW,hl,hA,plen,w100,few,q⟩:=h
 generalize hR0:A2 pl ws pss (ws.length+1) 0=R at q
 have wl:wvs.length=ws.length:=hW.len
 have tl:tvs.length=ws.length+1:=by rw[hA.len,plen]
 refine⟨_,rfl,_,_,rfl,.inl ⟨_,cx.of hl,rfl⟩,_,rfl,by lia,by lia,ig (n:=tvs.length) (λi σ' H'=>∃o3 o4,σ'=[some (.int pl),some (.ref wp),some (.ref l),o3,o4]/\R=A2 pl ws pss (ws.length+1-i) i/\aI H H') ⟨_,_,rfl,hR0.symm,aI.refl _⟩ ?_ ?_⟩
 ·rintro i σ' H3 hi ⟨o3,o4,rfl,e,S3⟩
  obtain⟨v1,ss,ev1,ess,t,rfl,ht⟩:=hA.get (i:=i) (by lia)
  rw[show ws.length+1-i=(ws.length-i)+1 by lia,FM,C8 ess] at e
  show rK K _ [some (.int pl),some (.ref wp),some (.ref l),some (.int ((0:Int)+(i:Nat))),o4] H3
  rw[show((0:Int)+(i:Nat))=(i:Nat) by lia]
  have ixl:∀{H':Hp} {Q':VK},aI H H'->Q' (.ref t) H'->e8 K (.ref l) (.int (i:Nat)) H' Q':=λs q'=>mj (cx.of (s _ _ hl)) (by lia) (show tvs[((i:Nat):Int).toNat]?=some (.ref t) by simpa using ev1) q'
  refine⟨_,rfl,_,rfl,ixl S3 ⟨_,_,rfl,.inr ⟨_,cz.of (S3 _ _ ht),rfl⟩,_,rfl,_,_,rfl,rfl,_,rfl,dE (λc=>?_) (λc=>?_)⟩⟩
  ·rw[af] at c
   rw[if_pos c] at e
   refine⟨_,rfl,_,rfl,_,rfl,ixl S3 ⟨(by show 3<=sizeLine;decide),λr nr=>q _ _ ?_ (S3.new nr)⟩⟩
   rw[e]
   exact⟨r,t,rfl,aj,by rw[az (aJ (S3 _ _ ht) nr)];exact S3 _ _ ht⟩
  ·rw[af] at c
   rw[if_neg c] at e
   refine⟨_,rfl,_,rfl,_,_,rfl,.inr ⟨_,cz.of (S3 _ _ hwp),rfl⟩,_,_,rfl,rfl,_,rfl,dE (λd=>?_) (λd=>gR ?_)⟩
   ·obtain⟨v,w,ev,ew,a,ti,rfl,ha,hti⟩:=hW.get (i:=i) (by lia)
    rw[ew] at e
    have ixw:∀{H':Hp} {Q':VK},aI H H'->Q' (.ref a) H'->e8 K (.ref wp) (.int (i:Nat)) H' Q':=λs q'=>yD (s _ _ hwp) (by lia) (show wvs[((i:Nat):Int).toNat]?=some (.ref a) by simpa using ev) q'
    refine⟨_,rfl,_,rfl,ixw S3 (yD (S3 _ _ ha) (by decide) rfl ⟨rfl,_,rfl,?_⟩)⟩
    cases ho:w.out with
    |none=>
     rw[show(some w).bind (·.out)=none from ho] at e
     exact gR ⟨_,_,rfl,by rw[show ws.length+1-(i+1)=ws.length-i by lia];exact e,S3⟩
    |some y=>
     rw[show(some w).bind (·.out)=some y from ho] at e
     obtain⟨v2,ss2,ev2,ess2,t2,rfl,ht2⟩:=hA.get (i:=i+1) (by lia)
     rw[C8 ess2] at e
     have f2:=few ss2 (aA ess2)
     refine rY (.inr ⟨_,rfl,_,rfl,.inl ⟨_,_,rfl,rfl,mj (cx.of (S3 _ _ hl)) (by lia) (show tvs[((i:Nat)+1:Int).toNat]?=some (.ref t2) by rw[show((i:Nat)+1:Int).toNat=i+1 by lia];exact ev2) ⟨t2,rfl,⟨_,cz.of (S3 _ _ ht2)⟩,λD nD=>?_⟩⟩⟩)
     refine jh (xs:=ss2.map V.str) (λj σ' H'=>∃o,σ'=[some (.int pl),some (.ref wp),some (.ref l),some (.int (i:Nat)),o4,o]/\H' D=some (.lst (((ss2.take j).filter λz=>!decide (some y=some z)).map V.str))/\aI H3 H') ?_ ?_ ?_ ?_
     ·exact⟨none,rfl,aj,(aI.refl H3).new nD⟩
     ·rintro j σ' H' _ ⟨o,_,_,s⟩
      exact cz.of (s _ _ (S3 _ _ ht2))
     ·rintro j x σ' H4 hx ⟨o,rfl,hD,s4⟩
      obtain⟨z,hz,rfl⟩:=yu hx
      have fl:((ss2.take j).filter λz=>!decide (some y=some z)).length<=ss2.length:=a7 (bt _ _) (by rw[aP];exact ia _ _)
      refine⟨_,rfl,_,rfl,_,rfl,ixw (S3.trans s4) (yD (s4 _ _ (S3 _ _ ha)) (by decide) rfl (.inl ⟨wz z w.out,_,rfl,?_⟩))⟩
      have tk:(ss2.take (j+1)).filter (λz=>!decide (some y=some z))=((ss2.take j).filter λz=>!decide (some y=some z))++if(!decide (some y=some z))=true then[z] else[]:=by
       rw[lX,hz,eR]
       congr 1
       show[z].filter _=_
       rw[cV]
       split<;>simp_all
      rw[Dm,ho]
      refine oP (λhs=>?_) (λhs=>?_)
      ·refine⟨_,rfl,_,hD,bI (by rw[af];lia),_,rfl,?_,λb u e=>by rw[az (aJ e nD)];exact s4 b u e⟩
       rw[aj,tk,decide_eq_false hs,aB];rfl
      ·refine⟨_,rfl,?_,s4⟩
       rw[tk,decide_eq_true hs]
       simpa using hD
     ·rintro σ' H4 ⟨o,_,hD,s4⟩
      rw[af,a8] at hD
      refine⟨D,_,rfl,.inl ⟨cx.of hD,λp5 np5=>?_⟩⟩
      have s5:aI H3 (aQ H4 p5 (.tup ((ss2.filter λz=>!decide (some y=some z)).map V.str))):=s4.new np5
      have hp5:aQ H4 p5 (.tup ((ss2.filter λz=>!decide (some y=some z)).map V.str)) p5=some (.tup ((ss2.filter λz=>!decide (some y=some z)).map V.str)):=aj
      show rJ K _ [some (.int pl),some (.ref wp),some (.ref l),some (.int (i:Nat)),some (.ref p5)] _
      generalize aQ H4 p5 (.tup ((ss2.filter λz=>!decide (some y=some z)).map V.str))=H5 at s5 hp5 ⊢
      replace e:R=if pl-1<(((ss2).filter λz=>!decide (some y=some z)).length:Int) then some (("behind":Str),i,ss2.filter λz=>!decide (some y=some z)) else A2 pl ws pss (ws.length-i) (i+1):=e
      refine⟨_,rfl,_,_,rfl,.inr ⟨_,cz.of hp5,rfl⟩,_,rfl,_,_,rfl,rfl,_,_,rfl,rfl,_,rfl,dE (λg=>?_) (λg=>?_)⟩
      ·rw[af] at g
       rw[if_pos g] at e
       refine⟨_,rfl,_,rfl,(by show 3<=sizeLine;decide),λr nr=>q _ _ ?_ ((S3.trans s5).new nr)⟩
       rw[e]
       exact⟨r,p5,rfl,aj,by rw[az (aJ hp5 nr)];exact hp5⟩
      ·rw[af] at g
       rw[if_neg g] at e
       exact⟨_,_,rfl,by rw[show ws.length+1-(i+1)=ws.length-i by lia];exact e,S3.trans s5⟩
   ·have:ws[i]?=none:=aZ (by lia)
    rw[this] at e
    exact⟨_,_,rfl,by rw[show ws.length+1-(i+1)=ws.length-i by lia];exact e,S3⟩
 ·rintro σ' H2 ⟨o3,o4,rfl,e,s2⟩
  rw[tl,bo] at e
  exact q .non H2 (by rw[e];rfl) s2
theorem ka.same{H H':Hp}{wp lt:Addr}{ws:List Wk}{last:List Str}(h:ka H wp lt ws last)(s:aI H H'):ka H' wp lt ws last:=by
 obtain⟨⟨wvs,a,b⟩,c⟩:=h
 exact⟨⟨wvs,s _ _ a,b.imp λ_ _ z=>z.tp λb xs e=>s _ _ e⟩,s _ _ c⟩
structure NT(H:Hp)(l:Addr)(last:List Str)(ws:List Wk)(H':Hp)(i:Nat)(tvs:List V)(pss:List (List Str)):Prop where
 hl:H' l=some (.lst tvs)
 all:bj (FC H') tvs pss
 len:pss.length=i
 oks:∀(j:Nat) ss,pss[j]?=some ss->Bj last ws j ss
 sm:aI H H'
theorem Ho{K:Fg}{vs:List V}{H:Hp}{Q:VK}{E:XK}(h:kx K vs H Q E):AO K {nx:=λ_ H'=>Q .non H',rt:=Q} (start sV vs) H:=by
 obtain⟨wp,lt,nm,ws,last,ys,rfl,WA,F,hnm,ynd,q⟩:=h
 obtain⟨⟨wvs,hwp,hW⟩,hlt⟩:=id WA
 have wl:wvs.length=ws.length:=hW.len
 have w100:=F.w100
 have d64:=F.d64
 refine⟨(by show 0<=sizeLine;decide),λl nl=>?_⟩
 have s1:aI H (aQ H l (.lst [])):=(aI.refl H).new nl
 have hl1:aQ H l (.lst []) l=some (.lst []):=aj
 show uQ K _ [some (.ref wp),some (.ref lt),some (.ref nm),some (.ref l),none] _
 generalize aQ H l (.lst [])=H1 at s1 hl1 ⊢
 refine⟨_,rfl,_,_,rfl,.inr ⟨_,cz.of (s1 _ _ hwp),rfl⟩,.inl ⟨_,_,rfl,rfl,_,rfl,by lia,by lia,ig (n:=wvs.length+1) (λi σ' H'=>∃o4 tvs pss,σ'=[some (.ref wp),some (.ref lt),some (.ref nm),some (.ref l),o4]/\NT H l last ws H' i tvs pss)
  ⟨none,[],[],rfl,hl1,⟨rfl,λi v r a=>by simp at a⟩,rfl,λj ss e=>by simp at e,s1⟩ ?_ ?_⟩⟩
 ·rintro i σ' H2 hi ⟨o4,tvs,pss,rfl,P⟩
  show uP K _ [some (.ref wp),some (.ref lt),some (.ref nm),some (.ref l),some (.int ((0:Int)+(i:Nat)))] H2
  rw[show((0:Int)+(i:Nat))=(i:Nat) by lia]
  refine⟨_,rfl,.inl ⟨rfl,_,cx.of P.hl⟩,.inl ⟨_,rfl,nm,ys,rfl,cx.of (P.sm _ _ hnm),d64,λsl ys' nsl perm srt=>⟨sl,rfl,⟨_,cx.of aj⟩,λD nD=>?_⟩⟩⟩
  have s3:aI H2 (aQ H2 sl (.lst (ys'.map V.str))):=(aI.refl H2).new nsl
  have hsl3:aQ H2 sl (.lst (ys'.map V.str)) sl=some (.lst (ys'.map V.str)):=aj
  generalize aQ H2 sl (.lst (ys'.map V.str))=H3 at s3 hsl3 nD ⊢
  have yl:ys'.length=ys.length:=perm.length_eq
  refine kc (xs:=ys'.map V.str) (λj σ' H'=>∃(o5:Option V) (us:List Str),σ'=[some (.ref wp),some (.ref lt),some (.ref nm),some (.ref l),some (.int (i:Nat)),o5]/\H' D=some (.lst (us.map V.str))/\us.Sublist (ys'.take j)/\(∀y,y∈us↔y∈ys'.take j/\wn last (ws.drop i) y=true)/\aI H3 H') ?_ ?_ ?_ ?_
  ·exact⟨none,[],rfl,aj,List.Sublist.refl _,λy=>by simp,(aI.refl H3).new nD⟩
  ·rintro j σ' H' _ ⟨_,_,_,_,_,_,s⟩
   exact cx.of (s _ _ hsl3)
  ·rintro j x σ' H4 hx ⟨o5,us,rfl,hD,sub,hu,s4⟩
   obtain⟨y,hy,rfl⟩:=yu hx
   have tk:ys'.take (j+1)=ys'.take j++[y]:=by rw[lX,hy];rfl
   have ul:us.length<=ys'.length:=a7 sub.length_le (by rw[aP];exact ia _ _)
   refine⟨_,rfl,_,rfl,_,rfl,_,rfl,wp,lt,i,y,ws,last,rfl,WA.same ((P.sm.trans s3).trans s4),by lia,λH5 s5=>⟨_,rfl,?_⟩⟩
   cases hb:wn last (ws.drop i) y with
   |true=>
    refine rY ⟨_,rfl,_,s5 _ _ hD,bI (by rw[af];lia),_,us++[y],rfl,?_,?_,λz=>?_,λb u e=>by rw[az (aJ e nD)];exact s5 _ _ (s4 b u e)⟩
    ·rw[aj,aB];rfl
    ·rw[tk];exact sub.append (List.Sublist.refl _)
    ·rw[tk,aE,aE,hu z,ao]
     constructor
     ·rintro(⟨a,b⟩|rfl)
      ·exact⟨.inl a,b⟩
      ·exact⟨.inr rfl,hb⟩
     ·rintro⟨a|a,b⟩
      ·exact .inl ⟨a,b⟩
      ·exact .inr a
   |false=>
    refine gR ⟨_,us,rfl,s5 _ _ hD,?_,λz=>?_,s4.trans s5⟩
    ·rw[tk];exact sub.trans (List.sublist_append_left _ _)
    ·rw[tk,aE,hu z,ao]
     constructor
     ·rintro⟨a,b⟩;exact⟨.inl a,b⟩
     ·rintro⟨a|a,b⟩
      ·exact⟨a,b⟩
      ·subst a;rw[hb] at b;cases b
  ·rintro σ' H4 ⟨o5,us,rfl,hD,sub,hu,s4⟩
   rw[af,a8] at sub hu
   refine⟨D,_,rfl,.inl ⟨cx.of hD,λt nt=>?_⟩⟩
   have s5:aI H2 (aQ H4 t (.tup (us.map V.str))):=(s3.trans s4).new nt
   have ht5:aQ H4 t (.tup (us.map V.str)) t=some (.tup (us.map V.str)):=aj
   generalize aQ H4 t (.tup (us.map V.str))=H5 at s5 ht5 ⊢
   have hl5:=s5 _ _ P.hl
   have tl:tvs.length=i:=by rw[P.all.len,P.len]
   have ok':Bj last ws i us:=⟨(qV srt).sublist sub,(perm.nodup_iff.mpr ynd).sublist sub,λy=>by
    rw[hu,perm.mem_iff]
    exact⟨λh=>h.2,λh=>⟨AY F.lst (λw m=>(F.ins w (dv m)).2) h,h⟩⟩⟩
   have up:∀b xs,H5 b=some (.tup xs)->aQ H5 l (.lst (tvs++[.ref t])) b=some (.tup xs):=λb xs e=>by
    rw[az (zP e hl5 (by intro z;cases z))];exact e
   refine⟨l,tvs,_,rfl,rfl,hl5,bI (by lia),_,tvs++[.ref t],pss++[us],rfl,aj,⟨by rw[ai,ai,P.all.len];rfl,λj v r e1 e2=>?_⟩,by rw[ai,P.len];rfl,λj ss e=>?_,λb u e=>by rw[az (aJ e nl)];exact s5 _ _ (P.sm b u e)⟩
   ·rcases cf j tvs.length with hj|hj
    ·rw[au hj] at e1
     rw[au (by rw[<-P.all.len];exact hj)] at e2
     exact(P.all.at_ j v r e1 e2).mono λb xs e=>up _ _ (s5 _ _ e)
    ·rw[aq hj] at e1
     rw[aq (by rw[<-P.all.len];exact hj),<-P.all.len] at e2
     cases ej:j-tvs.length with
     |zero=>rw[ej] at e1 e2;cases e1;cases e2;exact⟨t,rfl,up _ _ ht5⟩
     |succ n=>rw[ej] at e1;simp at e1
   ·rcases cf j pss.length with hj|hj
    ·rw[au hj] at e
     exact P.oks j ss e
    ·rw[aq hj] at e
     cases ej:j-pss.length with
     |zero=>
      rw[ej] at e;cases e
      have:j=i:=by have:=P.len;lia
      rw[this];exact ok'
     |succ n=>rw[ej] at e;simp at e
 ·rintro σ' H2 ⟨o4,tvs,pss,rfl,P⟩
  exact⟨_,rfl,q l tvs pss H2 nl P.hl P.all ⟨by rw[P.len,wl],P.oks⟩ P.sm⟩
theorem J7{K:Fg}{vs:List V}{H:Hp}{Q:VK}{E:XK}(h:qd K vs H Q E):DQ K {nx:=λ_ H'=>Q .non H',rt:=Q} (start CT vs) H:=by
 obtain⟨st,nm,k,ys,rfl,S,hk,nst,hnm,yl,q⟩:=h
 refine⟨_,rfl,(by show 1<=sizeLine;decide),λl1 nl1=>.inr (.inr (.inl ⟨nm,l1,_,_,rfl,rfl,by rw[az (aJ hnm nl1)];exact hnm,aj,bW (bI (by rw[af];show ys.length+1<=100000;lia)),λl2 nl2=>?_⟩))⟩
 have n2:l2≠st:=λz=>by obtain⟨_,e⟩:=(S.new (o:=.lst [V.non]) nl1).lst;rw[z,e] at nl2;cases nl2
 have s2:aI H (aQ (aQ H l1 (.lst [V.non])) l2 (.lst (ys.map V.str++[V.non]))):=((aI.refl H).new nl1).new nl2
 have hl2:aQ (aQ H l1 (.lst [V.non])) l2 (.lst (ys.map V.str++[V.non])) l2=some (.lst (ys.map V.str++[V.non])):=aj
 generalize aQ (aQ H l1 (.lst [V.non])) l2 (.lst (ys.map V.str++[V.non]))=H2 at s2 hl2 ⊢
 have S2:=S.same s2
 refine⟨_,rfl,_,rfl,_,_,rfl,.inl ⟨_,cx.of (s2 _ _ hnm),rfl⟩,.inl ⟨_,_,rfl,rfl,st,_,k,rfl,S2,by lia,by lia,by rw[af];lia,λd H3 d0 d1 S3 B3=>?_⟩⟩
 have h3:=B3 _ _ n2 hl2
 rw[af] at d1
 rcases cf d.toNat ys.length with c|c
 ·refine mj (cx.of h3) d0 (v:=.str ys[d.toNat]) ?_ ?_
  ·rw[au (by rw[af];exact c),aG,aa c];rfl
  ·exact q (some ys[d.toNat]) H3 (λy e=>by injection e with e;rw[<-e];exact b6 c) S3 (λb u n e=>B3 b u n (s2 b u e))
 ·refine mj (cx.of h3) d0 (v:=.non) ?_ ?_
  ·rw[aq (by rw[af];exact c),af,show d.toNat-ys.length=0 by lia];rfl
  ·exact q none H3 (λy e=>by cases e) S3 (λb u n e=>B3 b u n (s2 b u e))
theorem xy{K:Fg}{H H':Hp}{st:Addr}{k:Nat}(S:lU K H st k)(B:iN st H H'):∀b xs,H b=some (.tup xs)->H' b=some (.tup xs):=λb xs e=>by
 refine B b _ (λz=>?_) e
 obtain⟨_,e'⟩:=S.lst
 rw[z,e'] at e;cases e
theorem HJ:∀n:Nat,n<6->∃z:Nat,([V.int 0,V.int 1,V.int 2,V.int 2,V.int 3,V.int 8]:List V)[n]?=some (.int (z:Nat))/\z<=8
 |0,_=>⟨0,rfl,by decide⟩
 |1,_=>⟨1,rfl,by decide⟩
 |2,_=>⟨2,rfl,by decide⟩
 |3,_=>⟨2,rfl,by decide⟩
 |4,_=>⟨3,rfl,by decide⟩
 |5,_=>⟨8,rfl,by decide⟩
 |n+6,h=>absurd h (by lia)
structure Nu(K:Fg)(H:Hp)(st L:Addr)(ys:List Str)(H':Hp)(i k k':Nat)(wvs:List V)(ws:List Wk):Prop where
 hL:H' L=some (.lst wvs)
 all:bj (FD H') wvs ws
 len:ws.length=i
 ok:∀w∈ws,w.ins.length<=8/\∀y∈w.ins,y∈ys
 S:lU K H' st k'
 few:k'<=k+1+12*i
 B:iN st H H'
theorem J8{K:Fg}{vs:List V}{H:Hp}{Q:VK}{E:XK}(h:uy K vs H Q E):DR K {nx:=λ_ H'=>Q .non H',rt:=Q} (start xn vs) H:=by
 obtain⟨st,nm,m,k,ys,rfl,S,hk,nst,hnm,y1,y20,m100,q⟩:=h
 refine⟨(by show 0<=sizeLine;decide),λL nL=>?_⟩
 have S1:=S.new (o:=.lst []) nL
 have s1:aI H (aQ H L (.lst [])):=(aI.refl H).new nL
 have hL1:aQ H L (.lst []) L=some (.lst []):=aj
 have nLst:L≠st:=λz=>by obtain⟨_,e⟩:=S.lst;rw[z,e] at nL;cases nL
 show wY K _ [some (.ref st),some (.ref nm),some (.int (m:Nat)),some (.ref L),none,none,none] _
 generalize aQ H L (.lst [])=H1 at S1 s1 hL1 ⊢
 refine⟨_,rfl,_,rfl,.inl ⟨_,_,rfl,rfl,st,_,k,rfl,S1,by lia,by lia,by lia,λe H2 e0 e1 S2 B2=>⟨e,rfl,by lia,by lia,ig (n:=e.toNat) (λi σ' H'=>∃(o4 o5 o6:Option V) (k':Nat) (wvs:List V) (ws:List Wk),σ'=[some (.ref st),some (.ref nm),some (.int (m:Nat)),some (.ref L),o4,o5,o6]/\Nu K H st L ys H' i k k' wvs ws)
  ⟨none,none,none,k+1,[],[],rfl,B2 _ _ nLst hL1,⟨rfl,λi v r a=>by simp at a⟩,rfl,λw m=>by(cases m),S2,by lia,λb u n e=>B2 b u n (s1 b u e)⟩ ?_ ?_⟩⟩⟩
 ·rintro i σ' H3 hi ⟨o4,o5,o6,k',wvs,ws,rfl,A⟩
  have hi':i<e.toNat:=hi
  have kf:=A.few
  have H3nm:=A.B _ _ nst hnm
  refine⟨(by show 6<=sizeLine;decide),λl4 n4=>?_⟩
  have S4:=A.S.new (o:=.lst [V.int 0,V.int 1,V.int 2,V.int 2,V.int 3,V.int 8]) n4
  have s4:aI H3 (aQ H3 l4 (.lst [V.int 0,V.int 1,V.int 2,V.int 2,V.int 3,V.int 8])):=(aI.refl H3).new n4
  have h4:aQ H3 l4 (.lst [V.int 0,V.int 1,V.int 2,V.int 2,V.int 3,V.int 8]) l4=some (.lst [V.int 0,V.int 1,V.int 2,V.int 2,V.int 3,V.int 8]):=aj
  have n4st:l4≠st:=λz=>by obtain⟨_,e⟩:=A.S.lst;rw[z,e] at n4;cases n4
  generalize aQ H3 l4 (.lst [V.int 0,V.int 1,V.int 2,V.int 2,V.int 3,V.int 8])=H4 at S4 s4 h4 ⊢
  refine⟨_,rfl,st,6,k',rfl,S4,by lia,by decide,by decide,λd H5 d0 d1 S5 B5=>?_⟩
  obtain⟨sz,hsz,sz8⟩:=HJ d.toNat (by lia)
  refine mj (cx.of (B5 _ _ n4st h4)) d0 hsz ?_
  have T5:iN st H3 H5:=λb u n e=>B5 b u n (s4 b u e)
  show wX K _ [some (.ref st),some (.ref nm),some (.int (m:Nat)),some (.ref L),some (.int ((0:Int)+(i:Nat))),some (.int (sz:Nat)),o6] H5
  refine⟨_,rfl,_,rfl,by lia,by lia,λD nD=>?_⟩
  have nDst:D≠st:=λz=>by obtain⟨_,e⟩:=S5.lst;rw[z,e] at nD;cases nD
  refine oK (λj σ' H'=>∃(us:List Str) (kk:Nat) (o:Option V),σ'=[some (.ref st),some (.ref nm),some (.int (m:Nat)),some (.ref L),some (.int ((0:Int)+(i:Nat))),some (.int (sz:Nat)),o6,o]/\H' D=some (.lst (us.map V.str))/\us.length=j/\(∀y∈us,y∈ys)/\lU K H' st kk/\kk<=k'+1+j/\iN st H5 H') ?_ ?_ ?_
  ·exact⟨[],k'+1,none,rfl,aj,rfl,by simp,S5.new nD,by lia,(iN.refl st H5).new nD⟩
  ·rintro j σ' H6 hj ⟨us,kk,o,rfl,hD,ul,uin,S6,hkk,B6⟩
   have hj':j<sz:=by simpa using hj
   have h6nm:=B6 _ _ nst (T5 _ _ nst H3nm)
   refine fG ⟨_,rfl,_,rfl,_,rfl,_,_,rfl,.inl ⟨_,cx.of h6nm,rfl⟩,st,_,kk,rfl,S6,by lia,by rw[af];lia,by rw[af];lia,λd H7 d0 d1 S7 B7=>?_⟩
   rw[af] at d1
   have dl:d.toNat<ys.length:=by lia
   have hD7:=B7 _ _ nDst hD
   refine mj (cx.of (B7 _ _ nst h6nm)) d0 (v:=.str ys[d.toNat]) (by rw[aG,aa dl];rfl) ⟨_,hD7,bI (by rw[af];lia),us++[ys[d.toNat]],kk+1,_,rfl,?_,by rw[ai,ul];rfl,λy hy=>?_,S7.mono .upd_at hD7 (Ne.symm nDst),by lia,λb u n e=>?_⟩
   ·rw[aj,aB];rfl
   ·rcases aE.mp hy with z|z
    ·exact uin y z
    ·rw[ao.mp z];exact b6 dl
   ·rw[az (aJ e nD)];exact B7 b u n (B6 b u n e)
  ·rintro σ' H6 ⟨us,kk,o,rfl,hD,ul,uin,S6,hkk,B6⟩
   have ul':us.length=sz:=by simpa using ul
   have hkk':kk<=k'+1+sz:=by simpa using hkk
   refine⟨D,_,rfl,.inl ⟨cx.of hD,λt nt=>?_⟩⟩
   have S6':=S6.new (o:=.tup (us.map V.str)) nt
   have T6:iN st H3 (aQ H6 t (.tup (us.map V.str))):=(T5.trans B6).new nt
   have ht6:aQ H6 t (.tup (us.map V.str)) t=some (.tup (us.map V.str)):=aj
   show wV K _ [some (.ref st),some (.ref nm),some (.int (m:Nat)),some (.ref L),some (.int ((0:Int)+(i:Nat))),some (.int (sz:Nat)),some (.ref t)] _
   generalize aQ H6 t (.tup (us.map V.str))=H7 at S6' T6 ht6 ⊢
   refine⟨_,rfl,.inl ⟨rfl,_,cx.of (T6 _ _ nLst A.hL)⟩,_,rfl,_,rfl,_,rfl,st,nm,kk,ys,rfl,S6',by lia,nst,T6 _ _ nst H3nm,y20,λmo H8 hmo S8 B8=>⟨(by show 2<=sizeLine;decide),λl9 n9=>?_⟩⟩
   have S9:=S8.new (o:=.lst [V.non,i7 mo]) n9
   have s9:aI H8 (aQ H8 l9 (.lst [V.non,i7 mo])):=(aI.refl H8).new n9
   have h9:aQ H8 l9 (.lst [V.non,i7 mo]) l9=some (.lst [V.non,i7 mo]):=aj
   have n9st:l9≠st:=λz=>by obtain⟨_,e⟩:=S8.lst;rw[z,e] at n9;cases n9
   generalize aQ H8 l9 (.lst [V.non,i7 mo])=H9 at S9 s9 h9 ⊢
   refine⟨_,rfl,st,4,kk+1,rfl,S9,by lia,by decide,by decide,λd H10 d0 d1 S10 B10=>⟨_,_,rfl,rfl,.inr ⟨_,rfl,?_⟩⟩⟩
   have T10:iN st H7 H10:=λb u n e=>B10 b u n (s9 b u (B8 b u n e))
   have tp10:∀b xs,H7 b=some (.tup xs)->H10 b=some (.tup xs):=xy S6' T10
   have fin:∀mo':Option Str,(lQ aO:TE)=lQ aO->∀(p:Addr),H10 p=none->Nu K H st L ys (aQ (aQ H10 p (.tup [.ref t,i7 mo'])) L (.lst (wvs++[.ref p]))) (i+1) k (kk+2) (wvs++[.ref p]) (ws++[⟨us,mo'⟩]):=λmo' _ p np=>by
    have hL10:H10 L=some (.lst wvs):=T10 _ _ nLst (T6 _ _ nLst A.hL)
    have npL:p≠L:=λz=>by rw[z,hL10] at np;cases np
    have up:∀b xs,H10 b=some (.tup xs)->(aQ (aQ H10 p (.tup [.ref t,i7 mo'])) L (.lst (wvs++[.ref p]))) b=some (.tup xs):=λb xs e=>by
     rw[az (zP e hL10 (by intro z;cases z)),az (aJ e np)];exact e
    refine⟨aj,⟨by rw[ai,ai,A.all.len];rfl,λj v r e1 e2=>?_⟩,by rw[ai,A.len];rfl,λw mw=>?_,?_,by lia,λb u n e=>?_⟩
    ·rcases cf j wvs.length with hj|hj
     ·rw[au hj] at e1
      rw[au (by rw[<-A.all.len];exact hj)] at e2
      exact(A.all.at_ j v r e1 e2).tp λb xs e=>up _ _ (tp10 _ _ (xy A.S T6 _ _ e))
     ·rw[aq hj] at e1
      rw[aq (by rw[<-A.all.len];exact hj),<-A.all.len] at e2
      cases ej:j-wvs.length with
      |zero=>
       rw[ej] at e1 e2;cases e1;cases e2
       exact⟨p,t,rfl,by rw[az npL,aj],up _ _ (tp10 _ _ ht6)⟩
      |succ n=>rw[ej] at e1;simp at e1
    ·rcases aE.mp mw with z|z
     ·exact A.ok w z
     ·rw[ao.mp z];exact⟨by show us.length<=8;lia,uin⟩
    ·exact(S10.new np).mono .upd_at (by rw[az (Ne.symm npL)];exact hL10) (Ne.symm nLst)
    ·have bL:b≠L:=aJ e nL
     rw[az bL]
     have e10:=T10 b u n (T6 b u n (A.B b u n e))
     rw[az (aJ e10 np)];exact e10
   have hL10:H10 L=some (.lst wvs):=T10 _ _ nLst (T6 _ _ nLst A.hL)
   have wl:wvs.length=i:=by rw[A.all.len,A.len]
   have fin2:∀mo':Option Str,∀(p:Addr),H10 p=none->(∃l xs y,V.ref L=.ref l/\[V.ref p]=[y]/\aQ H10 p (.tup [.ref t,i7 mo']) l=some (.lst xs)/\xs.length<sizeLine/\∃(o4 o5 o6:Option V) (k':Nat) (wvs':List V) (ws':List Wk),[some (V.ref st),some (.ref nm),some (.int (m:Nat)),some (.ref L),some (.int ((0:Int)+(i:Nat))),some (.int (sz:Nat)),some (.ref t)]=[some (.ref st),some (.ref nm),some (.int (m:Nat)),some (.ref L),o4,o5,o6]/\Nu K H st L ys (aQ (aQ H10 p (.tup [.ref t,i7 mo'])) l (.lst (xs++[y]))) (i+1) k k' wvs' ws'):=λmo' p np=>
    ⟨L,wvs,_,rfl,rfl,by rw[az (λz=>by rw[<-z,hL10] at np;cases np)];exact hL10,bI (by lia),_,_,_,kk+2,_,_,rfl,fin mo' rfl p np⟩
   cases hb:decide ((0:Int)<d) with
   |true=>exact mj (cx.of (B10 _ _ n9st h9)) (by decide) rfl ⟨(by show 2<=sizeLine;decide),λp np=>fin2 mo p np⟩
   |false=>exact mj (cx.of (B10 _ _ n9st h9)) (by decide) rfl ⟨(by show 2<=sizeLine;decide),λp np=>fin2 none p np⟩
 ·rintro σ' H3 ⟨o4,o5,o6,k',wvs,ws,rfl,A⟩
  have few:=A.few
  refine⟨_,rfl,L,_,rfl,.inl ⟨cx.of A.hL,λwp nwp=>?_⟩⟩
  exact q wp wvs ws k' _ aj (A.all.imp λ_ _ z=>z.tp λb xs e=>by rw[az (aJ e nwp)];exact e) (by rw[A.len];lia) A.ok (A.S.new nwp) (by lia) (A.B.new nwp)
theorem BI{α β:Type}(f:α->β):∀(l:List α) (i:Nat),(l.map f).eraseIdx i=(l.eraseIdx i).map f
 |[],i=>by simp
 |x::l,0=>rfl
 |x::l,i+1=>by
  show f x::(l.map f).eraseIdx i=f x::(l.eraseIdx i).map f
  rw[BI f l i]
structure NS(K:Fg)(H:Hp)(st lf fd:Addr)(ys:List Str)(H':Hp)(i k k':Nat)(ls fs:List Str):Prop where
 hlf:H' lf=some (.lst (ls.map V.str))
 hfd:H' fd=some (.lst (fs.map V.str))
 ll:ls.length+i=ys.length
 fl:fs.length=i
 lin:∀y∈ls,y∈ys
 fin:∀y∈fs,y∈ys
 S:lU K H' st k'
 few:k'<=k+1+i
 B:iN st H H'
theorem LV{K:Fg}{vs:List V}{H:Hp}{Q:VK}{E:XK}(h:yr K vs H Q E):HY K {nx:=λ_ H'=>Q .non H',rt:=Q} (start Fo vs) H:=by
 obtain⟨st,nm,m,k,ys,rfl,S,hk,nst,hnm,y20,m100,q⟩:=h
 refine⟨_,rfl,nm,_,rfl,.inl (cx.of hnm),λlf nlf=>?_⟩
 have S1:=S.new (o:=.lst (ys.map V.str)) nlf
 have s1:aI H (aQ H lf (.lst (ys.map V.str))):=(aI.refl H).new nlf
 have hlf1:aQ H lf (.lst (ys.map V.str)) lf=some (.lst (ys.map V.str)):=aj
 have nlfst:lf≠st:=λz=>by obtain⟨_,e⟩:=S.lst;rw[z,e] at nlf;cases nlf
 show AH K _ [some (.ref st),some (.ref nm),some (.int (m:Nat)),some (.ref lf),none,none] _
 generalize aQ H lf (.lst (ys.map V.str))=H1 at S1 s1 hlf1 ⊢
 refine⟨(by show 0<=sizeLine;decide),λfd nfd=>?_⟩
 have S2:=S1.new (o:=.lst []) nfd
 have s2:aI H1 (aQ H1 fd (.lst [])):=(aI.refl H1).new nfd
 have hfd2:aQ H1 fd (.lst []) fd=some (.lst []):=aj
 have nfdst:fd≠st:=λz=>by obtain⟨_,e⟩:=S1.lst;rw[z,e] at nfd;cases nfd
 have nff:fd≠lf:=λz=>by rw[z,hlf1] at nfd;cases nfd
 have Hfd:H fd=none:=by
  cases ee:H fd with
  |none=>rfl
  |some u=>rw[s1 _ _ ee] at nfd;cases nfd
 show AG K _ [some (.ref st),some (.ref nm),some (.int (m:Nat)),some (.ref lf),some (.ref fd),none] _
 generalize aQ H1 fd (.lst [])=H2 at S2 s2 hfd2 ⊢
 have hlf2:=s2 _ _ hlf1
 refine⟨_,rfl,_,_,rfl,.inl ⟨_,cx.of (s2 _ _ (s1 _ _ hnm)),rfl⟩,_,rfl,_,rfl,.inl ⟨_,_,rfl,rfl,st,_,k,rfl,S2,by lia,by lia,by lia,λe H3 e0 e1 S3 B3=>⟨_,_,rfl,?_⟩⟩⟩
 obtain⟨c,hc,cle,clm⟩:∃c:Nat,(if e<((ys.map V.str).length:Int) then e else((ys.map V.str).length:Int))=(c:Int)/\c<=ys.length/\c<=m:=by
  rw[af]
  by_cases g:e<(ys.length:Int)
  ·exact⟨e.toNat,by rw[if_pos g];lia,by lia,by lia⟩
  ·exact⟨ys.length,by rw[if_neg g],ar _,by lia⟩
 rw[hc]
 refine⟨_,rfl,by lia,by lia,ig (n:=c) (λi σ' H'=>∃(o5:Option V) (k':Nat) (ls fs:List Str),σ'=[some (.ref st),some (.ref nm),some (.int (m:Nat)),some (.ref lf),some (.ref fd),o5]/\NS K H st lf fd ys H' i k k' ls fs)
  ⟨none,k+1,ys,[],rfl,B3 _ _ nlfst hlf2,B3 _ _ nfdst hfd2,rfl,rfl,λy h=>h,λy h=>by(cases h),S3,by lia,λb u n e=>B3 b u n (s2 _ _ (s1 b u e))⟩ ?_ ?_⟩
 ·rintro i σ' H4 hi ⟨o5,k',ls,fs,rfl,A⟩
  have kf:=A.few
  have ll:=A.ll
  have lpos:0<ls.length:=by lia
  refine⟨_,rfl,.inl ⟨rfl,_,cx.of A.hfd⟩,_,rfl,.inl ⟨rfl,_,cx.of A.hlf⟩,_,rfl,_,rfl,_,_,rfl,.inl ⟨_,cx.of A.hlf,rfl⟩,st,_,k',rfl,A.S,by lia,by rw[af];lia,by rw[af];lia,λd H5 d0 d1 S5 B5=>?_⟩
  rw[af] at d1
  have dl:d.toNat<ls.length:=by lia
  have h5:=B5 _ _ nlfst A.hlf
  have g5:=B5 _ _ nfdst A.hfd
  refine⟨lf,_,d,d.toNat,.str ls[d.toNat],rfl,rfl,h5,by lia,by lia,?_,by rw[aG,aa dl];rfl,?_⟩
  ·unfold seqIndex?
   rw[if_neg (show ¬(d<0) by lia),af]
   simp[d0,d1]
  ·have ke:(ls.map V.str).eraseIdx d.toNat=(ls.eraseIdx d.toNat).map V.str:=BI _ _ _
   rw[ke]
   have S6:=S5.mono (H':=aQ H5 lf (.lst ((ls.eraseIdx d.toNat).map V.str))) .upd_at h5 (Ne.symm nlfst)
   have g6:aQ H5 lf (.lst ((ls.eraseIdx d.toNat).map V.str)) fd=some (.lst (fs.map V.str)):=by rw[az nff];exact g5
   have h6:aQ H5 lf (.lst ((ls.eraseIdx d.toNat).map V.str)) lf=some (.lst ((ls.eraseIdx d.toNat).map V.str)):=aj
   have T6:iN st H (aQ H5 lf (.lst ((ls.eraseIdx d.toNat).map V.str))):=λb u n e=>by rw[az (aJ e nlf)];exact B5 b u n (A.B b u n e)
   generalize aQ H5 lf (.lst ((ls.eraseIdx d.toNat).map V.str))=H6 at S6 g6 h6 T6 ⊢
   have fl:=A.fl
   refine⟨fd,_,_,rfl,rfl,g6,bI (by rw[af];lia),_,k'+1,ls.eraseIdx d.toNat,fs++[ls[d.toNat]],rfl,by rw[az (Ne.symm nff)];exact h6,?_,?_,by rw[ai,fl];rfl,λy hy=>A.lin y (List.mem_of_mem_eraseIdx hy),λy hy=>?_,S6.mono .upd_at g6 (Ne.symm nfdst),by lia,λb u n e=>by rw[az (aJ e Hfd)];exact T6 b u n e⟩
   ·rw[aj,aB];rfl
   ·rw[ff,if_pos dl];lia
   ·rcases aE.mp hy with z|z
    ·exact A.fin y z
    ·rw[ao.mp z];exact A.lin _ (b6 dl)
 ·rintro σ' H4 ⟨o5,k',ls,fs,rfl,A⟩
  have few:=A.few
  have fl:=A.fl
  refine⟨_,rfl,fd,_,rfl,.inl ⟨cx.of A.hfd,λlt nlt=>?_⟩⟩
  exact q lt fs k' _ aj (by lia) (by lia) A.fin (A.S.new nlt) (by lia) (A.B.new nlt)
theorem eV{α:Type}{xs:List α}{i:Nat}{y:α}(h:xs[i]?=some y):xs.take (i+1)=xs.take i++[y]:=by rw[gB,h];rfl
theorem zu{ps:List Nat}{i:Nat}{v:V}(h:(ps.map λi=>V.int (i:Nat))[i]?=some v):∃p:Nat,ps[i]?=some p/\v=.int (p:Nat):=by
 rw[aG] at h
 cases e:ps[i]? with
 |none=>rw[e] at h;cases h
 |some p=>rw[e] at h;exact⟨p,rfl,(Option.some.inj h).symm⟩
theorem vw{K:Fg}{vs:List V}{H:Hp}{Q:VK}{E:XK}(h:fm K vs H Q E):oq K {nx:=λ_ H'=>Q .non H',rt:=Q} (start jW vs) H:=by
 obtain⟨_,p,b,t,m,rfl,⟨D,rfl,hD⟩,nd,hp,ne,l5,hb,all,⟨c0,hc0,hm0⟩,q⟩:=h
 have hD:H D=some (.dT (cI t)):=hD
 refine .inl ⟨_,rfl,p,b,rfl,hp,ne,l5,λl H1 nl hl s1=>⟨l,rfl,⟨_,cx.of hl⟩,λC nC=>?_⟩⟩
 refine kc (xs:=(mT b).map λi=>V.int (i:Nat)) (λi σ' H'=>∃o,σ'=[some (.ref D),some (.ref p),o]/\H' C=some (.lst ((((mT b).take i).filter λj=>decide ((lb b j,m)∈t)).map λj=>V.int (j:Nat)))/\aI H1 H') ?_ ?_ ?_ ?_
 ·exact⟨none,rfl,aj,(aI.refl H1).new nC⟩
 ·rintro i σ' H' _ ⟨_,_,_,s⟩;exact cx.of (s _ _ hl)
 ·rintro i v σ' H2 hv ⟨o,rfl,hC,s⟩
  obtain⟨j,hj,rfl⟩:=zu hv
  have jm:=aA hj
  have il:i<(mT b).length:=(ae.mp hj).1
  have pf:=Do b
  show jw C _ _ _ [some (.ref D),some (.ref p),some (.int (j:Nat))] H2
  have s2:=s1.trans s
  obtain⟨k,hk⟩:=all (lb b j) (aC.mpr ⟨j,jm,rfl⟩)
  refine⟨_,rfl,_,rfl,_,rfl,p,b,j,rfl,s2 _ _ hp,l5,jm,λr H3 hr s3=>⟨D,_,rfl,nJ (s3 _ _ (s2 _ _ hD)) hr (fq nd hk),_,rfl,_,rfl,D,_,rfl,nJ (s3 _ _ (s2 _ _ hD)) (s3 _ _ (s2 _ _ hp)) (fq nd hb),_,_,rfl,rfl,.inl ⟨rfl,_,rfl,?_⟩⟩⟩
  rw[eV hj,eR,cV,List.filter_nil]
  refine dE (λc=>?_) λc=>?_
  ·have km:k=m:=by
    injection c with c
    lia
   subst km
   rw[if_pos (decide_eq_true hk)]
   refine⟨_,rfl,_,s3 _ _ hC,bI ?_,_,rfl,?_,dD (s.trans s3) nC⟩
   ·rw[af]
    have:=bt (λj=>decide ((lb b j,k)∈t)) ((mT b).take i)
    rw[aP] at this
    lia
   ·rw[aj,aB];rfl
  ·have km:(lb b j,m)∉t:=λz=>c (by rw[qC nd hk z];congr 1;lia)
   rw[if_neg (by rw[decide_eq_false km];decide),dZ]
   exact⟨_,rfl,s3 _ _ hC,s.trans s3⟩
 ·rintro σ' H2 ⟨o,_,hC,s⟩
  rw[af,a8] at hC
  obtain⟨j0,hj0,rfl⟩:=aC.mp hc0
  have hin:j0∈(mT b).filter λj=>decide ((lb b j,m)∈t):=bh.mpr ⟨hj0,decide_eq_true hm0⟩
  have sub:∀j∈(mT b).filter (λj=>decide ((lb b j,m)∈t)),j∈mT b/\(lb b j,m)∈t:=λj hj=>by
   obtain⟨h1,h2⟩:=bh.mp hj
   exact⟨h1,of_decide_eq_true h2⟩
  generalize (mT b).filter (λj=>decide ((lb b j,m)∈t))=fs at hC hin sub
  cases fs with
  |nil=>cases hin
  |cons j r=>
   have:=sub j bf
   exact mj (v:=.int (j:Nat)) (cx.of hC) (by decide) rfl (q j H2 this.1 this.2 (s1.trans s))
theorem bj.appF{α:Type}{R:V->α->Prop}{vs ws:List V}{rs qs:List α}(h:bj R vs rs)(h':bj R ws qs):bj R (vs++ws) (rs++qs):=by
 refine⟨by rw[ai,ai,h.len,h'.len],λi v r e e'=>?_⟩
 by_cases c:i<vs.length
 ·rw[au c] at e
  rw[au (by rw[<-h.len];exact c)] at e'
  exact h.at_ i v r e e'
 ·rw[aq (by lia)] at e
  rw[aq (by rw[<-h.len];lia),<-h.len] at e'
  exact h'.at_ _ v r e e'
theorem bj.lastF{α:Type}{R:V->α->Prop}{vs:List V}{rs:List α}{r:α}(h:bj R vs (rs++[r])):∃vs' v,vs=vs'++[v]/\bj R vs' rs/\R v r:=by
 have hl:vs.length=rs.length+1:=by rw[h.len,ai];rfl
 rcases gW vs with z|⟨vs',v,z⟩
 ·rw[z] at hl;cases hl
 ·rw[gU] at z
  subst z
  have hl':vs'.length=rs.length:=by rw[ai] at hl;simpa using hl
  refine⟨vs',v,rfl,⟨hl',λi u q e e'=>?_⟩,?_⟩
  ·have c:i<vs'.length:=(ae.mp e).1
   exact h.at_ i u q (by rw[au c];exact e) (by rw[au (by lia)];exact e')
  ·exact h.at_ rs.length v r (by rw[<-hl',aq (ar _),bo];rfl) (by rw[aq (ar _),bo];rfl)
theorem iF.mono{H H':Hp}{v:V}{b:Bt}(h:iF H v b)(t:Tp H H'):iF H' v b:=by
 obtain⟨p,e,h⟩:=h
 exact⟨p,e,t _ _ h⟩
theorem Gr{K:Fg}{s0 s1 s2:Option V}{pb:Addr}{b:Bt}{H:Hp}{Q:VK}(hp:H pb=some (.tup (cH b)))(ne:b≠[])(l5:b.length<=5)
  (q:∀(C:Addr) (us:List V) (H':Hp),H C=none->H' C=some (.lst us)->bj (iF H') us (kts b)->aI H H'->Q (.ref C) H') :
  dW [] 1 (iQ K (bu (dG K) [] E0 (ak (av 3) aO))) (aR 4) jt (bu (gj K) [] E0 (ak (av 3) (ak (av 4) aO))) [s0,s1,s2,some (.ref pb)] H Q:=by
 refine .inl ⟨_,rfl,pb,b,rfl,hp,ne,l5,λl H1 nl hl s1'=>⟨l,rfl,⟨_,cx.of hl⟩,λC nC=>?_⟩⟩
 refine kc (xs:=(mT b).map λi=>V.int (i:Nat)) (λi σ' H'=>∃o us,σ'=[s0,s1,s2,some (.ref pb),o]/\H' C=some (.lst us)/\bj (iF H') us (((mT b).take i).map (lb b))/\aI H1 H') ?_ ?_ ?_ ?_
 ·exact⟨none,[],rfl,aj,bj.nil,(aI.refl H1).new nC⟩
 ·rintro i σ' H' _ ⟨_,_,_,_,_,s⟩;exact cx.of (s _ _ hl)
 ·rintro i v σ' H2 hv ⟨o,us,rfl,hC,hA,s⟩
  obtain⟨j,hj,rfl⟩:=zu hv
  have il:i<(mT b).length:=(ae.mp hj).1
  have pf:=Do b
  have ul:us.length<=i:=by rw[hA.len,af,aP];lia
  refine fG ⟨_,rfl,_,rfl,pb,b,j,rfl,s _ _ (s1' _ _ hp),l5,aA hj,λr H3 hr s3=>⟨us,s3 _ _ hC,bI (by lia),_,us++[.ref r],rfl,aj,?_,dD (s.trans s3) nC⟩⟩
  have t4:Tp H3 (aQ H3 C (.lst (us++[.ref r]))):=(Tp.refl H3).lst (s3 _ _ hC)
  rw[eV hj,aB]
  exact(hA.imp λ_ _ z=>z.mono ((Tp.of_same s3).trans t4)).snoc ⟨r,rfl,t4 _ _ hr⟩
 ·rintro σ' H2 ⟨o,us,_,hC,hA,s⟩
  rw[af,a8] at hA
  exact q C us H2 (s1'.free nC) hC hA (s1'.trans s)
structure Ny(n:Nat)(ss:List Str)(ebs ks wbs:List Bt):Prop where
 nd:ks.Nodup
 inn:∀b∈ks,mX n ss b
 inw:∀b∈wbs,mX n ss b
 ent:∀b∈ebs,b∈ks\/b∈wbs
 cl:∀b∈ks,∀c∈kts b,c∈ks\/c∈wbs
 ind:∀P:Bt->Prop,(∀b∈ebs,P b)->(∀b,P b->∀c∈kts b,P c)->(∀b∈ks,P b)/\∀b∈wbs,P b
structure E9(H:Hp)(L D:Addr)(kvs:List (List bY×V))(ks:List Bt):Prop where
 at_:H D=some (.dT kvs)
 keys:kvs.map (·.1)=ks.map cq
 val:∀(i:Nat) k u b,kvs[i]?=some (k,u)->ks[i]?=some b->∃l us,u=.ref l/\l≠L/\H l=some (.lst us)/\bj (iF H) us (kts b)
theorem y9{kvs:List (List bY×V)}{ks:List Bt}(h:kvs.map (·.1)=ks.map cq)(b:Bt):(cY kvs (cq b)).isSome=decide (b∈ks):=by
 rw[Bool.eq_iff_iff,decide_eq_true_eq]
 constructor
 ·intro e
  obtain⟨v,e⟩:=du.mp e
  have:=DU e
  rw[h] at this
  obtain⟨c,hc,e⟩:=aC.mp this
  rw[<-kg e];exact hc
 ·intro hb
  cases e:cY kvs (cq b) with
  |some v=>rfl
  |none=>
   have:=Ii e
   rw[h] at this
   exact absurd (aC.mpr ⟨b,hb,rfl⟩) this
theorem Cg{K:Fg}{vs:List V}{H:Hp}{Q:VK}{E:XK}(h:jL K vs H Q E):uM K {nx:=λ_ H'=>Q .non H',rt:=Q} (start oE vs) H:=by
 obtain⟨e,us0,ebs,n,ss,rfl,he,hA0,dim,inn,few,q⟩:=h
 intro D nD
 show qA K _ [some (.ref e),some (.ref D),none,none] (aQ H D (.dT []))
 have s1:aI H (aQ H D (.dT [])):=(aI.refl H).new nD
 refine⟨_,rfl,e,us0,rfl,.inl (cx.of (s1 _ _ he)),λL nL=>?_⟩
 have s2:=s1.new (o:=.lst us0) nL
 have nLH:H L=none:=s1.free nL
 have nDL:D≠L:=aJ aj nL
 have hD2:aQ (aQ H D (.dT [])) L (.lst us0) D=some (.dT []):=by rw[az nDL,aj]
 have hL2:aQ (aQ H D (.dT [])) L (.lst us0) L=some (.lst us0):=aj
 show qz K _ [some (.ref e),some (.ref D),some (.ref L),none] _
 generalize aQ (aQ H D (.dT [])) L (.lst us0)=H2 at s2 hD2 hL2 ⊢
 refine⟨λm σ' H'=>∃o ks wbs kvs us,σ'=[some (.ref e),some (.ref D),some (.ref L),o]/\Ny n ss ebs ks wbs/\E9 H' L D kvs ks/\H' L=some (.lst us)/\bj (iF H') us wbs/\aI H H'/\(7776-ks.length)*6+wbs.length=m/\m<=60000,
  ⟨_,none,[],ebs,[],us0,rfl,⟨cL,(λb h=>by cases h),inn,λb h=>.inr h,(λb h=>by cases h),λP h1 _=>⟨(λb h=>by cases h),h1⟩⟩,⟨hD2,rfl,λi k u b h=>by simp at h⟩,hL2,hA0.imp λ_ _ z=>z.mono (.of_same s2),s2,rfl,by show(7776-0)*6+_<=_;lia⟩,?_⟩
 rintro m σ' H3 ⟨o,ks,wbs,kvs,us,rfl,tr,cb,hL,hA,s3,hm,hmb⟩
 have kfew:=vW dim tr.nd tr.inn
 refine⟨_,rfl,_,_,rfl,.inl ⟨_,cx.of hL,rfl⟩,_,_,rfl,rfl,_,rfl,dE (λhl=>?_) (λhl=>?_)⟩
 ·have hl':0<wbs.length:=by rw[<-hA.len];lia
  obtain⟨W0,b,rfl⟩:∃W0 b,wbs=W0++[b]:=by
   rcases gW wbs with z|⟨W0,b,z⟩
   ·rw[z] at hl';cases hl'
   ·exact⟨W0,b,by rw[z,gU]⟩
  obtain⟨us',v,rfl,hA',⟨pb,rfl,hpb⟩⟩:=hA.lastF
  have bin:=tr.inw b (aW _ (ao.mpr rfl))
  have bne:b≠[]:=λz=>by have:=bin.len;rw[z] at this;have:=dim.pos;simp at *;lia
  have bl5:b.length<=5:=by rw[bin.len];exact dim.n5
  rw[ai,aM] at hm
  have wl:us'.length=W0.length:=hA'.len
  refine⟨λσ' H'=>∃m',m'<m/\∃o ks wbs kvs us,σ'=[some (.ref e),some (.ref D),some (.ref L),o]/\Ny n ss ebs ks wbs/\E9 H' L D kvs ks/\H' L=some (.lst us)/\bj (iF H') us wbs/\aI H H'/\(7776-ks.length)*6+wbs.length=m'/\m'<=60000,λ_ _ z=>z,?_⟩
  refine⟨_,rfl,.inl ⟨rfl,_,cx.of hL⟩,L,_,.ref pb,rfl,rfl,hL,(by rw[ai,aM,cT,aq (ar _),bo];rfl),?_⟩
  rw[List.dropLast_concat]
  have t4:Tp H3 (aQ H3 L (.lst us')):=(Tp.refl H3).lst hL
  have s4:aI H (aQ H3 L (.lst us')):=dD s3 nLH
  have hpb4:=t4 _ _ hpb
  have hL4:aQ H3 L (.lst us') L=some (.lst us'):=aj
  have cb4:E9 (aQ H3 L (.lst us')) L D kvs ks:=⟨by rw[az nDL];exact cb.at_,cb.keys,λi k u b h1 h2=>by
   obtain⟨l,vs,e1,e2,e3,e4⟩:=cb.val i k u b h1 h2
   exact⟨l,vs,e1,e2,by rw[az e2];exact e3,e4.imp λ_ _ z=>z.mono t4⟩⟩
  have hA4:=hA'.imp λ_ _ z=>iF.mono z t4
  show qy K _ [some (.ref e),some (.ref D),some (.ref L),some (.ref pb)] (aQ H3 L (.lst us'))
  generalize aQ H3 L (.lst us')=H4 at s4 hpb4 hL4 cb4 hA4 ⊢
  refine⟨_,rfl,_,rfl,D,_,rfl,nJ cb4.at_ hpb4 rfl,_,rfl,?_⟩
  rw[show(if true=true then !(cY kvs (cq b)).isSome else(cY kvs (cq b)).isSome)=!decide (b∈ks) from by rw[<-y9 cb4.keys];rfl]
  refine oP (λhb=>?_) (λhb=>?_)
  ·have vnone:cY kvs (cq b)=none:=by
    cases ev:cY kvs (cq b) with
    |none=>rfl
    |some v=>have:=y9 cb4.keys b;rw[ev,decide_eq_false hb] at this;cases this
   have kl:kvs.length=ks.length:=by have:=congrArg jy cb4.keys;rwa [af,af] at this
   unfold bx bT
   refine Gr hpb4 bne bl5 λC cus H5 nC hC hCA s5=>?_
   have nCL:C≠L:=(aJ hL4 nC).symm
   have nCD:C≠D:=(aJ cb4.at_ nC).symm
   refine⟨_,rfl,_,rfl,D,_,rfl,A4.t (s5 _ _ cb4.at_) (by rw[eh];exact s5 _ _ hpb4) (bI (by lia)),?_⟩
   rw[mr _ vnone]
   have t6:Tp H5 (aQ H5 D (.dT (kvs++[(cq b,V.ref C)]))):=λc xs hc=>by
    rw[az (λz=>by rw[z,s5 _ _ cb4.at_] at hc;cases hc)];exact hc
   have hD6:aQ H5 D (.dT (kvs++[(cq b,V.ref C)])) D=some (.dT (kvs++[(cq b,V.ref C)])):=aj
   have hL6:aQ H5 D (.dT (kvs++[(cq b,V.ref C)])) L=some (.lst us'):=by rw[az (Ne.symm nDL)];exact s5 _ _ hL4
   have hC6:aQ H5 D (.dT (kvs++[(cq b,V.ref C)])) C=some (.lst cus):=by rw[az nCD];exact hC
   have s6:aI H (aQ H5 D (.dT (kvs++[(cq b,V.ref C)]))):=dD (s4.trans s5) nD
   have other:∀l vs,l≠L->H4 l=some (.lst vs)->aQ H5 D (.dT (kvs++[(cq b,V.ref C)])) l=some (.lst vs):=λl vs _ hl=>by
    rw[az (λz=>by rw[z,cb4.at_] at hl;cases hl)];exact s5 _ _ hl
   have T46:Tp H4 (aQ H5 D (.dT (kvs++[(cq b,V.ref C)]))):=(Tp.of_same s5).trans t6
   have hpb6:=T46 _ _ hpb4
   have hCA6:=hCA.imp λ_ _ z=>iF.mono z t6
   have hA6:=hA4.imp λ_ _ z=>iF.mono z T46
   show qx K _ [some (.ref e),some (.ref D),some (.ref L),some (.ref pb)] (aQ H5 D (.dT (kvs++[(cq b,V.ref C)])))
   generalize aQ H5 D (.dT (kvs++[(cq b,V.ref C)]))=H6 at hD6 hL6 hC6 s6 other T46 hpb6 hCA6 hA6 ⊢
   have vC:cY (kvs++[(cq b,V.ref C)]) (cq b)=some (.ref C):=by rw[xa _ _ _ _ vnone,if_pos rfl]
   have kfb:(kts b).length<=5:=by unfold kts;rw[af];exact a7 (zV bne) bl5
   refine⟨_,rfl,.inl ⟨rfl,_,cx.of hL6⟩,_,rfl,_,rfl,D,_,rfl,nJ hD6 hpb6 vC,L,C,_,_,rfl,rfl,hL6,hC6,bW (bI (by rw[hCA6.len];lia)),?_⟩
   have t7:Tp H6 (aQ H6 L (.lst (us'++cus))):=(Tp.refl H6).lst hL6
   have nd':(ks++[b]).Nodup:=cK.mpr ⟨tr.nd,by simp,λx hx y hy=>by rw[ao.mp hy];rintro rfl;exact hb hx⟩
   have tr':Ny n ss ebs (ks++[b]) (W0++kts b):=by
    refine⟨nd',λc hc=>?_,λc hc=>?_,λc hc=>?_,λc hc d hd=>?_,λP h1 h2=>?_⟩
    ·rcases aE.mp hc with z|z
     ·exact tr.inn c z
     ·rw[ao.mp z];exact bin
    ·rcases aE.mp hc with z|z
     ·exact tr.inw c (bz _ z)
     ·exact bin.kts z
    ·rcases tr.ent c hc with z|z
     ·exact .inl (bz _ z)
     ·rcases aE.mp z with z|z
      ·exact .inr (bz _ z)
      ·exact .inl (aW _ z)
    ·rcases aE.mp hc with z|z
     ·rcases tr.cl c z d hd with y|y
      ·exact .inl (bz _ y)
      ·rcases aE.mp y with y|y
       ·exact .inr (bz _ y)
       ·exact .inl (aW _ y)
     ·rw[ao.mp z] at hd
      exact .inr (aW _ hd)
    ·obtain⟨p1,p2⟩:=tr.ind P h1 h2
     have pb:=p2 b (aW _ (ao.mpr rfl))
     refine⟨λc hc=>?_,λc hc=>?_⟩
     ·rcases aE.mp hc with z|z
      ·exact p1 c z
      ·rw[ao.mp z];exact pb
     ·rcases aE.mp hc with z|z
      ·exact p2 c (bz _ z)
      ·exact h2 b pb c z
   have kf2:=vW dim nd' tr'.inn
   have kl2:(ks++[b]).length=ks.length+1:=by rw[ai];rfl
   have wl2:(W0++kts b).length<=W0.length+5:=by rw[ai];lia
   refine⟨(7776-(ks++[b]).length)*6+(W0++kts b).length,by lia,_,ks++[b],W0++kts b,_,us'++cus,rfl,tr',⟨by rw[az nDL];exact hD6,by rw[aB,aB,cb4.keys];rfl,λi k u c h1 h2=>?_⟩,aj,(hA6.imp λ_ _ z=>iF.mono z t7).appF (hCA6.imp λ_ _ z=>iF.mono z t7),dD s6 nLH,rfl,by lia⟩
   by_cases ci:i<kvs.length
   ·rw[au ci] at h1
    rw[au (by lia)] at h2
    obtain⟨l,vs,e1,e2,e3,e4⟩:=cb4.val i k u c h1 h2
    exact⟨l,vs,e1,e2,by rw[az e2];exact other l vs e2 e3,e4.imp λ_ _ z=>iF.mono z (T46.trans t7)⟩
   ·rw[aq (by lia)] at h1
    rw[aq (by lia),<-kl] at h2
    have i0:i-kvs.length=0:=by
     have:=(ae.mp h1).1
     simpa using this
    rw[i0] at h1 h2
    have h1:(cq b,V.ref C)=(k,u):=Option.some.inj h1
    have h2:b=c:=Option.some.inj h2
    cases h1;subst h2
    exact⟨C,cus,rfl,nCL,by rw[az nCL];exact hC6,hCA6.imp λ_ _ z=>iF.mono z t7⟩
  ·refine⟨(7776-ks.length)*6+W0.length,by lia,_,ks,W0,kvs,us',rfl,⟨tr.nd,tr.inn,λc hc=>tr.inw c (bz _ hc),λc hc=>?_,λc hc d hd=>?_,λP h1 h2=>?_⟩,cb4,hL4,hA4,s4,rfl,by lia⟩
   ·rcases tr.ent c hc with z|z
    ·exact .inl z
    ·rcases aE.mp z with z|z
     ·exact .inr z
     ·rw[ao.mp z];exact .inl hb
   ·rcases tr.cl c hc d hd with z|z
    ·exact .inl z
    ·rcases aE.mp z with z|z
     ·exact .inr z
     ·rw[ao.mp z];exact .inl hb
   ·obtain⟨p1,p2⟩:=tr.ind P h1 h2
    exact⟨p1,λc hc=>p2 c (bz _ hc)⟩
 ·have w0:wbs=[]:=by
   have:wbs.length=0:=by rw[<-hA.len];lia
   exact aV.mp this
  subst w0
  show qw K _ [some (.ref e),some (.ref D),some (.ref L),o] H3
  refine⟨_,rfl,q (.ref D) ks H3 ⟨D,kvs,rfl,cb.at_,cb.keys,λi k u b h1 h2=>?_⟩ ⟨tr.nd,kfew,tr.inn,(λb hb=>(tr.ent b hb).elim id λz=>by cases z),(λb hb c hc=>(tr.cl b hb c hc).elim id λz=>by cases z),λP h1 h2=>(tr.ind P h1 h2).1⟩ s3⟩
  obtain⟨l,vs,e1,_,e3,e4⟩:=cb.val i k u b h1 h2
  exact⟨l,vs,e1,e3,e4⟩
theorem vZ{d:Addr}{kvs:List (List bY×V)}{ob:Obj}{g:TG}{tb:TS}{D:lM}{σ:St}{H:Hp}(Pv:Nat->St->Hp->Prop)(h0:Pv 0 σ H)(hl:∀i σ H,i<=kvs.length->Pv i σ H->H d=some (.frz ob (.dT kvs)))
  (hs:∀i k v b σ H,kvs[i]?=some (k,v)->H b=some (.tup (k.map kN))->Pv i σ H->g (.ref b) σ H λσ2 H2=>tb {D with nx:=Pv (i+1),ct:=Pv (i+1),bk:=D.nx} σ2 H2) (hd:∀σ H,Pv kvs.length σ H->D.nx σ H) :
  ∃W:Nat->Nat->St->Hp->Prop,(∃m,W 0 m σ H)/\∀i m σ H,W i m σ H->
   ((yG d kvs ob).stop i H/\D.nx σ H)\/((yG d kvs ob).go i H/\∃N:St->Hp->Prop,(∀σ' H',N σ' H'->∃m',m'<m/\W (i+1) m' σ' H')/\∀x H',(yG d kvs ob).yld i H x H'->g x σ H' λσ2 H2=>tb {D with nx:=N,ct:=N,bk:=D.nx} σ2 H2):=by
 refine⟨λi m σ H=>m=kvs.length-i/\i<=kvs.length/\Pv i σ H,⟨kvs.length,by simp,bq _,h0⟩,?_⟩
 rintro i m σ H ⟨rfl,hi,p⟩
 have q:=hl i σ H hi p
 by_cases hlt:i<kvs.length
 ·refine .inr ⟨⟨q,hlt⟩,Pv (i+1),λσ' H' p'=>⟨kvs.length-(i+1),by lia,rfl,hlt,p'⟩,?_⟩
  rintro x H' ⟨rfl,k,v,b,e,rfl,hb⟩
  exact hs i k v b σ H' e hb p
 ·have e:i=kvs.length:=by lia
  subst e
  exact .inl ⟨⟨q,ar _⟩,hd σ H p⟩
theorem oJ{js:List Nat}{kk:Nat}{d:Addr}{kvs:List (List bY×V)}{ob:Obj}{g:TG}{tc:TT}{te:TE}{R:Hp->Prop}{σ:St}{H:Hp}{D:Addr}(Pv:Nat->St->Hp->Prop)(h0:Pv 0 (vf js kk σ) (aQ H D (.lst [])))(hl:∀i σ H,i<=kvs.length->Pv i σ H->H d=some (.frz ob (.dT kvs)))
  (hs:∀i k v b σ H,kvs[i]?=some (k,v)->H b=some (.tup (k.map kN))->Pv i σ H->g (.ref b) σ H λσ2 H2=>jw D tc te {nx:=Pv (i+1),rt:=λ_ _=>False,ct:=Pv (i+1),bk:=λ_ H'=>R H'} σ2 H2) (hd:∀σ H,Pv kvs.length σ H->R H) :
  ∃W:Nat->Nat->St->Hp->Prop,(∃m,W 0 m (vf js kk σ) (aQ H D (.lst [])))/\∀i m σ H,W i m σ H->
   ((yG d kvs ob).stop i H/\R H)\/((yG d kvs ob).go i H/\∃N:St->Hp->Prop,(∀σ' H',N σ' H'->∃m',m'<m/\W (i+1) m' σ' H')/\∀x H',(yG d kvs ob).yld i H x H'->g x σ H' λσ2 H2=>jw D tc te {nx:=N,rt:=λ_ _=>False,ct:=N,bk:=λ_ H'=>R H'} σ2 H2):=
 vZ (D:={nx:=λ_ H'=>R H',rt:=λ_ _=>False}) Pv h0 hl hs hd
theorem oO{d:Addr}{kvs:List (List bY×V)}{ob:Obj}{g:TG}{tb:TS}{D:lM}{σ:St}{H:Hp}(Pv:Nat->St->Hp->Prop)(h0:Pv 0 σ H)(hl:∀i σ H,i<=kvs.length->Pv i σ H->H d=some (.frz ob (.dT kvs)))
  (hs:∀i k v b p σ H,kvs[i]?=some (k,v)->H b=some (.tup (k.map kN))->H p=none->Pv i σ H->g (.ref p) σ (aQ H p (.tup [.ref b,v])) λσ2 H2=>tb {D with nx:=Pv (i+1),ct:=Pv (i+1),bk:=D.nx} σ2 H2) (hd:∀σ H,Pv kvs.length σ H->D.nx σ H) :
  ∃W:Nat->Nat->St->Hp->Prop,(∃m,W 0 m σ H)/\∀i m σ H,W i m σ H->
   ((Fd d kvs ob).stop i H/\D.nx σ H)\/((Fd d kvs ob).go i H/\∃N:St->Hp->Prop,(∀σ' H',N σ' H'->∃m',m'<m/\W (i+1) m' σ' H')/\∀x H',(Fd d kvs ob).yld i H x H'->g x σ H' λσ2 H2=>tb {D with nx:=N,ct:=N,bk:=D.nx} σ2 H2):=by
 refine⟨λi m σ H=>m=kvs.length-i/\i<=kvs.length/\Pv i σ H,⟨kvs.length,by simp,bq _,h0⟩,?_⟩
 rintro i m σ H ⟨rfl,hi,p⟩
 have q:=hl i σ H hi p
 by_cases hlt:i<kvs.length
 ·refine .inr ⟨⟨q,hlt⟩,Pv (i+1),λσ' H' p'=>⟨kvs.length-(i+1),by lia,rfl,hlt,p'⟩,?_⟩
  rintro x H' ⟨pp,k,v,b,np,rfl,rfl,e,hb⟩
  exact hs i k v b pp σ H e hb np p
 ·have e:i=kvs.length:=by lia
  subst e
  exact .inl ⟨⟨q,ar _⟩,hd σ H p⟩
theorem i9{H H':Hp}{d:Addr}{kvs:List (List bY×V)}{ob:Obj}(h:H d=some (.dT kvs))(s:aI (aQ H d (.frz ob (.dT kvs))) H'):aI H (aQ H' d (.dT kvs)):=λb u hb=>by
 by_cases c:b=d
 ·subst c;rw[h] at hb;cases hb;exact aj
 ·rw[az c];exact s b u (by rw[az c];exact hb)
theorem ip{H H':Hp}{d:Addr}{kvs:List (List bY×V)}{ob:Obj}(s:aI (aQ H d (.frz ob (.dT kvs))) H'):H' d=some (.frz ob (.dT kvs)):=s d _ aj
theorem xG{H H':Hp}{d b:Addr}{kvs:List (List bY×V)}{ob:Obj}{u:HO}(s:aI (aQ H d (.frz ob (.dT kvs))) H')(hd:H d=some (.dT kvs))(h:H b=some u)(n:∀kvs,u≠.dT kvs):H' b=some u:=s b u (by rw[az (λz=>by rw[z,hd] at h;cases h;exact n _ rfl)];exact h)
theorem Nk.same{H H':Hp}{v:V}{bs:List Bt}(h:Nk H v bs)(s:aI H H'):Nk H' v bs:=by
 obtain⟨l,us,e,hl,hA⟩:=h
 exact⟨l,us,e,s _ _ hl,hA.imp λ_ _ z=>iF.mono z (.of_same s)⟩
theorem jf.same{H H':Hp}{v:V}{ks:List Bt}(h:jf H v ks)(s:aI H H'):jf H' v ks:=by
 obtain⟨D,kvs,e,hD,hk,hv⟩:=h
 exact⟨D,kvs,e,s _ _ hD,hk,λi k u b e1 e2=>(hv i k u b e1 e2).same s⟩
theorem jf.but{H:Hp}{v:V}{ks:List Bt}{L D0:Addr}{us xs:List V}{kv0:List (List bY×V)}(h:jf H v ks)(hL:H L=some (.lst (.ref D0::us)))(h0:H D0=some (.dT kv0)):jf (aQ H L (.lst xs)) v ks:=by
 obtain⟨D,kvs,e,hD,hk,hv⟩:=h
 have t:Tp H (aQ H L (.lst xs)):=(Tp.refl H).lst hL
 refine⟨D,kvs,e,by rw[az (λz=>by rw[z,hL] at hD;cases hD)];exact hD,hk,λi k u b e1 e2=>?_⟩
 obtain⟨l,ws,e3,hl,hA⟩:=hv i k u b e1 e2
 refine⟨l,ws,e3,?_,hA.imp λ_ _ z=>iF.mono z t⟩
 rw[az];exact hl
 intro z
 rw[z,hL] at hl;cases hl
 obtain⟨r,_,p,e4,hp⟩:=hA.of_v (i:=0) rfl
 cases e4
 rw[h0] at hp;cases hp
theorem mh{kvs:List (List bY×V)}{ks:List Bt}(h:kvs.map (·.1)=ks.map cq):kvs.length=ks.length:=by
 have:=congrArg jy h;rwa [af,af] at this
theorem kb{kvs:List (List bY×V)}{ks:List Bt}(h:kvs.map (·.1)=ks.map cq){i:Nat}{k:List bY}{v:V}(e:kvs[i]?=some (k,v)):∃b,ks[i]?=some b/\k=cq b:=by
 have h1:(kvs.map (·.1))[i]?=some k:=by rw[aG,e];rfl
 rw[h,aG] at h1
 cases e2:ks[i]? with
 |none=>rw[e2] at h1;cases h1
 |some b=>rw[e2] at h1;exact⟨b,rfl,(Option.some.inj h1).symm⟩
theorem rH(ns:List Str):∀(os acc:List (Option Str)) (x:Str),some x∈os.foldl (df ns) acc->some x∈acc\/x∈ns
 |[],_,_,h=>.inl h
 |o::r,acc,x,h=>by
  rw[fQ] at h
  rcases rH ns r _ x h with h|h
  ·unfold df at h
   rcases aE.mp h with h|h
   ·exact .inl h
   ·have h:=ao.mp h
    split at h
    ·rename_i c
     rw[<-h] at c
     obtain⟨y,hy,e⟩:=aC.mp c.1
     rw[<-Option.some.inj e];exact .inr hy
    ·cases h
  ·exact .inr h
theorem Dy{n:Nat}{b:Bt}{ss:List Str}(h:b.length=n):mX n ss (bR b ss):=⟨(eD b ss).trans h,λx hx=>(rH ss b [] x hx).elim (λz=>by cases z) id⟩
theorem Kj(b:Bt)(x:Option Str)(ss:List Str):(kC b x ss).length=b.length:=by
 unfold kC
 rw[eD]
 cases x with
 |none=>rfl
 |some y=>exact iG b y
theorem Ma{n:Nat}{b:Bt}{x:Option Str}{ss:List Str}(h:b.length=n):mX n ss (kC b x ss):=by
 unfold kC
 refine Dy ?_
 cases x with
 |none=>exact h
 |some y=>exact(iG b y).trans h
theorem pS{α:Type}{p:α->Bool}{xs:List α}{i:Nat}{y:α}(h:xs[i]?=some y):(xs.take (i+1)).filter p=(xs.take i).filter p++if p y=true then[y] else[]:=by
 rw[eV h,eR,cV,List.filter_nil]
theorem m9{K:Fg}{vs:List V}{H:Hp}{Q:VK}{E:XK}(h:fj K vs H Q E):iZ K {nx:=λ_ H'=>Q .non H',rt:=Q} (start eI vs) H:=by
 obtain⟨bp,wp,pt,tvs,n,b0,ws,pss,rfl,src,hpt,hT,pl,dims,q⟩:=h
 obtain⟨wvs,hwp,hW⟩:=src.wks
 obtain⟨_,ss0,e0,e0',np0,rfl,hnp0⟩:=hT.get (i:=0) (by lia)
 have d0:=dims ss0 (aA e0')
 have n5:=d0.n5
 refine⟨_,rfl,_,rfl,mj (cx.of hpt) (by decide) e0 ⟨bp,np0,b0,ss0,rfl,src.bp,hnp0,by rw[src.len];lia,λp1 H1 hp1 s1=>⟨(by show 1<=sizeLine;decide),λe ne=>?_⟩⟩⟩
 have s2:aI H (aQ H1 e (.lst [.ref p1])):=s1.new ne
 refine⟨e,[.ref p1],[bR b0 ss0],n,ss0,rfl,aj,bj.nil.snoc (v:=.ref p1) ⟨p1,rfl,(aI.refl H1).new ne _ _ hp1⟩,d0,(λb hb=>by rw[ao.mp hb];exact Dy src.len),(by show 1<=7776;decide),λv ks0 H3 hC tr0 s3=>⟨(by show 1<=sizeLine;decide),λL nL=>?_⟩⟩
 have s23:=s2.trans s3
 have nLH:H L=none:=s23.free nL
 show hV K _ [some (.ref bp),some (.ref wp),some (.ref pt),some (.ref L),none,none,none,none] _
 refine⟨_,rfl,wp,rfl,⟨_,cz.of (s23.new nL _ _ hwp)⟩,mQ (xs:=wvs) (λi σ' H'=>∃o4 o5 o6 o7 cvs kss,σ'=[some (.ref bp),some (.ref wp),some (.ref pt),some (.ref L),o4,o5,o6,o7]/\H' L=some (.lst cvs)/\bj (jf H') cvs kss/\kss.length=i+1/\(∀ks ss,kss[0]?=some ks->pss[0]?=some ss->jg n ss [bR b0 ss] ks)/\(∀(k:Nat) ks ks' w ss,kss[k]?=some ks->kss[k+1]?=some ks'->ws[k]?=some w->pss[k+1]?=some ss->jg n ss ((ks.map λb=>kC b w.out ss).filter λb=>pU b ss) ks')/\(∀ks∈kss,ks.length<=7776/\∀b∈ks,b.length=n)/\aI H H')
  ⟨none,none,none,none,[v],[ks0],rfl,aj,bj.nil.snoc (hC.same ((aI.refl H3).new nL)),rfl,(λks ss h1 h2=>by rw[e0'] at h2;cases h2;cases h1;exact tr0),(λk ks ks' w ss h1 h2=>by simp at h2),(λks hk=>by rw[ao.mp hk];exact⟨tr0.few,λb hb=>(tr0.inn b hb).len⟩),s23.new nL⟩ ?_ ?_ ?_⟩
 ·rintro i σ' H' _ ⟨_,_,_,_,_,_,_,_,_,_,_,_,_,s⟩
  exact cz.of (s _ _ hwp)
 ·rintro i wv σ' H4 t hwv nt ⟨o4,o5,o6,o7,cvs,kss,rfl,hL,hA,kl,f0,fn,kf,s4⟩
  obtain⟨w,hw,hwa⟩:=hW.of_v hwv
  have il:i<ws.length:=(ae.mp hw).1
  have few:=src.few
  obtain⟨_,ss,e1,e1',np,rfl,hnp⟩:=hT.get (i:=i+1) (by lia)
  have dss:=dims ss (aA e1')
  refine⟨t,_,rfl,cz.of aj,rfl,_,_,rfl,_,_,rfl,rfl,?_⟩
  have s5:aI H4 (aQ H4 t (.tup [.int (i:Nat),wv])):=(aI.refl H4).new nt
  show hU K _ [some (.ref bp),some (.ref wp),some (.ref pt),some (.ref L),some (.int (i:Nat)),some wv,o6,o7] _
  generalize aQ H4 t (.tup [.int (i:Nat),wv])=H5 at s5 ⊢
  have s05:=s4.trans s5
  have hL5:=s5 _ _ hL
  have hA5:=hA.imp λ_ _ z=>jf.same z s5
  refine⟨_,rfl,_,rfl,.inl ⟨_,_,rfl,rfl,mj (v:=.ref np) (cx.of (s05 _ _ hpt)) (by lia) (by rw[show((i:Int)+1).toNat=i+1 by lia];exact e1) ?_⟩⟩
  show hJ K _ [some (.ref bp),some (.ref wp),some (.ref pt),some (.ref L),some (.int (i:Nat)),some wv,some (.ref np),o7] H5
  obtain⟨cv,ks,ec,ek,hcom⟩:=hA5.get (i:=i) (by lia)
  obtain⟨kn,kbl⟩:=kf ks (aA ek)
  obtain⟨Dk,kvs,rfl,hDk,hkeys,hvals⟩:=id hcom
  have kvl:=mh hkeys
  refine⟨_,rfl,_,rfl,mj (v:=.ref Dk) (cx.of hL5) (b9 _) (by rw[aY];exact ec) ⟨Dk,kvs,rfl,hDk,λob C nC=>?_⟩⟩
  have hnp5:=s05 _ _ hnp
  have hwa5:FD H5 wv w:=hwa.tp (Tp.of_same s05)
  have nCH:H5 C=none:=by
   by_cases z:C=Dk
   ·rw[z,aj] at nC;cases nC
   ·rw[az z] at nC;exact nC
  refine oJ (λj σ' H'=>∃o8 us,σ'=[some (.ref bp),some (.ref wp),some (.ref pt),some (.ref L),some (.int (i:Nat)),some wv,some (.ref np),o7,o8]/\H' C=some (.lst us)/\bj (iF H') us ((ks.take j).map λb=>kC b w.out ss)/\aI (aQ H5 Dk (.frz ob (.dT kvs))) H') ⟨none,[],rfl,aj,bj.nil,(aI.refl _).new nC⟩ ?_ ?_ ?_
  ·rintro j σ' H' _ ⟨_,_,_,_,_,s⟩;exact ip s
  ·rintro j k kv pb σ' H6 hk hpb ⟨o8,us,rfl,hC6,hA6,s6⟩
   obtain⟨b,hb,rfl⟩:=kb hkeys hk
   rw[eh] at hpb
   have bl:=kbl b (aA hb)
   have jl:j<ks.length:=(ae.mp hb).1
   have bne:b≠[]:=λz=>by rw[z] at bl;have:=d0.pos;have:(0:Nat)=n:=bl;lia
   have tp6:Tp H5 H6:=λc xs hc=>xG s6 hDk hc λ_ z=>by cases z
   have ul:us.length<=j:=by rw[hA6.len,af,aP];lia
   refine fG ⟨_,rfl,_,rfl,_,rfl,pb,np,wv,b,w,ss,rfl,hpb,hwa5.tp tp6,tp6 _ _ hnp5,bne,by lia,λr H7 hr s7=>⟨us,s7 _ _ hC6,bI (by lia),_,us++[.ref r],rfl,aj,?_,dD (s6.trans s7) nC⟩⟩
   have t8:Tp H7 (aQ H7 C (.lst (us++[.ref r]))):=(Tp.refl H7).lst (s7 _ _ hC6)
   rw[eV hb,aB]
   exact(hA6.imp λ_ _ z=>iF.mono z ((Tp.of_same s7).trans t8)).snoc ⟨r,rfl,t8 _ _ hr⟩
  ·rintro σ' H6 ⟨o8,us,_,hC6,hA6,s6⟩
   rw[kvl,a8] at hA6
   refine .inr ⟨Dk,kvs,kvs,ob,hDk,ip s6,?_⟩
   have s7:=i9 hDk s6
   have nCD:C≠Dk:=(aJ hDk nCH).symm
   have t7:Tp H6 (aQ H6 Dk (.dT kvs)):=λc xs hc=>by
    rw[az (λz=>by rw[z,ip s6] at hc;cases hc)];exact hc
   have hC7:aQ H6 Dk (.dT kvs) C=some (.lst us):=by rw[az nCD];exact hC6
   have hA7:=hA6.imp λ_ _ z=>iF.mono z t7
   show g9 K _ [some (.ref bp),some (.ref wp),some (.ref pt),some (.ref L),some (.int (i:Nat)),some wv,some (.ref np),some (.ref C)] (aQ H6 Dk (.dT kvs))
   generalize aQ H6 Dk (.dT kvs)=H7 at s7 hC7 hA7 ⊢
   have s07:=s05.trans s7
   have hL7:=s7 _ _ hL5
   have hAc7:=hA5.imp λ_ _ z=>jf.same z s7
   have el:(ks.map λb=>kC b w.out ss).length=ks.length:=af ..
   have elen:∀b∈ks.map (λb=>kC b w.out ss),b.length=n:=λb hb=>by
    obtain⟨c,hc,rfl⟩:=aC.mp hb
    rw[Kj];exact kbl c hc
   have ein:∀b∈(ks.map λb=>kC b w.out ss).filter (λb=>pU b ss),mX n ss b:=λb hb=>by
    obtain⟨c,hc,rfl⟩:=aC.mp (bh.mp hb).1
    exact Ma (kbl c hc)
   have efew:((ks.map λb=>kC b w.out ss).filter λb=>pU b ss).length<=7776:=a7 (bt _ _) (by rw[el];exact kn)
   refine⟨_,rfl,.inl ⟨rfl,_,cx.of hL7⟩,.inl ⟨_,rfl,C,rfl,⟨_,cx.of hC7⟩,λF nF=>?_⟩⟩
   refine kc (xs:=us) (λj σ' H'=>∃o8 fs,σ'=[some (.ref bp),some (.ref wp),some (.ref pt),some (.ref L),some (.int (i:Nat)),some wv,some (.ref np),some (.ref C),o8]/\H' F=some (.lst fs)/\bj (iF H') fs (((ks.map λb=>kC b w.out ss).take j).filter λb=>pU b ss)/\aI H7 H') ⟨none,[],rfl,aj,bj.nil,(aI.refl _).new nF⟩ ?_ ?_ ?_
   ·rintro j σ' H' _ ⟨_,_,_,_,_,s⟩;exact cx.of (s _ _ hC7)
   ·rintro j x σ' H8 hx ⟨o8,fs,rfl,hF,hFA,s8⟩
    obtain⟨b,hb,⟨pb,rfl,hpb⟩⟩:=hA7.of_v hx
    have bm:=aA hb
    have jl:j<ks.length:=by have:=(ae.mp hb).1;lia
    have fl:fs.length<=j:=by
     rw[hFA.len]
     have:=bt (λb=>pU b ss) ((ks.map λb=>kC b w.out ss).take j)
     rw[aP] at this
     lia
    show jw F _ _ _ [some (.ref bp),some (.ref wp),some (.ref pt),some (.ref L),some (.int (i:Nat)),some wv,some (.ref np),some (.ref C),some (.ref pb)] H8
    refine⟨_,rfl,_,rfl,pb,np,b,ss,rfl,s8 _ _ hpb,s8 _ _ (s7 _ _ hnp5),by have:=dss.s5;lia,by rw[elen b bm];exact n5,λH9 s9=>⟨_,rfl,?_⟩⟩
    rw[pS hb]
    cases hh:pU b ss with
    |true=>
     refine rY ⟨_,rfl,fs,s9 _ _ hF,bI (by lia),_,fs++[.ref pb],rfl,aj,?_,dD (s8.trans s9) nF⟩
     have t10:Tp H9 (aQ H9 F (.lst (fs++[.ref pb]))):=(Tp.refl H9).lst (s9 _ _ hF)
     rw[if_pos rfl]
     exact(hFA.imp λ_ _ z=>iF.mono z ((Tp.of_same s9).trans t10)).snoc ⟨pb,rfl,t10 _ _ (s9 _ _ (s8 _ _ hpb))⟩
    |false=>
     refine gR ⟨_,fs,rfl,s9 _ _ hF,?_,s8.trans s9⟩
     rw[if_neg (by decide),dZ]
     exact hFA.imp λ_ _ z=>iF.mono z (.of_same s9)
   ·rintro σ' H8 ⟨o8,fs,_,hF,hFA,s8⟩
    rw[hA7.len,a8] at hFA
    refine⟨F,fs,_,n,ss,rfl,hF,hFA,dss,ein,efew,λv' ks' H9 hc9 tr9 s9=>?_⟩
    have s79:=s8.trans s9
    have hL9:=s79 _ _ hL7
    have hA9:=hAc7.imp λ_ _ z=>jf.same z s79
    refine⟨L,cvs,v',rfl,rfl,hL9,bI (by rw[hA9.len];lia),?_⟩
    obtain⟨v0,ksz,ev0,_,hz⟩:=hA9.get (i:=0) (by lia)
    obtain⟨D0,kv0,rfl,hD0,_⟩:=id hz
    obtain⟨r,rfl⟩:∃r,cvs=.ref D0::r:=by
     cases cvs with
     |nil=>cases ev0
     |cons a r=>cases ev0;exact⟨r,rfl⟩
    refine⟨_,_,_,_,_++[v'],kss++[ks'],rfl,aj,(hA9.imp λ_ _ z=>jf.but z hL9 hD0).snoc (hc9.but hL9 hD0),by rw[ai,kl];rfl,λks2 ss2 h1 h2=>?_,λk ks2 ks3 w2 ss2 h1 h2 h3 h4=>?_,λks2 hk=>?_,dD (s07.trans s79) nLH⟩
    ·rw[au (by lia)] at h1
     exact f0 ks2 ss2 h1 h2
    ·by_cases c:k+1<kss.length
     ·rw[au (by lia)] at h1
      rw[au c] at h2
      exact fn k ks2 ks3 w2 ss2 h1 h2 h3 h4
     ·have hk:k=i:=by
       have:=(ae.mp h2).1
       rw[ai,aM] at this
       lia
      subst hk
      rw[au (by lia),ek] at h1
      rw[aq (by lia),show k+1-kss.length=0 by lia] at h2
      rw[hw] at h3;rw[e1'] at h4
      cases h1;cases h3;cases h4
      have h2:ks'=ks3:=Option.some.inj h2
      rw[<-h2];exact tr9
    ·rcases aE.mp hk with z|z
     ·exact kf ks2 z
     ·rw[ao.mp z];exact⟨tr9.few,λb hb=>(tr9.inn b hb).len⟩
 ·rintro σ' H4 ⟨o4,o5,o6,o7,cvs,kss,rfl,hL,hA,kl,f0,fn,kf,s4⟩
  rw[hW.len] at kl
  exact⟨_,rfl,q L cvs kss H4 hL hA ⟨kl,dims,f0,fn⟩ s4⟩
theorem Ij{kvs:List (List bY×V)}:∀{i:Nat} {k:List bY} {v:V},(kvs.map (·.1)).Nodup->kvs[i]?=some (k,v)->cY kvs k=some v:=by
 induction kvs with
 |nil=>intro i k v _ h;simp at h
 |cons p r ih=>
  intro i k v nd h
  rw[bA,bU] at nd
  cases i with
  |zero=>
   have h:p=(k,v):=by simpa using h
   rw[h];exact fz rfl
  |succ i=>
   have h:r[i]?=some (k,v):=by simpa using h
   have ne:¬p.1=k:=λz=>nd.1 (by rw[z];exact aC.mpr ⟨(k,v),aA h,rfl⟩)
   rw[ft ne];exact ih nd.2 h
theorem xU{ks:List Bt}(h:ks.Nodup):(ks.map cq).Nodup:=by
 induction ks with
 |nil=>exact cL
 |cons b r ih=>
  rw[bU] at h
  rw[bA,bU]
  refine⟨λz=>?_,ih h.2⟩
  obtain⟨c,hc,e⟩:=aC.mp z
  rw[kg e] at hc
  exact h.1 hc
theorem qN:∀{more kvs:List (List bY×V)},((kvs++more).map (·.1)).Nodup->kL kvs more=kvs++more
 |[],kvs,_=>by rw[dZ];rfl
 |p::r,kvs,h=>by
  have hn:cY kvs p.1=none:=by
   cases e:cY kvs p.1 with
   |none=>rfl
   |some v=>
    have:=DU e
    rw[aB,cK] at h
    exact absurd rfl (h.2.2 p.1 this p.1 (by simp))
  show kL (iJ kvs p.1 p.2) r=_
  rw[mr _ hn,qN (by rw[d5];exact h),d5]
  rfl
theorem zt{ks:List Bt}{b:Bt}(h:b∈ks):∃i:Nat,ks[i]?=some b:=by
 obtain⟨i,hi,e⟩:=aS.mp h
 exact⟨i,by rw[aa hi,e]⟩
theorem qM{ks:List Bt}(nd:ks.Nodup){i j:Nat}{b:Bt}(h:ks[i]?=some b)(h':ks[j]?=some b):i=j:=by
 exact(c5 (ae.mp h).1 nd).mp (h.trans h'.symm)
theorem sF{f g:Nat->Nat}{c:Nat}:∀{n:Nat},c<n->(∀d,d≠c->g d=f d)->iK n g+f c=iK n f+g c
 |0,h,_=>absurd h (dC _)
 |n+1,h,e=>by
  have st:∀f:Nat->Nat,iK (n+1) f=iK n f+f n:=λf=>by
   unfold iK;rw[fU,aB,fV];simp
  rw[st,st]
  by_cases cn:c=n
  ·subst cn
   have:iK c g=iK c f:=by
    unfold iK
    congr 1
    exact c8 λd hd=>e d (aN (fg.mp hd))
   lia
  ·have:=sF (n:=n) (by lia) e
   have:=e n (Ne.symm cn)
   lia
theorem HL(n:Nat):iK n (λ_=>0)=0:=by
 unfold iK
 induction n with
 |zero=>rfl
 |succ n ih=>rw[fU,aB,fV,ih];rfl
theorem DD{g:Nat->Nat}{n c:Nat}(h:c<n):g c<=iK n g:=by
 have:=sF (f:=g) (g:=λd=>if d=c then 0 else g d) h λd hd=>if_neg hd
 rw[if_pos rfl] at this
 lia
structure Iy(H0 H:Hp)(ks:List Bt)(ls:List Addr)(con:Nat->List Bt):Prop where
 len:ls.length=ks.length
 nd:ls.Nodup
 new:∀l∈ls,H0 l=none
 at_:∀(c:Nat) l,ls[c]?=some l->∃us,H l=some (.lst us)/\bj (iF H) us (con c)
theorem Iy.same{H0 H H':Hp}{ks:List Bt}{ls:List Addr}{con:Nat->List Bt}(h:Iy H0 H ks ls con)(s:aI H H'):Iy H0 H' ks ls con:=⟨h.len,h.nd,h.new,λc l e=>by
 obtain⟨us,h1,h2⟩:=h.at_ c l e
 exact⟨us,s _ _ h1,h2.imp λ_ _ z=>iF.mono z (.of_same s)⟩⟩
theorem Iy.put{H0 H:Hp}{ks:List Bt}{ls:List Addr}{con:Nat->List Bt}(h:Iy H0 H ks ls con){c:Nat}{l pb:Addr}{us:List V}{b:Bt}(e:ls[c]?=some l)(hl:H l=some (.lst us))(hA:bj (iF H) us (con c))(hb:H pb=some (.tup (cH b))) :
  Iy H0 (aQ H l (.lst (us++[.ref pb]))) ks ls (λd=>if d=c then con d++[b] else con d):=by
 have t:Tp H (aQ H l (.lst (us++[.ref pb]))):=(Tp.refl H).lst hl
 refine⟨h.len,h.nd,h.new,λd m em=>?_⟩
 by_cases dc:d=c
 ·subst dc
  rw[e] at em;cases em
  rw[if_pos rfl]
  exact⟨_,aj,(hA.imp λ_ _ z=>iF.mono z t).snoc ⟨pb,rfl,t _ _ hb⟩⟩
 ·rw[if_neg dc]
  obtain⟨us2,h1,h2⟩:=h.at_ d m em
  have ne:m≠l:=λz=>by
   exact dc ((c5 (ae.mp em).1 h.nd).mp (by rw[em,e,z]))
  exact⟨us2,by rw[az ne];exact h1,h2.imp λ_ _ z=>iF.mono z t⟩
theorem r8{K:Fg}{vs:List V}{H:Hp}{Q:VK}{E:XK}(h:ir K vs H Q E):ly K {nx:=λ_ H'=>Q .non H',rt:=Q} (start iP vs) H:=by
 obtain⟨_,ks,n,rfl,⟨D,kvs,rfl,hD,hkeys,hvals⟩,knd,kfew,klen,n1,n5,kcl,q⟩:=h
 have kvl:=mh hkeys
 refine⟨_,rfl,D,kvs,rfl,hD,λob C nC=>?_⟩
 have nCH:H C=none:=by
  by_cases z:C=D
  ·rw[z,aj] at nC;cases nC
  ·rw[az z] at nC;exact nC
 refine oJ (λj σ' H'=>∃(o2:Option V) (ts ps ls:List Addr),σ'=[some (.ref D),none,o2,none,none]/\H' C=some (.lst (ts.map V.ref))/\ts.length=j/\ps.length=j/\ls.length=j/\ls.Nodup/\(∀l∈ls,H l=none/\l≠C)/\(∀(i:Nat) t p l b,ts[i]?=some t->ps[i]?=some p->ls[i]?=some l->ks[i]?=some b->H' t=some (.tup [.ref p,.ref l])/\H' p=some (.tup (cH b)))/\(∀l∈ls,H' l=some (.lst []))/\aI (aQ H D (.frz ob (.dT kvs))) H')
  ⟨none,[],[],[],rfl,aj,rfl,rfl,rfl,cL,(λl hl=>by cases hl),(λi t p l b h=>by simp at h),(λl hl=>by cases hl),(aI.refl _).new nC⟩ ?_ ?_ ?_
 ·rintro j σ' H' _ ⟨_,_,_,_,_,_,_,_,_,_,_,_,_,s⟩;exact ip s
 ·rintro j k kv pb σ' H1 hk hpb ⟨o2,ts,ps,ls,rfl,hC,tl,pl,ll,nd,new,prs,emp,s⟩
  obtain⟨b,hb,rfl⟩:=kb hkeys hk
  rw[eh] at hpb
  have jl:j<ks.length:=(ae.mp hb).1
  show jw C jt _ _ [some (.ref D),none,some (.ref pb),none,none] H1
  refine fG ⟨_,rfl,(by show 0<=sizeLine;decide),λl nl=>⟨(by show 2<=sizeLine;decide),λt nt=>?_⟩⟩
  have s2:aI H1 (aQ (aQ H1 l (.lst [])) t (.tup [.ref pb,.ref l])):=((aI.refl H1).new nl).new nt
  have ht:aQ (aQ H1 l (.lst [])) t (.tup [.ref pb,.ref l]) t=some (.tup [.ref pb,.ref l]):=aj
  have hl:aQ (aQ H1 l (.lst [])) t (.tup [.ref pb,.ref l]) l=some (.lst []):=(aI.refl _).new nt _ _ aj
  generalize aQ (aQ H1 l (.lst [])) t (.tup [.ref pb,.ref l])=H2 at s2 ht hl ⊢
  have lC:l≠C:=(aJ hC nl).symm
  have lH:H l=none:=by
   have z:=s.free nl
   by_cases c:l=D
   ·rw[c,aj] at z;cases z
   ·rw[az c] at z;exact z
  have t3:Tp H2 (aQ H2 C (.lst (ts.map V.ref++[.ref t]))):=(Tp.refl H2).lst (s2 _ _ hC)
  refine⟨_,s2 _ _ hC,bI (by rw[af];lia),_,ts++[t],ps++[pb],ls++[l],rfl,by rw[aj,aB];rfl,by rw[ai,tl];rfl,by rw[ai,pl];rfl,by rw[ai,ll];rfl,?_,λm hm=>?_,λi t' p' l' b' h1 h2 h3 h4=>?_,λm hm=>?_,dD (s.trans s2) nC⟩
  ·refine cK.mpr ⟨nd,by simp,λx hx y hy=>?_⟩
   rw[ao.mp hy]
   rintro rfl
   rw[emp x hx] at nl;cases nl
  ·rcases aE.mp hm with z|z
   ·exact new m z
   ·rw[ao.mp z];exact⟨lH,lC⟩
  ·by_cases c:i<j
   ·rw[au (by lia)] at h1 h2 h3
    obtain⟨a1,a2⟩:=prs i t' p' l' b' h1 h2 h3 h4
    exact⟨t3 _ _ (s2 _ _ a1),t3 _ _ (s2 _ _ a2)⟩
   ·have ij:i=j:=by
     have:=(ae.mp h1).1
     rw[ai,aM] at this
     lia
    subst ij
    rw[aq (by lia),tl,bo] at h1
    rw[aq (by lia),pl,bo] at h2
    rw[aq (by lia),ll,bo] at h3
    rw[hb] at h4
    cases h4
    have h1:t=t':=Option.some.inj h1
    have h2:pb=p':=Option.some.inj h2
    have h3:l=l':=Option.some.inj h3
    subst h1 h2 h3
    exact⟨t3 _ _ ht,t3 _ _ (s2 _ _ hpb)⟩
  ·rcases aE.mp hm with z|z
   ·rw[az (new m z).2];exact s2 _ _ (emp m z)
   ·rw[ao.mp z,az lC];exact hl
 ·rintro σ' H1 ⟨o2,ts,ps,ls,_,hC,tl,pl,ll,nd,new,prs,emp,s⟩
  rw[kvl] at tl pl ll
  refine .inr ⟨D,kvs,kvs,ob,hD,ip s,?_⟩
  have s2:=i9 hD s
  have t2:Tp H1 (aQ H1 D (.dT kvs)):=λc xs hc=>by
   rw[az (λz=>by rw[z,ip s] at hc;cases hc)];exact hc
  have lt2:∀l us,H1 l=some (.lst us)->aQ H1 D (.dT kvs) l=some (.lst us):=λl us hl=>by
   rw[az (λz=>by rw[z,ip s] at hl;cases hl)];exact hl
  have hC2:=lt2 _ _ hC
  have emp2:=λl hl=>lt2 l _ (emp l hl)
  have prs2:=λi t p l b h1 h2 h3 h4=>(⟨t2 _ _ (prs i t p l b h1 h2 h3 h4).1,t2 _ _ (prs i t p l b h1 h2 h3 h4).2⟩:aQ H1 D (.dT kvs) t=some (.tup [.ref p,.ref l])/\aQ H1 D (.dT kvs) p=some (.tup (cH b)))
  generalize aQ H1 D (.dT kvs)=H2 at s2 hC2 emp2 prs2 ⊢
  have zl:(ks.zip ls).length=ks.length:=by rw[kZ];lia
  have zm:(((ks.zip ls).map λp=>(cq p.1,V.ref p.2)).map (·.1))=ks.map cq:=by
   rw[cQ,show((λx:List bY×V=>x.1) ∘ λp:Bt×Addr=>(cq p.1,V.ref p.2))=cq ∘ Prod.fst from rfl,<-cQ,List.map_fst_zip (by lia)]
  have znd:=xU knd
  refine⟨C,_,(ks.zip ls).map λp=>(cq p.1,V.ref p.2),rfl,hC2,by rw[af,af,zl,tl],by rw[af,zl];lia,λj x k v e1 e2=>?_,λA nA=>?_⟩
  ·rw[aG] at e1 e2
   cases et:ts[j]? with
   |none=>rw[et] at e1;cases e1
   |some t=>
    rw[et] at e1;cases e1
    cases ez:(ks.zip ls)[j]? with
    |none=>rw[ez] at e2;cases e2
    |some p=>
     rw[ez] at e2;cases e2
     obtain⟨z1,z2⟩:=dX.mp ez
     have jl:j<ps.length:=by have:=(ae.mp z1).1;lia
     obtain⟨a1,a2⟩:=prs2 j t ps[j] p.2 p.1 et (aa jl) z2 z1
     exact⟨t,ps[j],rfl,a1,by rw[eh];exact a2⟩
  rw[qN (kvs:=[]) (by rw[eY,zm];exact znd),eY]
  have s3:aI H2 (aQ H2 A (.dT ((ks.zip ls).map λp=>(cq p.1,V.ref p.2)))):=(aI.refl H2).new nA
  have hA3:aQ H2 A (.dT ((ks.zip ls).map λp=>(cq p.1,V.ref p.2))) A=some (.dT ((ks.zip ls).map λp=>(cq p.1,V.ref p.2))):=aj
  have nAH:H A=none:=s2.free nA
  show jP K _ [some (.ref D),some (.ref A),none,none,none] _
  generalize aQ H2 A (.dT ((ks.zip ls).map λp=>(cq p.1,V.ref p.2)))=H3 at s3 hA3 ⊢
  have s03:=s2.trans s3
  have hD3:=s03 _ _ hD
  have ah3:Iy H H3 ks ls (λ_=>[]):=⟨ll,nd,λl hl=>(new l hl).1,λc l e=>⟨[],s3 _ _ (emp2 l (aA e)),bj.nil⟩⟩
  have alAt:∀(c:Nat) l d,ls[c]?=some l->ks[c]?=some d->cY ((ks.zip ls).map λp=>(cq p.1,V.ref p.2)) (cq d)=some (.ref l):=λc l d e1 e2=>Ij (i:=c) (by rw[zm];exact znd) (by
   rw[aG,dX (z:=(d,l)) |>.mpr ⟨e2,e1⟩];rfl)
  refine⟨_,rfl,D,kvs,rfl,hD3,λob2=>?_⟩
  have H3f:∀{b u},H3 b=some u->(∀kv,u≠.dT kv)->aQ H3 D (.frz ob2 (.dT kvs)) b=some u:=λ{b u} hb n=>by
   rw[az (λz=>by rw[z,hD3] at hb;cases hb;exact n _ rfl)];exact hb
  have nDA:A≠D:=λz=>by rw[z] at nAH;rw[hD] at nAH;cases nAH
  refine oO (λi σ' H'=>∃o2 o3 o4 con,σ'=[some (.ref D),some (.ref A),o2,o3,o4]/\Iy H H' ks ls con/\H' A=some (.dT ((ks.zip ls).map λp=>(cq p.1,V.ref p.2)))/\H' D=some (.frz ob2 (.dT kvs))/\(∀(c:Nat) d b,ks[c]?=some d->(b∈con c↔b∈ks.take i/\d∈kts b))/\iK ks.length (λc=>(con c).length)<=5*i/\(∀b u,b≠D->H b=some u->H' b=some u)) ?_ ?_ ?_ ?_
  ·refine⟨none,none,none,λ_=>[],rfl,⟨ll,nd,ah3.new,λc l e=>?_⟩,by rw[az nDA];exact hA3,aj,(λc d b _=>⟨(λz=>by cases z),(λz=>by cases z.1)⟩),(by show iK _ (λ_=>0)<=_;rw[HL];exact bq _),λb u nb hb=>by rw[az nb];exact s03 _ _ hb⟩
   obtain⟨us,h1,h2⟩:=ah3.at_ c l e
   have:us=[]:=by have:=h2.len;exact aV.mp (by simpa using this)
   exact⟨us,H3f h1 (λ_ z=>by cases z),by rw[this];exact bj.nil⟩
  ·rintro i σ' H' _ ⟨_,_,_,_,_,_,_,h,_⟩;exact h
  ·rintro i k v pb p σ' H4 hk hpb np ⟨o2,o3,o4,con,rfl,ah,hA4,hD4,mem,cl,kp⟩
   obtain⟨b,hb,rfl⟩:=kb hkeys hk
   rw[eh] at hpb
   have bm:=aA hb
   have il:i<ks.length:=(ae.mp hb).1
   obtain⟨l0,us0,rfl,hl0,hB0⟩:=hvals i _ v b hk hb
   refine⟨p,_,rfl,cz.of aj,rfl,_,_,rfl,_,_,rfl,rfl,?_⟩
   have s5:aI H4 (aQ H4 p (.tup [.ref pb,.ref l0])):=(aI.refl H4).new np
   show jO K _ [some (.ref D),some (.ref A),some (.ref pb),some (.ref l0),o4] _
   generalize aQ H4 p (.tup [.ref pb,.ref l0])=H5 at s5 ⊢
   have l0D:l0≠D:=λz=>by rw[z,hD] at hl0;cases hl0
   have hl5:=s5 _ _ (kp _ _ l0D hl0)
   have l0ls:l0∉ls:=λz=>by rw[(new l0 z).1] at hl0;cases hl0
   have bne:b≠[]:=λz=>by have:=klen b bm;rw[z] at this;have:(0:Nat)=n:=this;lia
   have kl5:(kts b).length<=5:=by unfold kts;rw[af];have:=zV bne;have:=klen b bm;lia
   have bt5:∀c,H c≠none->c≠D->∀u,H c=some u->H5 c=some u:=λc _ nc u hc=>s5 _ _ (kp c u nc hc)
   refine .inl ⟨_,rfl,l0,rfl,⟨_,cx.of hl5⟩,tF (xs:=us0) (λj σ' H'=>∃o4 con2,σ'=[some (.ref D),some (.ref A),some (.ref pb),some (.ref l0),o4]/\Iy H H' ks ls con2/\H' A=some (.dT ((ks.zip ls).map λp=>(cq p.1,V.ref p.2)))/\H' D=some (.frz ob2 (.dT kvs))/\(∀(c:Nat) d x,ks[c]?=some d->(x∈con2 c↔(x∈ks.take i/\d∈kts x)\/(x=b/\d∈(kts b).take j)))/\iK ks.length (λc=>(con2 c).length)<=5*i+j/\(∀b u,b≠D->H b=some u->H' b=some u)/\H' pb=some (.tup (cH b))) ?_ ?_ ?_ ?_⟩
   ·refine⟨_,con,rfl,ah.same s5,s5 _ _ hA4,s5 _ _ hD4,λc d x e=>?_,by lia,λc u nc hc=>s5 _ _ (kp c u nc hc),s5 _ _ hpb⟩
    rw[mem c d x e,eM]
    exact⟨.inl,λz=>z.elim id λz=>by cases z.2⟩
   ·rintro j σ' H' _ ⟨_,_,_,_,_,_,_,_,h,_⟩;exact cx.of (h _ _ l0D hl0)
   ·rintro j x σ' H6 hx ⟨o4',con2,rfl,ah6,hA6,hD6,mem6,cl6,kp6,hpb6⟩
    obtain⟨d,hd,⟨pd,rfl,hpd⟩⟩:=hB0.of_v hx
    have jl:j<(kts b).length:=(ae.mp hd).1
    have pdD:pd≠D:=λz=>by rw[z,hD] at hpd;cases hpd
    have hpd6:=kp6 _ _ pdD hpd
    have dm:=kcl b bm d (aA hd)
    obtain⟨c,hc⟩:=zt dm
    have cl':c<ls.length:=by have:=(ae.mp hc).1;lia
    have elc:ls[c]?=some ls[c]:=aa cl'
    obtain⟨us,h1,h2⟩:=ah6.at_ c _ elc
    have vl:=alAt c _ d elc hc
    generalize ls[c]=l at elc h1 vl
    have lm:=aA elc
    have lnew:=(new l lm).1
    show jN K _ [some (.ref D),some (.ref A),some (.ref pb),some (.ref l0),some (.ref pd)] H6
    have ulen:us.length<=5*i+j:=by rw[h2.len];exact a7 (DD (g:=λc=>(con2 c).length) (ae.mp hc).1) cl6
    refine⟨_,rfl,_,rfl,A,_,rfl,nJ hA6 hpd6 vl,.inl ⟨rfl,_,cx.of h1⟩,_,rfl,l,us,.ref pb,rfl,rfl,h1,bI (by lia),?_⟩
    refine⟨_,λe=>if e=c then con2 e++[b] else con2 e,rfl,ah6.put elc h1 h2 hpb6,by rw[az (λz=>by rw[z,h1] at hA6;cases hA6)];exact hA6,by rw[az (λz=>by rw[z,h1] at hD6;cases hD6)];exact hD6,λe f x ef=>?_,?_,λm u nm hm=>by rw[az (λz=>by rw[z,lnew] at hm;cases hm)];exact kp6 m u nm hm,(Tp.refl H6).lst h1 _ _ hpb6⟩
    ·rw[eV hd]
     dsimp only
     by_cases ec:e=c
     ·subst ec
      rw[hc] at ef;cases ef
      rw[if_pos rfl,aE,mem6 e d x hc,ao,aE,ao]
      constructor
      ·rintro((z|z)|z)
       ·exact .inl z
       ·exact .inr ⟨z.1,.inl z.2⟩
       ·exact .inr ⟨z,.inr rfl⟩
      ·rintro(z|⟨z,y|_⟩)
       ·exact .inl (.inl z)
       ·exact .inl (.inr ⟨z,y⟩)
       ·exact .inr z
     ·rw[if_neg ec,mem6 e f x ef,aE,ao]
      have fd:f≠d:=λz=>ec (qM knd ef (by rw[z];exact hc))
      constructor
      ·rintro(z|z)
       ·exact .inl z
       ·exact .inr ⟨z.1,.inl z.2⟩
      ·rintro(z|⟨z,y|y⟩)
       ·exact .inl z
       ·exact .inr ⟨z,y⟩
       ·exact absurd y fd
    ·have:=sF (f:=λc=>(con2 c).length) (g:=λe=>(if e=c then con2 e++[b] else con2 e).length) (ae.mp hc).1 λd hd=>by rw[if_neg hd]
     rw[if_pos rfl,ai,aM] at this
     lia
   ·rintro σ' H6 ⟨o4',con2,rfl,ah6,hA6,hD6,mem6,cl6,kp6,_⟩
    rw[hB0.len,a8] at mem6
    refine⟨_,_,_,con2,rfl,ah6,hA6,hD6,λc d x e=>?_,by rw[hB0.len] at cl6;lia,kp6⟩
    rw[mem6 c d x e,eV hb,aE,ao]
    constructor
    ·rintro(z|⟨rfl,z⟩)
     ·exact⟨.inl z.1,z.2⟩
     ·exact⟨.inr rfl,z⟩
    ·rintro⟨z|rfl,y⟩
     ·exact .inl ⟨z,y⟩
     ·exact .inr ⟨rfl,y⟩
  ·rintro σ' H4 ⟨o2,o3,o4,con,rfl,ah,hA4,hD4,mem,cl,kp⟩
   rw[kvl,a8] at mem
   refine .inr ⟨D,kvs,kvs,ob2,hD3,hD4,?_⟩
   show jM K _ [some (.ref D),some (.ref A),o2,o3,o4] (aQ H4 D (.dT kvs))
   have t5:Tp H4 (aQ H4 D (.dT kvs)):=λc xs hc=>by
    rw[az (λz=>by rw[z,hD4] at hc;cases hc)];exact hc
   refine⟨_,rfl,q (.ref A) _ ⟨A,_,λc=>(con c).length,rfl,by rw[az nDA];exact hA4,nAH,zm,by lia,λi k u c e1 e2=>?_⟩ λb u hb=>?_⟩
   ·rw[aG] at e1
    cases ez:(ks.zip ls)[i]? with
    |none=>rw[ez] at e1;cases e1
    |some p=>
     rw[ez] at e1;cases e1
     obtain⟨z1,z2⟩:=dX.mp ez
     obtain⟨us,h1,h2⟩:=ah.at_ i _ z2
     rw[z1] at e2;cases e2
     refine⟨p.2,us,con i,rfl,by rw[az (λz=>by rw[z,hD4] at h1;cases h1)];exact h1,(new _ (aA z2)).1,h2.imp λ_ _ z=>iF.mono z t5,rfl,λb=>mem i _ b z1⟩
   ·by_cases c:b=D
    ·subst c;rw[hD] at hb;cases hb;exact aj
    ·rw[az c];exact kp b u c hb
abbrev Wq:=List (Nat×Addr×List Bt)
def Wt(wq:Wq)(m:Nat)(b:Bt):Prop:=∃l bs,(m,l,bs)∈wq/\b∈bs
def vG(wq:Wq):Nat:=(wq.map λe=>e.2.2.length).sum
def qY(wq:Wq):List (lT×V):=wq.map λe=>(Sum.inl (e.1:Int),V.ref e.2.1)
structure A1(H2 H:Hp)(W:Addr)(wq:Wq):Prop where
 at_:H W=some (.dK (qY wq))
 nd:(wq.map (·.1)).Nodup
 lnd:(wq.map (·.2.1)).Nodup
 new:∀e∈wq,H2 e.2.1=none
 lst:∀e∈wq,∃us,H e.2.1=some (.lst us)/\bj (iF H) us e.2.2
theorem A1.same{H2 H H':Hp}{W:Addr}{wq:Wq}(h:A1 H2 H W wq)(s:aI H H'):A1 H2 H' W wq:=⟨s _ _ h.at_,h.nd,h.lnd,h.new,λe he=>by
 obtain⟨us,h1,h2⟩:=h.lst e he
 exact⟨us,s _ _ h1,h2.imp λ_ _ z=>iF.mono z (.of_same s)⟩⟩
def lP(wq:Wq)(m:Nat)(cs:List Bt):Wq:=wq.map λe=>if e.1=m then(e.1,e.2.1,e.2.2++cs) else e
theorem vV(wq:Wq)(m:Nat)(cs:List Bt):(lP wq m cs).map (·.1)=wq.map (·.1):=by
 unfold lP
 rw[cQ]
 exact c8 λe _=>by
  show(if e.1=m then(e.1,e.2.1,e.2.2++cs) else e).1=e.1
  split<;>rfl
theorem C6(wq:Wq)(m:Nat)(cs:List Bt):(lP wq m cs).map (·.2.1)=wq.map (·.2.1):=by
 unfold lP
 rw[cQ]
 exact c8 λe _=>by
  show(if e.1=m then(e.1,e.2.1,e.2.2++cs) else e).2.1=e.2.1
  split<;>rfl
theorem F1(wq:Wq)(m:Nat)(cs:List Bt):qY (lP wq m cs)=qY wq:=by
 unfold qY lP
 rw[cQ]
 exact c8 λe _=>by
  show(Sum.inl (((if e.1=m then(e.1,e.2.1,e.2.2++cs) else e).1:Nat):Int),V.ref (if e.1=m then(e.1,e.2.1,e.2.2++cs) else e).2.1)=(Sum.inl (e.1:Int),V.ref e.2.1)
  split<;>rfl
theorem zp{wq:Wq}{m:Nat}{cs:List Bt}{l:Addr}{bs:List Bt}:(wq.map (·.1)).Nodup->(m,l,bs)∈wq->vG (lP wq m cs)=vG wq+cs.length:=by
 induction wq with
 |nil=>intro _ h;cases h
 |cons e r ih=>
  intro nd h
  rw[bA,bU] at nd
  have cons:∀(e:Nat×Addr×List Bt) r,vG (e::r)=e.2.2.length+vG r:=λ_ _=>rfl
  show vG ((if e.1=m then(e.1,e.2.1,e.2.2++cs) else e)::lP r m cs)=_
  rw[cons,cons]
  by_cases c:e.1=m
  ·rw[if_pos c]
   have no:lP r m cs=r:=by
    unfold lP
    conv=>rhs;rw[<-List.map_id r]
    exact c8 λf hf=>by
     have:¬f.1=m:=λz=>nd.1 (by rw[c,<-z];exact aC.mpr ⟨f,hf,rfl⟩)
     show(if f.1=m then _ else f)=f
     rw[if_neg this]
   rw[no]
   show(e.2.2++cs).length+_=_
   rw[ai];lia
  ·rw[if_neg c]
   rcases aK.mp h with z|z
   ·exact absurd (by rw[<-z]) c
   ·rw[ih nd.2 z];lia
theorem C7{wq:Wq}{m:Nat}{cs:List Bt}{l:Addr}{bs:List Bt}(h:(m,l,bs)∈wq)(k:Nat)(b:Bt):Wt (lP wq m cs) k b↔Wt wq k b\/(k=m/\b∈cs):=by
 constructor
 ·rintro⟨l',bs',hm,hb⟩
  obtain⟨e,he,e1⟩:=aC.mp hm
  split at e1
  ·rename_i c
   cases e1
   rcases aE.mp hb with z|z
   ·exact .inl ⟨e.2.1,e.2.2,he,z⟩
   ·exact .inr ⟨c,z⟩
  ·rw[e1] at he
   exact .inl ⟨l',bs',he,hb⟩
 ·rintro(⟨l',bs',hm,hb⟩|⟨rfl,hb⟩)
  ·refine⟨l',if k=m then bs'++cs else bs',aC.mpr ⟨_,hm,?_⟩,?_⟩
   ·dsimp only;split<;>rfl
   ·split
    ·exact bz _ hb
    ·exact hb
  ·exact⟨l,bs++cs,aC.mpr ⟨_,h,if_pos rfl⟩,aW _ hb⟩
theorem Il{H2 H:Hp}{W l:Addr}{wq:Wq}{m:Nat}{bs cs:List Bt}{us zs:List V}(w:A1 H2 H W wq)(h:(m,l,bs)∈wq)(hl:H l=some (.lst us))(hA:bj (iF H) us bs)(hZ:bj (iF H) zs cs):A1 H2 (aQ H l (.lst (us++zs))) W (lP wq m cs):=by
 have t:Tp H (aQ H l (.lst (us++zs))):=(Tp.refl H).lst hl
 refine⟨by rw[F1,az (λz=>by have:=w.at_;rw[z,hl] at this;cases this)];exact w.at_,by rw[vV];exact w.nd,by rw[C6];exact w.lnd,λe he=>?_,λe he=>?_⟩
 ·obtain⟨f,hf,e1⟩:=aC.mp he
  have:e.2.1=f.2.1:=by rw[<-e1];split<;>rfl
  rw[this];exact w.new f hf
 ·obtain⟨f,hf,e1⟩:=aC.mp he
  by_cases c:f.1=m
  ·have fe:f=(m,l,bs):=by
    obtain⟨i,hi,ei⟩:=aS.mp hf
    obtain⟨j,hj,ej⟩:=aS.mp h
    have:i=j:=(c5 (l:=wq.map (·.1)) (by rw[af];exact hi) w.nd).mp (by
     rw[aG,aG,aa hi,aa hj,ei,ej]
     show some f.1=some m
     rw[c])
    subst this
    rw[<-ei,ej]
   rw[if_pos c,fe] at e1
   rw[<-e1]
   exact⟨us++zs,aj,(hA.imp λ_ _ z=>iF.mono z t).appF (hZ.imp λ_ _ z=>iF.mono z t)⟩
  ·rw[if_neg c] at e1
   rw[<-e1]
   obtain⟨us',h1,h2⟩:=w.lst f hf
   have ne:f.2.1≠l:=λz=>c (by
    obtain⟨i,hi,ei⟩:=aS.mp hf
    obtain⟨j,hj,ej⟩:=aS.mp h
    have:i=j:=(c5 (l:=wq.map (·.2.1)) (by rw[af];exact hi) w.lnd).mp (by
     rw[aG,aG,aa hi,aa hj,ei,ej]
     show some f.2.1=some l
     rw[z])
    subst this
    rw[<-ei,ej])
   exact⟨us',by rw[az ne];exact h1,h2.imp λ_ _ z=>iF.mono z t⟩
theorem yB{wq:Wq}{m:Nat}:(wq.map (·.1)).Nodup->(∀v,cY (qY wq) (Sum.inl (m:Int))=some v->∃l bs,v=.ref l/\(m,l,bs)∈wq)/\(cY (qY wq) (Sum.inl (m:Int))=none->m∉wq.map (·.1)):=by
 intro nd
 induction wq with
 |nil=>exact⟨(λv h=>by cases h),(λ_ z=>by cases z)⟩
 |cons e r ih=>
  rw[bA,bU] at nd
  have ih:=ih nd.2
  by_cases c:e.1=m
  ·have:cY (qY (e::r)) (Sum.inl (m:Int))=some (.ref e.2.1):=fz (by show Sum.inl (e.1:Int)=_;rw[c])
   rw[this]
   refine⟨λv h=>?_,λh=>by cases h⟩
   cases h
   exact⟨e.2.1,e.2.2,rfl,by rw[<-c];exact bf⟩
  ·have:cY (qY (e::r)) (Sum.inl (m:Int))=cY (qY r) (Sum.inl (m:Int)):=ft (λz=>c (by
    have z:(Sum.inl (e.1:Int):lT)=Sum.inl (m:Int):=z
    injection z with z;lia))
   rw[this]
   refine⟨λv h=>?_,λh z=>?_⟩
   ·obtain⟨l,bs,h1,h2⟩:=ih.1 v h
    exact⟨l,bs,h1,a9 _ h2⟩
   ·rcases aK.mp z with z|z
    ·exact c z.symm
    ·exact ih.2 h z
theorem DW{K:Fg}{td ty:TE}{σ:St}{H2 H:Hp}{W:Addr}{wq:Wq}{m:Nat}{Q:VK}(hd:∀R:VK,R (.ref W) H->td σ H R)(hy:∀R:VK,R (.int (m:Nat)) H->ty σ H R)(w:A1 H2 H W wq)(few:wq.length<=50000)(s:aI H2 H)(nW:H2 W=none)
  (q:∀(l:Addr) (us:List V) (bs:List Bt) (wq1:Wq) (H':Hp),A1 H2 H' W wq1->(m,l,bs)∈wq1->H' l=some (.lst us)->bj (iF H') us bs->aI H2 H'->(∀k b,Wt wq1 k b↔Wt wq k b)->(∀k,k∈wq1.map (·.1)↔k∈wq.map (·.1)\/k=m)->wq1.length<=wq.length+1->vG wq1=vG wq->(∀b u,b≠W->H b=some u->H' b=some u)->(∀e∈wq1,e.2.1∈wq.map (·.2.1)\/H e.2.1=none)->Q (.ref l) H') :
  uB td ty (gx aO) σ H Q:=by
 refine hd _ ⟨W,rfl,.inl ⟨_,.inl w.at_⟩,hy _ ⟨(by show 0<=sizeLine;decide),λz nz=>?_⟩⟩
 have s1:aI H (aQ H z (.lst [])):=(aI.refl H).new nz
 have w1:=w.same s1
 have hz:aQ H z (.lst []) z=some (.lst []):=aj
 generalize aQ H z (.lst [])=H1 at s1 w1 hz ⊢
 obtain⟨v1,v2⟩:=yB (m:=m) w.nd
 refine⟨_,Sum.inl (m:Int),w1.at_,rfl,bI (by unfold qY;rw[af];lia),λv hv=>?_,λhv=>?_⟩
 ·obtain⟨l,bs,rfl,hm⟩:=v1 v hv
  obtain⟨us,h1,h2⟩:=w1.lst _ hm
  refine q l us bs wq H1 w1 hm h1 h2 (s.trans s1) (λ_ _=>Iff.rfl) (λk=>⟨.inl,λh=>h.elim id λh=>by rw[h];exact aC.mpr ⟨_,hm,rfl⟩⟩) (d8 _) rfl (λb u _ hb=>s1 _ _ hb) λe he=>.inl (aC.mpr ⟨e,he,rfl⟩)
 ·have nk:=v2 hv
  rw[mr _ hv]
  have zW:z≠W:=(aJ w.at_ nz).symm
  have t:Tp H1 (aQ H1 W (.dK (qY wq++[(Sum.inl (m:Int),V.ref z)]))):=λc xs hc=>by
   rw[az (λy=>by rw[y,w1.at_] at hc;cases hc)];exact hc
  refine q z [] [] (wq++[(m,z,[])]) _ ⟨by rw[aj];unfold qY;rw[aB];rfl,?_,?_,λe he=>?_,λe he=>?_⟩ (aW _ (ao.mpr rfl)) (by rw[az zW];exact hz) bj.nil (dD (s.trans s1) nW) (λk b=>?_) (λk=>?_) (by rw[ai];exact ar _) ?_ (λb u nb hb=>by rw[az nb];exact s1 _ _ hb) λe he=>?_
  ·rw[aB]
   exact cK.mpr ⟨w.nd,by simp,λx hx y hy=>by rw[ao.mp hy];rintro rfl;exact nk hx⟩
  ·rw[aB]
   refine cK.mpr ⟨w.lnd,by simp,λx hx y hy=>?_⟩
   rw[ao.mp hy]
   intro xz
   obtain⟨e,he,e1⟩:=aC.mp hx
   obtain⟨us,h1,_⟩:=w.lst e he
   have e1:e.2.1=x:=e1
   have xz:x=z:=xz
   rw[e1,xz,nz] at h1;cases h1
  ·rcases aE.mp he with y|y
   ·exact w.new e y
   ·rw[ao.mp y];exact s.free nz
  ·rcases aE.mp he with y|y
   ·obtain⟨us,h1,h2⟩:=w1.lst e y
    exact⟨us,by rw[az (λx=>by rw[x,w1.at_] at h1;cases h1)];exact h1,h2.imp λ_ _ x=>iF.mono x t⟩
   ·rw[ao.mp y]
    exact⟨[],by rw[az zW];exact hz,bj.nil⟩
  ·constructor
   ·rintro⟨l,bs,hm,hb⟩
    rcases aE.mp hm with y|y
    ·exact⟨l,bs,y,hb⟩
    ·have:=ao.mp y
     cases this;cases hb
   ·rintro⟨l,bs,hm,hb⟩
    exact⟨l,bs,bz _ hm,hb⟩
  ·rw[aB,aE]
   exact⟨λh=>h.imp id λh=>ao.mp h,λh=>h.imp id λh=>ao.mpr h⟩
  ·unfold vG
   rw[aB,fV]
   rfl
  ·rcases aE.mp he with y|y
   ·exact .inl (aC.mpr ⟨e,y,rfl⟩)
   ·rw[ao.mp y];exact .inr nz
theorem Kl{H2 H:Hp}{W:Addr}{wq:Wq}(w:A1 H2 H W wq)(nW:H2 W=none)(s:aI H2 H){N:Nat}{l:Addr}{bs:List Bt}(h:(N,l,bs)∈wq) :
  cY (qY wq) (Sum.inl (N:Int))=some (.ref l)/\A1 H2 (aQ H W (.dK (jF (qY wq) (Sum.inl (N:Int))))) W (wq.filter λe=>!decide (e.1=N))/\l∉(wq.filter λe=>!decide (e.1=N)).map (·.2.1):=by
 have t:Tp H (aQ H W (.dK (jF (qY wq) (Sum.inl (N:Int))))):=λc xs hc=>by
  rw[az (λy=>by rw[y,w.at_] at hc;cases hc)];exact hc
 have one:∀{f},f∈wq->f.1=N->f=(N,l,bs):=λ{f} hf c=>by
  obtain⟨i,hi,ei⟩:=aS.mp hf
  obtain⟨j,hj,ej⟩:=aS.mp h
  have:i=j:=(c5 (l:=wq.map (·.1)) (by rw[af];exact hi) w.nd).mp (by
   rw[aG,aG,aa hi,aa hj,ei,ej]
   show some f.1=some N
   rw[c])
  subst this
  rw[<-ei,ej]
 have two:∀{f},f∈wq->f.2.1=l->f=(N,l,bs):=λ{f} hf c=>by
  obtain⟨i,hi,ei⟩:=aS.mp hf
  obtain⟨j,hj,ej⟩:=aS.mp h
  have:i=j:=(c5 (l:=wq.map (·.2.1)) (by rw[af];exact hi) w.lnd).mp (by
   rw[aG,aG,aa hi,aa hj,ei,ej]
   show some f.2.1=some l
   rw[c])
  subst this
  rw[<-ei,ej]
 have dk:jF (qY wq) (Sum.inl (N:Int))=qY (wq.filter λe=>!decide (e.1=N)):=by
  unfold jF qY
  rw[List.filter_map]
  congr 1
  refine List.filter_congr λe _=>?_
  show decide ((Sum.inl (e.1:Int):lT)≠Sum.inl (N:Int))=!decide (e.1=N)
  by_cases c:e.1=N
  ·rw[c];simp
  ·have:(Sum.inl (e.1:Int):lT)≠Sum.inl (N:Int):=λz=>c (by injection z with z;lia)
   rw[decide_eq_true this,decide_eq_false c];rfl
 refine⟨?_,⟨by rw[aj,dk],?_,?_,λe he=>w.new e (bh.mp he).1,λe he=>?_⟩,λz=>?_⟩
 ·obtain⟨v1,v2⟩:=yB (m:=N) w.nd
  cases e:cY (qY wq) (Sum.inl (N:Int)) with
  |none=>exact absurd (aC.mpr ⟨_,h,rfl⟩) (v2 e)
  |some v=>
   obtain⟨l',bs',rfl,hm⟩:=v1 v e
   have:=one hm rfl
   cases this;rfl
 ·exact List.Sublist.nodup (List.Sublist.map _ iV) w.nd
 ·exact List.Sublist.nodup (List.Sublist.map _ iV) w.lnd
 ·obtain⟨us,h1,h2⟩:=w.lst e (bh.mp he).1
  exact⟨us,by rw[az (λy=>by rw[y,w.at_] at h1;cases h1)];exact h1,h2.imp λ_ _ x=>iF.mono x t⟩
 ·obtain⟨e,he,e1⟩:=aC.mp z
  obtain⟨h1,h2⟩:=bh.mp he
  have:=two h1 e1
  rw[this] at h2
  simp at h2
structure FB(ks:List Bt)(t0 t:List (Bt×Nat))(wq:Wq)(X:Nat->Bt->Prop):Prop where
 nd:(t.map (·.1)).Nodup
 sub:∀b n,(b,n)∈t->b∈ks
 s3:∀b n,(b,n)∈t->(b,n)∈t0\/∃c∈kts b,∃m,(c,m)∈t/\n=m+1
 i2:∀b∈ks,∀c∈kts b,∀n,(c,n)∈t->(∃m,m<=n+1/\(b,m)∈t)\/Wt wq (n+1) b\/X (n+1) b
 i3:∀b n,(b,n)∈t0->(∃m,m<=n/\(b,m)∈t)\/Wt wq n b\/X n b
 i4:∀m b,Wt wq m b\/X m b->b∈ks/\((b,m)∈t0\/∃c∈kts b,∃n,(c,n)∈t/\m=n+1)
def BK(ks:List Bt)(t:List (Bt×Nat))(c:Nat):Bool:=match ks[c]? with
 |some b=>decide (b∈t.map (·.1))
 |none=>false
def ye(ks:List Bt)(g:Nat->Nat)(t:List (Bt×Nat)):Nat:=iK ks.length λc=>if BK ks t c=true then 0 else g c
theorem EC{ks:List Bt}(nd:ks.Nodup){g:Nat->Nat}{t:List (Bt×Nat)}{b:Bt}{c N:Nat}(hc:ks[c]?=some b)(nb:b∉t.map (·.1)):ye ks g (t++[(b,N)])+g c=ye ks g t:=by
 have cl:=(ae.mp hc).1
 have h:=sF (f:=λc=>if BK ks t c=true then 0 else g c) (g:=λc=>if BK ks (t++[(b,N)]) c=true then 0 else g c) cl λd hd=>by
  have:BK ks (t++[(b,N)]) d=BK ks t d:=by
   unfold BK
   cases e:ks[d]? with
   |none=>rfl
   |some x=>
    have ne:x≠b:=λz=>hd (qM nd (by rw[e,z]) hc)
    show decide (x∈(t++[(b,N)]).map (·.1))=decide (x∈t.map (·.1))
    rw[Bool.eq_iff_iff,decide_eq_true_eq,decide_eq_true_eq,aB,aE]
    simp[ne]
  rw[this]
 have f1:BK ks t c=false:=by unfold BK;rw[hc];exact decide_eq_false nb
 have f2:BK ks (t++[(b,N)]) c=true:=by unfold BK;rw[hc];exact decide_eq_true (by rw[aB,aE];exact .inr (ao.mpr rfl))
 rw[f1,f2,if_pos rfl,if_neg (by decide)] at h
 unfold ye
 lia
theorem Hw{ks:List Bt}{g:Nat->Nat}:ye ks g []=iK ks.length g:=by
 unfold ye
 congr 1
 funext c
 have:BK ks [] c=false:=by
  unfold BK
  split
  ·exact decide_eq_false (by simp)
  ·rfl
 rw[this,if_neg (by decide)]
theorem LX{ks:List Bt}{g:Nat->Nat}{t:List (Bt×Nat)}{b:Bt}{c:Nat}(hc:ks[c]?=some b)(nb:b∉t.map (·.1)):g c<=ye ks g t:=by
 have h:=DD (g:=λc=>if BK ks t c=true then 0 else g c) (ae.mp hc).1
 have f1:BK ks t c=false:=by unfold BK;rw[hc];exact decide_eq_false nb
 rw[f1,if_neg (by decide)] at h
 exact h
theorem FB.skip{ks:List Bt}{t0 t:List (Bt×Nat)}{wq:Wq}{X X':Nat->Bt->Prop}(h:FB ks t0 t wq X){b:Bt}{k N:Nat}(hb:(b,k)∈t)(kN:k<=N)(hx:∀m c,X m c->X' m c\/(m=N/\c=b))(hx':∀m c,X' m c->X m c):FB ks t0 t wq X':=by
 refine⟨h.nd,h.sub,h.s3,λx hx1 c hc n hn=>?_,λx n hn=>?_,λm x hm=>h.i4 m x (hm.imp id (hx' m x))⟩
 ·rcases h.i2 x hx1 c hc n hn with z|z|z
  ·exact .inl z
  ·exact .inr (.inl z)
  ·rcases hx _ _ z with z|⟨z,rfl⟩
   ·exact .inr (.inr z)
   ·exact .inl ⟨k,by lia,hb⟩
 ·rcases h.i3 x n hn with z|z|z
  ·exact .inl z
  ·exact .inr (.inl z)
  ·rcases hx _ _ z with z|⟨rfl,rfl⟩
   ·exact .inr (.inr z)
   ·exact .inl ⟨k,kN,hb⟩
theorem FB.put{ks:List Bt}{t0 t:List (Bt×Nat)}{wq wq':Wq}{X X':Nat->Bt->Prop}(h:FB ks t0 t wq X){b:Bt}{N:Nat}{bs:List Bt}(nb:b∉t.map (·.1))(hX:X N b)(hx:∀m c,X m c->X' m c\/(m=N/\c=b))(hx':∀m c,X' m c->X m c)
  (hw:∀k c,Wt wq' k c↔Wt wq k c\/(k=N+1/\c∈bs)) (hbs:∀c,c∈bs↔c∈ks/\b∈kts c):FB ks t0 (t++[(b,N)]) wq' X':=by
 have up:∀{x n},(x,n)∈t->(x,n)∈t++[(b,N)]:=λz=>bz _ z
 have me:(b,N)∈t++[(b,N)]:=aW _ (ao.mpr rfl)
 have sp:∀{x n},(x,n)∈t++[(b,N)]->(x,n)∈t\/(x=b/\n=N):=λz=>by
  rcases aE.mp z with z|z
  ·exact .inl z
  ·have:=ao.mp z
   cases this;exact .inr ⟨rfl,rfl⟩
 obtain⟨bk,b4⟩:=h.i4 N b (.inr hX)
 refine⟨?_,λx n hx1=>?_,λx n hx1=>?_,λx hx1 c hc n hn=>?_,λx n hn=>?_,λm x hm=>?_⟩
 ·rw[aB]
  exact cK.mpr ⟨h.nd,by simp,λx hx1 y hy=>by rw[ao.mp hy];intro z;exact nb (by have z:x=b:=z;rw[<-z];exact hx1)⟩
 ·rcases sp hx1 with z|⟨rfl,rfl⟩
  ·exact h.sub x n z
  ·exact bk
 ·rcases sp hx1 with z|⟨rfl,rfl⟩
  ·exact(h.s3 x n z).imp id λ⟨c,hc,m,hm,e⟩=>⟨c,hc,m,up hm,e⟩
  ·exact b4.imp id λ⟨c,hc,m,hm,e⟩=>⟨c,hc,m,up hm,e⟩
 ·rcases sp hn with z|⟨rfl,rfl⟩
  ·rcases h.i2 x hx1 c hc n z with⟨m,y1,y2⟩|y|y
   ·exact .inl ⟨m,y1,up y2⟩
   ·exact .inr (.inl ((hw _ _).mpr (.inl y)))
   ·rcases hx _ _ y with y|⟨y,rfl⟩
    ·exact .inr (.inr y)
    ·exact .inl ⟨N,by lia,me⟩
  ·exact .inr (.inl ((hw _ _).mpr (.inr ⟨rfl,(hbs x).mpr ⟨hx1,hc⟩⟩)))
 ·rcases h.i3 x n hn with⟨m,y1,y2⟩|y|y
  ·exact .inl ⟨m,y1,up y2⟩
  ·exact .inr (.inl ((hw _ _).mpr (.inl y)))
  ·rcases hx _ _ y with y|⟨rfl,rfl⟩
   ·exact .inr (.inr y)
   ·exact .inl ⟨n,ar _,me⟩
 ·have old:Wt wq m x\/X m x->x∈ks/\((x,m)∈t0\/∃c∈kts x,∃n,(c,n)∈t++[(b,N)]/\m=n+1):=λz=>by
   obtain⟨y1,y2⟩:=h.i4 m x z
   exact⟨y1,y2.imp id λ⟨c,hc,n,hn,e⟩=>⟨c,hc,n,up hn,e⟩⟩
  rcases hm with hm|hm
  ·rcases(hw _ _).mp hm with y|⟨rfl,y⟩
   ·exact old (.inl y)
   ·obtain⟨y1,y2⟩:=(hbs x).mp y
    exact⟨y1,.inr ⟨b,y2,N,me,rfl⟩⟩
  ·exact old (.inr (hx' m x hm))
theorem DT{t:List (Bt×Nat)}{b:Bt}{N:Nat}(nb:b∉t.map (·.1)):iJ (cI t) (cq b) (V.int (N:Nat))=cI (t++[(b,N)]):=by
 rw[mr _ (qB λm z=>nb (aC.mpr ⟨_,z,rfl⟩))]
 unfold cI
 rw[aB];rfl
theorem DS{t:List (Bt×Nat)}(nd:(t.map (·.1)).Nodup)(b:Bt):(cY (cI t) (cq b)).isSome=decide (b∈t.map (·.1)):=by
 rw[Bool.eq_iff_iff,decide_eq_true_eq]
 constructor
 ·intro h
  rcases Classical.em (∃m,(b,m)∈t) with⟨m,hm⟩|z
  ·exact aC.mpr ⟨_,hm,rfl⟩
  ·rw[qB λm y=>z ⟨m,y⟩] at h;cases h
 ·intro h
  obtain⟨p,hp,rfl⟩:=aC.mp h
  rw[fq nd (m:=p.2) hp];rfl
theorem Ie{wq:Wq}(N:Nat):vG (wq.filter λe=>!decide (e.1=N))<=vG wq:=by
 induction wq with
 |nil=>exact ar _
 |cons e r ih=>
  have cons:∀(e:Nat×Addr×List Bt) r,vG (e::r)=e.2.2.length+vG r:=λ_ _=>rfl
  rw[cV]
  split
  ·rw[cons,cons];lia
  ·rw[cons];lia
theorem yA{wq:Wq}{e:Nat×Addr×List Bt}(h:e∈wq):e.2.2.length<=vG wq:=by
 induction wq with
 |nil=>cases h
 |cons f r ih=>
  have:vG (f::r)=f.2.2.length+vG r:=rfl
  rcases aK.mp h with rfl|h
  ·lia
  ·have:=ih h;lia
theorem Gu{wq:Wq}{N:Nat}{l:Addr}{bs:List Bt}(h:(N,l,bs)∈wq):(wq.filter λe=>!decide (e.1=N)).length<wq.length:=by
 induction wq with
 |nil=>cases h
 |cons e r ih=>
  rw[cV]
  have le:=bt (λe:Nat×Addr×List Bt=>!decide (e.1=N)) r
  split
  ·rcases aK.mp h with rfl|h
   ·rename_i c;simp at c
   ·have:=ih h
    rw[bD,bD];lia
  ·rw[bD];lia
theorem Cf{K:Fg}{vs:List V}{H:Hp}{Q:VK}{E:XK}(h:jK K vs H Q E):uL K {nx:=λ_ H'=>Q .non H',rt:=Q} (start sT vs) H:=by
 obtain⟨_,v,ks,t0,n,rfl,⟨S,rfl,hS⟩,hcom,knd,kfew,klen,n1,n5,kcl,sub0,few0,q⟩:=h
 have hS:H S=some (.dT (cI t0)):=hS
 obtain⟨Dc,_,rfl,_⟩:=id hcom
 refine⟨_,rfl,.ref Dc,ks,n,rfl,hcom,knd,kfew,klen,n1,n5,kcl,?_⟩
 rintro _ H2 ⟨A,kvA,g,rfl,hA,nA,kA,totA,atA⟩ s2
 have kAl:=mh kA
 intro W nW
 show ou K _ [some (.ref S),some (.ref Dc),some (.ref A),some (.ref W),none,none,none,none] (aQ H2 W (.dK []))
 have hS2:=s2 _ _ hS
 have nWS:W≠S:=λz=>by rw[z,hS2] at nW;cases nW
 have s3:aI H2 (aQ H2 W (.dK [])):=(aI.refl H2).new nW
 have w3:A1 H2 (aQ H2 W (.dK [])) W []:=⟨aj,cL,cL,(λe he=>by cases he),(λe he=>by cases he)⟩
 generalize aQ H2 W (.dK [])=H3 at s3 w3 ⊢
 refine⟨_,rfl,S,_,rfl,s3 _ _ hS2,λob=>?_⟩
 have s3f:∀{H':Hp},aI (aQ H3 S (.frz ob (.dT (cI t0)))) H'->H' S=some (.frz ob (.dT (cI t0))):=λs=>ip s
 refine oO (λi σ' H'=>∃o4 o5 wq,σ'=[some (.ref S),some (.ref Dc),some (.ref A),some (.ref W),o4,o5,none,none]/\A1 (aQ H2 S (.frz ob (.dT (cI t0)))) H' W wq/\aI (aQ H2 S (.frz ob (.dT (cI t0)))) H'/\(∀m b,Wt wq m b↔(b,m)∈t0.take i)/\vG wq=i/\wq.length<=i) ?_ ?_ ?_ ?_
 ·refine⟨none,none,[],rfl,⟨by rw[az nWS];exact w3.at_,w3.nd,w3.lnd,(λe he=>by cases he),(λe he=>by cases he)⟩,λb u hb=>?_,(λm b=>⟨(λ⟨_,_,z,_⟩=>by cases z),(λz=>by rw[eM] at z;cases z)⟩),rfl,ar _⟩
  by_cases c:b=S
  ·rw[c,aj] at hb ⊢;exact hb
  ·rw[az c] at hb ⊢;exact s3 _ _ hb
 ·rintro i σ' H' _ ⟨_,_,_,_,_,s,_⟩;exact s _ _ aj
 ·rintro i k u pb p σ' H4 hk hpb np ⟨o4,o5,wq,rfl,w4,s4,wt4,tt,wl⟩
  obtain⟨⟨b,m⟩,hbm,e⟩:∃x,t0[i]?=some x/\(cq x.1,V.int (x.2:Nat))=(k,u):=by
   unfold cI at hk
   rw[aG] at hk
   cases e:t0[i]? with
   |none=>rw[e] at hk;cases hk
   |some x=>rw[e] at hk;exact⟨x,rfl,Option.some.inj hk⟩
  cases e
  rw[eh] at hpb
  have il:i<t0.length:=(ae.mp hbm).1
  refine⟨p,_,rfl,cz.of aj,rfl,_,_,rfl,_,_,rfl,rfl,?_⟩
  have s5:aI H4 (aQ H4 p (.tup [.ref pb,.int (m:Nat)])):=(aI.refl H4).new np
  have w5:=w4.same s5
  show qu K _ [some (.ref S),some (.ref Dc),some (.ref A),some (.ref W),some (.ref pb),some (.int (m:Nat)),none,none] _
  generalize aQ H4 p (.tup [.ref pb,.int (m:Nat)])=H5 at s5 w5 ⊢
  have nWf:aQ H2 S (.frz ob (.dT (cI t0))) W=none:=by rw[az nWS];exact nW
  refine DW (K:=K) (λR r=>⟨_,rfl,r⟩) (λR r=>⟨_,rfl,r⟩) w5 (by lia) (s4.trans s5) nWf λl us bs wq1 H6 w6 hm6 hl6 hA6 s6 wt6 k6 len6 tot6 kp6 ls6=>?_
  have hpW:pb≠W:=λz=>by have:=w4.at_;rw[<-z,hpb] at this;cases this
  have ub:us.length<=10000:=by rw[hA6.len];have:=yA hm6;have:bs.length<=vG wq1:=this;lia
  refine⟨.inl ⟨rfl,_,cx.of hl6⟩,_,rfl,l,us,.ref pb,rfl,rfl,hl6,bI (by lia),?_⟩
  have hpb6:=kp6 _ _ hpW (s5 _ _ hpb)
  have w7:=Il w6 hm6 hl6 hA6 (bj.nil.snoc (v:=.ref pb) (r:=b) ⟨pb,rfl,hpb6⟩)
  refine⟨_,_,lP wq1 m ([]++[b]),rfl,w7,dD s6 (w6.new _ hm6),λk c=>?_,by rw[zp w6.nd hm6,tot6,tt];rfl,by unfold lP;rw[af];lia⟩
  rw[C7 hm6,wt6,wt4,eV hbm,eY,aE,ao,ao]
  constructor
  ·rintro(z|⟨rfl,rfl⟩)
   ·exact .inl z
   ·exact .inr rfl
  ·rintro(z|z)
   ·exact .inl z
   ·cases z;exact .inr ⟨rfl,rfl⟩
 ·rintro σ' H4 ⟨o4,o5,wq,rfl,w4,s4,wt4,tt,wl⟩
  rw[show(cI t0).length=t0.length from af ..] at tt wl wt4
  rw[a8] at wt4
  refine .inr ⟨S,cI t0,cI t0,ob,s3 _ _ hS2,s4 _ _ aj,?_⟩
  have s5:=i9 hS2 s4
  have w5:A1 H2 (aQ H4 S (.dT (cI t0))) W wq:=by
   have t5:Tp H4 (aQ H4 S (.dT (cI t0))):=λc xs hc=>by
    rw[az (λy=>by rw[y,s4 _ _ aj] at hc;cases hc)];exact hc
   refine⟨by rw[az nWS];exact w4.at_,w4.nd,w4.lnd,λe he=>?_,λe he=>?_⟩
   ·have:=w4.new e he
    by_cases c:e.2.1=S
    ·rw[c,aj] at this;cases this
    ·rw[az c] at this;exact this
   ·obtain⟨us,h1,h2⟩:=w4.lst e he
    exact⟨us,by rw[az (λy=>by rw[y,s4 _ _ aj] at h1;cases h1)];exact h1,h2.imp λ_ _ z=>iF.mono z t5⟩
  show qt K _ [some (.ref S),some (.ref Dc),some (.ref A),some (.ref W),o4,o5,none,none] _
  generalize aQ H4 S (.dT (cI t0))=H5 at s5 w5 ⊢
  intro F nF
  have nFH2:H2 F=none:=s5.free nF
  have nFW:F≠W:=(aJ w5.at_ nF).symm
  have s6:=s5.new (o:=.dT []) nF
  have w6:=w5.same ((aI.refl H5).new (o:=.dT []) nF)
  have hF6:aQ H5 F (.dT []) F=some (.dT (cI [])):=aj
  show qr K _ [some (.ref S),some (.ref Dc),some (.ref A),some (.ref W),o4,o5,some (.ref F),none] _
  generalize aQ H5 F (.dT [])=H6 at s6 w6 hF6 ⊢
  have tlen:∀t:List (Bt×Nat),(t.map (·.1)).Nodup->(∀b n,(b,n)∈t->b∈ks)->t.length<=7776:=λt nd sb=>by
   have:=jX nd (zs:=ks) λb hb=>by
    obtain⟨p,hp,rfl⟩:=aC.mp hb
    exact sb p.1 p.2 hp
   rw[af] at this
   lia
  refine⟨λm σ' H'=>∃o4 o5 o7 t wq,σ'=[some (.ref S),some (.ref Dc),some (.ref A),some (.ref W),o4,o5,some (.ref F),o7]/\FB ks t0 t wq (λ_ _=>False)/\A1 H2 H' W wq/\H' F=some (.dT (cI t))/\(∀b n,(b,n)∈t->∀k∈wq.map (·.1),n<=k)/\vG wq+ye ks g t<=50000/\2*(7776-t.length)+wq.length<=m/\m<=30000/\aI H2 H',
   ⟨2*7776+wq.length,o4,o5,none,[],wq,rfl,⟨cL,(λ_ _ h=>by cases h),(λ_ _ h=>by cases h),(λ_ _ _ _ _ h=>by cases h),λb n h=>.inr (.inl ((wt4 n b).mpr h)),λm b h=>?_⟩,w6,hF6,(λ_ _ h=>by cases h),by rw[Hw];lia,by show 2*(7776-0)+_<=_;lia,by lia,s6⟩,?_⟩
  ·rcases h with h|h
   ·have:=(wt4 m b).mp h
    exact⟨sub0 b m this,.inl this⟩
   ·cases h
  rintro M σ' H7 ⟨o4,o5,o7,t,wq,rfl,sp,w7,hF7,ord,cap,hM,hMb,s7⟩
  refine⟨_,rfl,W,_,rfl,w7.at_,_,_,rfl,rfl,_,rfl,?_⟩
  have tl7:=tlen t sp.nd sp.sub
  refine dE (λhl=>?_) (λhl=>?_)
  ·have wpos:0<wq.length:=by
    have:(qY wq).length=wq.length:=af ..
    rw[this] at hl;lia
   refine⟨λσ' H'=>∃m',m'<M/\∃o4 o5 o7 t wq,σ'=[some (.ref S),some (.ref Dc),some (.ref A),some (.ref W),o4,o5,some (.ref F),o7]/\FB ks t0 t wq (λ_ _=>False)/\A1 H2 H' W wq/\H' F=some (.dT (cI t))/\(∀b n,(b,n)∈t->∀k∈wq.map (·.1),n<=k)/\vG wq+ye ks g t<=50000/\2*(7776-t.length)+wq.length<=m'/\m'<=30000/\aI H2 H',λ_ _ z=>z,?_⟩
   refine⟨_,rfl,W,_,rfl,.inl w7.at_,(λz=>by have:(qY wq).length=wq.length:=af ..;rw[z] at this;simp at this;lia),(λkv hkv=>by obtain⟨e,_,rfl⟩:=aC.mp hkv;exact⟨_,rfl⟩),λmm hm1 hm2=>?_⟩
   obtain⟨v,hv⟩:=hm1
   obtain⟨⟨N,l,bs⟩,hN,eN⟩:=aC.mp hv
   have e1:(N:Int)=mm:=by
    have:=congrArg Prod.fst eN
    injection this
   subst e1
   have minN:∀k∈wq.map (·.1),N<=k:=λk hk=>by
    obtain⟨e,he,rfl⟩:=aC.mp hk
    have:=hm2 (e.1:Int) (.ref e.2.1) (aC.mpr ⟨e,he,rfl⟩)
    lia
   obtain⟨vN,w8,nl8⟩:=Kl w7 nW s7 hN
   obtain⟨us,hl7,hA7⟩:=w7.lst _ hN
   have hl7:H7 l=some (.lst us):=hl7
   have hA7:bj (iF H7) us bs:=hA7
   have lW:l≠W:=λz=>by have:=w7.at_;rw[<-z,hl7] at this;cases this
   have lF:l≠F:=λz=>by rw[z,hF7] at hl7;cases hl7
   have lnew:H2 l=none:=w7.new _ hN
   show qp K _ [some (.ref S),some (.ref Dc),some (.ref A),some (.ref W),o4,some (.int (N:Nat)),some (.ref F),o7] H7
   refine⟨_,rfl,W,rfl,.inl ⟨_,.inl w7.at_⟩,_,rfl,_,Sum.inl (N:Int),.ref l,w7.at_,rfl,vN,?_⟩
   have t8:Tp H7 (aQ H7 W (.dK (jF (qY wq) (Sum.inl (N:Int))))):=λc xs hc=>by
    rw[az (λy=>by rw[y,w7.at_] at hc;cases hc)];exact hc
   have hl8:aQ H7 W (.dK (jF (qY wq) (Sum.inl (N:Int)))) l=some (.lst us):=by rw[az lW];exact hl7
   have hF8:aQ H7 W (.dK (jF (qY wq) (Sum.inl (N:Int)))) F=some (.dT (cI t)):=by rw[az nFW];exact hF7
   have s8:aI H2 (aQ H7 W (.dK (jF (qY wq) (Sum.inl (N:Int))))):=dD s7 nW
   have hA8:=hA7.imp λ_ _ z=>iF.mono z t8
   show qo K _ [some (.ref S),some (.ref Dc),some (.ref A),some (.ref W),o4,some (.int (N:Nat)),some (.ref F),some (.ref l)] _
   generalize aQ H7 W (.dK (jF (qY wq) (Sum.inl (N:Int))))=H8 at w8 t8 hl8 hF8 s8 hA8 ⊢
   have td:=Ie (wq:=wq) N
   have ld:=Gu hN
   have bsl:=yA hN
   have kd:∀k∈(wq.filter λe=>!decide (e.1=N)).map (·.1),N<k:=λk hk=>by
    obtain⟨e,he,rfl⟩:=aC.mp hk
    obtain⟨h1,h2⟩:=bh.mp he
    have:=minN e.1 (aC.mpr ⟨e,h1,rfl⟩)
    have:e.1≠N:=by simpa using h2
    lia
   have wtd:∀m b,Wt wq m b->Wt (wq.filter λe=>!decide (e.1=N)) m b\/(m=N/\b∈bs):=λm b ⟨l',bs',h1,h2⟩=>by
    by_cases c:m=N
    ·subst c
     right
     refine⟨rfl,?_⟩
     have:=(yB (m:=m) w7.nd).1
     obtain⟨i,hi,ei⟩:=aS.mp h1
     obtain⟨j,hj,ej⟩:=aS.mp hN
     have:i=j:=(c5 (l:=wq.map (·.1)) (by rw[af];exact hi) w7.nd).mp (by
      rw[aG,aG,aa hi,aa hj,ei,ej];rfl)
     subst this
     rw[ei] at ej;cases ej;exact h2
    ·exact .inl ⟨l',bs',bh.mpr ⟨h1,by simpa using c⟩,h2⟩
   have wtd':∀m b,Wt (wq.filter λe=>!decide (e.1=N)) m b->Wt wq m b:=λm b ⟨l',bs',h1,h2⟩=>⟨l',bs',(bh.mp h1).1,h2⟩
   have sp8:FB ks t0 t (wq.filter λe=>!decide (e.1=N)) (λm b=>m=N/\b∈bs.drop 0):=by
    refine⟨sp.nd,sp.sub,sp.s3,λx hx c hc n hn=>?_,λx n hn=>?_,λm x hm=>?_⟩
    ·rcases sp.i2 x hx c hc n hn with z|z|z
     ·exact .inl z
     ·exact .inr (wtd _ _ z)
     ·cases z
    ·rcases sp.i3 x n hn with z|z|z
     ·exact .inl z
     ·exact .inr (wtd _ _ z)
     ·cases z
    ·rcases hm with z|⟨rfl,z⟩
     ·exact sp.i4 m x (.inl (wtd' _ _ z))
     ·exact sp.i4 m x (.inl ⟨l,bs,hN,z⟩)
   have ord8:∀b n,(b,n)∈t->n<=N:=λb n h=>ord b n h N (aC.mpr ⟨_,hN,rfl⟩)
   generalize (wq.filter λe=>!decide (e.1=N))=wq8 at w8 nl8 td ld kd sp8
   refine .inl ⟨_,rfl,l,rfl,⟨_,cx.of hl8⟩,tF (xs:=us) (λj σ' H'=>∃o4 t wq,σ'=[some (.ref S),some (.ref Dc),some (.ref A),some (.ref W),o4,some (.int (N:Nat)),some (.ref F),some (.ref l)]/\FB ks t0 t wq (λm b=>m=N/\b∈bs.drop j)/\A1 H2 H' W wq/\H' F=some (.dT (cI t))/\(∀b n,(b,n)∈t->n<=N)/\(∀k∈wq.map (·.1),N<k)/\vG wq+ye ks g t<=50000/\2*(7776-t.length)+wq.length<=M-1/\l∉wq.map (·.2.1)/\H' l=some (.lst us)/\bj (iF H') us bs/\aI H2 H')
    ⟨_,t,wq8,rfl,sp8,w8,hF8,ord8,kd,by lia,by lia,nl8,hl8,hA8,s8⟩ ?_ ?_ ?_⟩
   ·rintro j σ' H' _ ⟨_,_,_,_,_,_,_,_,_,_,_,_,h,_⟩;exact cx.of h
   ·rintro j x σ' H9 hx ⟨o4',t9,wq9,rfl,sp9,w9,hF9,ord9,kd9,cap9,ms9,nl9,hl9,hA9,s9⟩
    obtain⟨b,hb,⟨pb,rfl,hpb⟩⟩:=hA9.of_v hx
    have tl9:=tlen t9 sp9.nd sp9.sub
    have dj:bs.drop j=b::bs.drop (j+1):=by
     obtain⟨hi,e⟩:=ae.mp hb
     rw[b8 hi,e]
    have hXb:(λm c=>m=N/\c∈bs.drop j) N b:=⟨rfl,by rw[dj];exact bf⟩
    have hx1:∀m c,(m=N/\c∈bs.drop j)->(m=N/\c∈bs.drop (j+1))\/(m=N/\c=b):=λm c ⟨h1,h2⟩=>by
     rw[dj] at h2
     rcases aK.mp h2 with z|z
     ·exact .inr ⟨h1,z⟩
     ·exact .inl ⟨h1,z⟩
    have hx2:∀m c,(m=N/\c∈bs.drop (j+1))->(m=N/\c∈bs.drop j):=λm c ⟨h1,h2⟩=>⟨h1,by rw[dj];exact a9 _ h2⟩
    have bk:=(sp9.i4 N b (.inr hXb)).1
    show qm K _ [some (.ref S),some (.ref Dc),some (.ref A),some (.ref W),some (.ref pb),some (.int (N:Nat)),some (.ref F),some (.ref l)] H9
    refine⟨_,rfl,_,rfl,F,_,rfl,nJ hF9 hpb rfl,_,rfl,?_⟩
    rw[show(if true=true then !(cY (cI t9) (cq b)).isSome else(cY (cI t9) (cq b)).isSome)=!decide (b∈t9.map (·.1)) from by rw[<-DS sp9.nd];rfl]
    refine oP (λnb=>?_) (λyb=>?_)
    ·refine⟨_,rfl,_,rfl,_,rfl,F,_,rfl,A4.t hF9 (by rw[eh];exact hpb) (bI (by unfold cI;rw[af];lia)),?_⟩
     rw[DT nb]
     have t10:Tp H9 (aQ H9 F (.dT (cI (t9++[(b,N)])))):=λc xs hc=>by
      rw[az (λy=>by rw[y,hF9] at hc;cases hc)];exact hc
     have w10:A1 H2 (aQ H9 F (.dT (cI (t9++[(b,N)])))) W wq9:=⟨by rw[az (Ne.symm nFW)];exact w9.at_,w9.nd,w9.lnd,w9.new,λe he=>by
      obtain⟨us',h1,h2⟩:=w9.lst e he
      exact⟨us',by rw[az (λy=>by rw[y,hF9] at h1;cases h1)];exact h1,h2.imp λ_ _ z=>iF.mono z t10⟩⟩
     have hl10:aQ H9 F (.dT (cI (t9++[(b,N)]))) l=some (.lst us):=by rw[az lF];exact hl9
     have hF10:aQ H9 F (.dT (cI (t9++[(b,N)]))) F=some (.dT (cI (t9++[(b,N)]))):=aj
     have s10:aI H2 (aQ H9 F (.dT (cI (t9++[(b,N)])))):=dD s9 nFH2
     have hA10:=hA9.imp λ_ _ z=>iF.mono z t10
     have hpb10:=t10 _ _ hpb
     show ql K _ [some (.ref S),some (.ref Dc),some (.ref A),some (.ref W),some (.ref pb),some (.int (N:Nat)),some (.ref F),some (.ref l)] _
     generalize aQ H9 F (.dT (cI (t9++[(b,N)])))=H10 at w10 hl10 hF10 s10 hA10 hpb10 ⊢
     obtain⟨c,hc⟩:=zt bk
     have cl:=(ae.mp hc).1
     have kvc:kvA[c]?=some kvA[c]:=aa (by lia)
     obtain⟨b',hb',ek⟩:=kb kA (i:=c) (k:=kvA[c].1) (v:=kvA[c].2) kvc
     rw[hc] at hb';cases hb'
     obtain⟨la,ua,ba,eu,hla,_,hba,gl,mba⟩:=atA c _ _ b kvc hc
     have vA:cY kvA (cq b)=some (.ref la):=Ij (i:=c) (by rw[kA];exact xU knd) (kvc.trans (congrArg some (Prod.ext ek eu)))
     have gc:=LX (g:=g) hc nb
     have rf:=EC knd (g:=g) (N:=N) hc nb
     refine DW (K:=K) (m:=N+1) (λR r=>⟨_,rfl,r⟩) (λR r=>⟨_,rfl,.inl ⟨_,_,rfl,rfl,by show R (.int ((N:Int)+1)) H10;rw[show((N:Nat):Int)+1=((N+1:Nat):Int) by lia];exact r⟩⟩) w10 (by lia) s10 nW λl2 us2 bs2 wq11 H11 w11 hm11 hl11 hA11 s11 wt11 k11 len11 tot11 kp11 ls11=>?_
     have hA2:=s11 _ _ hA
     have hpbW:pb≠W:=λz=>by have:=w10.at_;rw[<-z,hpb10] at this;cases this
     have b2l:bs2.length<=vG wq11:=yA hm11
     have lla:H11 la=some (.lst ua):=s11 _ _ hla
     have hba11:=hba.imp λ_ _ z=>iF.mono z (Tp.of_same s11)
     refine⟨.inl ⟨rfl,_,cx.of hl11⟩,_,rfl,_,rfl,A,_,rfl,nJ hA2 (kp11 _ _ hpbW hpb10) vA,l2,la,us2,ua,rfl,rfl,hl11,lla,bW (bI (by rw[hA11.len,hba11.len,gl];lia)),?_⟩
     have w12:=Il w11 hm11 hl11 hA11 hba11
     have l2l:l2≠l:=λz=>by
      rcases ls11 _ hm11 with y|y
      ·have hz:l2∉wq9.map (·.2.1):=by rw[z];exact nl9
       exact hz y
      ·have y:H10 l2=none:=y
       rw[z,hl10] at y;cases y
     have t12:Tp H11 (aQ H11 l2 (.lst (us2++ua))):=(Tp.refl H11).lst hl11
     have F11:=kp11 _ _ nFW hF10
     have l11:=kp11 _ _ lW hl10
     have wl12:(lP wq11 (N+1) ba).length=wq11.length:=by unfold lP;rw[af]
     have sp12:FB ks t0 (t9++[(b,N)]) (lP wq11 (N+1) ba) (λm c=>m=N/\c∈bs.drop (j+1)):=sp9.put nb hXb hx1 hx2 (λk x=>by rw[C7 hm11,wt11]) mba
     have tl12:=tlen _ sp12.nd sp12.sub
     have al:(t9++[(b,N)]).length=t9.length+1:=by rw[ai];rfl
     refine⟨_,t9++[(b,N)],lP wq11 (N+1) ba,rfl,sp12,w12,by rw[az (λy=>by rw[y,hl11] at F11;cases F11)];exact F11,λx n hn=>?_,λk hk=>?_,by rw[zp w11.nd hm11,tot11,gl];lia,by rw[wl12];lia,λz=>?_,by rw[az (Ne.symm l2l)];exact l11,?_,dD s11 (w11.new _ hm11)⟩
     ·rcases aE.mp hn with z|z
      ·exact ord9 x n z
      ·have:=ao.mp z
       cases this;exact ar _
     ·rw[vV] at hk
      rcases(k11 k).mp hk with z|z
      ·exact kd9 k z
      ·lia
     ·rw[C6] at z
      obtain⟨e,he,e1⟩:=aC.mp z
      have e1:e.2.1=l:=e1
      rcases ls11 e he with y|y
      ·rw[e1] at y;exact nl9 y
      ·rw[e1,hl10] at y;cases y
     ·refine hA10.imp λ_ _ z=>?_
      obtain⟨pp,e1,hp⟩:=z
      have nw:pp≠W:=λy=>by have:=w10.at_;rw[<-y,hp] at this;cases this
      exact⟨pp,e1,t12 _ _ (kp11 _ _ nw hp)⟩
    ·obtain⟨⟨b',k⟩,hk,e1⟩:=aC.mp yb
     have e1:b'=b:=e1
     subst e1
     exact⟨_,t9,wq9,rfl,sp9.skip hk (ord9 _ _ hk) hx1 hx2,w9,hF9,ord9,kd9,cap9,ms9,nl9,hl9,hA9,s9⟩
   ·rintro σ' H9 ⟨o4',t9,wq9,rfl,sp9,w9,hF9,ord9,kd9,cap9,ms9,nl9,hl9,hA9,s9⟩
    rw[hA9.len,fE] at sp9
    refine⟨M-1,by lia,_,_,_,t9,wq9,rfl,⟨sp9.nd,sp9.sub,sp9.s3,λx hx c hc n hn=>?_,λx n hn=>?_,λm x hm=>sp9.i4 m x (hm.imp id λz=>by cases z)⟩,w9,hF9,λx n hn k hk=>?_,cap9,ms9,by lia,s9⟩
    ·rcases sp9.i2 x hx c hc n hn with z|z|z
     ·exact .inl z
     ·exact .inr (.inl z)
     ·cases z.2
    ·rcases sp9.i3 x n hn with z|z|z
     ·exact .inl z
     ·exact .inr (.inl z)
     ·cases z.2
    ·have:=ord9 x n hn
     have:=kd9 k hk
     lia
  ·have w0:wq=[]:=by
    have h1:(qY wq).length=wq.length:=af ..
    rw[h1] at hl
    exact aV.mp (by lia)
   subst w0
   have nw:∀m b,¬Wt [] m b:=λm b ⟨_,_,z,_⟩=>by cases z
   show qk K _ [some (.ref S),some (.ref Dc),some (.ref A),some (.ref W),o4,o5,some (.ref F),o7] H7
   refine⟨_,rfl,q (.ref F) t H7 ⟨F,rfl,hF7⟩ ⟨sp.nd,sp.sub,λb n h=>?_,λb hb c hc n hn=>?_,sp.s3⟩ (s2.trans s7)⟩
   ·rcases sp.i3 b n h with z|z|z
    ·exact z
    ·exact absurd z (nw _ _)
    ·cases z
   ·rcases sp.i2 b hb c hc n hn with z|z|z
    ·exact z
    ·exact absurd z (nw _ _)
    ·cases z
theorem oH.same{H H':Hp}{v:V}{t:List (Bt×Nat)}(h:oH H v t)(s:aI H H'):oH H' v t:=let⟨D,e,hD⟩:=h;⟨D,e,s _ _ hD⟩
theorem oH.but{H:Hp}{v:V}{t:List (Bt×Nat)}{L:Addr}{us xs:List V}(h:oH H v t)(hL:H L=some (.lst us)):oH (aQ H L (.lst xs)) v t:=by
 obtain⟨D,e,hD⟩:=h
 exact⟨D,e,by rw[az (λz=>by rw[z,hL] at hD;cases hD)];exact hD⟩
theorem rm{K:Fg}{p:Addr}{xs:List V}{v:V}{H:Hp}{Q:VK}(h:H p=some (.lst xs))(e:xs[xs.length-1]?=some v)(q:Q v H):e8 K (.ref p) (.int (-1)) H Q:=by
 rcases gW xs with z|⟨ys,w,z⟩
 ·rw[z] at e;cases e
 ·rw[gU] at z
  subst z
  rw[ai,aM,cT,aq (ar _),bo] at e
  have:w=v:=Option.some.inj e
  subst this
  exact .inl ⟨p,_,-1,w,rfl,rfl,cx.of h,FI ys w,q⟩
theorem Cm.turn{n:Nat}{b0:Bt}{ws:List Wk}{pss:List (List Str)}{kss:List (List Bt)}(c:Cm n b0 ws pss kss)(pl:pss.length=ws.length+1){k:Nat}{ks:List Bt}(h:kss[k]?=some ks):∃ss ebs,Ir n ss/\jg n ss ebs ks:=by
 have kl:k<kss.length:=(ae.mp h).1
 have cl:=c.len
 cases k with
 |zero=>
  have hp:pss[0]?=some (pss[0]'(by lia)):=aa _
  exact⟨_,_,c.dim _ (aA hp),c.fst ks _ h hp⟩
 |succ k=>
  have hp:pss[k+1]?=some (pss[k+1]'(by lia)):=aa _
  have hw:ws[k]?=some (ws[k]'(by lia)):=aa _
  have hk:kss[k]?=some (kss[k]'(by lia)):=aa _
  exact⟨_,_,c.dim _ (aA hp),c.nxt k _ ks _ _ hk h hw hp⟩
structure NK(n:Nat)(ws:List Wk)(pss:List (List Str))(ord:Bt)(kss:List (List Bt))(i:Nat)(tr:List (List (Bt×Nat))):Prop where
 len:tr.length=i+1
 nd:∀t∈tr,(t.map (·.1)).Nodup
 fin:∀ks t,kss[ws.length]?=some ks->tr[0]?=some t->∃t0,ie ks t0 t/\∀b m,(b,m)∈t0↔b∈ks/\AW ord b=true/\m=0
 mid:∀(j:Nat) ks t t' w ss,j<i->kss[ws.length-1-j]?=some ks->tr[j+1]?=some t->tr[j]?=some t'->ws[ws.length-1-j]?=some w->pss[ws.length-j]?=some ss->∃t0,ie ks t0 t/\∀b m,(b,m)∈t0↔b∈ks/\(kC b w.out ss,m)∈t'
theorem Ac{K:Fg}{vs:List V}{H:Hp}{Q:VK}{E:XK}(h:i8 K vs H Q E):rM K {nx:=λ_ H'=>Q .non H',rt:=Q} (start jC vs) H:=by
 obtain⟨bp,wp,lt,op,n,b0,ord,ws,last,dd,rfl,src,wks,fw,hop,ol,dims,q⟩:=h
 obtain⟨wvs,hwp,hW⟩:=src.wks
 have wfew:=src.few
 refine⟨_,rfl,_,rfl,wp,lt,ws,last,dd,rfl,wks,fw,λP tvs pss H1 nP hP hT pts s1=>?_⟩
 show mJ K _ [some (.ref bp),some (.ref wp),some (.ref lt),some (.ref op),some (.ref P),none,none,none,none,none,none,none] H1
 have pl:=pts.len
 have src1:Bk H1 n b0 ws bp wp:=⟨s1 _ _ src.bp,src.len,⟨wvs,s1 _ _ hwp,hW.imp λ_ _ z=>z.tp (Tp.of_same s1)⟩,src.few⟩
 refine⟨_,rfl,_,rfl,_,rfl,bp,wp,P,tvs,n,b0,ws,pss,rfl,src1,hP,hT,pl,dims pss pts,λC cvs kss H2 hC hcA cm s2=>?_⟩
 show oo K _ [some (.ref bp),some (.ref wp),some (.ref lt),some (.ref op),some (.ref P),some (.ref C),none,none,none,none,none,none] H2
 have s02:=s1.trans s2
 have kl:=cm.len
 have cl:cvs.length=ws.length+1:=by rw[hcA.len];exact kl
 obtain⟨_,ks,ec,ek,hcom⟩:=hcA.get (i:=ws.length) (by lia)
 obtain⟨ssM,ebM,dM,tM⟩:=cm.turn pl ek
 obtain⟨D,kvs,rfl,hD,hkeys,hvals⟩:=id hcom
 have kvl:=mh hkeys
 have n1:=dM.pos
 have n5:=dM.n5
 refine⟨_,rfl,1,rfl,rm (v:=.ref D) hC (by rw[cl];exact ec) ⟨D,kvs,rfl,hD,λob E' nE=>?_⟩⟩
 have nEH:H2 E'=none:=by
  by_cases z:E'=D
  ·rw[z,aj] at nE;cases nE
  ·rw[az z] at nE;exact nE
 refine oJ (λj σ' H'=>∃o10 us,σ'=[some (.ref bp),some (.ref wp),some (.ref lt),some (.ref op),some (.ref P),some (.ref C),none,none,none,none,o10,none]/\H' E'=some (.lst us)/\bj (iF H') us ((ks.take j).filter λb=>AW ord b)/\aI (aQ H2 D (.frz ob (.dT kvs))) H') ⟨none,[],rfl,aj,bj.nil,(aI.refl _).new nE⟩ ?_ ?_ ?_
 ·rintro j σ' H' _ ⟨_,_,_,_,_,s⟩;exact ip s
 ·rintro j k kv pb σ' H3 hk hpb ⟨o10,us,rfl,hE,hA,s3⟩
  obtain⟨b,hb,rfl⟩:=kb hkeys hk
  rw[eh] at hpb
  have bl:=(tM.inn b (aA hb)).len
  have jl:j<ks.length:=(ae.mp hb).1
  have kf:=tM.few
  have ul:us.length<=j:=by
   rw[hA.len]
   have:=bt (λb=>AW ord b) (ks.take j)
   rw[aP] at this
   lia
  have hop3:H3 op=some (.tup (cH ord)):=xG s3 hD (s02 _ _ hop) λ_ z=>by cases z
  show jw E' _ _ _ [some (.ref bp),some (.ref wp),some (.ref lt),some (.ref op),some (.ref P),some (.ref C),none,none,none,none,some (.ref pb),none] H3
  refine⟨_,rfl,_,rfl,op,pb,ord,b,rfl,hop3,hpb,by rw[ol,bl],by lia,λH4 s4=>⟨_,rfl,?_⟩⟩
  rw[pS hb]
  cases hh:AW ord b with
  |true=>
   refine rY ⟨_,rfl,us,s4 _ _ hE,bI (by lia),_,us++[.ref pb],rfl,aj,?_,dD (s3.trans s4) nE⟩
   have t5:Tp H4 (aQ H4 E' (.lst (us++[.ref pb]))):=(Tp.refl H4).lst (s4 _ _ hE)
   rw[if_pos rfl]
   exact(hA.imp λ_ _ z=>iF.mono z ((Tp.of_same s4).trans t5)).snoc ⟨pb,rfl,t5 _ _ (s4 _ _ hpb)⟩
  |false=>
   refine gR ⟨_,us,rfl,s4 _ _ hE,?_,s3.trans s4⟩
   rw[if_neg (by decide),dZ]
   exact hA.imp λ_ _ z=>iF.mono z (.of_same s4)
 rintro σ' H3 ⟨o10,us,_,hE,hA,s3⟩
 rw[kvl,a8] at hA
 refine .inr ⟨D,kvs,kvs,ob,hD,ip s3,?_⟩
 have s4:=i9 hD s3
 have nED:E'≠D:=(aJ hD nEH).symm
 have t4:Tp H3 (aQ H3 D (.dT kvs)):=λc xs hc=>by
  rw[az (λz=>by rw[z,ip s3] at hc;cases hc)];exact hc
 have hE4:aQ H3 D (.dT kvs) E'=some (.lst us):=by rw[az nED];exact hE
 have hA4:=hA.imp λ_ _ z=>iF.mono z t4
 show om K _ [some (.ref bp),some (.ref wp),some (.ref lt),some (.ref op),some (.ref P),some (.ref C),some (.ref E'),none,none,none,none,none] _
 generalize aQ H3 D (.dT kvs)=H4 at s4 hE4 hA4 ⊢
 have s04:=s02.trans s4
 have kf:=tM.few
 have fl:(ks.filter λb=>AW ord b).length<=7776:=a7 (bt _ _) kf
 have fnd':(ks.filter λb=>AW ord b).Nodup:=List.Sublist.nodup iV tM.nd
 have fsub:∀b∈ks.filter (λb=>AW ord b),b∈ks/\AW ord b=true:=λb hb=>⟨(bh.mp hb).1,(bh.mp hb).2⟩
 have fsup:∀b∈ks,AW ord b=true->b∈ks.filter (λb=>AW ord b):=λb hb h=>bh.mpr ⟨hb,h⟩
 generalize ks.filter (λb=>AW ord b)=fs at hA4 fl fnd' fsub fsup
 have ulen:us.length=fs.length:=hA4.len
 refine .inl ⟨_,rfl,E',rfl,⟨_,cx.of hE4⟩,λG nG=>?_⟩
 refine kc (xs:=us) (λj σ' H'=>∃(o10:Option V) (ts:List Addr),σ'=[some (.ref bp),some (.ref wp),some (.ref lt),some (.ref op),some (.ref P),some (.ref C),some (.ref E'),none,none,none,o10,none]/\H' G=some (.lst (ts.map V.ref))/\ts.length=j/\(∀(i:Nat) t b,ts[i]?=some t->fs[i]?=some b->∃x,H' t=some (.tup [.ref x,.int 0])/\H' x=some (.tup (cH b)))/\aI H4 H') ⟨none,[],rfl,aj,rfl,(λi t b h=>by simp at h),(aI.refl _).new nG⟩ ?_ ?_ ?_
 ·rintro j σ' H' _ ⟨_,_,_,_,_,_,s⟩;exact cx.of (s _ _ hE4)
 ·rintro j x σ' H5 hx ⟨o10,ts,rfl,hG,tl,prs,s5⟩
  obtain⟨b,hb,⟨pb,rfl,hpb⟩⟩:=hA4.of_v hx
  have jl:j<fs.length:=(ae.mp hb).1
  refine fG ⟨_,rfl,(by show 2<=sizeLine;decide),λt nt=>?_⟩
  have s6:aI H5 (aQ H5 t (.tup [.ref pb,.int 0])):=(aI.refl H5).new nt
  have ht:aQ H5 t (.tup [.ref pb,.int 0]) t=some (.tup [.ref pb,.int 0]):=aj
  generalize aQ H5 t (.tup [.ref pb,.int 0])=H6 at s6 ht ⊢
  have t7:Tp H6 (aQ H6 G (.lst (ts.map V.ref++[.ref t]))):=(Tp.refl H6).lst (s6 _ _ hG)
  refine⟨_,s6 _ _ hG,bI (by rw[af];lia),_,ts++[t],rfl,by rw[aj,aB];rfl,by rw[ai,tl];rfl,λi t' b' h1 h2=>?_,dD (s5.trans s6) nG⟩
  by_cases c:i<j
  ·rw[au (by lia)] at h1
   obtain⟨x,a1,a2⟩:=prs i t' b' h1 h2
   exact⟨x,t7 _ _ (s6 _ _ a1),t7 _ _ (s6 _ _ a2)⟩
  ·have ij:i=j:=by
    have:=(ae.mp h1).1
    rw[ai,aM] at this
    lia
   subst ij
   rw[aq (by lia),tl,bo] at h1
   rw[hb] at h2;cases h2
   have h1:t=t':=Option.some.inj h1
   subst h1
   exact⟨pb,t7 _ _ ht,t7 _ _ (s6 _ _ (s5 _ _ hpb))⟩
 rintro σ' H5 ⟨o10',ts,_,hG,tl,prs,s5⟩
 rw[ulen] at tl
 have tk:(fs.map λb=>(cq b,V.int ((0:Nat):Int)))=cI (fs.map λb=>(b,0)):=by unfold cI;rw[cQ];rfl
 refine⟨G,_,fs.map λb=>(cq b,V.int ((0:Nat):Int)),rfl,hG,by rw[af,af,tl],by rw[af];lia,λj x k v e1 e2=>?_,λS0 nS0=>?_⟩
 ·rw[aG] at e1 e2
  cases et:ts[j]? with
  |none=>rw[et] at e1;cases e1
  |some t=>
   rw[et] at e1;cases e1
   cases ef:fs[j]? with
   |none=>rw[ef] at e2;cases e2
   |some b=>
    rw[ef] at e2;cases e2
    obtain⟨x,a1,a2⟩:=prs j t b et ef
    exact⟨t,x,rfl,a1,by rw[eh];exact a2⟩
 rw[qN (kvs:=[]) (by
  rw[eY,cQ]
  exact xU fnd'),eY,tk]
 have s6:aI H5 (aQ H5 S0 (.dT (cI (fs.map λb=>(b,0))))):=(aI.refl H5).new nS0
 have hS6:aQ H5 S0 (.dT (cI (fs.map λb=>(b,0)))) S0=some (.dT (cI (fs.map λb=>(b,0)))):=aj
 generalize aQ H5 S0 (.dT (cI (fs.map λb=>(b,0))))=H6 at s6 hS6 ⊢
 have s26:=(s4.trans s5).trans s6
 have s06:=s02.trans s26
 refine⟨_,rfl,1,rfl,rm (v:=.ref D) (s26 _ _ hC) (by rw[cl];exact ec) ⟨.ref S0,.ref D,ks,fs.map λb=>(b,0),n,rfl,⟨S0,rfl,hS6⟩,hcom.same s26,tM.nd,kf,λb hb=>(tM.inn b hb).len,n1,n5,tM.cl,λb m hm=>?_,by rw[af];exact fl,λr t H7 hr spr s7=>⟨(by show 1<=sizeLine;decide),λT nT=>?_⟩⟩⟩
 ·obtain⟨c,hc,e⟩:=aC.mp hm
  cases e;exact(fsub _ hc).1
 have s27:=(s26.trans s7).new (o:=.lst [r]) nT
 have hT7:aQ H7 T (.lst [r]) T=some (.lst [r]):=aj
 have hr7:=hr.same ((aI.refl H7).new (o:=.lst [r]) nT)
 have nTH2:H2 T=none:=(s26.trans s7).free nT
 show oj K _ [some (.ref bp),some (.ref wp),some (.ref lt),some (.ref op),some (.ref P),some (.ref C),some (.ref E'),some (.ref T),none,none,none,none] _
 generalize aQ H7 T (.lst [r])=H8 at s27 hT7 hr7 ⊢
 have tr0:NK n ws pss ord kss 0 [t]:=⟨rfl,(λt' h=>by rw[ao.mp h];exact spr.nd),(λks' t' h1 h2=>by
  rw[ek] at h1;cases h1;cases h2
  refine⟨_,spr,λb m=>⟨λh=>?_,λ⟨h1,h2,h3⟩=>?_⟩⟩
  ·obtain⟨c,hc,e⟩:=aC.mp h
   cases e
   exact⟨(fsub _ hc).1,(fsub _ hc).2,rfl⟩
  ·subst h3
   exact aC.mpr ⟨b,fsup b h1 h2,rfl⟩),λj _ _ _ _ _ h=>absurd h (dC _)⟩
 refine⟨_,rfl,_,_,rfl,.inr ⟨_,cz.of (s27 _ _ (s02 _ _ hwp)),rfl⟩,_,_,rfl,rfl,1,rfl,1,rfl,_,rfl,by lia,by rw[hW.len];lia,F5 (λi σ' H'=>∃o8 o9 o10 o11 tvs' tr,σ'=[some (.ref bp),some (.ref wp),some (.ref lt),some (.ref op),some (.ref P),some (.ref C),some (.ref E'),some (.ref T),o8,o9,o10,o11]/\H' T=some (.lst tvs')/\bj (oH H') tvs' tr/\NK n ws pss ord kss i tr/\aI H2 H') ⟨none,none,none,none,[r],[t],rfl,hT7,bj.nil.snoc hr7,tr0,s27⟩ ?_ ?_⟩
 ·rintro i σ' Ha hi ⟨o8,o9,o10,o11,tvs',tr,rfl,hTa,hTA,trt,sa⟩
  have hi:i<ws.length:=by rw[hW.len] at hi;lia
  have tl:=trt.len
  obtain⟨k,hk⟩:∃k,k=ws.length-1-i:=⟨_,rfl⟩
  have ke:((wvs.length:Int)-1)-(i:Int)=((k:Nat):Int):=by rw[hW.len];lia
  show oi K _ [some (.ref bp),some (.ref wp),some (.ref lt),some (.ref op),some (.ref P),some (.ref C),some (.ref E'),some (.ref T),some (.int (((wvs.length:Int)-1)-(i:Int))),o9,o10,o11] Ha
  rw[ke]
  intro S1 nS1
  show oh K _ [some (.ref bp),some (.ref wp),some (.ref lt),some (.ref op),some (.ref P),some (.ref C),some (.ref E'),some (.ref T),some (.int (k:Nat)),some (.ref S1),o10,o11] (aQ Ha S1 (.dT []))
  obtain⟨wv,w,ew,ew',hwa⟩:=hW.get (i:=k) (by lia)
  obtain⟨_,ss,es,es',np,rfl,hnp⟩:=hT.get (i:=k+1) (by lia)
  obtain⟨_,ks2,ec2,ek2,hcom2⟩:=hcA.get (i:=k) (by lia)
  obtain⟨ss2,eb2,d2,t2⟩:=cm.turn pl ek2
  obtain⟨D2,kvs2,rfl,hD2,hkeys2,_⟩:=id hcom2
  have kvl2:=mh hkeys2
  have kf2:=t2.few
  obtain⟨tv,t',etv,et',htab⟩:=hTA.get (i:=i) (by lia)
  have tvl:tvs'.length=i+1:=by rw[hTA.len];exact tl
  obtain⟨Dt,rfl,hDt⟩:=id htab
  have hDt:Ha Dt=some (.dT (cI t')):=hDt
  have tnd:=trt.nd t' (aA et')
  have hD2a:=sa _ _ hD2
  have S1D2:S1≠D2:=(aJ hD2a nS1).symm
  have S1Dt:S1≠Dt:=(aJ hDt nS1).symm
  have ss1:aI Ha (aQ Ha S1 (.dT [])):=(aI.refl Ha).new nS1
  have hS1:aQ Ha S1 (.dT []) S1=some (.dT (cI [])):=aj
  refine⟨_,rfl,_,rfl,mj (v:=.ref D2) (cx.of (ss1 _ _ (sa _ _ hC))) (b9 _) (by rw[aY];exact ec2) ⟨D2,kvs2,rfl,ss1 _ _ hD2a,λob2=>?_⟩⟩
  have nSf:aQ Ha D2 (.frz ob2 (.dT kvs2)) S1=none:=by rw[az S1D2];exact nS1
  have nT2:T≠D2:=λz=>by rw[z,hD2a] at hTa;cases hTa
  refine vZ (λj σ' H'=>∃o10 o11 tj,σ'=[some (.ref bp),some (.ref wp),some (.ref lt),some (.ref op),some (.ref P),some (.ref C),some (.ref E'),some (.ref T),some (.int (k:Nat)),some (.ref S1),o10,o11]/\H' S1=some (.dT (cI tj))/\(tj.map (·.1)).Nodup/\(∀b m,(b,m)∈tj↔b∈ks2.take j/\(kC b w.out ss,m)∈t')/\tj.length<=j/\(H' Dt=some (.dT (cI t'))\/H' Dt=some (.frz ob2 (.dT (cI t'))))/\aI (aQ Ha D2 (.frz ob2 (.dT kvs2))) H') ?_ ?_ ?_ ?_
  ·refine⟨_,_,[],rfl,by rw[az S1D2];exact hS1,cL,(λb m=>⟨(λh=>by cases h),(λh=>by rw[eM] at h;cases h.1)⟩),ar _,?_,λb u hb=>?_⟩
   ·by_cases c:Dt=D2
    ·right
     rw[c] at hDt ⊢
     rw[hD2a] at hDt
     have:=Option.some.inj hDt
     have:kvs2=cI t':=by injection this
     rw[aj,this]
    ·left
     rw[az c];exact ss1 _ _ hDt
   ·by_cases c:b=D2
    ·rw[c,aj] at hb ⊢;exact hb
    ·rw[az c] at hb ⊢;exact ss1 _ _ hb
  ·rintro j σ' H' _ ⟨_,_,_,_,_,_,_,_,_,s⟩;exact ip s
  ·rintro j kk kv pb σ' Hb hkk hpb ⟨o10,o11,tj,rfl,hSj,ndj,memj,lj,hDtj,sb⟩
   obtain⟨b,hb,rfl⟩:=kb hkeys2 hkk
   rw[eh] at hpb
   have bm:=aA hb
   have bl:=(t2.inn b bm).len
   have jl:j<ks2.length:=(ae.mp hb).1
   have bne:b≠[]:=λz=>by rw[z] at bl;have:(0:Nat)=n:=bl;lia
   have tpb:Tp Ha Hb:=λc xs hc=>xG sb hD2a hc λ_ z=>by cases z
   have lsb:∀c xs,Ha c=some (.lst xs)->Hb c=some (.lst xs):=λc xs hc=>xG sb hD2a hc λ_ z=>by cases z
   have h02:Tp H Ha:=(Tp.of_same s02).trans (Tp.of_same sa)
   show og K _ [some (.ref bp),some (.ref wp),some (.ref lt),some (.ref op),some (.ref P),some (.ref C),some (.ref E'),some (.ref T),some (.int (k:Nat)),some (.ref S1),some (.ref pb),o11] Hb
   refine⟨_,rfl,_,rfl,_,rfl,yD (tpb _ _ (h02 _ _ hwp)) (b9 _) (by rw[aY];exact ew) ⟨_,rfl,_,rfl,.inl ⟨_,_,rfl,rfl,mj (v:=.ref np) (cx.of (lsb _ _ (sa _ _ (s2 _ _ hP)))) (by lia) (by rw[show((k:Int)+1).toNat=k+1 by lia];exact es) ⟨pb,np,wv,b,w,ss,rfl,hpb,hwa.tp (h02.trans tpb),tpb _ _ (sa _ _ (s2 _ _ hnp)),bne,by lia,λr' Hc hr' sc=>?_⟩⟩⟩⟩
   show n8 K _ [some (.ref bp),some (.ref wp),some (.ref lt),some (.ref op),some (.ref P),some (.ref C),some (.ref E'),some (.ref T),some (.int (k:Nat)),some (.ref S1),some (.ref pb),some (.ref r')] Hc
   have hTc:=sc _ _ (lsb _ _ hTa)
   have etv':tvs'[tvs'.length-1]?=some (.ref Dt):=by rw[tvl,cT];exact etv
   have rdt:Rd Hc Dt (.dT (cI t')):=hDtj.elim (λz=>.inl (sc _ _ z)) λz=>.inr ⟨_,sc _ _ z⟩
   have dg:∀{o:Option V},cY (cI t') (cq (kC b w.out ss))=o->qG Hc Dt (.ref r') o:=λ{o} e=>by
    rw[<-e]
    exact .inr ⟨_,cq (kC b w.out ss),r',rdt,rfl,by rw[eh];exact hr',rfl⟩
   refine⟨_,rfl,_,rfl,1,rfl,rm hTc etv' ⟨Dt,_,rfl,dg rfl,_,rfl,?_⟩⟩
   rw[show(if false=true then !(cY (cI t') (cq (kC b w.out ss))).isSome else(cY (cI t') (cq (kC b w.out ss))).isSome)=decide (kC b w.out ss∈t'.map (·.1)) from DS tnd _]
   have nbj:b∉tj.map (·.1):=λz=>by
    obtain⟨p,hp,e⟩:=aC.mp z
    have hp2:(b,p.2)∈tj:=by have e:p.1=b:=e;rw[<-e];exact hp
    have:=((memj b p.2).mp hp2).1
    obtain⟨x,hx,ex⟩:=aS.mp this
    have hx':x<j:=by rw[aP] at hx;lia
    have:(ks2)[x]?=some b:=by
     rw[jx] at ex
     rw[aa (by rw[aP] at hx;lia),ex]
    have:=qM t2.nd this hb
    lia
   refine dE (λc=>?_) λc=>?_
   ·obtain⟨⟨x,m⟩,hm,e⟩:=aC.mp c
    have e:x=kC b w.out ss:=e
    subst e
    refine⟨_,rfl,1,rfl,rm hTc etv' ⟨_,rfl,Dt,_,rfl,dg (fq tnd hm),_,rfl,_,rfl,S1,_,rfl,A4.t (sc _ _ hSj) (by rw[eh];exact sc _ _ hpb) (bI (by unfold cI;rw[af];lia)),?_⟩⟩
    rw[DT nbj]
    refine⟨_,_,tj++[(b,m)],rfl,aj,?_,λx y=>?_,by rw[ai];show _+1<=_;lia,?_,dD (sb.trans sc) nSf⟩
    ·rw[aB]
     exact cK.mpr ⟨ndj,by simp,λx hx y hy=>by rw[ao.mp hy];intro z;exact nbj (by have z:x=b:=z;rw[<-z];exact hx)⟩
    ·rw[aE,memj,eV hb,aE,ao,ao]
     constructor
     ·rintro(z|z)
      ·exact⟨.inl z.1,z.2⟩
      ·cases z;exact⟨.inr rfl,hm⟩
     ·rintro⟨z|rfl,y2⟩
      ·exact .inl ⟨z,y2⟩
      ·exact .inr (by rw[qC tnd y2 hm])
    ·rw[az (Ne.symm S1Dt)]
     exact hDtj.imp (λz=>sc _ _ z) λz=>sc _ _ z
   ·refine⟨_,_,tj,rfl,sc _ _ hSj,ndj,λx y=>?_,by lia,hDtj.imp (λz=>sc _ _ z) λz=>sc _ _ z,sb.trans sc⟩
    rw[memj,eV hb,aE,ao]
    constructor
    ·exact λz=>⟨.inl z.1,z.2⟩
    ·rintro⟨z|rfl,y2⟩
     ·exact⟨z,y2⟩
     ·exact absurd (aC.mpr ⟨_,y2,rfl⟩) c
  ·rintro σ' Hb ⟨o10,o11,tj,rfl,hSj,ndj,memj,lj,hDtj,sb⟩
   rw[kvl2,a8] at memj
   rw[kvl2] at lj
   refine .inr ⟨D2,kvs2,kvs2,ob2,ss1 _ _ hD2a,ip sb,?_⟩
   have sc:=i9 hD2a sb
   have hSc:aQ Hb D2 (.dT kvs2) S1=some (.dT (cI tj)):=by rw[az S1D2];exact hSj
   show n6 K _ [some (.ref bp),some (.ref wp),some (.ref lt),some (.ref op),some (.ref P),some (.ref C),some (.ref E'),some (.ref T),some (.int (k:Nat)),some (.ref S1),o10,o11] _
   generalize aQ Hb D2 (.dT kvs2)=Hc at sc hSc ⊢
   have s2c:=sa.trans sc
   refine⟨_,rfl,.inl ⟨rfl,_,cx.of (sc _ _ hTa)⟩,_,rfl,_,rfl,_,rfl,mj (v:=.ref D2) (cx.of (s2c _ _ hC)) (b9 _) (by rw[aY];exact ec2) ⟨.ref S1,.ref D2,ks2,tj,n,rfl,⟨S1,rfl,hSc⟩,hcom2.same s2c,t2.nd,kf2,λb hb=>(t2.inn b hb).len,n1,n5,t2.cl,λb m hm=>((memj b m).mp hm).1,by lia,λr' t'' Hd hr' spr' sd=>?_⟩⟩
   have hTd:=sd _ _ (sc _ _ hTa)
   refine⟨T,tvs',r',rfl,rfl,hTd,bI (by rw[tvl];lia),?_⟩
   refine⟨_,_,_,_,tvs'++[r'],tr++[t''],rfl,aj,(hTA.imp λ_ _ z=>oH.but (z.same (sc.trans sd)) hTd).snoc (hr'.but hTd),⟨by rw[ai,tl];rfl,λx hx=>?_,λks' x h1 h2=>?_,λj ks' x x' w' ss' hj h1 h2 h3 h4 h5=>?_⟩,dD (s2c.trans sd) nTH2⟩
   ·rcases aE.mp hx with z|z
    ·exact trt.nd x z
    ·rw[ao.mp z];exact spr'.nd
   ·rw[au (by lia)] at h2
    exact trt.fin ks' x h1 h2
   ·by_cases c:j<i
    ·rw[au (by lia)] at h2 h3
     exact trt.mid j ks' x x' w' ss' c h1 h2 h3 h4 h5
    ·have ji:j=i:=by lia
     subst ji
     rw[<-hk,ek2] at h1
     rw[<-hk,ew'] at h4
     rw[show ws.length-j=k+1 by lia,es'] at h5
     rw[aq (by lia),show j+1-tr.length=0 by lia] at h2
     rw[au (by lia),et'] at h3
     cases h1;cases h3;cases h4;cases h5
     have h2:t''=x:=Option.some.inj h2
     subst h2
     exact⟨tj,spr',memj⟩
 ·rintro σ' Ha ⟨o8,o9,o10,o11,tvs',tr,rfl,hTa,hTA,trt,sa⟩
  have e1:((wvs.length:Int)-1+1).toNat=ws.length:=by rw[hW.len];lia
  rw[e1] at trt
  have tl:=trt.len
  show n0 K _ [some (.ref bp),some (.ref wp),some (.ref lt),some (.ref op),some (.ref P),some (.ref C),some (.ref E'),some (.ref T),o8,o9,o10,o11] Ha
  refine⟨_,rfl,T,tvs',rfl,cx.of hTa,λZ nZ=>?_⟩
  have tvl:tvs'.length=tr.length:=hTA.len
  have rev:bj (oH Ha) tvs'.reverse tr.reverse:=by
   refine⟨by rw[bN,bN,tvl],λi v t'' h1 h2=>?_⟩
   have hi:i<tr.length:=by have:=(ae.mp h2).1;rwa [bN] at this
   rw[bS (by lia)] at h1
   rw[bS hi,<-tvl] at h2
   exact hTA.at_ _ v t'' h1 h2
  refine q Z _ pss kss tr.reverse _ aj (rev.imp λ_ _ z=>oH.same z ((aI.refl Ha).new nZ)) pts ⟨cm,by rw[bN];exact tl,λks' x h1 h2=>?_,λk' ks' x x' w' ss' h1 h2 h3 h4 h5=>?_⟩ ((s02.trans sa).new nZ)
  ·rw[bS (by lia),show tr.length-1-ws.length=0 by lia] at h2
   exact trt.fin ks' x h1 h2
  ·have kl':k'<ws.length:=(ae.mp h4).1
   rw[bS (by lia)] at h2 h3
   refine trt.mid (ws.length-1-k') ks' x x' w' ss' (by lia) (by rw[show ws.length-1-(ws.length-1-k')=k' by lia];exact h1) (by rw[show ws.length-1-k'+1=tr.length-1-k' by lia];exact h2) (by rw[show ws.length-1-k'=tr.length-1-(k'+1) by lia];exact h3) (by rw[show ws.length-1-(ws.length-1-k')=k' by lia];exact h4) (by rw[show ws.length-(ws.length-1-k')=k'+1 by lia];exact h5)
theorem v8{K:Fg}{tt:TE}{s0 s1 s2 s3 s4 s5 s7 s8 s9:Option V}{pc Dn Dt:Addr}{c:Bt}{t:List (Bt×Nat)}{m:Nat}{ps:List Nat}{H:Hp}{D:lM}(htt:∀Q:VK,Q (.ref Dt) H->tt [s0,s1,s2,s3,s4,s5,some (.ref pc),s7,s8,s9,some (.ref Dn)] H Q)
  (hDt:H Dt=some (.dT (cI t))) (nd:(t.map (·.1)).Nodup) (hpc:H pc=some (.tup (cH c))) (ne:c≠[]) (l5:c.length<=5) (hm:(c,m+1)∈t) (all:∀d∈kts c,∃k,(d,k)∈t) (ex:∃d∈kts c,(d,m)∈t) (hDn:H Dn=some (.lst (ps.map λi=>V.int (i:Nat)))) (few:ps.length<=90000)
  (q:∀(i:Nat) (pc':Addr) (H':Hp),i∈mT c->(lb c i,m)∈t->H' pc'=some (.tup (cH (lb c i)))->H' Dn=some (.lst ((ps++[i]).map λi=>V.int (i:Nat)))->(∀b u,b≠Dn->H b=some u->H' b=some u)->D.nx [s0,s1,s2,s3,s4,s5,some (.ref pc'),s7,s8,s9,some (.ref Dn)] H') :
  bx (gn (si K "list" dJ (av 10) (ak (bu (fm K) [] E0 (ak tt (ak (av 6) aO))) aO))) (bT (bu (gj K) [] E0 (ak (av 6) (ak (bO (e8 K) (av 10) (As oZ (tC (.int 1)))) aO))) (aR 6)) D [s0,s1,s2,s3,s4,s5,some (.ref pc),s7,s8,s9,some (.ref Dn)] H:=by
 refine⟨_,rfl,.inl ⟨rfl,_,cx.of hDn⟩,htt _ ⟨_,rfl,.ref Dt,pc,c,t,m,rfl,⟨Dt,rfl,hDt⟩,nd,hpc,ne,l5,hm,all,ex,λi H1 hi him sm1=>?_⟩⟩
 have hDn1:=sm1 _ _ hDn
 refine⟨Dn,_,.int (i:Nat),rfl,rfl,hDn1,bI (by rw[af];lia),?_⟩
 have t2:Tp H1 (aQ H1 Dn (.lst ((ps.map λi=>V.int (i:Nat))++[.int (i:Nat)]))):=(Tp.refl H1).lst hDn1
 have hDn2:aQ H1 Dn (.lst ((ps.map λi=>V.int (i:Nat))++[.int (i:Nat)])) Dn=some (.lst ((ps++[i]).map λi=>V.int (i:Nat))):=by rw[aj,aB];rfl
 have kp2:∀b u,b≠Dn->H b=some u->aQ H1 Dn (.lst ((ps.map λi=>V.int (i:Nat))++[.int (i:Nat)])) b=some u:=λb u nb hb=>by rw[az nb];exact sm1 _ _ hb
 have hpc2:=t2 _ _ (sm1 _ _ hpc)
 generalize aQ H1 Dn (.lst ((ps.map λi=>V.int (i:Nat))++[.int (i:Nat)]))=H2 at hDn2 kp2 hpc2 ⊢
 refine⟨_,rfl,_,rfl,1,rfl,rm (v:=.int (i:Nat)) hDn2 ?_ ⟨pc,c,i,rfl,hpc2,l5,hi,λr H3 hr sm3=>q i r H3 hi him hr (sm3 _ _ hDn2) λb u nb hb=>sm3 _ _ (kp2 b u nb hb)⟩⟩
 rw[af,ai,aM,cT,aG,aq (ar _),bo]
 rfl
theorem uz:∀{b:Bt} {ps:List Nat} {i:Nat},eL b ps->i∈mT (jZ b ps)->eL b (ps++[i])
 |b,[],i,_,h=>⟨h,trivial⟩
 |b,p::r,i,h,hi=>⟨h.1,uz h.2 hi⟩
theorem EE(b:Bt)(ps:List Nat)(i:Nat):jZ b (ps++[i])=lb (jZ b ps) i:=by unfold jZ;rw[gy];rfl
theorem Cd{K:Fg}{vs:List V}{H:Hp}{Q:VK}{E:XK}(h:jJ K vs H Q E):uE K {nx:=λ_ H'=>Q .non H',rt:=Q} (start sR vs) H:=by
 obtain⟨bp,wp,lt,n,b0,ws,last,dd,rfl,src,n1,n5,wks,fw,dims,ex,q⟩:=h
 have ne:b0≠[]:=λz=>by have:=src.len;rw[z] at this;have:(0:Nat)=n:=this;lia
 refine⟨_,rfl,_,rfl,_,rfl,_,rfl,bp,b0,rfl,src.bp,ne,by rw[src.len];exact n5,λop H1 hop s1=>?_⟩
 rw[src.len] at hop
 refine⟨bp,wp,lt,op,n,b0,aU n none,ws,last,dd,rfl,⟨s1 _ _ src.bp,src.len,?_,src.few⟩,?_,fw,hop,by simp,dims,ex,λr gvs gs bs pss kss ts ss t m H2 h1 h2 h3 h4 h5 h6 h7 h8 h9 s2=>q r gvs gs bs pss kss ts ss t m H2 h1 h2 h3 h4 h5 h6 h7 h8 h9 (s1.trans s2)⟩
 ·obtain⟨wvs,a,b⟩:=src.wks
  exact⟨wvs,s1 _ _ a,b.imp λ_ _ z=>z.tp (Tp.of_same s1)⟩
 ·obtain⟨⟨wvs,a,b⟩,c⟩:=wks
  exact⟨⟨wvs,s1 _ _ a,b.imp λ_ _ z=>z.tp (Tp.of_same s1)⟩,s1 _ _ c⟩
structure DX(ks:List Bt)(t:List (Bt×Nat))(c:Bt)(m:Nat)(ps:List Nat)(d:Bt)(mc:Nat):Prop where
 run:d=jZ c ps
 ok:eL c ps
 ink:d∈ks
 num:(d,mc)∈t
 sum:ps.length+mc=m
 vis:∃vis:List Bt,vis.Nodup/\vis.length=ps.length/\∀x∈vis,x∈ks/\∃k,mc<k/\(x,k)∈t
theorem DX.few{ks:List Bt}{t:List (Bt×Nat)}{c d:Bt}{m mc:Nat}{ps:List Nat}(h:DX ks t c m ps d mc)(kf:ks.length<=7776):ps.length<=7776:=by
 obtain⟨vis,nd,vl,hv⟩:=h.vis
 have:=jX nd (zs:=ks) λx hx=>(hv x hx).1
 lia
theorem DX.next{ks:List Bt}{t:List (Bt×Nat)}{c d:Bt}{m mc i:Nat}{ps:List Nat}(h:DX ks t c m ps d (mc+1))(nd:(t.map (·.1)).Nodup)(cl:∀b∈ks,∀c∈kts b,c∈ks)(hi:i∈mT d)(hm:(lb d i,mc)∈t):DX ks t c m (ps++[i]) (lb d i) mc:=by
 obtain⟨vis,vnd,vl,hv⟩:=h.vis
 have hs:=h.sum
 refine⟨by rw[EE,<-h.run],uz h.ok (by rw[<-h.run];exact hi),cl d h.ink _ (aC.mpr ⟨i,hi,rfl⟩),hm,by rw[ai,aM];lia,vis++[d],?_,by rw[ai,ai,vl];rfl,λx hx=>?_⟩
 ·refine cK.mpr ⟨vnd,by simp,λx hx y hy=>?_⟩
  rw[ao.mp hy]
  intro z
  obtain⟨_,k,hk,hx2⟩:=hv x hx
  have z:x=d:=z
  rw[z] at hx2
  have:=qC nd hx2 h.num
  lia
 ·rcases aE.mp hx with z|z
  ·obtain⟨h1,k,hk,h2⟩:=hv x z
   exact⟨h1,k,by lia,h2⟩
  ·rw[ao.mp z]
   exact⟨h.ink,mc+1,cF _,h.num⟩
theorem DX.zero{ks:List Bt}{t:List (Bt×Nat)}{c:Bt}{m:Nat}(h:c∈ks)(hm:(c,m)∈t):DX ks t c m [] c m:=⟨rfl,trivial,h,hm,by simp,[],cL,rfl,λx hx=>by cases hx⟩
structure Nh(b:Bt)(ws:List Wk)(pss:List (List Str))(kss:List (List Bt))(m0 i:Nat)(c:Bt)(m:Nat)(gs:List (List Nat))(bs:List Bt):Prop where
 len:gs.length=i
 ln2:bs.length=i
 fst:(bs++[c])[0]?=some b
 ok:∀(k:Nat) ps d,gs[k]?=some ps->bs[k]?=some d->eL d ps
 nxt:∀(k:Nat) ps d d' w ss,gs[k]?=some ps->bs[k]?=some d->(bs++[c])[k+1]?=some d'->ws[k]?=some w->pss[k+1]?=some ss->d'=kC (jZ d ps) w.out ss
 sum:(gs.map (·.length)).sum+m=m0
 mem:∀(k:Nat) d ks,bs[k]?=some d->kss[k]?=some ks->d∈ks
theorem Nh.next{b:Bt}{ws:List Wk}{pss:List (List Str)}{kss:List (List Bt)}{m0 i:Nat}{c:Bt}{m mc:Nat}{gs:List (List Nat)}{bs:List Bt}(h:Nh b ws pss kss m0 i c m gs bs){ps:List Nat}{w:Wk}{ss:List Str}(hw:ws[i]?=some w)(hs:pss[i+1]?=some ss)(ok:eL c ps)(sm:ps.length+mc=m)(ck:∀ks,kss[i]?=some ks->c∈ks):Nh b ws pss kss m0 (i+1) (kC (jZ c ps) w.out ss) mc (gs++[ps]) (bs++[c]):=by
 have l1:=h.len
 have l2:=h.ln2
 refine⟨by rw[ai,l1];rfl,by rw[ai,l2];rfl,?_,λk ps' d h1 h2=>?_,λk ps' d d' w' ss' h1 h2 h3 h4 h5=>?_,?_,λk d ks h1 h2=>?_⟩
 ·rw[au (by rw[ai];simp)];exact h.fst
 ·by_cases ck:k<i
  ·rw[au (by lia)] at h1 h2
   exact h.ok k ps' d h1 h2
  ·have ki:k=i:=by have:=(ae.mp h1).1;rw[ai,aM] at this;lia
   subst ki
   rw[aq (by lia),l1,bo] at h1
   rw[aq (by lia),l2,bo] at h2
   cases h1;cases h2;exact ok
 ·by_cases ck:k<i
  ·rw[au (by lia)] at h1 h2
   rw[au (by rw[ai,aM];lia)] at h3
   exact h.nxt k ps' d d' w' ss' h1 h2 h3 h4 h5
  ·have ki:k=i:=by have:=(ae.mp h1).1;rw[ai,aM] at this;lia
   subst ki
   rw[aq (by lia),l1,bo] at h1
   rw[aq (by lia),l2,bo] at h2
   rw[aq (by rw[ai,aM];lia),ai,aM,l2,bo] at h3
   rw[hw] at h4;rw[hs] at h5
   cases h1;cases h2;cases h3;cases h4;cases h5;rfl
 ·rw[aB,fV]
  have:=h.sum
  show _+(ps.length+0)+mc=m0
  lia
 ·by_cases c2:k<i
  ·rw[au (by lia)] at h1
   exact h.mem k d ks h1 h2
  ·have ki:k=i:=by have:=(ae.mp h1).1;rw[ai,aM] at this;lia
   subst ki
   rw[aq (by lia),l2,bo] at h1
   cases h1;exact ck ks h2
theorem vL.but{H H':Hp}{v:V}{ps:List Nat}(h:vL H v ps)(t:Tp H H'):vL H' v ps:=let⟨p,e,hp⟩:=h;⟨p,e,t _ _ hp⟩
theorem yc{K:Fg}{vs:List V}{H:Hp}{Q:VK}{E:XK}(h:j6 K vs H Q E):qi K {nx:=λ_ H'=>Q .non H',rt:=Q} (start pI vs) H:=by
 obtain⟨bp,wp,lt,op,n,b0,ord,ws,last,dd,rfl,src,wks,fw,hop,ol,dims,ex,q⟩:=h
 obtain⟨wvs,hwp,hW⟩:=src.wks
 have wfew:=src.few
 refine⟨_,rfl,_,rfl,wp,lt,ws,last,dd,rfl,wks,fw,λP tvs pss H1 nP hP hT pts s1=>?_⟩
 show lG K _ [some (.ref bp),some (.ref wp),some (.ref lt),some (.ref op),some (.ref P),none,none,none,none,none,none] H1
 have pl:=pts.len
 have wks1:ka H1 wp lt ws last:=by
  obtain⟨⟨wvs,a,b⟩,c⟩:=wks
  exact⟨⟨wvs,s1 _ _ a,b.imp λ_ _ z=>z.tp (Tp.of_same s1)⟩,s1 _ _ c⟩
 refine⟨_,rfl,_,rfl,_,rfl,_,rfl,bp,wp,lt,op,n,b0,ord,ws,last,dd,rfl,⟨s1 _ _ src.bp,src.len,⟨wvs,s1 _ _ hwp,hW.imp λ_ _ z=>z.tp (Tp.of_same s1)⟩,src.few⟩,wks1,fw,s1 _ _ hop,ol,dims,λT tbs pss' kss ts H2 hT2 hTA pts' tb s2=>?_⟩
 cases pts'.one pts
 show lE K _ [some (.ref bp),some (.ref wp),some (.ref lt),some (.ref op),some (.ref P),some (.ref T),none,none,none,none,none] H2
 have s02:=s1.trans s2
 have exT:=ex pss kss ts pts tb
 have cm:=tb.cm
 have kl:=cm.len
 have tl:=tb.len
 obtain⟨_,ss0,e0,e0',np0,rfl,hnp0⟩:=hT.get (i:=0) (by lia)
 have d0:=dims pss pts ss0 (aA e0')
 have n1:=d0.pos
 have n5:=d0.n5
 refine⟨_,rfl,_,rfl,mj (v:=.ref np0) (cx.of (s2 _ _ hP)) (by decide) e0 ⟨bp,np0,b0,ss0,rfl,s02 _ _ src.bp,s2 _ _ hnp0,by rw[src.len];lia,λp0 H3 hp0 s3=>?_⟩⟩
 show lD K _ [some (.ref bp),some (.ref wp),some (.ref lt),some (.ref op),some (.ref P),some (.ref T),some (.ref p0),none,none,none,none] H3
 refine⟨(by show 0<=sizeLine;decide),λL nL=>?_⟩
 have s24:=s3.new (o:=.lst []) nL
 have hL4:aQ H3 L (.lst []) L=some (.lst []):=aj
 have hp4:=(aI.refl H3).new (o:=.lst []) nL _ _ hp0
 have nLH2:H2 L=none:=s3.free nL
 show lB K _ [some (.ref bp),some (.ref wp),some (.ref lt),some (.ref op),some (.ref P),some (.ref T),some (.ref p0),some (.ref L),none,none,none] _
 generalize aQ H3 L (.lst [])=H4 at s24 hL4 hp4 ⊢
 have hk0:kss[0]?=some (kss[0]'(by lia)):=aa _
 have ht0:ts[0]?=some (ts[0]'(by lia)):=aa _
 generalize kss[0]'(by lia)=ks0 at hk0
 generalize ts[0]'(by lia)=t00 at ht0
 have c0k:bR b0 ss0∈ks0:=(cm.fst ks0 ss0 hk0 e0').ent _ (ao.mpr rfl)
 obtain⟨m0,hm0⟩:=exT 0 ks0 t00 hk0 ht0 _ c0k
 have tnd:∀(k:Nat) t,ts[k]?=some t->(t.map (·.1)).Nodup:=λk t h=>by
  have kk:k<ts.length:=(ae.mp h).1
  have hk:kss[k]?=some (kss[k]'(by lia)):=aa _
  by_cases c:k=ws.length
  ·subst c
   obtain⟨t0,sp,_⟩:=tb.fin _ t hk h
   exact sp.nd
  ·have h1:ts[k+1]?=some (ts[k+1]'(by lia)):=aa _
   have h2:ws[k]?=some (ws[k]'(by lia)):=aa _
   have h3:pss[k+1]?=some (pss[k+1]'(by lia)):=aa _
   obtain⟨t0,sp,_⟩:=tb.mid k _ t _ _ _ hk h h1 h2 h3
   exact sp.nd
 have tsub:∀(k:Nat) ks t,kss[k]?=some ks->ts[k]?=some t->∀b m,(b,m)∈t->b∈ks:=λk ks t hk h=>by
  have kk:k<ts.length:=(ae.mp h).1
  by_cases c:k=ws.length
  ·subst c
   obtain⟨t0,sp,_⟩:=tb.fin _ t hk h
   exact sp.sub
  ·have h1:ts[k+1]?=some (ts[k+1]'(by lia)):=aa _
   have h2:ws[k]?=some (ws[k]'(by lia)):=aa _
   have h3:pss[k+1]?=some (pss[k+1]'(by lia)):=aa _
   obtain⟨t0,sp,_⟩:=tb.mid k _ t _ _ _ hk h h1 h2 h3
   exact sp.sub
 refine⟨_,rfl,wp,rfl,⟨_,cz.of (s24 _ _ (s02 _ _ hwp))⟩,mQ (xs:=wvs) (λi σ' H'=>∃o8 o9 o10 pc c m gvs gs bs,σ'=[some (.ref bp),some (.ref wp),some (.ref lt),some (.ref op),some (.ref P),some (.ref T),some (.ref pc),some (.ref L),o8,o9,o10]/\H' pc=some (.tup (cH c))/\H' L=some (.lst gvs)/\bj (vL H') gvs gs/\Nh (bR b0 ss0) ws pss kss m0 i c m gs bs/\(∃ks t,kss[i]?=some ks/\ts[i]?=some t/\c∈ks/\(c,m)∈t)/\aI H2 H')
  ⟨none,none,none,p0,_,m0,[],[],[],rfl,hp4,hL4,bj.nil,⟨rfl,rfl,rfl,(λk ps d h=>by simp at h),(λk ps d d' w ss h=>by simp at h),by simp,(λk d ks h=>by simp at h)⟩,⟨ks0,t00,hk0,ht0,c0k,hm0⟩,s24⟩ ?_ ?_ ?_⟩
 ·rintro i σ' H' _ ⟨_,_,_,_,_,_,_,_,_,_,_,_,_,_,_,s⟩
  exact cz.of (s _ _ (s02 _ _ hwp))
 ·rintro i wv σ' Ha tt hwv ntt ⟨o8,o9,o10,pc,c,m,gvs,gs,bs,rfl,hpc,hLa,hGA,fo,⟨ks,t,hks,hts,ck,cm'⟩,sa⟩
  obtain⟨w,hw,hwa⟩:=hW.of_v hwv
  have il:i<ws.length:=(ae.mp hw).1
  obtain⟨_,ss,es,es',np,rfl,hnp⟩:=hT.get (i:=i+1) (by lia)
  have hks':kss[i+1]?=some (kss[i+1]'(by lia)):=aa _
  have hts':ts[i+1]?=some (ts[i+1]'(by lia)):=aa _
  generalize kss[i+1]'(by lia)=ks' at hks'
  generalize ts[i+1]'(by lia)=t' at hts'
  obtain⟨t0,sp,st0⟩:=tb.mid i ks t t' w ss hks hts hts' hw es'
  obtain⟨ssk,ebk,dk,tk⟩:=cm.turn pl hks
  have tn:=tnd i t hts
  have tn':=tnd (i+1) t' hts'
  obtain⟨tv,_,etv,e2,⟨Dt,rfl,hDt⟩⟩:=hTA.get (i:=i) (by lia)
  rw[hts] at e2;cases e2
  have hDt:H2 Dt=some (.dT (cI t)):=hDt
  obtain⟨tv',_,etv',e2,⟨Dt',rfl,hDt'⟩⟩:=hTA.get (i:=i+1) (by lia)
  rw[hts'] at e2;cases e2
  have hDt':H2 Dt'=some (.dT (cI t')):=hDt'
  refine⟨tt,_,rfl,cz.of aj,rfl,_,_,rfl,_,_,rfl,rfl,?_⟩
  have sb:aI Ha (aQ Ha tt (.tup [.int (i:Nat),wv])):=(aI.refl Ha).new ntt
  show lA K _ [some (.ref bp),some (.ref wp),some (.ref lt),some (.ref op),some (.ref P),some (.ref T),some (.ref pc),some (.ref L),some (.int (i:Nat)),some wv,o10] _
  generalize aQ Ha tt (.tup [.int (i:Nat),wv])=Hb at sb ⊢
  refine⟨(by show 0<=sizeLine;decide),λDn nDn=>?_⟩
  have hDn:aQ Hb Dn (.lst []) Dn=some (.lst (([]:List Nat).map λi=>V.int (i:Nat))):=aj
  have sc:aI Hb (aQ Hb Dn (.lst [])):=(aI.refl Hb).new nDn
  have s2b:=sa.trans sb
  have nDnH:H2 Dn=none:=s2b.free nDn
  have LDn:L≠Dn:=aJ (sb _ _ hLa) nDn
  have hLc:=sc _ _ (sb _ _ hLa)
  have hpcc:=sc _ _ (sb _ _ hpc)
  have s2c:=s2b.trans sc
  have hGc:=hGA.imp λ_ _ z=>vL.but z (Tp.of_same (sb.trans sc))
  show lz K _ [some (.ref bp),some (.ref wp),some (.ref lt),some (.ref op),some (.ref P),some (.ref T),some (.ref pc),some (.ref L),some (.int (i:Nat)),some wv,some (.ref Dn)] _
  generalize aQ Hb Dn (.lst [])=Hc at hDn sc hLc hpcc s2c hGc ⊢
  have kf:=tk.few
  have rd:∀{H':Hp},aI H2 H'->H' T=some (.lst tbs)/\H' Dt=some (.dT (cI t))/\H' Dt'=some (.dT (cI t')):=λs=>⟨s _ _ hT2,s _ _ hDt,s _ _ hDt'⟩
  refine⟨λmm σ' H'=>∃pd d ps,σ'=[some (.ref bp),some (.ref wp),some (.ref lt),some (.ref op),some (.ref P),some (.ref T),some (.ref pd),some (.ref L),some (.int (i:Nat)),some wv,some (.ref Dn)]/\H' pd=some (.tup (cH d))/\DX ks t c m ps d mm/\H' Dn=some (.lst (ps.map λi=>V.int (i:Nat)))/\H' L=some (.lst gvs)/\bj (vL H') gvs gs/\aI H2 H',⟨m,pc,c,[],rfl,hpcc,DX.zero ck cm',hDn,hLc,hGc,s2c⟩,?_⟩
  rintro mc σ' Hd ⟨pd,d,ps,rfl,hpd,gr,hDnd,hLd,hGd,sd⟩
  obtain⟨r1,r2,r3⟩:=rd sd
  have dl:=(tk.inn d gr.ink).len
  have dne:d≠[]:=λz=>by rw[z] at dl;have:(0:Nat)=n:=dl;lia
  have T0d:Tp H Hd:=(Tp.of_same s02).trans (Tp.of_same sd)
  refine⟨_,rfl,_,rfl,mj (v:=.ref Dt) (cx.of r1) (b9 _) (by rw[aY];exact etv) ⟨_,rfl,Dt,_,rfl,nJ r2 hpd (fq tn gr.num),?_⟩⟩
  refine⟨_,rfl,_,rfl,.inr (.inl ⟨_,_,rfl,rfl,mj (v:=.ref Dt') (cx.of r1) (by lia) (by rw[show((i:Int)+1).toNat=i+1 by lia];exact etv') ⟨Dt',rfl,.inr ⟨_,.inl r3⟩,?_⟩⟩)⟩
  have hPd:Hd P=some (.lst tvs):=sd _ _ (s2 _ _ hP)
  have hnpd:Hd np=some (.tup (ss.map V.str)):=sd _ _ (s2 _ _ hnp)
  have hwd:FD Hd wv w:=hwa.tp T0d
  refine⟨_,rfl,_,rfl,_,rfl,_,rfl,.inr (.inl ⟨_,_,rfl,rfl,mj (v:=.ref np) (cx.of hPd) (by lia) (by rw[show((i:Int)+1).toNat=i+1 by lia];exact es) ⟨pd,np,wv,d,w,ss,rfl,hpd,hwd,hnpd,dne,by lia,λr He hr se=>⟨_,nJ (se _ _ r3) hr rfl,?_⟩⟩⟩)⟩
  have fl:HG (.int (mc:Nat)) ((cY (cI t') (cq (kC d w.out ss))).getD .non)=true:=by
   rcases Classical.em (∃m,(kC d w.out ss,m)∈t') with⟨m,hm⟩|z
   ·rw[fq tn' hm];rfl
   ·rw[qB λm y=>z ⟨m,y⟩];rfl
  refine .inl ⟨fl,_,rfl,oP (λnq=>?_) (λyq=>?_)⟩
  ·-- a keep more
   obtain⟨mm,rfl,hex⟩:∃mm,mc=mm+1/\∃x∈kts d,(x,mm)∈t:=by
    rcases sp.s3 d mc gr.num with z|⟨x,hx,mm,hm,e⟩
    ·have:=((st0 d mc).mp z).2
     rw[fq tn' this] at nq
     exact absurd rfl nq
    ·exact⟨mm,e,x,hx,hm⟩
   have sde:=sd.trans se
   obtain⟨q1,q2,q3⟩:=rd sde
   refine⟨λσ' H'=>∃m',m'<mm+1/\∃pd d ps,σ'=[some (.ref bp),some (.ref wp),some (.ref lt),some (.ref op),some (.ref P),some (.ref T),some (.ref pd),some (.ref L),some (.int (i:Nat)),some wv,some (.ref Dn)]/\H' pd=some (.tup (cH d))/\DX ks t c m ps d m'/\H' Dn=some (.lst (ps.map λi=>V.int (i:Nat)))/\H' L=some (.lst gvs)/\bj (vL H') gvs gs/\aI H2 H',λ_ _ z=>z,?_⟩
   refine v8 (λQ' qq=>⟨_,rfl,_,rfl,mj (v:=.ref Dt) (cx.of q1) (b9 _) (by rw[aY];exact etv) qq⟩) q2 tn (se _ _ hpd) dne (by lia) gr.num (λx hx=>exT i ks t hks hts x (tk.cl d gr.ink x hx)) hex (se _ _ hDnd) (by have:=gr.few kf;lia) λj pc' H' hj hjm hpc' hDn' kp=>⟨mm,cF _,pc',lb d j,ps++[j],rfl,hpc',gr.next tn tk.cl hj hjm,hDn',kp _ _ LDn (se _ _ hLd),hGd.imp λ_ _ z=>?_,λb u hb=>?_⟩
   ·obtain⟨p,e,hp⟩:=z
    have hp':=se _ _ hp
    exact⟨p,e,kp _ _ (λy=>by rw[y,se _ _ hDnd] at hp';cases hp') hp'⟩
   ·exact kp b u (λy=>by rw[y,nDnH] at hb;cases hb) (sde _ _ hb)
  ·-- the group is done
   have hmem:(kC d w.out ss,mc)∈t':=by
    rcases Classical.em (∃m,(kC d w.out ss,m)∈t') with⟨m,hm⟩|z
    ·rw[fq tn' hm] at yq
     have yq:V.int (mc:Nat)=V.int (m:Nat):=yq
     injection yq with yq
     have:mc=m:=by lia
     rw[this];exact hm
    ·rw[qB λm y=>z ⟨m,y⟩] at yq;cases yq
   have ck':kC d w.out ss∈ks':=tsub (i+1) ks' t' hks' hts' _ _ hmem
   have sde:=sd.trans se
   show mO K _ [some (.ref bp),some (.ref wp),some (.ref lt),some (.ref op),some (.ref P),some (.ref T),some (.ref pd),some (.ref L),some (.int (i:Nat)),some wv,some (.ref Dn)] He
   refine⟨_,rfl,.inl ⟨rfl,_,cx.of (se _ _ hLd)⟩,_,rfl,Dn,_,rfl,.inl ⟨cx.of (se _ _ hDnd),λg ng=>?_⟩⟩
   have sf:aI He (aQ He g (.tup (ps.map λi=>V.int (i:Nat)))):=(aI.refl He).new ng
   have hg:aQ He g (.tup (ps.map λi=>V.int (i:Nat))) g=some (.tup (ps.map λi=>V.int (i:Nat))):=aj
   generalize aQ He g (.tup (ps.map λi=>V.int (i:Nat)))=Hf at sf hg ⊢
   have hLf:=sf _ _ (se _ _ hLd)
   refine⟨L,gvs,.ref g,rfl,rfl,hLf,bI (by rw[hGd.len,fo.len];lia),?_⟩
   have tg:Tp Hf (aQ Hf L (.lst (gvs++[.ref g]))):=(Tp.refl Hf).lst hLf
   have sg:aI H2 (aQ Hf L (.lst (gvs++[.ref g]))):=dD (sde.trans sf) nLH2
   have hLg:aQ Hf L (.lst (gvs++[.ref g])) L=some (.lst (gvs++[.ref g])):=aj
   have T0f:Tp Hd (aQ Hf L (.lst (gvs++[.ref g]))):=(Tp.of_same (se.trans sf)).trans tg
   have hGg:=(hGd.imp λ_ _ z=>vL.but z T0f).snoc (v:=.ref g) (r:=ps) ⟨g,rfl,tg _ _ hg⟩
   have hpdg:=T0f _ _ hpd
   have hPg:aQ Hf L (.lst (gvs++[.ref g])) P=some (.lst tvs):=sg _ _ (s2 _ _ hP)
   show mN K _ [some (.ref bp),some (.ref wp),some (.ref lt),some (.ref op),some (.ref P),some (.ref T),some (.ref pd),some (.ref L),some (.int (i:Nat)),some wv,some (.ref Dn)] _
   generalize aQ Hf L (.lst (gvs++[.ref g]))=Hg at sg hLg T0f hGg hpdg hPg ⊢
   refine⟨_,rfl,_,rfl,_,rfl,_,rfl,.inr (.inl ⟨_,_,rfl,rfl,mj (v:=.ref np) (cx.of hPg) (by lia) (by rw[show((i:Int)+1).toNat=i+1 by lia];exact es) ⟨pd,np,wv,d,w,ss,rfl,hpdg,hwd.tp T0f,T0f _ _ hnpd,dne,by lia,λr2 Hh hr2 sh=>?_⟩⟩)⟩
   have fo':=fo.next (mc:=mc) hw es' gr.ok gr.sum (λks2 h=>by rw[hks] at h;cases h;exact ck)
   rw[<-gr.run] at fo'
   exact⟨_,_,_,r2,kC d w.out ss,mc,gvs++[.ref g],gs++[ps],bs++[c],rfl,hr2,sh _ _ hLg,hGg.imp λ_ _ z=>vL.but z (Tp.of_same sh),fo',⟨ks',t',hks',hts',ck',hmem⟩,sg.trans sh⟩
 ·rintro σ' Ha ⟨o8,o9,o10,pc,c,m,gvs,gs,bs,rfl,hpc,hLa,hGA,fo,⟨ks,t,hks,hts,ck,cm'⟩,sa⟩
  rw[hW.len] at fo hks hts
  obtain⟨t0,sp,st0⟩:=tb.fin ks t hks hts
  obtain⟨ssk,ebk,dk,tk⟩:=cm.turn pl hks
  have tn:=tnd _ t hts
  obtain⟨tv,_,etv,e2,⟨Dt,rfl,hDt⟩⟩:=hTA.get (i:=ws.length) (by lia)
  rw[hts] at e2;cases e2
  have hDt:H2 Dt=some (.dT (cI t)):=hDt
  have tbl:tbs.length=ws.length+1:=by rw[hTA.len];exact tl
  have etv':tbs[tbs.length-1]?=some (.ref Dt):=by rw[tbl,cT];exact etv
  have kf:=tk.few
  show mM K _ [some (.ref bp),some (.ref wp),some (.ref lt),some (.ref op),some (.ref P),some (.ref T),some (.ref pc),some (.ref L),o8,o9,o10] Ha
  refine⟨(by show 0<=sizeLine;decide),λDn nDn=>?_⟩
  have hDn:aQ Ha Dn (.lst []) Dn=some (.lst (([]:List Nat).map λi=>V.int (i:Nat))):=aj
  have sc:aI Ha (aQ Ha Dn (.lst [])):=(aI.refl Ha).new nDn
  have nDnH:H2 Dn=none:=sa.free nDn
  have LDn:L≠Dn:=aJ hLa nDn
  have s2c:=sa.trans sc
  have hGc:=hGA.imp λ_ _ z=>vL.but z (Tp.of_same sc)
  show mL K _ [some (.ref bp),some (.ref wp),some (.ref lt),some (.ref op),some (.ref P),some (.ref T),some (.ref pc),some (.ref L),o8,o9,some (.ref Dn)] _
  generalize aQ Ha Dn (.lst [])=Hc at hDn sc s2c hGc ⊢
  refine⟨λmm σ' H'=>∃pd d ps,σ'=[some (.ref bp),some (.ref wp),some (.ref lt),some (.ref op),some (.ref P),some (.ref T),some (.ref pd),some (.ref L),o8,o9,some (.ref Dn)]/\H' pd=some (.tup (cH d))/\DX ks t c m ps d mm/\H' Dn=some (.lst (ps.map λi=>V.int (i:Nat)))/\H' L=some (.lst gvs)/\bj (vL H') gvs gs/\aI H2 H',⟨m,pc,c,[],rfl,sc _ _ hpc,DX.zero ck cm',hDn,sc _ _ hLa,hGc,s2c⟩,?_⟩
  rintro mc σ' Hd ⟨pd,d,ps,rfl,hpd,gr,hDnd,hLd,hGd,sd⟩
  have r1:=sd _ _ hT2
  have r2:=sd _ _ hDt
  have dl:=(tk.inn d gr.ink).len
  have dne:d≠[]:=λz=>by rw[z] at dl;have:(0:Nat)=n:=dl;lia
  refine⟨_,rfl,1,rfl,rm (v:=.ref Dt) r1 etv' ⟨_,rfl,Dt,_,rfl,nJ r2 hpd (fq tn gr.num),.inl ⟨rfl,_,rfl,oP (λnq=>?_) (λyq=>?_)⟩⟩⟩
  ·obtain⟨mm,rfl,hex⟩:∃mm,mc=mm+1/\∃x∈kts d,(x,mm)∈t:=by
    rcases sp.s3 d mc gr.num with z|⟨x,hx,mm,hm,e⟩
    ·have:=((st0 d mc).mp z).2.2
     rw[this] at nq
     exact absurd rfl nq
    ·exact⟨mm,e,x,hx,hm⟩
   refine⟨λσ' H'=>∃m',m'<mm+1/\∃pd d ps,σ'=[some (.ref bp),some (.ref wp),some (.ref lt),some (.ref op),some (.ref P),some (.ref T),some (.ref pd),some (.ref L),o8,o9,some (.ref Dn)]/\H' pd=some (.tup (cH d))/\DX ks t c m ps d m'/\H' Dn=some (.lst (ps.map λi=>V.int (i:Nat)))/\H' L=some (.lst gvs)/\bj (vL H') gvs gs/\aI H2 H',λ_ _ z=>z,?_⟩
   refine v8 (λQ' qq=>⟨_,rfl,1,rfl,rm (v:=.ref Dt) r1 etv' qq⟩) r2 tn hpd dne (by lia) gr.num (λx hx=>exT _ ks t hks hts x (tk.cl d gr.ink x hx)) hex hDnd (by have:=gr.few kf;lia) λj pc' H' hj hjm hpc' hDn' kp=>⟨mm,cF _,pc',lb d j,ps++[j],rfl,hpc',gr.next tn tk.cl hj hjm,hDn',kp _ _ LDn hLd,hGd.imp λ_ _ z=>?_,λb u hb=>?_⟩
   ·obtain⟨p,e,hp⟩:=z
    exact⟨p,e,kp _ _ (λy=>by rw[y,hDnd] at hp;cases hp) hp⟩
   ·exact kp b u (λy=>by rw[y,nDnH] at hb;cases hb) (sd _ _ hb)
  ·have mc0:mc=0:=by
    have yq:V.int (mc:Nat)=V.int 0:=yq
    injection yq with yq
    lia
   subst mc0
   have wk:AW ord d=true:=by
    rcases sp.s3 d 0 gr.num with z|⟨x,hx,mm,hm,e⟩
    ·exact((st0 d 0).mp z).2.1
    ·exact absurd e (by lia)
   show mK K _ [some (.ref bp),some (.ref wp),some (.ref lt),some (.ref op),some (.ref P),some (.ref T),some (.ref pd),some (.ref L),o8,o9,some (.ref Dn)] Hd
   refine⟨_,rfl,L,_,rfl,.inl ⟨cx.of hLd,λg1 ng1=>?_⟩⟩
   have se1:aI Hd (aQ Hd g1 (.tup gvs)):=(aI.refl Hd).new ng1
   have hg1:aQ Hd g1 (.tup gvs) g1=some (.tup gvs):=aj
   generalize aQ Hd g1 (.tup gvs)=He at se1 hg1 ⊢
   refine⟨_,rfl,Dn,_,rfl,.inl ⟨cx.of (se1 _ _ hDnd),λg ng=>⟨(by show 1<=sizeLine;decide),λu nu=>?_⟩⟩⟩
   have se2:aI He (aQ (aQ He g (.tup (ps.map λi=>V.int (i:Nat)))) u (.tup [.ref g])):=((aI.refl He).new ng).new nu
   have hg:aQ (aQ He g (.tup (ps.map λi=>V.int (i:Nat)))) u (.tup [.ref g]) g=some (.tup (ps.map λi=>V.int (i:Nat))):=(aI.refl _).new nu _ _ aj
   have hu:aQ (aQ He g (.tup (ps.map λi=>V.int (i:Nat)))) u (.tup [.ref g]) u=some (.tup [.ref g]):=aj
   generalize aQ (aQ He g (.tup (ps.map λi=>V.int (i:Nat)))) u (.tup [.ref g])=Hf at se2 hg hu ⊢
   have sdf:=se1.trans se2
   have fin:∀(z:Addr) (Hz:Hp),Hz z=some (.tup (gvs++[.ref g]))->aI Hf Hz->Q (.ref z) Hz:=λz Hz hz sz=>by
    have l1:=fo.len
    have l2:=fo.ln2
    refine q z (gvs++[.ref g]) (gs++[ps]) (bs++[c]) pss kss ts ss0 t00 m0 Hz hz ((hGd.imp λ_ _ y=>vL.but y (Tp.of_same (sdf.trans sz))).snoc ⟨g,rfl,sz _ _ hg⟩) pts tb e0' ht0 hm0 ⟨by rw[ai,l1];rfl,by rw[ai,l2];rfl,fo.fst,λk ps' d' h1 h2=>?_,λk ps' d' d'' w' ss' h1 h2 h3 h4 h5=>?_,λps' d' h1 h2=>?_,λk d' ks2 h1 h2=>?_⟩ ?_ ((s02.trans sd).trans (sdf.trans sz))
    ·by_cases ck2:k<ws.length
     ·rw[au (by lia)] at h1 h2
      exact fo.ok k ps' d' h1 h2
     ·have ki:k=ws.length:=by have:=(ae.mp h1).1;rw[ai,aM] at this;lia
      subst ki
      rw[aq (by lia),l1,bo] at h1
      rw[aq (by lia),l2,bo] at h2
      cases h1;cases h2;exact gr.ok
    ·have kl2:k<ws.length:=(ae.mp h4).1
     rw[au (by lia)] at h1 h2
     exact fo.nxt k ps' d' d'' w' ss' h1 h2 h3 h4 h5
    ·rw[aq (by lia),l1,bo] at h1
     rw[aq (by lia),l2,bo] at h2
     cases h1;cases h2
     rw[<-gr.run];exact wk
    ·by_cases ck2:k<ws.length
     ·rw[au (by lia)] at h1
      exact fo.mem k d' ks2 h1 h2
     ·have ki:k=ws.length:=by have:=(ae.mp h1).1;rw[ai,aM] at this;lia
      subst ki
      rw[aq (by lia),l2,bo] at h1
      rw[hks] at h2
      cases h1;cases h2;exact ck
    ·rw[aB,fV]
     have:=fo.sum
     have:=gr.sum
     show _+(ps.length+0)=m0
     lia
   have g1f:=se2 _ _ hg1
   by_cases ge:gvs=[]
   ·subst ge
    exact .inl ⟨g1,u,_,rfl,rfl,cz.of g1f,cz.of hu,fin u Hf hu (aI.refl Hf)⟩
   ·refine .inr (.inr (.inr (.inr ⟨g1,u,_,_,rfl,rfl,cz.of g1f,cz.of hu,ge,bW (bI (by rw[hGd.len,fo.len];show _+1<=_;lia)),(λz=>by cases z),λ_ z nz=>fin z _ aj ((aI.refl Hf).new nz)⟩)))
abbrev BY:List Nat:=[1,2,3,2,3,3,2,3,4,4,4,4,1,2,3,5]
theorem Hn{K:Fg}{vs:List V}{H:Hp}{Q:VK}{E:XK}(h:qW K vs H Q E):AN K {nx:=λ_ H'=>Q .non H',rt:=Q} (start yP vs) H:=by
 obtain⟨st,k,rfl,S,hk,q⟩:=h
 refine⟨(by show 16<=sizeLine;decide),λl nl=>?_⟩
 have S1:=S.new (o:=.lst (BY.map λz:Nat=>V.int (z:Nat))) nl
 have s1:aI H (aQ H l (.lst (BY.map λz:Nat=>V.int (z:Nat)))):=(aI.refl H).new nl
 have hl:aQ H l (.lst (BY.map λz:Nat=>V.int (z:Nat))) l=some (.lst (BY.map λz:Nat=>V.int (z:Nat))):=aj
 have nst:l≠st:=λz=>by obtain⟨_,e⟩:=S.lst;rw[z,e] at nl;cases nl
 refine⟨_,rfl,st,16,k,rfl,S1,by lia,by decide,by decide,λd H2 d0 d1 S2 B2=>?_⟩
 have h2:=B2 _ _ nst hl
 have dl:d.toNat<BY.length:=by show d.toNat<16;lia
 have ok:∀z∈BY,1<=z/\z<=5:=by decide
 obtain⟨z1,z5⟩:=ok _ (b6 dl)
 exact mj (v:=.int ((BY[d.toNat]'dl:Nat):Int)) (cx.of h2) d0 (by rw[aG,aa dl];rfl) (q _ H2 z1 z5 S2 λb u n e=>B2 b u n (s1 b u e))
theorem Mq{K:Fg}{H:Hp}{t c:Addr}{x:V}{ys:List V}{Q:VK}(ht:H t=some (.tup [x]))(hc:H c=some (.tup ys))(hl:ys.length<=1000)(q:∀(p:Addr) (H':Hp),H' p=some (.tup (x::ys))->aI H H'->Q (.ref p) H'):dz K (.ref t) (.ref c) H Q:=by
 refine .inr (.inr (.inr ⟨t,c,[x],ys,rfl,rfl,cz.of ht,cz.of hc,by simp,bW (bI (by rw[aM];lia)),λz=>?_,λ_ p np=>q p _ aj ((aI.refl H).new np)⟩))
 subst z
 exact q t H ht (aI.refl H)
theorem Ms{K:Fg}{H:Hp}{a:Addr}{xs:List V}{Q:VK}(ha:H a=some (.tup xs))(ne:xs≠[])(q:∀(p:Addr),H p=none->Q (.ref p) (aQ H p (.tup xs.dropLast))):Iw K (.ref a) none (some (-1)) H Q:=by
 refine .inr ⟨a,xs,rfl,cz.of ha,?_,λp np=>?_⟩
 ·rintro⟨_,z⟩
  have hl:0<xs.length:=dF.mpr ne
  have e:HT.sIx xs.length xs.length (some (-1))=xs.length-1:=by
   show(if(-1:Int)<0 then((-1:Int)+(xs.length:Int)).toNat else min (-1:Int).toNat xs.length)=xs.length-1
   rw[if_pos (by decide)];lia
  lia
 ·rw[FN ne];exact q p np
theorem pW(b:Bt):(cH b).dropLast=cH b.dropLast:=by unfold cH;rw[List.map_dropLast]
theorem Gz{b:Bt}(h:b≠[]):cH b≠[]:=λz=>h (List.map_eq_nil_iff.mp z)
theorem Ea{b:Bt}(y:Str)(h:b≠[]):jv b y=some y::(b.map (Bg.blank y)).dropLast:=by
 obtain⟨d,o,rfl⟩:∃d o,b=d++[o]:=⟨b.dropLast,b.getLast h,(eX h).symm⟩
 unfold jv pY
 simp[List.take_append,dI]
theorem vp{K:Fg}{vs:List V}{H:Hp}{Q:VK}{E:XK}(h:jq K vs H Q E):nU K {nx:=λ_ H'=>Q .non H',rt:=Q} (start jV vs) H:=by
 obtain⟨bp,B,x,rfl,hB,ne,l10,q⟩:=h
 refine⟨_,rfl,rfl,_,rfl,?_⟩
 rw[xY,Dj]
 cases x with
 |none=>exact rY ⟨_,rfl,q bp H hB (aI.refl H)⟩
 |some y=>
  refine gR ?_
  show lh K _ [some (.ref bp),some (.str y)] H
  refine⟨_,rfl,(by show 1<=sizeLine;decide),λt nt=>?_⟩
  have s1:aI H (aQ H t (.tup [.str y])):=(aI.refl H).new nt
  have ht:aQ H t (.tup [.str y]) t=some (.tup [.str y]):=aj
  generalize aQ H t (.tup [.str y])=H1 at s1 ht ⊢
  have hB1:=s1 _ _ hB
  refine .inr ⟨_,rfl,bp,rfl,⟨_,cz.of hB1⟩,λD nD=>?_⟩
  refine jh (xs:=cH B) (λi σ' H'=>∃o,σ'=[some (.ref bp),some (.str y),o]/\H' D=some (.lst (cH ((B.take i).map (Bg.blank y))))/\aI H1 H') ⟨none,rfl,aj,(aI.refl H1).new nD⟩ ?_ ?_ ?_
  ·rintro i σ' H' _ ⟨_,_,_,s⟩;exact cz.of (s _ _ hB1)
  ·rintro i v σ' H2 hv ⟨o,rfl,hD,s⟩
   obtain⟨oy,ey,rfl⟩:=oS hv
   have li:(cH ((B.take i).map (Bg.blank y))).length<=1000:=by rw[cG,af,aP];lia
   refine fG ⟨_,rfl,(by show 2<=sizeLine;decide),λl nl=>?_⟩
   have s3:aI H2 (aQ H2 l (.lst [oV oy,.non])):=(aI.refl H2).new nl
   have hl:aQ H2 l (.lst [oV oy,.non]) l=some (.lst [oV oy,.non]):=aj
   generalize aQ H2 l (.lst [oV oy,.non])=H3 at s3 hl ⊢
   have fin:∀c:V,c=oV (Bg.blank y oy)->∃ys,H3 D=some (.lst ys)/\ys.length<sizeLine/\∃o1,[some (V.ref bp),some (V.str y),some (oV oy)]=[some (.ref bp),some (.str y),o1]/\aQ H3 D (.lst (ys++[c])) D=some (.lst (cH ((B.take (i+1)).map (Bg.blank y))))/\aI H1 (aQ H3 D (.lst (ys++[c]))):=by
    rintro c rfl
    refine⟨_,s3 _ _ hD,bI (by lia),_,rfl,?_,dD (s.trans s3) nD⟩
    rw[aj,gq ey,aB];unfold cH;rw[aB];rfl
   refine⟨_,rfl,_,rfl,.inl ⟨Cp oy (some y),.inr ⟨_,rfl,?_⟩⟩⟩
   by_cases c:oy=some y
   ·rw[decide_eq_true (show oV oy=V.str y by rw[c];rfl)]
    exact mj (v:=.non) (cx.of hl) (by decide) rfl (fin _ (by unfold Bg.blank;rw[if_pos c];rfl))
   ·rw[decide_eq_false (show ¬oV oy=V.str y from λz=>c (xX (b:=some y) z))]
    exact mj (v:=oV oy) (cx.of hl) (by decide) rfl (fin _ (by unfold Bg.blank;rw[if_neg c]))
  ·rintro σ' H2 ⟨o,_,hD,s⟩
   rw[cG,a8] at hD
   refine⟨D,_,rfl,.inl ⟨cx.of hD,λP nP=>?_⟩⟩
   have s3:aI H1 (aQ H2 P (.tup (cH (B.map (Bg.blank y))))):=s.new nP
   have hP:aQ H2 P (.tup (cH (B.map (Bg.blank y)))) P=some (.tup (cH (B.map (Bg.blank y)))):=aj
   generalize aQ H2 P (.tup (cH (B.map (Bg.blank y))))=H3 at s3 hP ⊢
   refine⟨1,rfl,_,rfl,Ms hP (Gz (by simpa using ne)) λp np=>?_⟩
   have s4:aI H3 (aQ H3 p (.tup (cH (B.map (Bg.blank y))).dropLast)):=(aI.refl H3).new np
   refine Mq (s4 _ _ (s3 _ _ ht)) aj (by rw[pW,cG,fc,af];lia) λr H' hr s5=>q r H' ?_ (((s1.trans s3).trans s4).trans s5)
   rw[hr,pW]
   show some (HO.tup (cH (some y::(B.map (Bg.blank y)).dropLast)))=_
   rw[<-Ea y ne];rfl
structure NH(K:Fg)(H:Hp)(st lf fd:Addr)(ss:List Str)(n kk:Nat)(H':Hp)(m:Nat)(ls fs:Bt):Prop where
 hlf:H' lf=some (.lst (cH ls))
 hfd:H' fd=some (.lst (cH fs))
 lm:ls.length=m
 ll:ls.length+fs.length=n
 has:∀z∈ss,some z∈ls\/some z∈fs
 S:∃k',lU K H' st k'/\k'<=kk+fs.length
 B:iN st H H'
theorem J5{K:Fg}{vs:List V}{H:Hp}{Q:VK}{E:XK}(h:uw K vs H Q E):DE K {nx:=λ_ H'=>Q .non H',rt:=Q} (start xj vs) H:=by
 obtain⟨st,nd,nm,n,k,ss,ys,rfl,S,hk,nst,hnm,y20,hnd,sn,n5,q⟩:=h
 refine⟨_,rfl,nd,_,rfl,.inr (cz.of hnd),λl1 nl1=>?_⟩
 have S1:=S.new (o:=.lst (ss.map V.str)) nl1
 have s1:aI H (aQ H l1 (.lst (ss.map V.str))):=(aI.refl H).new nl1
 have hl1:aQ H l1 (.lst (ss.map V.str)) l1=some (.lst (ss.map V.str)):=aj
 have n1st:l1≠st:=λz=>by obtain⟨_,e⟩:=S.lst;rw[z,e] at nl1;cases nl1
 generalize aQ H l1 (.lst (ss.map V.str))=H1 at S1 s1 hl1 ⊢
 have hnd1:=s1 _ _ hnd
 have hnm1:=s1 _ _ hnm
 refine⟨_,rfl,_,rfl,_,_,rfl,.inr ⟨_,cz.of hnd1,rfl⟩,_,_,rfl,rfl,?_⟩
 rw[af]
 refine⟨_,rfl,by lia,by lia,λD nD=>?_⟩
 have nDst:D≠st:=λz=>by obtain⟨_,e⟩:=S1.lst;rw[z,e] at nD;cases nD
 have nD1:D≠l1:=λz=>by rw[z,hl1] at nD;cases nD
 refine oK (λj σ' H'=>∃(us:Bt) (o:Option V),σ'=[some (.ref st),some (.int (n:Nat)),some (.ref nd),some (.ref nm),none,none,o]/\H' D=some (.lst (cH us))/\us.length=j/\lU K H' st (k+j)/\iN st H1 H') ⟨[],none,rfl,aj,rfl,S1.new nD,(iN.refl st H1).new nD⟩ ?_ ?_
 ·rintro j σ' H2 hj ⟨us,o,rfl,hD,ul,S2,B2⟩
  have hj':j<n-ss.length:=by have:j<((n:Int)-(ss.length:Int)).toNat:=hj;lia
  refine fG ⟨_,rfl,_,rfl,st,nm,k+j,ys,rfl,S2,by lia,nst,B2 _ _ nst hnm1,y20,λm H3 _ S3 B3=>?_⟩
  have hD3:=B3 _ _ nDst hD
  refine⟨_,hD3,bI (by rw[cG];lia),us++[m],_,rfl,?_,by rw[ai,ul];rfl,S3.mono .upd_at hD3 (Ne.symm nDst),λb u nb e=>?_⟩
  ·rw[aj,xY];unfold cH;rw[aB];rfl
  ·rw[az (aJ e nD)];exact B3 b u nb (B2 b u nb e)
 ·rintro σ' H2 ⟨us,o,_,hD,ul,S2,B2⟩
  have ul':us.length=n-ss.length:=by have:us.length=((n:Int)-(ss.length:Int)).toNat:=ul;lia
  have S2:lU K H2 st (k+us.length):=by rw[ul];exact S2
  have hl2:=B2 _ _ n1st hl1
  have eo:ss.map V.str++cH us=cH (ss.map some++us):=by rw[yv];unfold cH;rw[aB]
  refine .inr (.inr (.inl ⟨l1,D,_,_,rfl,rfl,hl2,hD,bW (bI (by rw[af,cG];lia)),λlf nlf=>?_⟩))
  rw[eo]
  have S3:=S2.new (o:=.lst (cH (ss.map some++us))) nlf
  have B20:iN st H H2:=λb u nb e=>B2 b u nb (s1 b u e)
  have B3:iN st H (aQ H2 lf (.lst (cH (ss.map some++us)))):=B20.new nlf
  have hlf:aQ H2 lf (.lst (cH (ss.map some++us))) lf=some (.lst (cH (ss.map some++us))):=aj
  have nlfst:lf≠st:=λz=>by obtain⟨_,e⟩:=S2.lst;rw[z,e] at nlf;cases nlf
  have Hlf:H lf=none:=by
   cases ee:H lf with
   |none=>rfl
   |some u=>rw[B2 lf u nlfst (s1 lf u ee)] at nlf;cases nlf
  show wL K _ [some (.ref st),some (.int (n:Nat)),some (.ref nd),some (.ref nm),some (.ref lf),none] _
  generalize aQ H2 lf (.lst (cH (ss.map some++us)))=H3 at S3 B3 hlf ⊢
  refine⟨(by show 0<=sizeLine;decide),λfd nfd=>?_⟩
  have S4:=S3.new (o:=.lst []) nfd
  have B4:iN st H (aQ H3 fd (.lst [])):=B3.new nfd
  have hfd:aQ H3 fd (.lst []) fd=some (.lst []):=aj
  have hlf4:aQ H3 fd (.lst []) lf=some (.lst (cH (ss.map some++us))):=by rw[az (aJ hlf nfd)];exact hlf
  have nfdst:fd≠st:=λz=>by obtain⟨_,e⟩:=S3.lst;rw[z,e] at nfd;cases nfd
  have nff:fd≠lf:=λz=>by rw[z,hlf] at nfd;cases nfd
  have Hfd:H fd=none:=by
   cases ee:H fd with
   |none=>rfl
   |some u=>rw[B3 fd u nfdst ee] at nfd;cases nfd
  show wK K _ [some (.ref st),some (.int (n:Nat)),some (.ref nd),some (.ref nm),some (.ref lf),some (.ref fd)] _
  generalize aQ H3 fd (.lst [])=H4 at S4 B4 hfd hlf4 ⊢
  refine⟨λm σ' H'=>∃ls fs,σ'=[some (.ref st),some (.int (n:Nat)),some (.ref nd),some (.ref nm),some (.ref lf),some (.ref fd)]/\NH K H st lf fd ss n (k+us.length) H' m ls fs,⟨_,ss.map some++us,[],rfl,hlf4,hfd,rfl,by rw[ai,af,fS];lia,λz hz=>.inl (aE.mpr (.inl (aC.mpr ⟨z,hz,rfl⟩))),⟨_,S4,ar _⟩,B4⟩,?_⟩
  rintro m σ' H5 ⟨ls,fs,rfl,A⟩
  obtain⟨k',S5,kf⟩:=A.S
  have ll:=A.ll
  have lm:=A.lm
  refine⟨_,rfl,_,_,rfl,.inl ⟨_,cx.of A.hlf,rfl⟩,_,_,rfl,rfl,_,rfl,?_⟩
  rw[cG]
  refine dE (λc=>?_) (λc=>?_)
  ·have c:(0:Int)<(ls.length:Int):=c
   refine⟨λσ' H'=>∃m',m'<m/\∃ls fs,σ'=[some (.ref st),some (.int (n:Nat)),some (.ref nd),some (.ref nm),some (.ref lf),some (.ref fd)]/\NH K H st lf fd ss n (k+us.length) H' m' ls fs,λ_ _ z=>z,?_⟩
   refine⟨_,rfl,.inl ⟨rfl,_,cx.of A.hfd⟩,_,rfl,.inl ⟨rfl,_,cx.of A.hlf⟩,_,rfl,_,rfl,_,_,rfl,.inl ⟨_,cx.of A.hlf,rfl⟩,st,_,k',rfl,S5,by lia,by rw[cG];lia,by rw[cG];lia,λd H6 d0 d1 S6 B6=>?_⟩
   rw[cG] at d1
   have dl:d.toNat<ls.length:=by lia
   have h6:=B6 _ _ nlfst A.hlf
   have g6:=B6 _ _ nfdst A.hfd
   refine⟨lf,_,d,d.toNat,oV (ls[d.toNat]'dl),rfl,rfl,h6,by lia,by lia,?_,pX (aa dl),?_⟩
   ·unfold seqIndex?
    rw[if_neg (show ¬(d<0) by lia),cG]
    simp[d0,d1]
   ·have ke:(cH ls).eraseIdx d.toNat=cH (ls.eraseIdx d.toNat):=BI _ _ _
    rw[ke]
    have S7:=S6.mono (H':=aQ H6 lf (.lst (cH (ls.eraseIdx d.toNat)))) .upd_at h6 (Ne.symm nlfst)
    have g7:aQ H6 lf (.lst (cH (ls.eraseIdx d.toNat))) fd=some (.lst (cH fs)):=by rw[az nff];exact g6
    have h7:aQ H6 lf (.lst (cH (ls.eraseIdx d.toNat))) lf=some (.lst (cH (ls.eraseIdx d.toNat))):=aj
    have T7:iN st H (aQ H6 lf (.lst (cH (ls.eraseIdx d.toNat)))):=λb u nb e=>by rw[az (aJ e Hlf)];exact B6 b u nb (A.B b u nb e)
    generalize aQ H6 lf (.lst (cH (ls.eraseIdx d.toNat)))=H7 at S7 g7 h7 T7 ⊢
    have le:(ls.eraseIdx d.toNat).length=ls.length-1:=by rw[ff,if_pos dl]
    refine⟨fd,_,_,rfl,rfl,g7,bI (by rw[cG];lia),(ls.eraseIdx d.toNat).length,by lia,ls.eraseIdx d.toNat,fs++[ls[d.toNat]'dl],rfl,by rw[az (Ne.symm nff)];exact h7,?_,rfl,by rw[le,ai,aM];lia,λz hz=>?_,⟨k'+1,S7.mono .upd_at g7 (Ne.symm nfdst),by rw[ai,aM];lia⟩,λb u nb e=>by rw[az (aJ e Hfd)];exact T7 b u nb e⟩
    ·rw[aj];unfold cH;rw[aB];rfl
    ·rcases A.has z hz with h|h
     ·by_cases c2:ls[d.toNat]'dl=some z
      ·exact .inr (by rw[c2];simp)
      ·refine .inl ?_
       rw[List.mem_eraseIdx_iff_getElem?]
       obtain⟨i,hi,ei⟩:=aS.mp h
       exact⟨i,λz2=>c2 (by subst z2;exact ei),by rw[aa hi,ei]⟩
     ·exact .inr (aE.mpr (.inl h))
  ·have c:¬(0:Int)<(ls.length:Int):=c
   have l0:ls=[]:=aV.mp (by lia)
   subst l0
   show wJ K _ [some (.ref st),some (.int (n:Nat)),some (.ref nd),some (.ref nm),some (.ref lf),some (.ref fd)] H5
   have ll:0+fs.length=n:=ll
   refine⟨_,rfl,fd,_,rfl,.inl ⟨cx.of A.hfd,λp np=>q p fs k' _ aj (by lia) (λz hz=>?_) (S5.new np) (by lia) (A.B.new np)⟩⟩
   rcases A.has z hz with h|h
   ·cases h
   ·exact h
theorem L4{K:Fg}{H:Hp}{wp:Addr}{xs:List V}{k:Nat}{Q:VK}(hwp:H wp=some (.tup xs))(hk:k<xs.length)(h:∀(p:Addr) (H':Hp),H' p=some (.tup (xs.take k))->aI H H'->Q (.ref p) H') :
  Ey K (.ref wp) none (some (k:Int)) H Q:=by
 refine .inr (.inr ⟨wp,xs,rfl,cz.of hwp,λz=>?_,λp np=>?_⟩)
 ·have:=z.2
  rw[HT.sIx_nat] at this
  lia
 ·rw[pP]
  exact h p _ aj ((aI.refl H).new np)
theorem bj.cutF{α:Type}{R:V->α->Prop}{vs:List V}{rs:List α}(h:bj R vs rs)(c:Nat):bj R (vs.take c++vs.drop (c+1)) (rs.take c++rs.drop (c+1)):=by
 have hl:=h.len
 refine bj.appF ⟨by rw[aP,aP,hl],λi v r a b=>?_⟩ ⟨by rw[cE,cE,hl],λi v r a b=>?_⟩
 ·rw[fY] at a b
  by_cases q:i<c
  ·rw[if_pos q] at a b;exact h.at_ i v r a b
  ·rw[if_neg q] at a;cases a
 ·rw[je] at a b
  exact h.at_ _ v r a b
theorem F3{K:Fg}{D:lM}{n:Nat}{wp lt nm:Addr}{ws:List Wk}{last ys:List Str}{o4 o5:Option V}{H:Hp}(WA:ka H wp lt ws last)(F:CP ys last ws)(hnm:H nm=some (.lst (ys.map V.str)))(ynd:ys.Nodup)
  (q:∀(v:V) (pss:List (List Str)) (H':Hp),Ng H' v (A2 (n:Nat) ws pss (ws.length+1) 0)->lN last ws pss->aI H H'->D.nx [some (.int (n:Nat)),some (.ref wp),some (.ref lt),some (.ref nm),some v,o5] H'):jQ K D [some (.int (n:Nat)),some (.ref wp),some (.ref lt),some (.ref nm),o4,o5] H:=by
 refine⟨_,rfl,_,rfl,_,rfl,_,rfl,_,rfl,wp,lt,nm,ws,last,ys,rfl,WA,F,hnm,ynd,λl tvs pss H1 nl hl hA P s1=>?_⟩
 obtain⟨⟨wv,hw,aw⟩,_⟩:=WA.same s1
 refine⟨(n:Nat),wp,l,wv,tvs,ws,pss,rfl,hw,aw,hl,hA,P.len,F.w100,λss ms=>?_,λv H2 hc s2=>q v pss H2 hc P (s1.trans s2)⟩
 obtain⟨j,hj⟩:=fb ms
 have d64:=F.d64
 exact a7 (jX (P.at_ j ss hj).nd λy hy=>AY F.lst (λw m=>(F.ins w (dv m)).2) (((P.at_ j ss hj).mem y).mp hy)) (by lia)
theorem E1{n:Nat}{last:List Str}{pss:List (List Str)}(P:lN last [] pss)(hl:last.length<=n):Bm n [] pss:=by
 refine⟨λss hs=>?_,λk w y ss h=>by simp at h⟩
 obtain⟨j,hj⟩:=fb hs
 have:=jX (zs:=last) (P.at_ j ss hj).nd λy hy=>by
  have:=((P.at_ j ss hj).mem y).mp hy
  rw[List.drop_nil] at this
  exact of_decide_eq_true this
 lia
theorem EA{K:Fg}{vs:List V}{H:Hp}{Q:VK}{E:XK}(h:pq K vs H Q E):wU K {nx:=λ_ H'=>Q .non H',rt:=Q} (start vM vs) H:=by
 obtain⟨n,wp,lt,nm,ws,last,ys,rfl,WA,F,hnm,ynd,ln,q⟩:=h
 generalize hW0:ws.length=W0 at q
 show jQ K _ [some (.int (n:Nat)),some (.ref wp),some (.ref lt),some (.ref nm),none,none] H
 refine F3 WA F hnm ynd λv pss H1 hc P s1=>?_
 show rR K _ [some (.int (n:Nat)),some (.ref wp),some (.ref lt),some (.ref nm),some v,none] H1
 refine⟨λm σ' H'=>∃wp ws v pss o5,σ'=[some (.int (n:Nat)),some (.ref wp),some (.ref lt),some (.ref nm),some v,o5]/\ws.length=m/\ka H' wp lt ws last/\CP ys last ws/\Ng H' v (A2 (n:Nat) ws pss (ws.length+1) 0)/\lN last ws pss/\ws.length<=W0/\aI H H',⟨_,wp,ws,v,pss,none,rfl,rfl,WA.same s1,F,hc,P,by lia,s1⟩,?_⟩
 rintro m σ' H2 ⟨wp,ws,v,pss,o5,rfl,wm,WA,F,hc,P,wW,s2⟩
 refine⟨_,rfl,rfl,_,rfl,?_⟩
 obtain⟨⟨wvs,hwp,hW⟩,hlt⟩:=id WA
 have wl:=hW.len
 cases hr:A2 (n:Nat) ws pss (ws.length+1) 0 with
 |none=>
  rw[hr] at hc
  have hv:v=.non:=hc
  subst hv
  exact gR ⟨_,rfl,q wp ws pss H2 WA F P ((za P.len).mp hr) wW s2⟩
 |some x=>
  obtain⟨wd,k,ss⟩:=x
  rw[hr] at hc
  obtain⟨p,t,rfl,hp,ht⟩:=hc
  refine rY ?_
  refine⟨_,rfl,_,_,rfl,.inr ⟨_,cz.of hwp,rfl⟩,_,_,rfl,rfl,_,rfl,?_⟩
  refine dE (λc=>?_) (λc=>?_)
  ·have c:(0:Int)<(wvs.length:Int):=c
   refine⟨λσ' H'=>∃m',m'<m/\∃wp ws v pss o5,σ'=[some (.int (n:Nat)),some (.ref wp),some (.ref lt),some (.ref nm),some v,o5]/\ws.length=m'/\ka H' wp lt ws last/\CP ys last ws/\Ng H' v (A2 (n:Nat) ws pss (ws.length+1) 0)/\lN last ws pss/\ws.length<=W0/\aI H H',λ_ _ z=>z,?_⟩
   refine⟨_,rfl,yD hp (by decide) (v:=.int (k:Nat)) rfl ⟨_,rfl,_,_,rfl,.inr ⟨_,cz.of hwp,rfl⟩,_,_,rfl,rfl,_,_,rfl,?_⟩⟩
   obtain⟨j,hj,jl⟩:∃j:Nat,(if(wvs.length:Int)-1<(k:Int) then(wvs.length:Int)-1 else(k:Int))=(j:Int)/\j<wvs.length:=by
    by_cases g:(wvs.length:Int)-1<(k:Int)
    ·exact⟨wvs.length-1,by rw[if_pos g];lia,by lia⟩
    ·exact⟨k,by rw[if_neg g],by lia⟩
   rw[hj]
   show rQ K _ [some (.int (n:Nat)),some (.ref wp),some (.ref lt),some (.ref nm),some (.ref p),some (.int (j:Nat))] H2
   refine⟨_,rfl,_,rfl,_,rfl,L4 hwp jl λp1 H3 hp1 s3=>⟨_,rfl,_,rfl,.inr (.inl ⟨_,_,rfl,rfl,_,rfl,?_⟩)⟩⟩
   rw[show((j:Int)+1)=((j+1:Nat):Int) by lia]
   refine An (s3 _ _ hwp) (by lia) λp2 H4 hp2 s4=>Mr (s4 _ _ hp1) hp2 (bW (bI (by have:=F.w100;rw[aP,cE];lia))) λp3 H5 hp3 s5=>?_
   have s25:=(s3.trans s4).trans s5
   have wl2:(ws.take j++ws.drop (j+1)).length+1=ws.length:=by rw[ai,aP,cE];lia
   have inw:∀w∈ws.take j++ws.drop (j+1),w∈ws:=λw hw=>by
    rcases aE.mp hw with h|h
    ·exact iE h
    ·exact dv h
   have WA2:ka H5 p3 lt (ws.take j++ws.drop (j+1)) last:=⟨⟨_,hp3,(hW.imp λ_ _ z=>z.tp (Tp.of_same s25)).cutF j⟩,s25 _ _ hlt⟩
   have F2:CP ys last (ws.take j++ws.drop (j+1)):=⟨F.d64,by have:=F.w100;lia,F.l100,λw hw=>F.ins w (inw w hw),F.lst⟩
   show jQ K _ [some (.int (n:Nat)),some (.ref p3),some (.ref lt),some (.ref nm),some (.ref p),some (.int (j:Nat))] H5
   refine F3 WA2 F2 (s25 _ _ (s2 _ _ hnm)) ynd λv pss H6 hc P s6=>⟨(ws.take j++ws.drop (j+1)).length,by lia,p3,_,v,pss,_,rfl,rfl,WA2.same s6,F2,hc,P,by lia,(s2.trans s25).trans s6⟩
  ·have c:¬(0:Int)<(wvs.length:Int):=c
   exfalso
   have l0:ws=[]:=aV.mp (by lia)
   subst l0
   rw[(za P.len).mpr (E1 P ln)] at hr
   cases hr
theorem EY{κ:Type}[DecidableEq κ]{kvs:List (κ×V)}{k:κ}(h:∀v,(k,v)∉kvs):cY kvs k=none:=by
 unfold cY
 rw[List.find?_eq_none.mpr λx hx=>?_]
 ·rfl
 ·intro z
  exact h x.2 (by rw[<-of_decide_eq_true z];exact hx)
theorem wZ{κ:Type}[DecidableEq κ]:∀{kvs:List (κ×V)} {k:κ} {v:V},(kvs.map (·.1)).Nodup->(k,v)∈kvs->cY kvs k=some v
 |[],_,_,_,h=>by cases h
 |p::r,k,v,nd,h=>by
  rw[bA,bU] at nd
  by_cases e:p.1=k
  ·rw[fz e]
   rcases aK.mp h with h|h
   ·rw[<-h]
   ·exact absurd (aC.mpr ⟨_,h,rfl⟩) (by rw[e] at nd;exact nd.1)
  ·rw[ft e]
   rcases aK.mp h with h|h
   ·exact absurd (by rw[<-h]) e
   ·exact wZ nd.2 h
theorem Gk{a b:Nat}(h:kI a=kI b):a=b:=by
 unfold kI at h
 injection h with h
 injection h with h
 lia
theorem sC{k:Nat}{t:List (Bt×Nat)}{key:KP}{v:V}(h:(key,v)∈ud k t):∃b m,(b,m)∈t/\key=(kI k,cq b)/\v=.int (m:Nat):=by
 obtain⟨⟨b,m⟩,hp,e⟩:=aC.mp h
 injection e with e1 e2
 exact⟨b,m,hp,e1.symm,e2.symm⟩
theorem CW{ts:List (List (Bt×Nat))}{i:Nat}{key:KP}{v:V}(h:(key,v)∈pJ ts i):∃k t,k<i/\ts[k]?=some t/\(key,v)∈ud k t:=by
 obtain⟨r,hr,hm⟩:=j7.mp h
 obtain⟨k,hk,rfl⟩:=aC.mp hr
 cases e:ts[k]? with
 |none=>rw[e] at hm;cases hm
 |some t=>rw[e] at hm;exact⟨k,t,fg.mp hk,e,hm⟩
theorem Jn{ts:List (List (Bt×Nat))}{k:Nat}{t:List (Bt×Nat)}(e:ts[k]?=some t){b:Bt}{m:Nat}(h:(b,m)∈t):((kI k,cq b),V.int (m:Nat))∈pJ ts ts.length:=by
 refine j7.mpr ⟨ud k t,aC.mpr ⟨k,fg.mpr (ae.mp e).1,by rw[e];rfl⟩,aC.mpr ⟨(b,m),h,rfl⟩⟩
theorem tm(ts:List (List (Bt×Nat))){i:Nat}{t:List (Bt×Nat)}(e:ts[i]?=some t):pJ ts (i+1)=pJ ts i++ud i t:=by
 unfold pJ
 rw[fU,aB,List.flatten_append,List.map_singleton,List.flatten_singleton,e];rfl
theorem LY{k:Nat}{t:List (Bt×Nat)}(nd:(t.map (·.1)).Nodup):((ud k t).map (·.1)).Nodup:=by
 unfold ud
 rw[cQ]
 have e:((λx:KP×V=>x.1) ∘ λp:Bt×Nat=>((kI k,cq p.1),V.int (p.2:Nat)))=λp:Bt×Nat=>(kI k,cq p.1):=rfl
 rw[e]
 refine jA.mpr ((jA.mp nd).imp λ{a b} h z=>?_)
 injection z with _ z
 exact h (kg z)
theorem FG{ts:List (List (Bt×Nat))}(nd:∀t∈ts,(t.map (·.1)).Nodup):∀i,i<=ts.length->((pJ ts i).map (·.1)).Nodup
 |0,_=>cL
 |i+1,hi=>by
  have e:ts[i]?=some (ts[i]'(by lia)):=aa _
  rw[tm ts e,aB]
  refine cK.mpr ⟨FG nd i (by lia),LY (nd _ (aA e)),λx hx y hy z=>?_⟩
  obtain⟨⟨x,v⟩,hx2,rfl⟩:=aC.mp hx
  obtain⟨⟨y,u⟩,hy2,rfl⟩:=aC.mp hy
  obtain⟨k,t,hk,_,hm⟩:=CW hx2
  obtain⟨b,m,_,e1,_⟩:=sC hm
  obtain⟨b',m',_,e2,_⟩:=sC hy2
  have z:x=y:=z
  rw[e1,e2] at z
  injection z with z _
  have:=Gk z
  lia
theorem CV{ts:List (List (Bt×Nat))}(few:∀t∈ts,t.length<=7776):∀i,i<=ts.length->(pJ ts i).length<=7776*i
 |0,_=>ar _
 |i+1,hi=>by
  have e:ts[i]?=some (ts[i]'(by lia)):=aa _
  rw[tm ts e,ai]
  have h1:=CV few i (by lia)
  have h2:=few _ (aA e)
  unfold ud
  rw[af]
  lia
theorem ya{K:Fg}{vs:List V}{H:Hp}{Q:VK}{E:XK}(h:j5 K vs H Q E):qh K {nx:=λ_ H'=>Q .non H',rt:=Q} (start pH vs) H:=by
 obtain⟨l,tvs,ts,rfl,hl,hT,t11,tok,q⟩:=h
 have tl:=hT.len
 intro D nD
 have s1:aI H (aQ H D (.dP [])):=(aI.refl H).new nD
 have hD1:aQ H D (.dP []) D=some (.dP (pJ ts 0)):=aj
 show mI K _ [some (.ref l),some (.ref D),none,none,none,none] (aQ H D (.dP []))
 generalize aQ H D (.dP [])=H1 at s1 hD1 ⊢
 refine⟨_,rfl,l,rfl,⟨_,cx.of (s1 _ _ hl)⟩,F6 (xs:=tvs) (λi σ' H'=>∃o2 o3 o4 o5,σ'=[some (.ref l),some (.ref D),o2,o3,o4,o5]/\H' D=some (.dP (pJ ts i))/\aI H H') ⟨none,none,none,none,rfl,hD1,s1⟩ ?_ ?_ ?_⟩
 ·rintro i σ' H' _ ⟨_,_,_,_,_,_,s⟩;exact cx.of (s _ _ hl)
 ·rintro i tv σ' H2 p htv np ⟨o2,o3,o4,o5,rfl,hD,s2⟩
  obtain⟨t,et,S,rfl,hS⟩:=hT.of_v htv
  have hS:H S=some (.dT (cI t)):=hS
  have il:i<ts.length:=(ae.mp et).1
  obtain⟨tnd,tfew⟩:=tok t (aA et)
  have SD:S≠D:=aJ hS nD
  refine⟨p,_,rfl,cz.of aj,rfl,_,_,rfl,_,_,rfl,rfl,?_⟩
  have s3:aI H2 (aQ H2 p (.tup [.int (i:Nat),.ref S])):=(aI.refl H2).new np
  show mH K _ [some (.ref l),some (.ref D),some (.int (i:Nat)),some (.ref S),o4,o5] _
  generalize aQ H2 p (.tup [.int (i:Nat),.ref S])=H3 at s3 ⊢
  have s23:=s2.trans s3
  have fw:=CV (λt ht=>(tok t ht).2) i (by lia)
  refine⟨_,rfl,S,_,rfl,s23 _ _ hS,λob=>?_⟩
  refine oO (λj σ' H'=>∃o4 o5,σ'=[some (.ref l),some (.ref D),some (.int (i:Nat)),some (.ref S),o4,o5]/\H' D=some (.dP (pJ ts i++ud i (t.take j)))/\aI (aQ H S (.frz ob (.dT (cI t)))) H') ?_ ?_ ?_ ?_
  ·refine⟨o4,o5,rfl,?_,λb u hb=>?_⟩
   ·rw[az (Ne.symm SD),eM]
    show H3 D=some (.dP (pJ ts i++[]))
    rw[dZ];exact s3 _ _ hD
   ·by_cases c:b=S
    ·rw[c,aj] at hb ⊢;exact hb
    ·rw[az c] at hb ⊢;exact s23 _ _ hb
  ·rintro j σ' H' _ ⟨_,_,_,_,s⟩;exact s _ _ aj
  ·rintro j k u pb p σ' H4 hk hpb np ⟨o4,o5,rfl,hD4,s4⟩
   obtain⟨⟨b,m⟩,hbm,e⟩:∃x,t[j]?=some x/\(cq x.1,V.int (x.2:Nat))=(k,u):=by
    unfold cI at hk
    rw[aG] at hk
    cases e:t[j]? with
    |none=>rw[e] at hk;cases hk
    |some x=>rw[e] at hk;exact⟨x,rfl,Option.some.inj hk⟩
   cases e
   have jl:j<t.length:=(ae.mp hbm).1
   refine⟨p,_,rfl,cz.of aj,rfl,_,_,rfl,_,_,rfl,rfl,?_⟩
   have s5:aI H4 (aQ H4 p (.tup [.ref pb,.int (m:Nat)])):=(aI.refl H4).new np
   show mG K _ [some (.ref l),some (.ref D),some (.int (i:Nat)),some (.ref S),some (.ref pb),some (.int (m:Nat))] _
   generalize aQ H4 p (.tup [.ref pb,.int (m:Nat)])=H5 at s5 ⊢
   refine⟨_,rfl,_,rfl,_,rfl,_,rfl,(by show 2<=sizeLine;decide),λpp npp=>?_⟩
   have s6:aI H5 (aQ H5 pp (.tup [.int (i:Nat),.ref pb])):=(aI.refl H5).new npp
   have hpp:aQ H5 pp (.tup [.int (i:Nat),.ref pb]) pp=some (.tup [.int (i:Nat),.ref pb]):=aj
   generalize aQ H5 pp (.tup [.int (i:Nat),.ref pb])=H6 at s6 hpp ⊢
   have s46:=s5.trans s6
   have hD6:=s46 _ _ hD4
   refine⟨D,_,rfl,⟨_,(kI i,cq b),pp,hD6,rfl,⟨pb,hpp,s46 _ _ hpb⟩,?_,rfl⟩,_,_,rfl,?_,λc u hc=>?_⟩
   ·refine bI ?_
    unfold ud
    rw[ai,af,aP];lia
   ·rw[aj,mr _ (EY λv hv=>?_),d5,gq hbm]
    ·unfold ud;rw[aB];rfl
    ·rcases aE.mp hv with hv|hv
     ·obtain⟨k,t',hk,_,hm⟩:=CW hv
      obtain⟨_,_,_,e1,_⟩:=sC hm
      injection e1 with e1 _
      have:=Gk e1
      lia
     ·obtain⟨b',m',hb',e1,_⟩:=sC hv
      injection e1 with _ e1
      have e1:=kg e1
      subst e1
      obtain⟨c,hc,ec⟩:=aS.mp hb'
      rw[aP] at hc
      rw[jx] at ec
      have a1:(t.map (·.1))[c]?=some b:=by rw[aG,aa (show c<t.length by lia),ec];rfl
      have a2:(t.map (·.1))[j]?=some b:=by rw[aG,hbm];rfl
      have:=(c5 (by rw[af];lia) tnd).mp (a1.trans a2.symm)
      lia
   ·have cD:c≠D:=λz=>by
     rw[z,az (Ne.symm SD),nD] at hc;cases hc
    rw[az cD]
    exact s46 _ _ (s4 _ _ hc)
  ·rintro σ' H4 ⟨o4,o5,rfl,hD4,s4⟩
   rw[show(cI t).length=t.length from af ..,a8,<-tm ts et] at hD4
   refine .inr ⟨S,cI t,cI t,ob,s23 _ _ hS,s4 _ _ aj,?_⟩
   refine⟨_,_,_,_,rfl,?_,i9 hS s4⟩
   rw[az (Ne.symm SD)];exact hD4
 ·rintro σ' H2 ⟨o2,o3,o4,o5,rfl,hD,s2⟩
  rw[tl] at hD
  exact⟨_,rfl,q D H2 nD hD s2⟩
theorem Ae{K:Fg}{vs:List V}{H:Hp}{Q:VK}{E:XK}(h:kW K vs H Q E):rO K {nx:=λ_ H'=>Q .non H',rt:=Q} (start rj vs) H:=by
 obtain⟨bp,wp,lt,n,b0,ws,last,dd,rfl,src,n1,n5,w10,wks,fw,dims,q⟩:=h
 have ne:b0≠[]:=λz=>by have:=src.len;rw[z] at this;have:(0:Nat)=n:=this;lia
 refine⟨_,rfl,_,rfl,_,rfl,_,rfl,bp,b0,rfl,src.bp,ne,by rw[src.len];exact n5,λop H1 hop s1=>?_⟩
 rw[src.len] at hop
 refine⟨bp,wp,lt,op,n,b0,aU n none,ws,last,dd,rfl,⟨s1 _ _ src.bp,src.len,?_,src.few⟩,?_,fw,hop,by simp,dims,λl tvs pss kss ts H2 hl hT P tb s2=>?_⟩
 ·obtain⟨wvs,a,b⟩:=src.wks
  exact⟨wvs,s1 _ _ a,b.imp λ_ _ z=>z.tp (Tp.of_same s1)⟩
 ·obtain⟨⟨wvs,a,b⟩,c⟩:=wks
  exact⟨⟨wvs,s1 _ _ a,b.imp λ_ _ z=>z.tp (Tp.of_same s1)⟩,s1 _ _ c⟩
 ·have tl:=tb.len
  refine⟨l,tvs,ts,rfl,hl,hT,by lia,λt ht=>?_,λD H3 nD hD s3=>q D pss kss ts H3 ((s1.trans s2).free nD) hD P tb ((s1.trans s2).trans s3)⟩
  obtain⟨k,hk⟩:=e7.mp ht
  obtain⟨nd,sub⟩:=tb.nd P.len hk
  refine⟨nd,?_⟩
  have kk:=(ae.mp hk).1
  have cl:=tb.cm.len
  have hks:kss[k]?=some (kss[k]'(by lia)):=aa _
  obtain⟨_,_,_,tk⟩:=tb.cm.turn P.len hks
  have:=jX nd (zs:=kss[k]'(by lia)) λx hx=>by
   obtain⟨⟨b,m⟩,hb,rfl⟩:=aC.mp hx
   exact sub _ hks b m hb
  rw[af] at this
  exact a7 this tk.few
theorem tE(os:Bt){k:Nat}{o:Option Str}(h:os[k]?=some o):pG os k↔o∉os.take k:=by
 have kl:=(ae.mp h).1
 constructor
 ·intro f hm
  obtain⟨j,hj,e⟩:=aS.mp hm
  rw[aP] at hj
  rw[jx] at e
  exact f j (by lia) (by rw[h,aa (by lia),e])
 ·intro hn j hj e
  rw[h] at e
  have:(os.take k)[j]?=some o:=by rw[fY,if_pos hj];exact e
  exact hn (aA this)
theorem LW{K:Fg}{vs:List V}{H:Hp}{Q:VK}{E:XK}(h:sE K vs H Q E):Ib K {nx:=λ_ H'=>Q .non H',rt:=Q} (start Fp vs) H:=by
 obtain⟨b,n,os,ns,rfl,hb,hn,l1000,q⟩:=h
 refine⟨(by show 0<=sizeLine;decide),λF nF=>?_⟩
 have s1:aI H (aQ H F (.lst [])):=(aI.refl H).new nF
 have hF1:aQ H F (.lst []) F=some (.lst (cH ((bR os ns).take 0))):=aj
 show AR K _ [some (.ref b),some (.ref n),some (.ref F),none,none] _
 generalize aQ H F (.lst [])=H1 at s1 hF1 ⊢
 refine⟨_,rfl,b,rfl,⟨_,cz.of (s1 _ _ hb)⟩,mQ (xs:=cH os) (λi σ' H'=>∃o3 o4,σ'=[some (.ref b),some (.ref n),some (.ref F),o3,o4]/\H' F=some (.lst (cH ((bR os ns).take i)))/\aI H H') ⟨none,none,rfl,hF1,s1⟩ ?_ ?_ ?_⟩
 ·rintro i σ' H' _ ⟨_,_,_,_,s⟩;exact cz.of (s _ _ hb)
 ·rintro i v σ' H2 p hv np ⟨o3,o4,rfl,hF,s2⟩
  obtain⟨o,ho,rfl⟩:=oS hv
  have il:i<os.length:=(ae.mp ho).1
  obtain⟨w,hw,pk⟩:=sD (ns:=ns) ho
  have sl:=eD os ns
  refine⟨p,_,rfl,cz.of aj,rfl,_,_,rfl,_,_,rfl,rfl,?_⟩
  have s3:aI H2 (aQ H2 p (.tup [.int (i:Nat),oV o])):=(aI.refl H2).new np
  show AQ K _ [some (.ref b),some (.ref n),some (.ref F),some (.int (i:Nat)),some (oV o)] _
  generalize aQ H2 p (.tup [.int (i:Nat),oV o])=H3 at s3 ⊢
  refine⟨_,rfl,.inl ⟨rfl,_,cx.of (s3 _ _ hF)⟩,_,rfl,(by show 2<=sizeLine;decide),λlc nlc=>?_⟩
  have s4:aI H3 (aQ H3 lc (.lst [.non,oV o])):=(aI.refl H3).new nlc
  have hlc:aQ H3 lc (.lst [.non,oV o]) lc=some (.lst [.non,oV o]):=aj
  generalize aQ H3 lc (.lst [.non,oV o])=H4 at s4 hlc ⊢
  have s24:=(s2.trans s3).trans s4
  have fin:∀(H5:Hp),aI H4 H5->∃l xs y,V.ref F=.ref l/\[oV w]=[y]/\H5 l=some (.lst xs)/\xs.length<sizeLine/\∃o3' o4',[some (V.ref b),some (.ref n),some (.ref F),some (.int (i:Nat)),some (oV o)]=[some (.ref b),some (.ref n),some (.ref F),o3',o4']/\aQ H5 l (.lst (xs++[y])) F=some (.lst (cH ((bR os ns).take (i+1))))/\aI H (aQ H5 l (.lst (xs++[y]))):=λH5 s5=>by
   refine⟨F,_,_,rfl,rfl,s5 _ _ (s4 _ _ (s3 _ _ hF)),bI (by rw[cG,aP];lia),_,_,rfl,?_,dD (s24.trans s5) nF⟩
   rw[aj,gq hw];unfold cH;rw[aB];rfl
  have hn4:=s24 _ _ hn
  have hb4:=s24 _ _ hb
  have no:(∀H5,aI H4 H5->w=none->e8 K (.ref lc) (.int 0) H5 λx H'=>∃l xs y,V.ref F=.ref l/\[x]=[y]/\H' l=some (.lst xs)/\xs.length<sizeLine/\∃o3' o4',[some (V.ref b),some (.ref n),some (.ref F),some (.int (i:Nat)),some (oV o)]=[some (.ref b),some (.ref n),some (.ref F),o3',o4']/\aQ H' l (.lst (xs++[y])) F=some (.lst (cH ((bR os ns).take (i+1))))/\aI H (aQ H' l (.lst (xs++[y])))):=λH5 s5 e=>mj (v:=.non) (cx.of (s5 _ _ hlc)) (by decide) rfl (by have:=fin H5 s5;rw[e] at this;exact this)
  have yes:(∀H5,aI H4 H5->w=o->e8 K (.ref lc) (.int 1) H5 λx H'=>∃l xs y,V.ref F=.ref l/\[x]=[y]/\H' l=some (.lst xs)/\xs.length<sizeLine/\∃o3' o4',[some (V.ref b),some (.ref n),some (.ref F),some (.int (i:Nat)),some (oV o)]=[some (.ref b),some (.ref n),some (.ref F),o3',o4']/\aQ H' l (.lst (xs++[y])) F=some (.lst (cH ((bR os ns).take (i+1))))/\aI H (aQ H' l (.lst (xs++[y])))):=λH5 s5 e=>mj (v:=oV o) (cx.of (s5 _ _ hlc)) (by decide) rfl (by have:=fin H5 s5;rw[e] at this;exact this)
  refine⟨_,rfl,_,rfl,n,_,rfl,.inr (cz.of hn4),by cases o<;>rfl,by rw[yv];exact mq _,?_⟩
  rw[show(if false=true then !xM (oV o) (ns.map V.str) else xM (oV o) (ns.map V.str))=decide (o∈ns.map some) by rw[yv];exact C9 o _]
  refine⟨_,rfl,dE (λc=>?_) (λc=>?_)⟩
  ·refine⟨_,rfl,_,rfl,_,rfl,_,rfl,.inr ⟨b,_,rfl,cz.of hb4,?_,λpc npc=>?_⟩⟩
   ·rintro⟨_,z⟩
    rw[HT.sIx_nat,cG] at z
    lia
   ·rw[pP]
    have s5:aI H4 (aQ H4 pc (.tup ((cH os).take i))):=(aI.refl H4).new npc
    have hpc:aQ H4 pc (.tup ((cH os).take i)) pc=some (.tup (cH (os.take i))):=by rw[aj];unfold cH;rw[jR]
    generalize aQ H4 pc (.tup ((cH os).take i))=H5 at s5 hpc ⊢
    refine⟨pc,_,rfl,.inr (cz.of hpc),by cases o<;>rfl,mq _,?_⟩
    rw[show(if true=true then !xM (oV o) (cH (os.take i)) else xM (oV o) (cH (os.take i)))=!decide (o∈os.take i) by rw[C9];rfl]
    refine .inr ⟨_,rfl,?_⟩
    by_cases d:o∈os.take i
    ·rw[decide_eq_true d]
     exact no H5 s5 (pk.2 λz=>(tE os ho).mp z.2 d)
    ·rw[decide_eq_false d]
     exact yes H5 s5 (pk.1 ⟨c,(tE os ho).mpr d⟩)
  ·exact .inr ⟨_,rfl,no H4 (aI.refl H4) (pk.2 λz=>c z.1)⟩
 ·rintro σ' H2 ⟨o3,o4,rfl,hF,s2⟩
  rw[cG,<-eD os ns,a8] at hF
  exact⟨_,rfl,F,_,rfl,.inl ⟨cx.of hF,λp np=>q p _ aj (s2.new np)⟩⟩
theorem FF{K:Fg}{te:TE}{s0 s1 s2 s3 s5 s6:Option V}{pb tn:Addr}{b:Bt}{ss:List Str}{H:Hp}{Q:Bool->Hp->Prop}(hte:∀R:VK,R (.ref tn) H->te [s0,s1,s2,s3,some (.ref pb),s5,s6] H R)(hb:H pb=some (.tup (cH b)))(hn:H tn=some (.tup (ss.map V.str)))(few:ss.length<=1000)(has:∀z∈ss,some z∈b)(q:∀H',aI H H'->Q true H') :
  tB (eW (G2 K) (ak (dW [] 1 (iQ K te) (aR 7) jt (bO ((B9 K false)) (av 7) (av 4))) aO)) [s0,s1,s2,s3,some (.ref pb),s5,s6] H Q:=by
 refine .inr (hte _ ⟨tn,rfl,⟨_,cz.of hn⟩,λD nD=>?_⟩)
 refine jh (xs:=ss.map V.str) (λi σ' H'=>∃o,σ'=[s0,s1,s2,s3,some (.ref pb),s5,s6,o]/\H' D=some (.lst ((aU i true).map V.bl))/\aI H H') ⟨none,rfl,aj,(aI.refl H).new nD⟩ ?_ ?_ ?_
 ·rintro i σ' H' _ ⟨_,_,_,s⟩;exact cz.of (s _ _ hn)
 ·rintro i v σ' H1 hv ⟨o,rfl,hD,s⟩
  obtain⟨y,hy,rfl⟩:=Ar hv
  have il:i<ss.length:=(ae.mp hy).1
  refine fG ⟨_,rfl,_,rfl,pb,_,rfl,.inr (cz.of (s _ _ hb)),rfl,mq b,?_⟩
  rw[show(if false=true then !xM (V.str y) (cH b) else xM (V.str y) (cH b))=decide (some y∈b) from Gh y b,decide_eq_true (has y (aA hy))]
  refine⟨_,hD,bI (by rw[af,gX];lia),_,rfl,?_,dD s nD⟩
  rw[aj,List.replicate_succ',aB];rfl
 ·rintro σ' H1 ⟨o,_,hD,s⟩
  refine⟨D,_,rfl,cx.of hD,_,rfl,?_⟩
  have:(aU (ss.map V.str).length true).all id=true:=by simp
  rw[this]
  exact q H1 s
theorem GA:∀{ps:List Nat} {B:Bt} {j p:Nat},MG B ps->ps[j]?=some p->∃x,(f9 B (ps.take j))[p]?=some (some x)
 |[],B,j,p,_,h=>by simp at h
 |a::r,B,0,p,ok,h=>by cases h;exact ok.1
 |a::r,B,j+1,p,ok,h=>GA (ps:=r) (B:=zK B a) ok.2 h
theorem EF(B:Bt)(ps:List Nat)(p:Nat):f9 B (ps++[p])=zK (f9 B ps) p:=by unfold f9;rw[gy];rfl
theorem LS{K:Fg}{vs:List V}{H:Hp}{Q:VK}{E:XK}(h:yp K vs H Q E):HP K {nx:=λ_ H'=>Q .non H',rt:=Q} (start xk vs) H:=by
 obtain⟨bp,wp,pt,gp,lt,B,ws,last,dd,pvs,gvs,pss,gs,rfl,hB,ne,l10,WA,F,hpt,hP,P,hg,hG,dn,sn,q⟩:=h
 have pl:=P.len
 obtain⟨⟨wvs,hwp,hW⟩,hlt⟩:=id WA
 have wl:=hW.len
 have gl:=hG.len
 have dl:=dn.len
 have w100:=F.w100
 refine⟨_,rfl,?_⟩
 show AC K _ [some (.ref bp),some (.ref wp),some (.ref pt),some (.ref gp),some (.ref bp),none,none] H
 refine⟨_,rfl,_,_,rfl,.inr ⟨_,cz.of hwp,rfl⟩,.inl ⟨_,_,rfl,rfl,_,rfl,by lia,by lia,ig (n:=((wvs.length:Int)+1).toNat) (λi σ' H'=>∃pb o5 o6,σ'=[some (.ref bp),some (.ref wp),some (.ref pt),some (.ref gp),some (.ref pb),o5,o6]/\H' pb=some (.tup (cH (rb B ws gs i)))/\aI H H') ⟨bp,none,none,rfl,hB,aI.refl H⟩ ?_ ?_⟩⟩
 ·rintro i σ' H1 hi ⟨pb,o5,o6,rfl,hpb,s1⟩
  have hi:i<ws.length+1:=by have:i<((wvs.length:Int)+1).toNat:=hi;lia
  have i0:((0:Int)+(i:Nat)).toNat=i:=by lia
  obtain⟨_,ps,eg,eg',pg,rfl,hpg⟩:=hG.get (i:=i) (by lia)
  have ok:=dn.ok i ps eg'
  have rl:=Ck (ws:=ws) (gs:=gs) ne i
  have ne':rb B ws gs i≠[]:=λz=>by rw[z] at rl;exact ne (aV.mp rl.symm)
  show AB K _ [some (.ref bp),some (.ref wp),some (.ref pt),some (.ref gp),some (.ref pb),some (.int ((0:Int)+(i:Nat))),o6] H1
  refine .inr ⟨_,rfl,_,rfl,yD (s1 _ _ hg) (by lia) (v:=.ref pg) (by rw[i0];exact eg) ⟨pg,rfl,⟨_,cz.of (s1 _ _ hpg)⟩,mR (xs:=ps.map λi=>V.int (i:Nat)) (λj σ' H'=>∃pb o6,σ'=[some (.ref bp),some (.ref wp),some (.ref pt),some (.ref gp),some (.ref pb),some (.int ((0:Int)+(i:Nat))),o6]/\H' pb=some (.tup (cH (f9 (rb B ws gs i) (ps.take j))))/\aI H H') ⟨pb,o6,rfl,hpb,s1⟩ ?_ ?_ ?_⟩⟩
  ·rintro j σ' H' _ ⟨_,_,_,_,s⟩;exact cz.of (s _ _ hpg)
  ·rintro j v σ' H2 hv ⟨pb,o6,rfl,hpb,s2⟩
   rw[aG] at hv
   obtain⟨p,ep,rfl⟩:=eT.mp hv
   obtain⟨x,hx⟩:=GA ok ep
   have hxv:=pX hx
   have ln:(f9 (rb B ws gs i) (ps.take j)).length=B.length:=(p8 ne').trans rl
   have ne2:f9 (rb B ws gs i) (ps.take j)≠[]:=λz=>by rw[z] at ln;exact ne (aV.mp ln.symm)
   have pt':((p:Nat):Int).toNat=p:=aY p
   show AA K _ [some (.ref bp),some (.ref wp),some (.ref pt),some (.ref gp),some (.ref pb),some (.int ((0:Int)+(i:Nat))),some (.int (p:Nat))] H2
   obtain⟨_,ss,es,es',np,rfl,hnp⟩:=hP.get (i:=i) (by lia)
   obtain⟨xs,hxs⟩:=sn i ps ss eg' es' j p ep
   refine⟨_,rfl,_,rfl,_,rfl,mj (v:=.ref np) (cx.of (s2 _ _ hpt)) (by lia) (by rw[i0];exact es) ⟨pb,np,_,ss,rfl,hpb,s2 _ _ hnp,by lia,λpv Hv hpv sv=>⟨_,rfl,yD hpv (b9 _) (v:=oV (some xs)) (by rw[pt'];exact pX hxs) ⟨rfl,_,rfl,gR ?_⟩⟩⟩⟩
   have hpb:=sv _ _ hpb
   have s2:=s2.trans sv
   show Az K _ [some (.ref bp),some (.ref wp),some (.ref pt),some (.ref gp),some (.ref pb),some (.int ((0:Int)+(i:Nat))),some (.int (p:Nat))] Hv
   refine⟨_,rfl,_,rfl,yD hpb (b9 _) (v:=oV (some x)) (by rw[pt'];exact hxv) ⟨(by show 1<=sizeLine;decide),λt nt=>?_⟩⟩
   have s3:aI Hv (aQ Hv t (.tup [oV (some x)])):=(aI.refl Hv).new nt
   have ht:aQ Hv t (.tup [oV (some x)]) t=some (.tup [oV (some x)]):=aj
   generalize aQ Hv t (.tup [oV (some x)])=H3 at s3 ht ⊢
   refine⟨_,rfl,1,rfl,_,rfl,Ms (s3 _ _ hpb) (Gz ne2) λc nc=>?_⟩
   have s4:aI H3 (aQ H3 c (.tup (cH (f9 (rb B ws gs i) (ps.take j))).dropLast)):=(aI.refl H3).new nc
   refine Mq (s4 _ _ ht) aj (by rw[pW,cG,fc];lia) λr H' hr s5=>⟨r,_,rfl,?_,((s2.trans s3).trans s4).trans s5⟩
   rw[hr,pW,gq ep,EF]
   unfold zK
   rw[hx];rfl
  ·rintro σ' H2 ⟨pb,o6,rfl,hpb,s2⟩
   rw[af,a8] at hpb
   have ln:(f9 (rb B ws gs i) ps).length=B.length:=(p8 ne').trans rl
   have ne2:f9 (rb B ws gs i) ps≠[]:=λz=>by rw[z] at ln;exact ne (aV.mp ln.symm)
   have er:rb B ws gs (i+1)=Iv (f9 (rb B ws gs i) ps) ((ws[i]?).bind (·.out)):=by
    show Iv (f9 _ ((gs[i]?).getD [])) _=_
    rw[eg'];rfl
   show Ay K _ [some (.ref bp),some (.ref wp),some (.ref pt),some (.ref gp),some (.ref pb),some (.int ((0:Int)+(i:Nat))),o6] H2
   refine⟨_,rfl,_,rfl,_,_,rfl,.inr ⟨_,cz.of (s2 _ _ hwp),rfl⟩,_,_,rfl,rfl,_,rfl,dE (λc=>?_) (λc=>?_)⟩
   ·have c:(0:Int)+(i:Nat)<(wvs.length:Int):=c
    have il:i<ws.length:=by lia
    obtain⟨_,w,ew,ew',wa,wt,rfl,hwa,hwt⟩:=hW.get il
    obtain⟨i100,_⟩:=F.ins w (aA ew')
    refine FF (K:=K) (b:=f9 (rb B ws gs i) ps) (ss:=w.ins) (tn:=wt) (λR hR=>⟨_,rfl,_,rfl,yD (s2 _ _ hwp) (by lia) (v:=.ref wa) (by rw[i0];exact ew) (yD (s2 _ _ hwa) (by decide) (v:=.ref wt) rfl hR)⟩) hpb (s2 _ _ hwt) (by lia) (dn.ins i ps w eg' ew') λH3 s3=>gR ?_
    show Ax K _ [some (.ref bp),some (.ref wp),some (.ref pt),some (.ref gp),some (.ref pb),some (.int ((0:Int)+(i:Nat))),o6] H3
    have s23:=s2.trans s3
    refine⟨_,rfl,_,rfl,_,rfl,yD (s23 _ _ hwp) (by lia) (v:=.ref wa) (by rw[i0];exact ew) (yD (s23 _ _ hwa) (by decide) (v:=i7 w.out) rfl ⟨pb,f9 (rb B ws gs i) ps,w.out,rfl,s3 _ _ hpb,ne2,by lia,λr H4 hr s4=>⟨r,_,_,rfl,?_,s23.trans s4⟩⟩)⟩
    rw[er,ew'];exact hr
   ·have c:¬(0:Int)+(i:Nat)<(wvs.length:Int):=c
    have il:i=ws.length:=by lia
    refine⟨pb,_,_,rfl,?_,s2⟩
    rw[er,il,aZ (ar _),<-il];exact hpb
 ·rintro σ' H1 ⟨pb,o5,o6,rfl,hpb,s1⟩
  rw[show((wvs.length:Int)+1).toNat=ws.length+1 by lia] at hpb
  obtain⟨_,ps,eg,eg',pg,rfl,hpg⟩:=hG.get (i:=ws.length) (by lia)
  have er:rb B ws gs (ws.length+1)=f9 (rb B ws gs ws.length) ps:=by
   show Iv (f9 _ ((gs[ws.length]?).getD [])) ((ws[ws.length]?).bind (·.out))=_
   rw[eg',aZ (ar _)];rfl
  rw[er] at hpb
  obtain⟨_,ss,es,es',np,rfl,hnp⟩:=hP.get (i:=ws.length) (by lia)
  have pvl:pvs.length=ws.length+1:=by rw[hP.len];exact pl
  have d64:=F.d64
  have sfew:ss.length<=1000:=a7 (jX (P.at_ _ ss es').nd λy hy=>AY F.lst (λw m=>(F.ins w (dv m)).2) (((P.at_ _ ss es').mem y).mp hy)) (by lia)
  show Aw K _ [some (.ref bp),some (.ref wp),some (.ref pt),some (.ref gp),some (.ref pb),o5,o6] H1
  refine FF (K:=K) (b:=f9 (rb B ws gs ws.length) ps) (ss:=ss) (tn:=np) (λR hR=>⟨_,rfl,1,rfl,rm (v:=.ref np) (s1 _ _ hpt) (by rw[pvl,cT];exact es) hR⟩) hpb (s1 _ _ hnp) sfew (λz hz=>dn.fin ps eg' z ((P.fin es' z).mp hz)) λH3 s3=>gR ?_
  exact⟨_,rfl,q pb H3 (by rw[er];exact s3 _ _ hpb) (s1.trans s3)⟩
theorem vq{K:Fg}{vs:List V}{H:Hp}{Q:VK}{E:XK}(h:jr K vs H Q E):nV K {nx:=λ_ H'=>Q .non H',rt:=Q} (start nB vs) H:=by
 obtain⟨gp,gvs,gs,m,n,rfl,hg,hG,gl,gok,q⟩:=h
 have vl:=hG.len
 refine⟨_,rfl,.ref gp,"tuple",true,rfl,.tup_tuple (cz.of hg),_,rfl,gR ?_⟩
 refine⟨_,rfl,_,_,rfl,.inr ⟨_,cz.of hg,rfl⟩,_,rfl,.inl ⟨_,_,rfl,rfl,.inl ⟨rfl,_,rfl,?_⟩⟩⟩
 rw[decide_eq_true (show V.int (gvs.length:Nat)=V.int ((m:Int)+1) by rw[vl,gl];rfl)]
 refine gR ?_
 show lx K _ [some (.ref gp),some (.int (m:Nat)),some (.int (n:Nat)),none,none] H
 refine .inr ⟨_,rfl,gp,rfl,⟨_,cz.of hg⟩,mR (xs:=gvs) (λi σ' H'=>∃o3 o4,σ'=[some (.ref gp),some (.int (m:Nat)),some (.int (n:Nat)),o3,o4]/\aI H H') ⟨none,none,rfl,aI.refl H⟩ ?_ ?_ ?_⟩
 ·rintro i σ' H' _ ⟨_,_,_,s⟩;exact cz.of (s _ _ hg)
 ·rintro i v σ' H1 hv ⟨o3,o4,rfl,s1⟩
  obtain⟨ps,eps,p,rfl,hp⟩:=hG.of_v hv
  show lu K _ [some (.ref gp),some (.int (m:Nat)),some (.int (n:Nat)),some (.ref p),o4] H1
  refine⟨_,rfl,.ref p,"tuple",true,rfl,.tup_tuple (cz.of (s1 _ _ hp)),_,rfl,gR ?_⟩
  show lq K _ [some (.ref gp),some (.int (m:Nat)),some (.int (n:Nat)),some (.ref p),o4] H1
  refine .inr ⟨_,rfl,p,rfl,⟨_,cz.of (s1 _ _ hp)⟩,mR (xs:=ps.map λi=>V.int (i:Nat)) (λj σ' H'=>∃o4,σ'=[some (.ref gp),some (.int (m:Nat)),some (.int (n:Nat)),some (.ref p),o4]/\aI H H') ⟨o4,rfl,s1⟩ ?_ ?_ ?_⟩
  ·rintro j σ' H' _ ⟨_,_,s⟩;exact cz.of (s _ _ hp)
  ·rintro j v σ' H2 hv ⟨o4,rfl,s2⟩
   rw[aG] at hv
   obtain⟨z,ez,rfl⟩:=eT.mp hv
   have zl:=gok ps (aA eps) z (aA ez)
   show lp K _ [some (.ref gp),some (.int (m:Nat)),some (.int (n:Nat)),some (.ref p),some (.int (z:Nat))] H2
   refine⟨_,rfl,.int (z:Nat),"int",true,rfl,.int_int _,_,rfl,gR ?_⟩
   refine⟨_,rfl,.int (z:Nat),"bool",false,rfl,.int_bool _,_,rfl,gR ?_⟩
   refine⟨_,rfl,_,_,rfl,rfl,_,rfl,dE (λc=>?_) (λc=>?_)⟩
   ·refine⟨_,rfl,_,_,rfl,rfl,_,rfl,?_⟩
    show(if(!decide (((z:Nat):Int)<((n:Nat):Int)))=true then _ else _)
    rw[decide_eq_true (show((z:Nat):Int)<((n:Nat):Int) by lia)]
    exact gR ⟨_,rfl,s2⟩
   ·have c:¬(0:Int)<=((z:Nat):Int):=c
    exact absurd (b9 z) c
  ·rintro σ' H2 ⟨o4,rfl,s2⟩
   exact⟨_,_,rfl,s2⟩
 ·rintro σ' H1 ⟨o3,o4,rfl,s1⟩
  exact q H1 s1
theorem Ap{n:Nat}:∀{ps:List Nat} {b:Bt},b.length=n->eL b ps->∀p∈ps,p<n
 |[],_,_,_,p,h=>by cases h
 |a::r,b,hb,ok,p,h=>by
  rcases aK.mp h with rfl|h
  ·obtain⟨x,hx⟩:=iI ok.1
   have:=(ae.mp hx).1
   lia
  ·exact Ap (ps:=r) (b:=lb b a) ((Dh b a).trans hb) ok.2 p h
theorem rV.lt{n:Nat}{b0:Bt}{ws:List Wk}{last:List Str}{pss:List (List Str)}{kss:List (List Bt)}{gs:List (List Nat)}{bs:List Bt}(h:rV n b0 ws pss kss gs bs)(pts:lN last ws pss):∀ps∈gs,∀p∈ps,p<n:=λps hps=>by
 obtain⟨k,hk⟩:=e7.mp hps
 have kl:=(ae.mp hk).1
 have l1:=h.fol.len
 have l2:=h.fol.ln2
 have pl:=pts.len
 have h1:bs[k]?=some (bs[k]'(by lia)):=aa _
 have h3:pss[k]?=some (pss[k]'(by lia)):=aa _
 exact Ap (h.ful k _ _ h1 h3).inn.len (h.fol.ok k ps _ hk h1)
theorem DC(gs:List (List Nat)):(gs.map λg=>((g.length:Nat):Int)).sum=(((gs.map (·.length)).sum:Nat):Int):=by
 induction gs with
 |nil=>rfl
 |cons g r ih=>rw[bA,List.sum_cons,ih,bA,List.sum_cons];simp
theorem wc{K:Fg}{s0 s1 s2 s3 s4 s5 s6 s7 s8 s9:Option V}{gp D:Addr}{gvs:List V}{gs:List (List Nat)}{H0:Hp}{R:Hp->Prop}(hg:H0 gp=some (.tup gvs))(hA:bj (vL H0) gvs gs)(few:gs.length<=1000)(nD:H0 D=none)(hR:∀H',H' D=some (.lst ((gs.map λg=>((g.length:Nat):Int)).map V.int))->aI H0 H'->R H') :
  ∃W:Nat->Nat->St->Hp->Prop,(∃m,W 0 m (vf [] 1 [s0,s1,s2,s3,s4,s5,s6,s7,s8,s9]) (aQ H0 D (.lst [])))/\∀i m σ H,W i m σ H->((Ff K gp).stop i H/\R H)\/((Ff K gp).go i H/\∃N:St->Hp->Prop,(∀σ' H',N σ' H'->∃m',m'<m/\W (i+1) m' σ' H')/\∀x H',(Ff K gp).yld i H x H'->aR 10 x σ H' λσ2 H2=>jw D jt (eW (fP K) (ak (av 10) aO)) {nx:=N,rt:=λ_ _=>False,ct:=N,bk:=λ_ H'=>R H'} σ2 H2):=by
 refine jh (xs:=gvs) (λi σ' H'=>∃o,σ'=[s0,s1,s2,s3,s4,s5,s6,s7,s8,s9,o]/\H' D=some (.lst ((((gs.take i).map λg=>((g.length:Nat):Int))).map V.int))/\aI H0 H') ⟨none,rfl,aj,(aI.refl H0).new nD⟩ ?_ ?_ ?_
 ·rintro i σ' H' _ ⟨_,_,_,s⟩;exact cz.of (s _ _ hg)
 ·rintro i v σ' H1 hv ⟨o,rfl,hD,s⟩
  obtain⟨g,eg,p,rfl,hp⟩:=hA.of_v hv
  refine fG ⟨_,rfl,_,_,rfl,.inr ⟨_,cz.of (s _ _ hp),rfl⟩,_,hD,bI (by rw[af,af,aP];lia),_,rfl,?_,dD s nD⟩
  rw[aj,gq eg,aB,aB,af];rfl
 ·rintro σ' H1 ⟨o,_,hD,s⟩
  have gl:gvs.length=gs.length:=hA.len
  rw[gl,a8] at hD
  exact hR H1 hD s
theorem Nb{K:Fg}{vs:List V}{H:Hp}{Q:VK}{E:XK}(h:yt K vs H Q E):KB K {nx:=λ_ H'=>Q .non H',rt:=Q} (start CS vs) H:=by
 obtain⟨scr,zs,rfl,hscr,hzs,q⟩:=h
 refine⟨_,rfl,(by show 3<=sizeLine;decide),λst hst=>?_⟩
 have S1:lU K (aQ H st (.lst [.ref scr,.int 0,.int 0])) st 0:=⟨scr,zs,0,aj,hscr.mono (.of_same ((aI.refl H).new hst)),hzs⟩
 show AK K _ [some (.ref scr),some (.ref st),none,none,none,none,none,none,none,none] (aQ H st (.lst [.ref scr,.int 0,.int 0]))
 generalize aQ H st (.lst [.ref scr,.int 0,.int 0])=H1 at S1 ⊢
 refine⟨_,rfl,st,0,rfl,S1,by decide,λn H2 n1 n5' S2 B2=>?_⟩
 show AJ K _ [some (.ref scr),some (.ref st),some (.int (n:Nat)),none,none,none,none,none,none,none] H2
 refine⟨_,rfl,_,rfl,_,rfl,.inl ⟨_,_,rfl,rfl,st,(n:Nat)+2,1,rfl,S2,by decide,by lia,by lia,λd H3 d0 d1 S3 B3=>.inl ⟨_,_,rfl,rfl,?_⟩⟩⟩
 obtain⟨nn,hnn,nn1,nn6⟩:∃nn:Nat,(1:Int)+d=(nn:Int)/\1<=nn/\nn<=7:=⟨(1+d).toNat,by lia,by lia,by lia⟩
 refine⟨st,nn,2,by rw[<-hnn];rfl,S3,by decide,by lia,λnm ys k4 H4 nnm yl ynd ynm hnm S4 hk4 B4=>?_⟩
 have nst:nm≠st:=λz=>by obtain⟨_,e⟩:=S3.lst;rw[z,e] at nnm;cases nnm
 show AI K _ [some (.ref scr),some (.ref st),some (.int (n:Nat)),some (.ref nm),none,none,none,none,none,none] H4
 refine⟨_,rfl,_,rfl,(by show 5<=sizeLine;decide),λl5 n5=>?_⟩
 have S5:=S4.new (o:=.lst [V.int 10,V.int 10,V.int 10,V.int 6,V.int 3]) n5
 have h5:aQ H4 l5 (.lst [V.int 10,V.int 10,V.int 10,V.int 6,V.int 3]) l5=some (.lst [V.int 10,V.int 10,V.int 10,V.int 6,V.int 3]):=aj
 have nm5:aQ H4 l5 (.lst [V.int 10,V.int 10,V.int 10,V.int 6,V.int 3]) nm=some (.lst (ys.map V.str)):=by rw[az (aJ hnm n5)];exact hnm
 generalize aQ H4 l5 (.lst [V.int 10,V.int 10,V.int 10,V.int 6,V.int 3])=H5 at S5 h5 nm5 ⊢
 obtain⟨mo,hmo,mo10⟩:∃mo:Nat,([V.int 10,V.int 10,V.int 10,V.int 6,V.int 3]:List V)[((n:Int)-1).toNat]?=some (.int (mo:Nat))/\mo<=10:=by
  match n,n1,n5' with
  |1,_,_=>exact⟨10,rfl,by decide⟩
  |2,_,_=>exact⟨10,rfl,by decide⟩
  |3,_,_=>exact⟨10,rfl,by decide⟩
  |4,_,_=>exact⟨6,rfl,by decide⟩
  |5,_,_=>exact⟨3,rfl,by decide⟩
  |n+6,_,h=>exact absurd h (by lia)
  |0,h,_=>exact absurd h (by lia)
 refine⟨_,rfl,_,_,rfl,rfl,mj (cx.of h5) (by lia) hmo ⟨st,nm,mo,k4,ys,rfl,S5,by lia,nst,nm5,by lia,by lia,by lia,λwp wvs ws k6 H6 hwp hW wl wok S6 hk6 B6=>?_⟩⟩
 show DO K _ [some (.ref scr),some (.ref st),some (.int (n:Nat)),some (.ref nm),some (.ref wp),none,none,none,none,none] H6
 refine⟨_,rfl,_,rfl,_,rfl,st,nm,n,k6,ys,rfl,S6,by lia,nst,B6 _ _ nst nm5,by lia,by lia,λlt last k7 H7 hlt ll lm lin S7 hk7 B7=>?_⟩
 have tp7:=xy S6 B7
 have hnm7:=B7 _ _ nst (B6 _ _ nst nm5)
 have WA:ka H7 wp lt ws last:=⟨⟨wvs,tp7 _ _ hwp,hW.imp λ_ _ z=>z.tp tp7⟩,hlt⟩
 have F:CP ys last ws:=⟨by lia,by lia,by lia,λw mw=>⟨a7 (wok w mw).1 (by decide),(wok w mw).2⟩,lin⟩
 show DN K _ [some (.ref scr),some (.ref st),some (.int (n:Nat)),some (.ref nm),some (.ref wp),some (.ref lt),none,none,none,none] H7
 refine⟨_,rfl,_,rfl,_,rfl,_,rfl,n,wp,lt,nm,ws,last,ys,rfl,WA,F,hnm7,ynd,lm,λwp ws' pss H8 WA F P wd wl' s8=>?_⟩
 have w10:ws'.length<=10:=by lia
 clear wok hW wl wl'
 generalize ws'=ws at WA F P wd w10
 have S8:=S7.same s8
 have hnm8:=s8 _ _ hnm7
 show DM K _ [some (.ref scr),some (.ref st),some (.int (n:Nat)),some (.ref nm),some (.ref wp),some (.ref lt),none,none,none,none] H8
 refine⟨_,rfl,_,rfl,_,rfl,wp,lt,nm,ws,last,ys,rfl,WA,F,hnm8,ynd,λpt tvs pss' H9 npt hpt hA P' s9=>?_⟩
 cases P'.one P
 have pl:=P.len
 have ptst:pt≠st:=λz=>by obtain⟨_,e⟩:=S8.lst;rw[z,e] at npt;cases npt
 obtain⟨_,ss,es,es',np,rfl,hnp⟩:=hA.get (i:=0) (by lia)
 have sl:=wd.len ss (aA es')
 show DK K _ [some (.ref scr),some (.ref st),some (.int (n:Nat)),some (.ref nm),some (.ref wp),some (.ref lt),some (.ref pt),none,none,none] H9
 refine⟨_,rfl,_,rfl,_,rfl,mj (cx.of hpt) (by decide) es ⟨_,rfl,st,np,nm,n,k7,ss,ys,rfl,S8.same s9,by lia,nst,s9 _ _ hnm8,by lia,hnp,sl,by lia,λbp B k10 H10 hbp Bl Bh S10 hk10 B10=>?_⟩⟩
 have tp:=xy (S8.same s9) B10
 have WA10:ka H10 wp lt ws last:=by
  obtain⟨⟨wvs,a,b⟩,c⟩:=WA.same s9
  exact⟨⟨wvs,tp _ _ a,b.imp λ_ _ z=>z.tp tp⟩,tp _ _ c⟩
 have hpt10:=B10 _ _ ptst hpt
 have hA10:bj (FC H10) tvs pss:=hA.imp λ_ _ z=>z.mono tp
 have hnp10:=tp _ _ hnp
 have Bne:B≠[]:=λz=>by rw[z] at Bl;have:(0:Nat)=n:=Bl;lia
 have h0:∀ss,pss[0]?=some ss->∀z∈ss,some z∈B:=λss' e z hz=>by rw[es'] at e;cases e;exact Bh z hz
 obtain⟨dims,cmp⟩:=Jd P wd n1 n5' Bl h0
 have src:∀{H':Hp},aI H10 H'->Bk H' n B ws bp wp:=λs=>⟨s _ _ hbp,Bl,(WA10.same s).1,F.w100⟩
 show DJ K _ [some (.ref scr),some (.ref st),some (.int (n:Nat)),some (.ref nm),some (.ref wp),some (.ref lt),some (.ref pt),some (.ref bp),none,none] H10
 refine⟨_,rfl,_,rfl,_,rfl,bp,wp,lt,n,B,ws,last,ys,rfl,src (aI.refl _),n1,n5',WA10,F,dims,cmp,λgp gvs gs bs pss' kss ts ss' t m H11 hgp hG P' tb es2 et hm fo sm s11=>?_⟩
 cases P'.one P
 rw[es'] at es2
 cases es2
 have wy:=L9 P Bl h0 tb es' fo
 have dn:=wy.done P Bne
 have gl:=fo.len
 have sn:Fy B ws pss gs:=λk ps ss hp hs=>wy.seenAt P Bne hp hs
 show DI K _ [some (.ref scr),some (.ref st),some (.int (n:Nat)),some (.ref nm),some (.ref wp),some (.ref lt),some (.ref pt),some (.ref bp),some (.ref gp),none] H11
 obtain⟨⟨wvs',hwp11,hW11⟩,_⟩:=WA10.same s11
 refine⟨_,rfl,_,rfl,_,_,rfl,.inr ⟨_,cz.of hwp11,rfl⟩,_,rfl,gp,gvs,gs,ws.length,n,by rw[hW11.len];rfl,hgp,hG,gl,wy.lt P,λH12 s12=>⟨_,rfl,gR ?_⟩⟩
 have s1012:=s11.trans s12
 refine⟨_,rfl,_,rfl,_,rfl,_,rfl,bp,wp,pt,gp,lt,B,ws,last,ys,tvs,gvs,pss,gs,rfl,s1012 _ _ hbp,Bne,by lia,WA10.same s1012,F,s1012 _ _ hpt10,hA10.imp λ_ _ z=>z.mono λb xs e=>s1012 _ _ e,P,s12 _ _ hgp,hG.imp λ_ _ z=>vL.but z (Tp.of_same s12),dn,sn,λr13 H13 _ s13=>⟨rfl,_,rfl,gR ?_⟩⟩
 have s1013:=s1012.trans s13
 have s1113:=s12.trans s13
 show DH K _ [some (.ref scr),some (.ref st),some (.int (n:Nat)),some (.ref nm),some (.ref wp),some (.ref lt),some (.ref pt),some (.ref bp),some (.ref gp),none] H13
 refine .inr ⟨_,rfl,gp,rfl,⟨_,cz.of (s1113 _ _ hgp)⟩,λD14 nD14=>wc (s1113 _ _ hgp) (hG.imp λ_ _ z=>vL.but z (Tp.of_same s1113)) (by lia) nD14 λH14 hD14 s14=>⟨D14,_,rfl,cx.of hD14,?_⟩⟩
 rw[DC,sm]
 have s1014:=s1013.trans s14
 show DG K _ [some (.ref scr),some (.ref st),some (.int (n:Nat)),some (.ref nm),some (.ref wp),some (.ref lt),some (.ref pt),some (.ref bp),some (.ref gp),some (.int (m:Nat))] H14
 refine⟨_,rfl,_,rfl,_,rfl,bp,wp,lt,n,B,ws,last,ys,rfl,src s1014,n1,n5',w10,WA10.same s1014,F,dims,λD pss2 kss2 ts2 H15 nD hD P2 tb2 s15=>?_⟩
 cases P2.one P
 have s1015:=s1014.trans s15
 refine⟨_,rfl,_,rfl,mj (cx.of (s1015 _ _ hpt10)) (by decide) es ⟨bp,np,B,ss,rfl,s1015 _ _ hbp,s1015 _ _ hnp10,by lia,λpv H16 hpv s16=>⟨(by show 2<=sizeLine;decide),λpk npk=>?_⟩⟩⟩
 have s17:aI H16 (aQ H16 pk (.tup [.int 0,.ref pv])):=(aI.refl H16).new npk
 have hpk:aQ H16 pk (.tup [.int 0,.ref pv]) pk=some (.tup [.int 0,.ref pv]):=aj
 generalize aQ H16 pk (.tup [.int 0,.ref pv])=H17 at s17 hpk ⊢
 have tl2:=tb2.len
 have et2:ts2[0]?=some (ts2[0]'(by lia)):=aa _
 have hm2:=tb.one tb2 pl et et2 hm
 have hnd:∀t∈ts2,(t.map (·.1)).Nodup:=λt ht=>by
  obtain⟨k,hk⟩:=e7.mp ht
  exact(tb2.nd pl hk).1
 have hv:cY (pJ ts2 ts2.length) (kI 0,cq (bR B ss))=some (.int (m:Nat)):=wZ (FG hnd _ (ar _)) (Jn et2 hm2)
 refine⟨D,.int (m:Nat),rfl,⟨_,(kI 0,cq (bR B ss)),pk,.inl (s17 _ _ (s16 _ _ hD)),rfl,⟨pv,hpk,by rw[eh];exact s17 _ _ hpv⟩,hv.symm⟩,?_⟩
 refine⟨_,rfl,.inl ⟨rfl,_,rfl,?_⟩⟩
 rw[decide_eq_true (show V.int (m:Nat)=V.int (m:Nat) from rfl)]
 refine gR ?_
 have s1017:=(s1015.trans s16).trans s17
 show DF K _ [some (.ref scr),some (.ref st),some (.int (n:Nat)),some (.ref nm),some (.ref wp),some (.ref lt),some (.ref pt),some (.ref bp),some (.ref gp),some (.int (m:Nat))] H17
 refine .inr ⟨_,rfl,_,rfl,_,rfl,bp,wp,lt,n,B,ws,last,ys,rfl,src s1017,n1,n5',WA10.same s1017,F,dims,cmp,λgp3 gvs3 gs3 bs3 pss3 kss3 ts3 ss3 t3 m3 H18 hgp3 hG3 P3 tb3 es3 et3 hm3 fo3 sm3 s18=>?_⟩
 cases P3.one P
 rw[es'] at es3
 cases es3
 have gl3:=fo3.len
 refine⟨gp3,rfl,⟨_,cz.of hgp3⟩,λD19 nD19=>wc hgp3 hG3 (by lia) nD19 λH19 hD19 s19=>⟨D19,_,rfl,cx.of hD19,?_⟩⟩
 have e3:m3=m:=qC (tb3.nd pl et3).1 hm3 (tb.one tb3 pl et et3 hm)
 rw[DC,sm3,e3]
 refine⟨_,rfl,.inl ⟨rfl,?_⟩⟩
 rw[decide_eq_true (show V.int (m:Nat)=V.int (m:Nat) from rfl)]
 exact q H19
end Bg
end
namespace Bg
open PySem PySem.Spec PyProof.Rows L2
section
variable{P:Program}{w:World}{K:Fg}{mg:Str->Option Value}{base:Heap}
end
theorem all_mk{l:PySem.W.OpenLaw}{w:World}{K:Fg}{h:Heap}{mg:Str->Option Value}{fa:Addr}(X:K.In h)(G:h.Ns mainGlobals mg)(hfa:mg "law"=some (.ref fa))
  (l0:cX K "any_order" nQ)
  (l1:cX K "pushed" ug)
  (l2:cX K "set_anew" kR)
  (l3:cX K "kept" Ah)
  (l4:cX K "places_to_keep" gb)
  (l5:cX K "next_keep" j4)
  (l6:cX K "seen" Ai)
  (l7:cX K "worked" ui)
  (l8:cX K "belts_ahead" iS)
  (l9:cX K "spread" uh)
  (l10:cX K "weaker" pj)
  (l11:cX K "has_all" my)
  (l12:cX K "turned" ph)
  (l13:cX K "belts_that_come" eJ)
  (l14:cX K "without" mz)
  (l15:cX K "wanted_at" nR)
  (l16:cX K "counted" jI)
  (l17:cX K "followed" qc)
  (l18:cX K "fewest" uf)
  (l19:cX K "by_pairs" qb)
  (l20:cX K "numbers" rG)
  (l21:cX K "_law_seen" HF)
  (l22:cX K "_law_behind_work" j3)
  (l23:cX K "_law_done" yi)
  (l24:cX K "_law_groups_good" nO)
  (l25:cX K "_law_draw" HC)
  (l26:cX K "_law_thing" Dx)
  (l27:cX K "_law_begin" yh)
  (l28:cX K "_law_is_wanted" rF)
  (l29:cX K "_law_points" uj)
  (l30:cX K "_law_crowded" qU)
  (l31:cX K "_law_thinned" wD)
  (l32:cX K "_law_last" HE)
  (l33:cX K "_law_works" yk)
  (l34:cX K "_law_names" yj)
  (l35:cX K "_law_places" Aj)
  (l36:cX K "law" Dv)
  (z_len:bB K mainGlobals "len"=some none) (z_range:bB K mainGlobals "range"=some none) (z_divmod:bB K mainGlobals "divmod"=some none) (z_max:bB K mainGlobals "max"=some none) (z_min:bB K mainGlobals "min"=some none) (z_sum:bB K mainGlobals "sum"=some none) (z_all:bB K mainGlobals "all"=some none) (z_isinstance:bB K mainGlobals "isinstance"=some none) (z_int:bB K mainGlobals "int"=some none) (z_bool:bB K mainGlobals "bool"=some none) (z_list:bB K mainGlobals "list"=some none) (z_tuple:bB K mainGlobals "tuple"=some none) (z_enumerate:bB K mainGlobals "enumerate"=some none) (z_zip:bB K mainGlobals "zip"=some none) (z_sorted:bB K mainGlobals "sorted"=some none) (z_set:bB K mainGlobals "set"=some none) (z_dict:bB K mainGlobals "dict"=some none) (z_str:bB K mainGlobals "str"=some none) (z_any:bB K mainGlobals "any"=some none) (z_reversed:bB K mainGlobals "reversed"=some none) (z_abs:bB K mainGlobals "abs"=some none) :
  ∃fd:FuncData,(∀(s:Shared) (v:Value),BindsTo s fd ⟨[v],[]⟩ [("_law_script",v)])/\∀base:Heap,K.In base->base.Ns mainGlobals mg->uU l.prog w K mg base Iq Fh fa fd Ft (yt K):=by
 have B:kD mg:=⟨aX X G z_len,aX X G z_range,aX X G z_divmod,aX X G z_max,aX X G z_min,aX X G z_sum,aX X G z_all,aX X G z_isinstance,aX X G z_int,aX X G z_bool,aX X G z_list,aX X G z_tuple,aX X G z_enumerate,aX X G z_zip,aX X G z_sorted,aX X G z_set,aX X G z_dict,aX X G z_str,aX X G z_any,aX X G z_reversed,aX X G z_abs⟩
 refine ME (k:=Ks) X G hfa l36 (λbase=>?_) λ_ _ _ _=>Nb
 have c_p_any_order:jS l.prog w K mg base:=lV X G l0 (vc B) λ_ _ _ _=>vt
 have c_p_pushed:sM l.prog w K mg base:=lV X G l1 (By B) λ_ _ _ _=>Ce
 have c_p_set_anew:kE l.prog w K mg base:=lV X G l2 (xF B c_p_pushed) λ_ _ _ _=>yd
 have c_p_kept:pE l.prog w K mg base:=lV X G l3 (FO B c_p_set_anew) λ_ _ _ _=>Hk
 have c_p_places_to_keep:fZ l.prog w K mg base:=lV X G l4 (oM B) λ_ _ _ _=>pe
 have c_p_next_keep:nv l.prog w K mg base:=lV X G l5 (vd B c_p_places_to_keep c_p_kept) λ_ _ _ _=>vw
 have c_p_seen:pF l.prog w K mg base:=lV X G l6 (FP B) λ_ _ _ _=>Hm
 have c_p_worked:kF l.prog w K mg base:=lV X G l7 (BC B c_p_set_anew c_p_seen) λ_ _ _ _=>Cj
 have c_p_belts_ahead:k9 l.prog w K mg base:=lV X G l8 (rW B) λ_ _ _ _=>r8
 have c_p_spread:sN l.prog w K mg base:=lV X G l9 (Bz B c_p_belts_ahead) λ_ _ _ _=>Cf
 have c_p_weaker:sP l.prog w K mg base:=lV X G l10 (BB B) λ_ _ _ _=>Ci
 have c_p_has_all:q0 l.prog w K mg base:=lV X G l11 (zg B) λ_ _ _ _=>Ad
 have c_p_turned:sO l.prog w K mg base:=lV X G l12 (BA B c_p_places_to_keep c_p_kept) λ_ _ _ _=>Cg
 have c_p_belts_that_come:iX l.prog w K mg base:=lV X G l13 (m5 B c_p_has_all c_p_turned c_p_worked c_p_seen) λ_ _ _ _=>m9
 have c_p_without:rg l.prog w K mg base:=lV X G l14 (zi B) λ_ _ _ _=>Af
 have c_p_wanted_at:jT l.prog w K mg base:=lV X G l15 (ve B c_p_without) λ_ _ _ _=>vx
 have c_p_counted:lZ l.prog w K mg base:=lV X G l16 (zf B c_p_spread c_p_worked c_p_weaker c_p_belts_that_come c_p_wanted_at) λ_ _ _ _=>Ac
 have c_p_followed:pD l.prog w K mg base:=lV X G l17 (xE B c_p_kept c_p_next_keep c_p_worked c_p_seen c_p_counted c_p_wanted_at) λ_ _ _ _=>yc
 have c_p_fewest:sL l.prog w K mg base:=lV X G l18 (Bx B c_p_any_order c_p_followed) λ_ _ _ _=>Cd
 have c_p_by_pairs:pC l.prog w K mg base:=lV X G l19 (xD B) λ_ _ _ _=>ya
 have c_p_numbers:q9 l.prog w K mg base:=lV X G l20 (zh B c_p_any_order c_p_counted c_p_by_pairs) λ_ _ _ _=>Ae
 have c_seen:A3 l.prog w K mg base:=lV X G l21 (KW B) λ_ _ _ _=>LW
 have c_behind_work:ni l.prog w K mg base:=lV X G l22 (u7 B) λ_ _ _ _=>vp
 have c_done:E7 l.prog w K mg base:=lV X G l23 (KQ B c_behind_work c_seen) λ_ _ _ _=>LS
 have c_groups_good:nj l.prog w K mg base:=lV X G l24 (u9 B) λ_ _ _ _=>vq
 have c_draw:lY l.prog w K mg base:=lV X G l25 (KR B) λ_ _ _ _=>LU
 have c_thing:xc l.prog w K mg base:=lV X G l26 (IZ B c_draw) λ_ _ _ _=>J7
 have c_begin:CM l.prog w K mg base:=lV X G l27 (IU B c_draw c_thing) λ_ _ _ _=>J5
 have c_is_wanted:qZ l.prog w K mg base:=lV X G l28 (ze B) λ_ _ _ _=>Ab
 have c_points:sQ l.prog w K mg base:=lV X G l29 (FR B c_is_wanted) λ_ _ _ _=>Ho
 have c_crowded:vJ l.prog w K mg base:=lV X G l30 (Ee B) λ_ _ _ _=>Ez
 have c_thinned:vK l.prog w K mg base:=lV X G l31 (Eh B c_points c_crowded) λ_ _ _ _=>EA
 have c_last:E8 l.prog w K mg base:=lV X G l32 (KU B c_draw) λ_ _ _ _=>LV
 have c_works:CO l.prog w K mg base:=lV X G l33 (Ja B c_draw c_thing) λ_ _ _ _=>J8
 have c_names:CN l.prog w K mg base:=lV X G l34 (IV B c_draw) λ_ _ _ _=>J6
 have c_places:yE l.prog w K mg base:=lV X G l35 (@FQ _ _ _ _ _ B c_draw) λ_ _ _ _=>Hn
 intro _ _ _ _ _ _ _ hr;exact Mt B c_p_fewest c_p_numbers c_seen c_done c_groups_good c_begin c_points c_thinned c_last c_works c_draw c_names c_places hr
theorem L1{K:Fg}{H:Hp}{a:Addr}{ns:List Int}(o:IG H)(h:cx K H a (ns.map V.int)):jD K H a ns:=by
 rcases h with(h|h)|h
 ·rcases o a with z|⟨ob,xs,z⟩<;>rw[h] at z<;>cases z
 ·exact .inl h
 ·exact .inr h
theorem walk{l:PySem.W.OpenLaw}{q:Program}{loose:List Str}{XP:(Str->Option Value)->Heap->Prop}{YP:World->Heap->Prop}{d:DefRec}{K:Params->Fg}(hn:l.most=some 63)(hdf:d.params.defaults=[])
  (hY:∀(w:World) (h:Heap),YP w h->(K w.params).In h)
  (F:∀(w:World) (mg:Str->Option Value) (fa:Addr) (h:Heap),(K w.params).In h->h.Ns mainGlobals mg->mg d.name=some (.ref fa)->
   ∃fd:FuncData,(∀(s:Shared) (u:Value),BindsTo s fd ⟨[u],[]⟩ [("_law_script",u)])/\∀base:Heap,(K w.params).In base->base.Ns mainGlobals mg->uU l.prog w (K w.params) mg base Iq Fh fa fd Ft (yt (K w.params))) :
  PySem.W.WalkO q loose XP YP l.row.toRowW d [] (λf vs=>sI f vs):=
 L2.walk_of (n:=63) (k:=Fh) (x:="_law_script") (CX:=λ_=>Iq) (sp:=λw=>yt (K w.params)) hn (by decide) hdf ⟨rfl,by decide,by decide⟩ hY F (λ_ _ a ns hl hO hS=>⟨a,ns,rfl,L1 hO hS,hl,λ_=>rfl⟩) λ_ _ _ _ _ z=>z
end Bg
open PySem PySem.W PyProof.Rows
def PySem.W.Fast.tw18109856657652340804:Unit:=()
def PySem.W.Fast.tw4342764631984419804:Unit:=()
def PySem.W.Fast.tw11404120716846538337:Unit:=()
def PySem.W.Fast.tw2718413955816739387:Unit:=()
def PySem.W.Fast.tw16353722175744030584:Unit:=()
def PySem.W.Fast.tw2722129639396553190:Unit:=()
def PySem.W.Fast.tw6564870308417682318:Unit:=()
def PySem.W.Fast.tw13715869027920671758:Unit:=()
def PySem.W.Fast.tw16025907054660988765:Unit:=()
def PySem.W.Fast.tw12453315540315824060:Unit:=()
def PySem.W.Fast.tw8545720100783069240:Unit:=()
def PySem.W.Fast.tw1426742459140336813:Unit:=()
set_option maxRecDepth 100000 in
set_option maxHeartbeats 0 in
theorem PySem.Challenge.cw_beltgarth_k64_whole_fewest_done_holds : PySem.Challenge.rw_beltgarth_k64_whole_fewest_done.Holds := by
 w_on;o_law;k_head;(case hw=>w_witness2)
 k_fill
 refine Bg.walk (l:=PySem.Challenge.rw_beltgarth_k64_whole_fewest_done) rfl rfl (λw h Y=>PySem.W.kIn_of Y) ?F
 case F=>
  intro w mg fa h KX G hmg
  refine' Bg.all_mk KX G hmg ?l0 ?l1 ?l2 ?l3 ?l4 ?l5 ?l6 ?l7 ?l8 ?l9 ?l10 ?l11 ?l12 ?l13 ?l14 ?l15 ?l16 ?l17 ?l18 ?l19 ?l20 ?l21 ?l22 ?l23 ?l24 ?l25 ?l26 ?l27 ?l28 ?l29 ?l30 ?l31 ?l32 ?l33 ?l34 ?l35 ?l36 ?z_len ?z_range ?z_divmod ?z_max ?z_min ?z_sum ?z_all ?z_isinstance ?z_int ?z_bool ?z_list ?z_tuple ?z_enumerate ?z_zip ?z_sorted ?z_set ?z_dict ?z_str ?z_any ?z_reversed ?z_abs
  case z_len|z_range|z_divmod|z_max|z_min|z_sum|z_all|z_isinstance|z_int|z_bool|z_list|z_tuple|z_enumerate|z_zip|z_sorted|z_set|z_dict|z_str|z_any|z_reversed|z_abs=>k_is
  all_goals (refine' Bg.defAt ?a ?l ?c ?k;(case a|l|c|k=>k_is))
