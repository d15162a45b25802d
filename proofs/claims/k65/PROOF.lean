import PyProof.Rows.All
import Wide.All
import OpenK.AllK
import Wide.FinOn
import Lean
import PyProof.EqAt
import PyProof.EqKinds
import PyProof.TupleCall
import PyProof.FactsAll.NoneType_1
import PyProof.WalkInts
import PyProof.SeqI3
import PyProof.SetKind
import PyProof.Rows.SetFrom
import PyProof.FactsAll.set
import PyProof.DictIter
import PyProof.DictWalks
import PyProof.WalksMore
import PyProof.MakeMany
import PyProof.FactsAll.subtypes_4
import KE.KDictSum
import KE.KRevIter
import PyProof.TupleOps
import PyProof.FactsAll.tuple
import PyProof.Rows.Range3
import PyProof.NoPylong
import KE.KIntText
import KE.IntTextLaws
import PySem.Challenge.RW_beltgarth_k65_whole_crowded_or_done
set_option Elab.async false
set_option autoImplicit true
set_option linter.all false
set_option maxHeartbeats 1000000
set_option maxHeartbeats 3200000
set_option maxHeartbeats 4000000
set_option maxRecDepth 100000
set_option relaxedAutoImplicit true
open List renaming getElem?_eq_getElem->aa,getElem?_eq_some_iff->ae,length_map->af,length_append->ai,mem_singleton->aj,getElem?_append_right->ao,size_toArray->au,getElem?_append_left->av,mem_append->ax,map_append->aB,mem_of_getElem?->aC,mem_map->aD,getElem?_map->aH,length_singleton->aI,mem_cons->aM,mem_iff_getElem->aR,length_take->aS,replicate->aV,mem_append_right->aX,mem_cons_of_mem->aY,mem_cons_self->aZ,take_length->a7,mem_filter->a9,length_cons->bf,getElem?_eq_none->bg,length_filter_le->bx,map_cons->bz,mem_append_left->bC,length_eq_zero_iff->bD,length_reverse->bO,nodup_cons->bS,getD_eq_getElem?_getD->bU,getElem?_reverse->bV,range->bZ,getElem_mem->cf,nodup_append->cu,drop_eq_getElem_cons->cy,dropLast_concat_getLast->cD,not_mem_nil->cF,replicate_succ->cM,find?_cons->cS,filter_cons->cX,length_dropLast->cY,flatten_cons->c8,length_range->c9,map_map->de,nodup_nil->df,map_congr_left->du,getElem?_inj->dF,append_nil->dJ,length_pos_iff->dN,take_of_length_le->dS,all_eq_true->dX,lookup_cons->dY,getElem?_zip_eq_some->d7,getLast?_eq_getElem?->d8,dropLast_concat->eh,ext_getElem?->eA,mem_of_mem_drop->eC,length_drop->eR,filter_append->eW,pairwise_cons->eX,forIn_cons->e8,nil_append->e9,getElem?_toArray->fi,length_replicate->fj,append_assoc->ft,take_add_one->fz,getElem?_of_mem->fG,length_eraseIdx->fH,take_zero->fI,any_eq_true->fW,pairwise_iff_getElem->fX,filterMap_cons->f6,filter_sublist->f7,foldl_cons->gn,length_nil->gq,sum_append->gu,length->gH,pairwise_singleton->gJ,forIn_nil->gP,getElem?_set_self->gQ,mem_range->gR,concat_eq_append->ia,eq_nil_or_concat->ic,drop_length->iu,any_cons->iD,getElem?_set_ne->iM,range_succ->i5,getElem?_range->jd,drop_zero->jw,getElem?_take->jx,foldl_append->jJ,not_lt->jK,pairwise_map->jL,map_take->j5,mem_flatten->ku,length_set->ly,length_zip->lz,of_mem_zip->lA,take_succ->mf,all_cons->nY,foldl->tI
open PySem.Heap renaming get?_push_of_some->ag,get?_push_size->az,lt_size->aF,size_push->bF,get?_update_other->bI,get?_update_self->b9
open Nat renaming le_refl->aw,ne_of_lt->aO,zero_le->a8,lt_of_lt_of_le->bh,sub_self->bj,le_trans->br,le_of_lt->bW,add_sub_cancel->cA,lt_or_ge->cB,ne_of_gt->cT,lt_of_le_of_lt->cU,lt_succ_self->cZ,lt_irrefl->c7,lt_succ_of_lt->dh,not_lt_zero->dv,le_succ->eD,min_le_right->iw,lt_trans->jh,not_lt->pq,add_comm->pS,mul_comm->pT
open Int renaming toNat_natCast->aU,natCast_nonneg->cz,emod_lt_of_pos->cI,emod_nonneg->cJ
open Array renaming getElem?_eq_getElem->aW,length_toList->bH,getElem?_toList->bM,getElem?_eq_none->dR,getElem?_eq_some_iff->dZ,toArray_toList->iL,toList_append->jc,forIn_toList->jv,toList->pR
open PySem.W renaming mg_none_of->a6,nsIn->bE,fnOf->eE,keepIn->fJ,codeIn->gX,methodObj->jM
open PyProof.Rows renaming callWith_type1->bw,slot_tuple_getitem->dw
open PySem.F renaming plainAttrs_list->cg,plain_extend_loop->d9,plainAttrs_dict->eT,slot_list_pop->fm,type_list_pop->fq,args_tuple_add_2->gf,slot_list_extend->gg,type_list_extend->gi,entry_tuple_add->gK,slot_tuple_add->gW,slot_dict_get->ie
open PySem renaming mem_of_lookup->cG,wpAny_setField_rec->cN,strKind->iE,call->tJ
open Option renaming isSome_iff_exists->dC,getD_some->eS,isSome_map->fA,map_eq_some_iff->gU,map_some->i6,getD_none->kx
abbrev Fg := PySem.W.Frag
section
namespace Bg
theorem OT{α:Type}{P:List α->Prop}{us:List α}(h:us.length=0)(k:P []):P us:=by cases us with|nil=>exact k|cons a r=>cases h
theorem OG{α:Type}{P:List α->Prop}{us:List α}(h:us.length=1)(k:∀x0,P [x0]):P us:=by cases us with|nil=>cases h|cons a r=>exact OT (P:=λr=>P (a::r)) (Nat.succ.inj h) (k a)
theorem OH{α:Type}{P:List α->Prop}{us:List α}(h:us.length=2)(k:∀x0 x1,P [x0,x1]):P us:=by cases us with|nil=>cases h|cons a r=>exact OG (P:=λr=>P (a::r)) (Nat.succ.inj h) (k a)
theorem OI{α:Type}{P:List α->Prop}{us:List α}(h:us.length=3)(k:∀x0 x1 x2,P [x0,x1,x2]):P us:=by cases us with|nil=>cases h|cons a r=>exact OH (P:=λr=>P (a::r)) (Nat.succ.inj h) (k a)
theorem OU{α:Type}{P:List α->Prop}{us:List α}(h:us.length=4)(k:∀x0 x1 x2 x3,P [x0,x1,x2,x3]):P us:=by cases us with|nil=>cases h|cons a r=>exact OI (P:=λr=>P (a::r)) (Nat.succ.inj h) (k a)
theorem OP{α:Type}{us:List α}(h:us.length=1):∃x0,us=[x0]:=OG (P:=λus=>∃x0,us=[x0]) h λx0=>⟨x0,rfl⟩
theorem OQ{α:Type}{us:List α}(h:us.length=2):∃x0 x1,us=[x0,x1]:=OH (P:=λus=>∃x0 x1,us=[x0,x1]) h λx0 x1=>⟨x0,x1,rfl⟩
theorem OR{α:Type}{us:List α}(h:us.length=3):∃x0 x1 x2,us=[x0,x1,x2]:=OI (P:=λus=>∃x0 x1 x2,us=[x0,x1,x2]) h λx0 x1 x2=>⟨x0,x1,x2,rfl⟩
theorem OS{α:Type}{us:List α}(h:us.length=4):∃x0 x1 x2 x3,us=[x0,x1,x2,x3]:=OU (P:=λus=>∃x0 x1 x2 x3,us=[x0,x1,x2,x3]) h λx0 x1 x2 x3=>⟨x0,x1,x2,x3,rfl⟩
end Bg
end
section
namespace L2
open PySem PySem.Spec PyProof.Rows
abbrev ky:=Sum Int Str
def om:ky->Value->Bool
 |.inl k,v=>Value.isInt k v
 |.inr x,v=>Value.isStrOf x v
def Nu(w:World):ky->Int
 |.inl k=>hashInt k
 |.inr x=>hashStr w x
theorem dD:∀{k:ky} {v:Value},om k v=true->(∃i t,k=Sum.inl i/\v=Value.int i t)\/(∃x t,k=Sum.inr x/\v=Value.str x t)
 |.inl i,v,h=>by
  obtain⟨t,e⟩:=Value.isInt_shape (k:=i) (v:=v) h
  exact .inl ⟨i,t,rfl,e⟩
 |.inr x,v,h=>by
  obtain⟨t,e⟩:=Value.isStrOf_shape (x:=x) (v:=v) h
  exact .inr ⟨x,t,rfl,e⟩
theorem E3(i:Int)(t:Tok):om (.inl i) (.int i t)=true:=by simp[om,Value.isInt]
theorem E4(x:Str)(t:Tok):om (.inr x) (.str x t)=true:=by simp[om,Value.isStrOf]
theorem LZ(a b:Int):decide ((Sum.inl a:ky)=Sum.inl b)=(a==b):=by
 by_cases e:a=b
 ·subst e;simp
 ·have h:¬(Sum.inl a:ky)=Sum.inl b:=λq=>e (Sum.inl.inj q)
  rw[decide_eq_false h]
  exact(beq_eq_false_iff_ne.mpr e).symm
theorem L4(a b:Str):decide ((Sum.inr a:ky)=Sum.inr b)=decide (a=b):=by
 by_cases e:a=b
 ·subst e;simp
 ·have h:¬(Sum.inr a:ky)=Sum.inr b:=λq=>e (Sum.inr.inj q)
  rw[decide_eq_false h,decide_eq_false e]
theorem L0(a:Int)(b:Str):decide ((Sum.inl a:ky)=Sum.inr b)=false:=decide_eq_false (λq=>nomatch q)
theorem L3(a:Str)(b:Int):decide ((Sum.inr a:ky)=Sum.inl b)=false:=decide_eq_false (λq=>nomatch q)
def eF(prog:Program)(w:World):PySem.KeyKind prog w ky where
 is:=om
 hash:=Nu w
 inj:=λv a b ha hb=>by
  rcases dD ha with⟨i,t,rfl,rfl⟩|⟨x,t,rfl,rfl⟩
  ·rcases dD hb with⟨j,u,rfl,e⟩|⟨y,u,rfl,e⟩
   ·injection e with e1 _;rw[e1]
   ·exact nomatch e
  ·rcases dD hb with⟨j,u,rfl,e⟩|⟨y,u,rfl,e⟩
   ·exact nomatch e
   ·injection e with e1 _;rw[e1]
 byValue:=λk v h=>by
  rcases dD h with⟨i,t,rfl,rfl⟩|⟨x,t,rfl,rfl⟩<;>rfl
 pyHash:=λhv h=>by
  rcases dD hv with⟨i,t,rfl,rfl⟩|⟨x,t,rfl,rfl⟩
  ·exact wpAny_pyHash_int h
  ·exact wpAny_pyHash_str h
 eqBool:=λhu hv h=>by
  rcases dD hu with⟨i,t,rfl,rfl⟩|⟨x,t,rfl,rfl⟩
  ·rcases dD hv with⟨j,u,rfl,rfl⟩|⟨y,u,rfl,rfl⟩
   ·rw[LZ] at h;exact wpAny_eqBool_int h
   ·rw[L0] at h;exact SeqAt.EqAt.int_str i t y u _ _ _ _ h
  ·rcases dD hv with⟨j,u,rfl,rfl⟩|⟨y,u,rfl,rfl⟩
   ·rw[L3] at h;exact SeqAt.EqAt.str_int x t j u _ _ _ _ h
   ·rw[L4] at h;exact wpAny_eqBool_str h
 «strs»:=λk x t v h=>by
  rcases dD h with⟨i,u,rfl,e⟩|⟨y,u,rfl,e⟩
  ·exact nomatch e
  ·injection e with e1 _
   subst e1
   cases v<;>rfl
theorem AB(prog:Program)(w:World)(i:Int)(t:Tok):(eF prog w).is (.inl i) (.int i t)=true:=E3 i t
theorem AC(prog:Program)(w:World)(x:Str)(t:Tok):(eF prog w).is (.inr x) (.str x t)=true:=E4 x t
section
variable{prog:Program}{w:World}{A:Around}{E:Value->Shared->Prop}{s:Shared}
theorem qc(n:String):(some (Value.builtin n)==some Value.none)=false:=by rfl
theorem GK{Q:Int->Shared->Prop}(h:Q 0xFCA86420 {s with toks:=s.toks+1}):wpAny (model prog w) A (pyHash .none) Q E s:=by
 unfold pyHash
 have hT:s.TypeIs .none "NoneType":=rfl
 refine wpAny_bind ?_
 have hv:[Value.none].any Value.onHeap=false:=rfl
 rw[cRoomFor,if_neg (by rw[hv];exact Bool.false_ne_true)];refine wpAny_pure ?_
 refine wpAny_bind (wpAny_specialOf hT F.slot_NoneType_hash.lookup ?_)
 show wpAny _ _ (if(some (Value.builtin "NoneType.__hash__")==some Value.none)=true then _ else _) Q E s
 rw[if_neg (by rw[qc];exact Bool.false_ne_true)]
 refine wpAny_bind (wpAny_specialOf hT F.slot_NoneType_hash.lookup ?_)
 show wpAny _ _ (callSpecialIfBoundUnlessNone? .none "__hash__" _ >>= _) Q E s
 refine wpAny_bind (wpAny_callSpecialIfBoundUnlessNone?_slot hT F.slot_NoneType_hash
  (wpAny_call_entry F.slot_NoneType_hash hT F.entry_NoneType_hash
   (show wpAny _ _ (do ret (<-mkInt 0xFCA86420)) _ _ s from wpAny_ret_mkInt ?_) (F.args_NoneType_hash_1 _)))
 show wpAny _ _ (if(decide (-(2:Int) ^ 63<=0xFCA86420)&&decide ((0xFCA86420:Int)<2 ^ 63))=true then _ else _) Q E _
 rw[if_pos (by decide)]
 exact wpAny_pure h
end
abbrev b8:=Option ky
def Lj:b8->Value->Bool
 |none,.none=>true
 |none,_=>false
 |some k,v=>om k v
def Ou(w:World):b8->Int
 |none=>0xFCA86420
 |some k=>Nu w k
theorem eG:∀{k:b8} {v:Value},Lj k v=true->(k=none/\v=Value.none)\/∃k',k=some k'/\om k' v=true
 |some k',v,h=>.inr ⟨k',rfl,h⟩
 |none,.none,_=>.inl ⟨rfl,rfl⟩
theorem L5(a:ky):decide ((some a:b8)=none)=false:=decide_eq_false (λq=>nomatch q)
theorem L1(a:ky):decide ((none:b8)=some a)=false:=decide_eq_false (λq=>nomatch q)
theorem L6(a b:ky):decide ((some a:b8)=some b)=decide (a=b):=by
 by_cases e:a=b
 ·subst e;simp
 ·rw[decide_eq_false e,decide_eq_false (λq=>e (Option.some.inj q))]
theorem wZ{k:ky}:om k .none=false:=by cases k<;>rfl
def cL(prog:Program)(w:World):PySem.KeyKind prog w b8 where
 is:=Lj
 hash:=Ou w
 inj:=λv a b ha hb=>by
  rcases eG ha with⟨rfl,rfl⟩|⟨a',rfl,ha⟩
  ·rcases eG hb with⟨rfl,_⟩|⟨b',rfl,hb2⟩
   ·rfl
   ·rw[wZ] at hb2;cases hb2
  ·rcases eG hb with⟨rfl,rfl⟩|⟨b',rfl,hb⟩
   ·exact absurd (show om a' .none=true from ha) (by rw[wZ];decide)
   ·rw[(eF prog w).inj v a' b' ha hb]
 byValue:=λk v h=>by
  rcases eG h with⟨rfl,rfl⟩|⟨k',rfl,h⟩
  ·rfl
  ·exact(eF prog w).byValue k' v h
 pyHash:=λhv h=>by
  rcases eG hv with⟨rfl,rfl⟩|⟨k',rfl,hk⟩
  ·exact GK h
  ·exact(eF prog w).pyHash (k:=k') hk h
 eqBool:=λhu hv h=>by
  rcases eG hu with⟨rfl,rfl⟩|⟨a',rfl,ha⟩
  ·rcases eG hv with⟨rfl,rfl⟩|⟨b',rfl,hb⟩
   ·exact SeqAt.EqAt.same _ _ _ _ _ (by simpa using h)
   ·rw[L1] at h
    rcases dD hb with⟨j,u,rfl,rfl⟩|⟨y,u,rfl,rfl⟩
    ·exact SeqAt.EqAt.none_int j u _ _ _ _ h
    ·exact SeqAt.EqAt.none_str y u _ _ _ _ h
  ·rcases eG hv with⟨rfl,rfl⟩|⟨b',rfl,hb⟩
   ·rw[L5] at h
    rcases dD ha with⟨j,u,rfl,rfl⟩|⟨y,u,rfl,rfl⟩
    ·exact SeqAt.EqAt.int_none j u _ _ _ _ h
    ·exact SeqAt.EqAt.str_none y u _ _ _ _ h
   ·rw[L6] at h
    exact(eF prog w).eqBool (a:=a') (b:=b') ha hb h
 «strs»:=λk x t v h=>by
  rcases eG h with⟨rfl,e⟩|⟨k',rfl,h⟩
  ·exact nomatch e
  ·exact(eF prog w).strs k' x t v h
section
variable{prog:Program}{w:World}{K:Type}[DecidableEq K](knd:KeyKind prog w K)
def dB(h:Heap)(k:K×List K)(a:Addr):Prop:=∃o v b n,h.get? a=some o/\o.cls=.type "tuple"/\o.data=.seq #[v,.ref b] n/\knd.is k.1 v=true/\IsTupleKey knd h k.2 b
variable{knd}
theorem dB.typeIs{s:Shared}{k:K×List K}{a:Addr}(x:dB knd s.heap k a):s.TypeIs (.ref a) "tuple":=let⟨o,_,_,_,ho,hc,_⟩:=x;⟨o,ho,hc⟩
theorem dB.inj{h:Heap}{a:Addr}{x y:K×List K}(hx:dB knd h x a)(hy:dB knd h y a):x=y:=by
 obtain⟨o,v,b,n,ho,_,hd,h1,h2⟩:=hx
 obtain⟨o',v',b',n',ho',_,hd',h1',h2'⟩:=hy
 obtain rfl:o=o':=Option.some.inj (ho.symm.trans ho')
 rw[hd] at hd'
 injection hd' with e _
 have e:[v,Value.ref b]=[v',Value.ref b']:=congrArg pR e
 injection e with e1 e2
 injection e2 with e2 _
 injection e2 with e2
 subst e1 e2
 exact Prod.ext (knd.inj _ _ _ h1 h1') (h2.inj h2')
theorem dB.keeps{h h':Heap}{k:K×List K}{a d:Addr}{o:Obj}{es ep}(x:dB knd h k a)(ho:h.get? d=some o)(hd:o.data=.dict es ep)(hs:Heap.SameBut d h h'):dB knd h' k a:=by
 obtain⟨o',v,b,n,ho',hc,hd',h1,h2⟩:=x
 have hne:a≠d:=by
  rintro rfl
  obtain rfl:o'=o:=Option.some.inj (ho'.symm.trans ho)
  rw[hd] at hd';exact nomatch hd'
 exact⟨o',v,b,n,(hs.2 a hne).trans ho',hc,hd',h1,h2.keeps ho hd hs⟩
def uC(knd:KeyKind prog w K)(k:K×List K):Int:=reduceHash (Builtin.Tuple.tupleHashOf [knd.hash k.1,tupleKeyHash knd k.2])
variable{A:Around}{E:Value->Shared->Prop}{s:Shared}
theorem q9{k:K×List K}{a:Addr}{Q:Int->Shared->Prop}(hu:A.units+1<cLine)(hk:dB knd s.heap k a)(h:Q (uC knd k) {s with toks:=s.toks+(k.2.length+3)}) :
  wpAny (model prog w) A (pyHash (.ref a)) Q E s:=by
 have hT:=hk.typeIs
 obtain⟨o,v,b,n,ho,_,hd,h1,h2⟩:=hk
 unfold pyHash
 first|unfold pyHashByItsType|skip
 first|refine wpAny_bind (wpAny_cRoomFor_or (.inr (by lia)) ?_)|skip
 refine wpAny_bind (wpAny_specialOf hT F.slot_tuple_hash.lookup ?_)
 show wpAny _ _ (if(some (Value.builtin "tuple.__hash__")==some Value.none)=true then _ else _) Q E s
 rw[if_neg (by rw[beq_builtin_none];exact Bool.false_ne_true)]
 refine wpAny_bind (wpAny_specialOf hT F.slot_tuple_hash.lookup ?_)
 show wpAny _ _ (callSpecialIfBoundUnlessNone? (.ref a) "__hash__" _ >>= _) Q E s
 refine wpAny_bind (wpAny_callSpecialIfBoundUnlessNone?_slot hT F.slot_tuple_hash (wpAny_call_entry F.slot_tuple_hash hT F.entry_tuple_hash ?_ (F.args_tuple_hash_1 _)))
 show wpAny _ _ (Builtin.Tuple.tupleItemsOf (.ref a) >>= _) _ _ s
 refine wpAny_bind (wpAny_tupleItemsOf ho hd ?_)
 refine wpAny_bind ?_
 rw[<-jv]
 refine wpAny_forIn_list _
  (λrest (bb:Array Int) s'=>(rest=[v,.ref b]/\bb.toList=[]/\s'=s)\/(rest=[.ref b]/\bb.toList=[knd.hash k.1]/\s'={s with toks:=s.toks+1})\/(rest=[]/\bb.toList=[knd.hash k.1,tupleKeyHash knd k.2]/\s'={s with toks:=s.toks+1+(k.2.length+1)}))
  _ ?_ ?_ _ _ (.inl ⟨rfl,rfl,rfl⟩)
 ·rintro x rest bb s' (⟨e,hb,rfl⟩|⟨e,hb,rfl⟩|⟨e,_⟩)
  ·injection e with e1 e2
   subst e1 e2
   refine wpAny_bind (knd.pyHash h1 ?_)
   first
    |exact wpAny_pure (.inr (.inl ⟨rfl,by simp[hb],rfl⟩))
    |exact wpAny_bind (wpAny_pure (wpAny_pure (.inr (.inl ⟨rfl,by simp[hb],rfl⟩))))
  ·injection e with e1 e2
   subst e1 e2
   refine wpAny_bind (wpAny_pyHash_tuple (ks:=k.2) (by show A.units+1<cLine;lia) h2 ?_)
   first
    |exact wpAny_pure (.inr (.inr ⟨rfl,by simp[hb],rfl⟩))
    |exact wpAny_bind (wpAny_pure (wpAny_pure (.inr (.inr ⟨rfl,by simp[hb],rfl⟩))))
  ·cases e
 ·rintro bb s' (⟨e,_⟩|⟨e,_⟩|⟨_,hb,rfl⟩)
  ·cases e
  ·cases e
  ·show wpAny _ _ (retInt (Builtin.Tuple.tupleHashOf bb.toList)) _ _ _
   rw[hb]
   refine wpAny_ret_mkInt ?_
   show wpAny _ _ (if(decide (-(2:Int) ^ 63<=Builtin.Tuple.tupleHashOf [knd.hash k.1,tupleKeyHash knd k.2])&&decide (Builtin.Tuple.tupleHashOf [knd.hash k.1,tupleKeyHash knd k.2]<2 ^ 63))=true then _ else _) Q E _
   unfold uC reduceHash at h
   have et:s.toks+(k.2.length+3)=s.toks+1+(k.2.length+1)+1:=by lia
   rw[et] at h
   by_cases hr:(decide (-(2:Int) ^ 63<=Builtin.Tuple.tupleHashOf [knd.hash k.1,tupleKeyHash knd k.2])&&decide (Builtin.Tuple.tupleHashOf [knd.hash k.1,tupleKeyHash knd k.2]<2 ^ 63))=true
   ·rw[if_pos hr]
    rw[if_pos hr] at h
    exact wpAny_pure h
   ·rw[if_neg hr]
    rw[if_neg hr] at h
    exact wpAny_bind (wpAny_rule (wpAny_pure h))
theorem yI{x y:K×List K}{a b:Addr}{P:Fin->Shared->Prop}(hu:A.units<cLine)(hx:dB knd s.heap x a)(hy:dB knd s.heap y b)(h:P (.done (.ret (.bool (decide (x=y))))) s) :
  wpAny (model prog w) A (Builtin.«tuple.__eq__» ⟨[.ref a,.ref b],[]⟩) P E s:=by
 have hTb:=hy.typeIs
 obtain⟨oa,va,ba,na,hoa,_,hda,ha1,ha2⟩:=hx
 obtain⟨ob,vb,bb,nb,hob,_,hdb,hb1,hb2⟩:=hy
 show wpAny _ _ (isInstance (.ref b) (.type "tuple") >>= _) _ _ s
 refine wpAny_bind (wpAny_isInstance hTb isSubtype_tuple_tuple ?_)
 simp only[Bool.not_true,Bool.false_eq_true,if_false]
 refine wpAny_bind (wpAny_tupleItemsOf hoa hda ?_)
 refine wpAny_bind (wpAny_tupleItemsOf hob hdb ?_)
 refine wpAny_bind ?_
 have dx:decide (x=y)=(decide (x.1=y.1)&&decide (x.2=y.2)):=by
  by_cases c1:x.1=y.1
  ·by_cases c2:x.2=y.2
   ·rw[decide_eq_true c1,decide_eq_true c2,decide_eq_true (Prod.ext c1 c2)];rfl
   ·rw[decide_eq_true c1,decide_eq_false c2,decide_eq_false λz=>c2 (congrArg Prod.snd z)];rfl
  ·rw[decide_eq_false c1,decide_eq_false λz=>c1 (congrArg Prod.fst z)];rfl
 refine wpAny_forIn_list _
  (λrest r s'=>r.1=none/\s'=s/\(rest=[(va,vb),(.ref ba,.ref bb)]\/(rest=[(.ref ba,.ref bb)]/\x.1=y.1)\/(rest=[]/\x=y)))
  _ ?_ ?_ _ _ ⟨rfl,rfl,.inl rfl⟩
 ·rintro⟨u,v⟩ rest r s' ⟨hr,rfl,e|⟨e,e1⟩|⟨e,_⟩⟩
  ·injection e with e1 e2
   injection e1 with e3 e4
   subst e3 e4 e2
   refine wpAny_bind (knd.eqBool (a:=x.1) (b:=y.1) ha1 hb1 ?_)
   by_cases hk:x.1=y.1
   ·rw[decide_eq_true hk]
    simp only[Bool.not_true,Bool.false_eq_true,if_false]
    exact wpAny_pure ⟨rfl,rfl,.inr (.inl ⟨trivial,hk⟩)⟩
   ·rw[decide_eq_false hk]
    simp only[Bool.not_false,if_true]
    rw[dx,decide_eq_false hk] at h
    exact wpAny_bind (wpAny_pure (wpAny_pure (wpAny_pure h)))
  ·injection e with e2 e3
   injection e2 with e4 e5
   subst e4 e5 e3
   refine wpAny_bind (wpAny_eqBool_tuple (x:=x.2) (y:=y.2) hu ha2 hb2 ?_)
   by_cases hk:x.2=y.2
   ·rw[decide_eq_true hk]
    simp only[Bool.not_true,Bool.false_eq_true,if_false]
    exact wpAny_pure ⟨rfl,rfl,.inr (.inr ⟨trivial,Prod.ext e1 hk⟩)⟩
   ·rw[decide_eq_false hk]
    simp only[Bool.not_false,if_true]
    rw[dx,decide_eq_false hk,Bool.and_false] at h
    exact wpAny_bind (wpAny_pure (wpAny_pure (wpAny_pure h)))
  ·cases e
 ·rintro⟨r1,r2⟩ s' ⟨hr,rfl,e|⟨e,_⟩|⟨_,e⟩⟩
  ·cases e
  ·cases e
  ·simp only at hr
   subst hr
   refine wpAny_pure ?_
   rw[decide_eq_true e] at h
   exact h
theorem q5{x y:K×List K}{a b:Addr}{Q:Bool->Shared->Prop}(hu:A.units+1<cLine)(hx:dB knd s.heap x a)(hy:dB knd s.heap y b)(h:Q (decide (x=y)) s) :
  wpAny (model prog w) A (eqBool (.ref a) (.ref b)) Q E s:=by
 unfold eqBool
 try with_reducible refine wpAny_holding ?_
 show wpAny _ _ (if(Value.ref a==Value.ref b)=true then _ else _) Q E s
 by_cases hab:(Value.ref a==Value.ref b)=true
 ·rw[if_pos hab]
  have e:a=b:=by have:=eq_of_beq hab;injection this
  subst e
  obtain rfl:=hx.inj hy
  exact wpAny_bind (wpAny_rule (wpAny_pure (by simpa using h)))
 ·rw[if_neg hab]
  exact wpAny_bind (wpAny_richCompare_same_room (op:=.Eq) hx.typeIs hy.typeIs F.slot_tuple_eq
   (wpAny_call_entry F.slot_tuple_eq hx.typeIs F.entry_tuple_eq (yI (by show A.units+1<cLine;lia) hx hy ⟨_,rfl,(λe=>nomatch e),wpAny_truthy_bool h⟩) (F.args_tuple_eq_2 _ _)) (by lia))
theorem AM{n:Nat}{ks:List K}{a:Addr}{Q:Bool->Shared->Prop}(hk:IsTupleKey knd s.heap ks a)(h:Q true s):wpAny (model prog w) A (eqIsQuiet (n+1) (.ref a)) Q E s:=by
 have hT:=hk.typeIs
 obtain⟨o,items,n,ho,_,hd,hi⟩:=hk
 unfold eqIsQuiet
 refine wpAny_bind (wpAny_specialOf hT F.slot_tuple_eq.lookup ?_)
 show wpAny _ _ (isInstance (.ref a) (.type "tuple") >>= _) _ _ s
 refine wpAny_bind (wpAny_isInstance hT isSubtype_tuple_tuple ?_)
 simp only[Bool.not_true,Bool.false_eq_true,if_false]
 refine wpAny_bind (wpAny_seqItems ho hd ?_)
 refine wpAny_bind ?_
 show wpAny _ _ (forIn items _ _) _ _ s
 rw[<-jv]
 refine wpAny_forIn_list _ (λrest r s'=>r.1=none/\s'=s/\∀v∈rest,carriedByValue v=true) _ ?_ ?_ _ _ ⟨rfl,rfl,hi.byValue⟩
 ·rintro v rest r s' ⟨hr,rfl,hall⟩
  rw[eqIsQuiet_byValue _ (hall v aZ)]
  refine wpAny_bind (wpAny_pure ?_)
  simp only[Bool.not_true,Bool.false_eq_true,if_false]
  exact wpAny_pure ⟨rfl,rfl,λu hu'=>hall u (aY _ hu')⟩
 ·rintro⟨r1,r2⟩ s' ⟨hr,rfl,_⟩
  simp only at hr
  subst hr
  exact wpAny_pure h
theorem CV{k:K×List K}{a:Addr}{Q:Bool->Shared->Prop}(hk:dB knd s.heap k a)(h:Q true s):wpAny (model prog w) A (eqIsQuiet 8 (.ref a)) Q E s:=by
 have hT:=hk.typeIs
 obtain⟨o,v,b,n,ho,_,hd,h1,h2⟩:=hk
 unfold eqIsQuiet
 refine wpAny_bind (wpAny_specialOf hT F.slot_tuple_eq.lookup ?_)
 show wpAny _ _ (isInstance (.ref a) (.type "tuple") >>= _) _ _ s
 refine wpAny_bind (wpAny_isInstance hT isSubtype_tuple_tuple ?_)
 simp only[Bool.not_true,Bool.false_eq_true,if_false]
 refine wpAny_bind (wpAny_seqItems ho hd ?_)
 refine wpAny_bind ?_
 show wpAny _ _ (forIn #[v,Value.ref b] _ _) _ _ s
 rw[<-jv]
 refine wpAny_forIn_list _ (λrest r s'=>r.1=none/\s'=s/\∀v∈rest,carriedByValue v=true\/v=.ref b) _ ?_ ?_ _ _ ⟨rfl,rfl,λu hu=>?_⟩
 ·rintro v rest r s' ⟨hr,rfl,hall⟩
  have fin:wpAny (model prog w) A (eqIsQuiet 7 v) (λx s2=>x=true/\s2=s') E s':=by
   rcases hall v aZ with c|c
   ·rw[eqIsQuiet_byValue _ c]
    exact wpAny_pure ⟨rfl,rfl⟩
   ·subst c
    exact AM h2 ⟨rfl,rfl⟩
  refine wpAny_bind (wpAny_mono fin (λx s2 hx=>?_) λ_ _ z=>z)
  obtain⟨rfl,rfl⟩:=hx
  simp only[Bool.not_true,Bool.false_eq_true,if_false]
  exact wpAny_pure ⟨rfl,rfl,λu hu'=>hall u (aY _ hu')⟩
 ·rintro⟨r1,r2⟩ s' ⟨hr,rfl,_⟩
  simp only at hr
  subst hr
  exact wpAny_pure h
 ·have hu:u∈[v,Value.ref b]:=hu
  rcases aM.mp hu with rfl|hu
  ·exact .inl (knd.byValue _ _ h1)
  ·exact .inr (aj.mp hu)
end
def iT{prog:Program}{w:World}{K:Type}[DecidableEq K](knd:KeyKind prog w K):HeapKind prog w (K×List K) where
 is:=dB knd
 hash:=uC knd
 draws:=λk=>k.2.length+3
 room:=λA=>A.units+1<cLine
 inj:=λhx hy=>hx.inj hy
 keeps:=λx ho hd hs=>x.keeps ho hd hs
 pyHash:=λhu hk h=>q9 hu hk h
 eqBool:=λhu hx hy h=>q5 hu hx hy h
 quiet:=λhk h=>CV hk h
inductive V where
 |non|bl (b:Bool)|int (i:Int)|str (x:Str)|byt (b:Array UInt8)|flt (b:UInt64)|ref (a:Addr)|ty (n:String)
 deriving DecidableEq
def b7:V->Value->Prop
 |.non,u=>u=Value.none
 |.bl b,u=>u=Value.bool b
 |.int i,u=>∃t,u=Value.int i t
 |.str x,u=>∃t,u=Value.str x t
 |.byt b,u=>∃t,u=Value.bytes b t
 |.flt b,u=>∃t,u=Value.float b t
 |.ref a,u=>u=Value.ref a
 |.ty n,u=>u=Value.type n
abbrev b5:List V->List Value->Prop:=Paired b7
theorem b5.length{xs:List V}{us:List Value}(r:b5 xs us):xs.length=us.length:=Paired.length r
theorem b5.get:∀{xs:List V} {us:List Value} {i:Nat} {x:V},b5 xs us->xs[i]?=some x->∃u,us[i]?=some u/\b7 x u
 |_,_,_,_,.nil,e=>by simp at e
 |_,_,0,_,.cons r _,e=>by simp at e;subst e;exact⟨_,rfl,r⟩
 |_,_,i+1,x,.cons _ t,e=>by
  obtain⟨u,h1,h2⟩:=b5.get (i:=i) (x:=x) t (by simpa using e)
  exact⟨u,by simpa using h1,h2⟩
theorem b5.set{x:V}{u:Value}(r:b7 x u):∀{xs:List V} {us:List Value} (i:Nat),b5 xs us->b5 (xs.set i x) (us.set i u)
 |_,_,_,.nil=>.nil
 |_,_,0,.cons _ t=>.cons r t
 |_,_,i+1,.cons q t=>.cons q (b5.set r i t)
theorem b5.append:∀{xs ys:List V} {us ws:List Value},b5 xs us->b5 ys ws->b5 (xs++ys) (us++ws)
 |_,_,_,_,.nil,s=>s
 |_,_,_,_,.cons r t,s=>.cons r (b5.append t s)
theorem b5.take:∀{xs:List V} {us:List Value} (n:Nat),b5 xs us->b5 (xs.take n) (us.take n)
 |_,_,0,_=>.nil
 |_,_,_+1,.nil=>.nil
 |_,_,n+1,.cons r t=>.cons r (b5.take n t)
theorem b5.drop:∀{xs:List V} {us:List Value} (n:Nat),b5 xs us->b5 (xs.drop n) (us.drop n)
 |_,_,0,r=>r
 |_,_,_+1,.nil=>.nil
 |_,_,n+1,.cons _ t=>b5.drop n t
def nN:Option V->Option Value->Prop
 |some v,some u=>b7 v u
 |none,none=>True
 |_,_=>False
def KV{κ:Type}:List (κ×V)->List (κ×Value)->Prop:=Paired λ(p:κ×V) (q:κ×Value)=>p.1=q.1/\b7 p.2 q.2
def kV:ky->V
 |.inl i=>.int i
 |.inr x=>.str x
def kN:b8->V
 |none=>.non
 |some k=>kV k
inductive HO where
  |lst (xs:List V)
  |tup (xs:List V)
  |dK (kvs:List (ky×V))|dT (kvs:List (List b8×V))|dP (kvs:List ((b8×List b8)×V))
  |set (S:Int->Bool) (n:Nat)
  |ins (C dx:Addr) (fs:List (Str×V))
  |own (x:Addr)
  |xd (fs:List (Str×V))
  |met (f x:Addr)
  |rng (lo hi:Int)
  |frz (o:Obj) (u:HO)
  |tbl (ps:Array Value)
  |ext (φ:Heap->Prop)
abbrev Hp:=Addr->Option HO
def aN(H:Hp)(a:Addr)(o:HO):Hp:=λb=>if b=a then some o else H b
theorem ak{H:Hp}{a:Addr}{o:HO}:aN H a o a=some o:=by unfold aN;rw[if_pos rfl]
theorem aA{H:Hp}{a b:Addr}{o:HO}(h:b≠a):aN H a o b=H b:=by unfold aN;rw[if_neg h]
theorem oq{H:Hp}{a b:Addr}{o u:HO}(h:H a=some o)(h':H b=some u)(d:o≠u):a≠b:=by
 intro e;subst e;rw[h] at h';exact d (Option.some.inj h')
theorem aL{H:Hp}{a b:Addr}{o:HO}(h:H a=some o)(h':H b=none):a≠b:=by
 intro e;subst e;rw[h] at h';cases h'
def j7(h:Heap)(a:Addr)(items:Array Value):Prop:=∃o,h.get? a=some o/\(o.cls=.type "tuple"/\o.dict=none)/\∃n,o.data=.seq items n
theorem j7.tup{h:Heap}{a:Addr}{items:Array Value}(x:j7 h a items):IsTup h a items:=let⟨o,e,c,n⟩:=x;⟨o,e,c.1,n⟩
theorem j7.lt{h:Heap}{a:Addr}{items:Array Value}(x:j7 h a items):a<h.objs.size:=let⟨_,e,_⟩:=x;aF e
theorem j7.new(h:Heap)(items:Array Value):j7 (h.push {cls:=.type "tuple",data:=.seq items}) h.objs.size items:=⟨_,az _ rfl,⟨rfl,rfl⟩,_,rfl⟩
section
variable(P:Program)(w:World)
def d4(H:Hp)(h:Heap)(a:Addr):HO->Prop
 |.lst xs=>xs.length<=sizeLine/\∃(its:List Value) (n:Nat),b5 xs its/\h.get? a=some {cls:=.type "list",data:=.seq its.toArray n}
 |.tup xs=>xs.length<=sizeLine/\∃its:List Value,b5 xs its/\j7 h a its.toArray
 |.dK kvs=>kvs.length<=sizeLine/\(a==sysModules)=false/\∃vs,KV kvs vs/\h.DictOf (eF P w) a vs
 |.dT kvs=>kvs.length<=sizeLine/\(a==sysModules)=false/\∃xs:List (List b8×Addr×Value),
   Paired (λ(p:List b8×V) (q:List b8×Addr×Value)=>p.1=q.1/\H q.2.1=some (.tup (p.1.map kN))/\b7 p.2 q.2.2) kvs xs/\
   ∃o es ep,h.get? a=some o/\o.ExactDict/\o.data=.dict es ep/\es.toList=xs.map (entryOfKey (tupleKind (cL P w)))/\(xs.map (·.1)).Nodup
 |.dP kvs=>kvs.length<=sizeLine/\(a==sysModules)=false/\∃xs:List ((b8×List b8)×Addr×Value),
   Paired (λ(p:(b8×List b8)×V) (q:(b8×List b8)×Addr×Value)=>p.1=q.1/\(∃b,H q.2.1=some (.tup [kN p.1.1,.ref b])/\H b=some (.tup (p.1.2.map kN)))/\b7 p.2 q.2.2) kvs xs/\
   ∃o es ep,h.get? a=some o/\o.ExactDict/\o.data=.dict es ep/\es.toList=xs.map (entryOfKey (iT (cL P w)))/\(xs.map (·.1)).Nodup
 |.set S n=>h.SetOf (intKind P w) a S n
 |.ins C dx fs=>H dx=some (.own a)/\fs.length<=1000/\dx≠a/\h.get? a=some (PySem.W.instObj C dx)/\
   ∃mA,h.Ns1 dx mA/\(∀f,nN (fs.lookup f) (mA f))/\PySem.Within mA (fs.map (·.1))
 |.own _=>∃o,h.get? a=some o
 |.xd fs=>∃mA,h.Ns1 a mA/\∀f,nN (fs.lookup f) (mA f)
 |.rng lo hi=>∃t u v,h.get? a=some {cls:=.type "range",data:=.fields #[.int lo t,.int hi u,.int 1 v]}
 |.frz o u=>h.get? a=some o/\d4 H h a u
 |.tbl ps=>h.get? a=some {cls:=.none,data:=.fields ps}
 |.met f x=>h.get? a=some (jM (.ref f) (.ref x))
 |.ext φ=>φ h/\(∃o,h.get? a=some o)/\∀h1 h2:Heap,φ h1->(∀o,h1.get? a=some o->h2.get? a=some o)->φ h2
def og(H:Hp)(h:Heap):Prop:=∀a o,H a=some o->d4 P w H h a o
end
section
variable{P:Program}{w:World}{H H':Hp}{h h':Heap}{a:Addr}{o:HO}
theorem d4.lt(x:d4 P w H h a o):a<h.objs.size:=by
 cases o with
 |lst xs=>obtain⟨_,_,_,_,e⟩:=x;exact aF e
 |tup xs=>obtain⟨_,_,_,p⟩:=x;exact p.lt
 |dK kvs=>obtain⟨_,_,_,_,o,_,_,e,_⟩:=x;exact aF e
 |dT kvs=>obtain⟨_,_,_,_,o,_,_,e,_⟩:=x;exact aF e
 |dP kvs=>obtain⟨_,_,_,_,o,_,_,e,_⟩:=x;exact aF e
 |set S n=>obtain⟨o,_,_,_,e,_⟩:=x;exact aF e
 |ins C dx fs=>obtain⟨_,_,_,e,_⟩:=x;exact aF e
 |own y=>obtain⟨_,e⟩:=x;exact aF e
 |xd fs=>obtain⟨_,⟨_,_,_,e,_⟩,_⟩:=x;exact aF e
 |rng lo hi=>obtain⟨_,_,_,e⟩:=x;exact aF e
 |frz ob u=>obtain⟨e,_⟩:=x;exact aF e
 |tbl ps=>exact aF (show h.get? a=some _ from x)
 |met f y=>exact aF (show h.get? a=some _ from x)
 |ext φ=>obtain⟨_,⟨_,e⟩,_⟩:=x;exact aF e
theorem Paired.mapP{α β:Type}{F G:α->β->Prop}:∀{l₁:List α} {l₂:List β},Paired F l₁ l₂->(∀a b,F a b->G a b)->Paired G l₁ l₂
 |_,_,.nil,_=>.nil
 |_,_,.cons r t,f=>.cons (f _ _ r) (Paired.mapP t f)
theorem d4.stay(x:d4 P w H h a o)(k:∀b u,(b=a\/H b=some (.own a))->h.get? b=some u->h'.get? b=some u)
  (ho:∀b,H b=some (.own a)->H' b=some (.own a)) (ht:∀b xs,H b=some (.tup xs)->H' b=some (.tup xs)):d4 P w H' h' a o:=by
 induction o with
 |lst xs=>obtain⟨z,its,n,r,e⟩:=x;exact⟨z,its,n,r,k _ _ (.inl rfl) e⟩
 |tup xs=>obtain⟨z,its,r,ob,e,c⟩:=x;exact⟨z,its,r,ob,k _ _ (.inl rfl) e,c⟩
 |dK kvs=>obtain⟨z,y,vs,r,ob,es,ep,e,c⟩:=x;exact⟨z,y,vs,r,ob,es,ep,k _ _ (.inl rfl) e,c⟩
 |dT kvs=>
  obtain⟨z,y,xs,r,ob,es,ep,e,c⟩:=x
  exact⟨z,y,xs,Paired.mapP r λp q z=>⟨z.1,ht _ _ z.2.1,z.2.2⟩,ob,es,ep,k _ _ (.inl rfl) e,c⟩
 |dP kvs=>
  obtain⟨z,y,xs,r,ob,es,ep,e,c⟩:=x
  exact⟨z,y,xs,Paired.mapP r λp q z=>⟨z.1,let⟨b,h1,h2⟩:=z.2.1;⟨b,ht _ _ h1,ht _ _ h2⟩,z.2.2⟩,ob,es,ep,k _ _ (.inl rfl) e,c⟩
 |set S n=>obtain⟨ob,es,ep,t,e,c⟩:=x;exact⟨ob,es,ep,t,k _ _ (.inl rfl) e,c⟩
 |ins C dx fs=>
  obtain⟨d,z,ne,e,mA,⟨od,es,ep,e2,c⟩,r⟩:=x
  exact⟨ho _ d,z,ne,k _ _ (.inl rfl) e,mA,⟨od,es,ep,k _ _ (.inr d) e2,c⟩,r⟩
 |own y=>obtain⟨ob,e⟩:=x;exact⟨ob,k _ _ (.inl rfl) e⟩
 |xd fs=>obtain⟨mA,⟨od,es,ep,e,c⟩,r⟩:=x;exact⟨mA,⟨od,es,ep,k _ _ (.inl rfl) e,c⟩,r⟩
 |rng lo hi=>obtain⟨t,u,v,e⟩:=x;exact⟨t,u,v,k _ _ (.inl rfl) e⟩
 |frz ob u ih=>obtain⟨e,q⟩:=x;exact⟨k _ _ (.inl rfl) e,ih q⟩
 |tbl ps=>
  have e:h.get? a=some {cls:=.none,data:=.fields ps}:=x
  show h'.get? a=some {cls:=.none,data:=.fields ps}
  exact k a _ (.inl rfl) e
 |met f y=>
  have e:h.get? a=some (jM (.ref f) (.ref y)):=x
  show h'.get? a=some (jM (.ref f) (.ref y))
  exact k a _ (.inl rfl) e
 |ext φ=>obtain⟨p,⟨o,e⟩,st⟩:=x;exact⟨st _ _ p λo q=>k _ _ (.inl rfl) q,⟨o,k _ _ (.inl rfl) e⟩,st⟩
theorem og.lt(x:og P w H h)(e:H a=some o):a<h.objs.size:=(x a o e).lt
theorem og.fresh(x:og P w H h)(e:h.objs.size<=a):H a=none:=by
 cases q:H a with
 |none=>rfl
 |some u=>exact absurd (bh (x.lt q) e) (c7 _)
theorem og.kept(x:og P w H h)(k:∀b u,h.get? b=some u->h'.get? b=some u):og P w H h':=λa o e=>
 (x a o e).stay (λb u _ q=>k b u q) (λ_ q=>q) λ_ _ q=>q
theorem og.laid(x:og P w H h)(k:∀b u,h.get? b=some u->h'.get? b=some u)(hp:h.objs.size<=a)(new:d4 P w (aN H a o) h' a o):og P w (aN H a o) h':=λb u e=>by
 have hn:=x.fresh hp
 by_cases hb:b=a
 ·subst hb;rw[ak] at e;cases e;exact new
 ·rw[aA hb] at e
  exact(x b u e).stay (λc v _ q=>k c v q) (λc q=>by rw[aA (aL q hn)];exact q) λc xs q=>by rw[aA (aL q hn)];exact q
end
def Rd(H:Hp)(a:Addr)(u:HO):Prop:=H a=some u\/∃o,H a=some (.frz o u)
theorem Rd.ok{P:Program}{w:World}{H:Hp}{h:Heap}{a:Addr}{u:HO}(r:Rd H a u)(x:og P w H h):d4 P w H h a u:=by
 rcases r with r|⟨o,r⟩
 ·exact x a u r
 ·obtain⟨_,q⟩:=x a _ r
  exact q
def Nf:Option HO->Prop
 |some (.lst _)=>True
 |some (.dK _)=>True
 |some (.dT _)=>True
 |some (.dP _)=>True
 |some (.set _ _)=>True
 |some (.ins _ _ _)=>True
 |some (.ext _)=>True
 |_=>False
section
variable{P:Program}{w:World}{H:Hp}{h h':Heap}{x e:Addr}{o':HO}
theorem og.write(ok:og P w H h)(mu:Nf (H x))(he:e=x\/H e=some (.own x))(k:∀b u,b≠e->h.get? b=some u->h'.get? b=some u)(heo:∃u,h'.get? e=some u)
  (new:d4 P w (aN H x o') h' x o'):og P w (aN H x o') h':=λb u q=>by
 have nown:∀c y,H c=some (.own y)->c≠x:=λc y r z=>by subst z;rw[r] at mu;exact mu
 have ntup:∀c xs,H c=some (.tup xs)->c≠x:=λc xs r z=>by subst z;rw[r] at mu;exact mu
 by_cases hb:b=x
 ·subst hb;rw[ak] at q;cases q;exact new
 ·rw[aA hb] at q
  by_cases hbe:b=e
  ·have q':H b=some (.own x):=by
    rcases he with z|z
    ·exact absurd (hbe.trans z) hb
    ·rw[hbe];exact z
   rw[q] at q';cases q'
   obtain⟨v,hv⟩:=heo
   exact⟨v,by rw[hbe];exact hv⟩
  ·refine(ok b u q).stay (λc v hc r=>k c v ?_ r) (λc r=>by rw[aA (nown c b r)];exact r) λc xs r=>by rw[aA (ntup c xs r)];exact r
   rcases hc with rfl|hc
   ·exact hbe
   ·rintro rfl
    rcases he with z|z
    ·exact nown c b hc z
    ·rw[hc] at z;cases z;exact hb rfl
end
structure Un(fs ex:List Addr)(H H':Hp)(h h':Heap):Prop where
 keep:∀b o,h.get? b=some o->H b=none->b∉fs->b∉ex->h'.get? b=some o
 slot:∀b o,h.get? b=some o->H b=none->b∈fs->b∉ex->∃sl,h'.get? b=some {o with slots:=sl}
 free:∀b o,h.get? b=some o->H b=none->b∉ex->H' b=none
 there:∀b o,h.get? b=some o->b∉ex->∃o',h'.get? b=some o'
 tups:∀b xs,H b=some (.tup xs)->H' b=some (.tup xs)
 frzs:∀b o u,H b=some (.frz o u)->H' b=some (.frz o u)
 tbls:∀b ps,H b=some (.tbl ps)->∃more,H' b=some (.tbl (ps++more))
section
variable{fs fs' ex ex':List Addr}{H H1 H2:Hp}{h h1 h2 h':Heap}{a x e:Addr}{o:HO}
theorem Un.any(u:Un fs ex H H1 h h1){b:Addr}{ob:Obj}(q:h.get? b=some ob)(n:H b=none)(hx:b∉ex):∃sl,h1.get? b=some {ob with slots:=sl}:=by
 by_cases hb:b∈fs
 ·exact u.slot b ob q n hb hx
 ·exact⟨ob.slots,u.keep b ob q n hb hx⟩
theorem Un.kept(k:∀b u,h.get? b=some u->h'.get? b=some u):Un fs ex H H h h':=
 ⟨λb ob q _ _ _=>k b ob q,λb ob q _ _ _=>⟨ob.slots,k b ob q⟩,λ_ _ _ n _=>n,λb ob q _=>⟨ob,k b ob q⟩,λ_ _ q=>q,λ_ _ _ q=>q,λ_ ps q=>⟨#[],by rw[q];simp⟩⟩
theorem Un.refl:Un fs ex H H h h:=Un.kept λ_ _ q=>q
theorem Un.laid(k:∀b u,h.get? b=some u->h'.get? b=some u)(hp:h.objs.size<=a)(hn:H a=none):Un fs ex H (aN H a o) h h' where
 keep:=λb u q _ _ _=>k b u q
 slot:=λb u q _ _ _=>⟨u.slots,k b u q⟩
 free:=λb u q n _=>by rw[aA (aO (bh (aF q) hp))];exact n
 there:=λb u q _=>⟨u,k b u q⟩
 tups:=λb xs q=>by rw[aA (aL q hn)];exact q
 frzs:=λb u xs q=>by rw[aA (aL q hn)];exact q
 tbls:=λb ps q=>⟨#[],by rw[aA (aL q hn),q];simp⟩
theorem Un.write(mu:Nf (H x))(he:e=x\/H e=some (.own x))(k:∀b u,b≠e->h.get? b=some u->h'.get? b=some u)(heo:∃u,h'.get? e=some u):Un fs ex H (aN H x o) h h':=by
 have hx:∀b,H b=none->b≠x:=λb n z=>by subst z;rw[n] at mu;exact mu
 have hb:∀b,H b=none->b≠e:=λb n z=>by
  subst z
  rcases he with r|r
  ·exact hx b n r
  ·rw[n] at r;cases r
 have hm:∀b u,H b=some u->¬Nf (some u)->b≠x:=λb u q nm z=>by subst z;rw[q] at mu;exact nm mu
 refine⟨λb u q n _ _=>k b u (hb b n) q,λb u q n _ _=>⟨u.slots,k b u (hb b n) q⟩,λb u q n _=>by rw[aA (hx b n)];exact n,λb u q _=>?_,
  λb xs q=>by rw[aA (hm b _ q λz=>z)];exact q,λb u xs q=>by rw[aA (hm b _ q λz=>z)];exact q,λb ps q=>⟨#[],by rw[aA (hm b _ q λz=>z),q];simp⟩⟩
 by_cases hbe:b=e
 ·subst hbe;exact heo
 ·exact⟨u,k b u hbe q⟩
end
def Og(h:Heap)(H:Hp):List Addr:=(bZ h.objs.size).filter λa=>(H a).isSome
def yr(h:Heap)(H:Hp):Heap:=PySem.W.hideAll h (Og h H)
theorem E1(h:Heap)(H:Hp):(yr h H).objs.size=h.objs.size:=PySem.W.hideAll_size _ _
theorem GL{h:Heap}{H:Hp}{b:Addr}{o:Obj}(e:h.get? b=some o)(n:H b=none):(yr h H).get? b=some o:=
 PySem.W.hideAll_get _ e λhm=>by
  have q:(H b).isSome=true:=(a9.mp hm).2
  rw[n] at q;simp at q
theorem J4{h:Heap}{H:Hp}{b:Addr}{o:Obj}(e:(yr h H).get? b=some o):h.get? b=some o/\H b=none:=by
 have e':h.get? b=some o:=PySem.W.of_hideAll (Og h H) e
 refine⟨e',?_⟩
 cases q:H b with
 |none=>rfl
 |some x=>
  have hm:b∈Og h H:=a9.mpr ⟨gR.mpr (aF e'),by simp[q]⟩
  have z:(yr h H).get? b=none:=PySem.W.hideAll_none (Og h H) hm
  rw[z] at e;cases e
structure Mod(K:Fg)(mg:Str->Option Value)(base:Heap):Prop where
 kin:K.In base
 glob:base.Ns mainGlobals mg
 blt:∃mb,base.Ns builtinsNs mb/\∀x:Str,x≠"__name__"->mb x=bootBuiltins x
 nolimit:base.NoLimit
structure Cx where
 prog:Program
 w:World
 K:Fg
 mg:Str->Option Value
 base:Heap
 A:Around
 N:List Str
 s₀:Shared
 H₀:Hp
 env:Env
 outer:List Env
 stack:List Env
 ex:List Addr
 fn:Str->Bool
 calm:Bool
 pn:List (Addr×Obj)
 xe:Value->Shared->Prop
def GH(l:List Env):List Addr:=l.filterMap (·.frame)
abbrev Cx.fs(X:Cx):List Addr:=GH X.outer
def Oc(sc:Scope)(x:Str):Prop:=sc.names.lookup x=some .local\/sc.names.lookup x=some .cell\/sc.names.lookup x=some .free
def FX(sc:Scope)(x:Str):Prop:=sc.names.lookup x=some .local\/sc.names.lookup x=some .cell
def Oj(env:Env)(h:Heap)(m:Str->Option Value)(x:Str)(u:Value):Prop:=
 (env.kindOf x=some .local/\m x=some u)\/((env.kindOf x=some .cell\/env.kindOf x=some .free)/\∃c,env.cells.lookup x=some c/\h.IsCell c (some u))
structure Cx.Ok(X:Cx):Prop where
 mod:Mod X.K X.mg X.base
 kind:X.env.scope.kind=.function
 glob:X.env.globals=mainGlobals
 blt:X.env.builtins=builtinsNs
 above:X.s₀.heap.objs.size<=X.env.locals
 inj:∀x y c,X.env.cells.lookup x=some c->X.env.cells.lookup y=some c->x=y
 has:∀x,(X.env.kindOf x=some .cell\/X.env.kindOf x=some .free)->∃c,X.env.cells.lookup x=some c
 cab:∀x c,X.fn x=true->X.env.cells.lookup x=some c->X.s₀.heap.objs.size<=c
 hd:X.calm=true->X.A.handled=none
 frames:X.A.frames=some X.stack
 stk:X.stack=X.outer\/(X.stack=X.env::X.outer/\X.env.frame=some X.env.locals)
 exf:∀b∈X.ex,b≠X.env.locals/\∀x c,X.env.cells.lookup x=some c->c≠b
 bs:∀b o,X.base.get? b=some o->X.s₀.heap.get? b=some o/\X.H₀ b=none
 bsz:X.base.objs.size<=X.s₀.heap.objs.size
 noex:∀b o,X.base.get? b=some o->b∉X.ex
 exfs:∀b∈X.ex,b∉X.fs
 funs:X.s₀.heap.FunFrames X.base X.outer
 frf:∀b∈X.fs,X.H₀ b=none
structure bu(X:Cx)(pins:List (Addr×Obj))(σ:List (Option V))(H:Hp)(s:Shared):Prop where
 ok:X.Ok
 os:s.os=X.s₀.os
 bare:AllBare s.gens
 base:Un X.fs X.ex X.H₀ H X.s₀.heap s.heap
 loc:∃m,s.heap.Ns X.env.locals m/\∀(i:Nat) (x:Str) (v:V),X.N[i]?=some x->σ[i]?=some (some v)->Oc X.env.scope x->∃u,b7 v u/\Oj X.env s.heap m x u
 cell:∀x c,X.env.cells.lookup x=some c->∃v,s.heap.IsCell c v
 free:H X.env.locals=none
 freeC:∀x c,X.env.cells.lookup x=some c->H c=none
 pin:∀p∈X.pn++pins,s.heap.get? p.1=some p.2/\H p.1=none/\p.1≠X.env.locals/\p.1∉X.fs/\∀v,p.2.data≠.cell v
 hok:og X.prog X.w H s.heap
 len:σ.length=X.N.length
section
variable{X:Cx}{pins:List (Addr×Obj)}{σ:List (Option V)}{H H':Hp}{s:Shared}{h':Heap}
theorem Cx.Ok.nofr(ok:X.Ok){b:Addr}{o:Obj}(e:X.base.get? b=some o):b∉X.fs:=λhb=>by
 have:=(ok.funs.mem hb).1
 rw[e] at this;cases this
theorem bu.bs(I:bu X pins σ H s):∀b o,X.base.get? b=some o->s.heap.get? b=some o/\H b=none:=λb o e=>
 ⟨I.base.keep b o (I.ok.bs b o e).1 (I.ok.bs b o e).2 (I.ok.nofr e) (I.ok.noex b o e),I.base.free b o (I.ok.bs b o e).1 (I.ok.bs b o e).2 (I.ok.noex b o e)⟩
theorem bu.bk(I:bu X pins σ H s):∀b o,X.base.get? b=some o->s.heap.get? b=some o:=λb o e=>(I.bs b o e).1
theorem bu.mod(I:bu X pins σ H s):Mod X.K X.mg X.base:=I.ok.mod
theorem bu.kIn(I:bu X pins σ H s):X.K.In s.heap:=I.ok.mod.kin.keeps I.bk
theorem bu.lt(I:bu X pins σ H s):X.env.locals<s.heap.objs.size:=let⟨_,hn,_⟩:=I.loc;hn.lt
theorem bu.sz(I:bu X pins σ H s):X.s₀.heap.objs.size<=s.heap.objs.size:=br I.ok.above (bW I.lt)
theorem bu.nofs(I:bu X pins σ H s){a:Addr}(h:s.heap.objs.size<=a):a∉X.fs:=λhb=>by
 obtain⟨_,o,ho,_⟩:=I.ok.funs.mem hb
 exact absurd (bh (aF ho) (br I.sz h)) (c7 _)
theorem bu.cne(I:bu X pins σ H s):∀x c,X.env.cells.lookup x=some c->c≠X.env.locals:=λx c e z=>by
 obtain⟨v,o,ho,hd⟩:=I.cell x c e
 obtain⟨m,⟨o',es,ep,ho',hd',_⟩,_⟩:=I.loc
 rw[z,ho'] at ho;cases ho;rw[hd'] at hd;cases hd
theorem bu.funs(I:bu X pins σ H s):s.heap.FunFrames X.base X.outer:=by
 have all:∀(l:List Env),(∀b∈GH l,b∈X.fs)->X.s₀.heap.FunFrames X.base l->s.heap.FunFrames X.base l:=by
  intro l
  induction l with
  |nil=>intro _ _;trivial
  |cons env r ih=>
   intro hs hl
   obtain⟨hk,⟨L,o,hf,hn,ho,hd⟩,hr⟩:=hl
   have hL:L∈X.fs:=hs L (by unfold GH;rw[f6,hf];exact aZ)
   obtain⟨sl,e⟩:=I.base.slot L o ho (I.ok.frf L hL) hL λz=>I.ok.exfs L z hL
   exact⟨hk,⟨L,_,hf,hn,e,hd⟩,ih (λb hb=>hs b (by unfold GH;rw[f6,hf];exact aY _ hb)) hr⟩
 exact all X.outer (λ_ hb=>hb) I.ok.funs
theorem bu.stack(I:bu X pins σ H s):s.heap.FunFrames X.base X.stack:=by
 rcases I.ok.stk with e|⟨e,hf⟩
 ·rw[e];exact I.funs
 ·rw[e]
  obtain⟨m,hn,_⟩:=I.loc
  refine .cons (by rw[I.ok.kind];decide) hf hn ?_ I.funs
  exact Heap.get?_none_of_le (br I.ok.bsz I.ok.above)
theorem bu.stkSub(I:bu X pins σ H s):∀b∈GH X.stack,b∈X.env.locals::X.fs:=λb hb=>by
 rcases I.ok.stk with e|⟨e,hf⟩
 ·rw[e] at hb;exact aY _ hb
 ·rw[e] at hb
  unfold GH at hb
  rw[f6,hf] at hb
  exact hb
theorem bu.stkFree(I:bu X pins σ H s):∀b∈GH X.stack,H b=none:=λb hb=>by
 rcases aM.mp (I.stkSub b hb) with e|hb
 ·rw[e];exact I.free
 ·obtain⟨_,o,ho,_⟩:=I.ok.funs.mem hb
  exact I.base.free b o ho (I.ok.frf b hb) λz=>I.ok.exfs b z hb
theorem bu.step{g':Array GenState}{t':Nat}{d':Drawn}{ch:List Addr}(I:bu X pins σ H s)
  (hch:∀b∈ch,(b∈X.ex\/X.s₀.heap.objs.size<=b)/\b≠X.env.locals/\(∀x c,X.env.cells.lookup x=some c->c≠b)/\∀p∈X.pn++pins,p.1≠b)
  (keep:∀b o,b≠X.env.locals->b∉X.fs->b∉ch->s.heap.get? b=some o->H b=none->h'.get? b=some o)
  (slot:∀b o,b≠X.env.locals->b∈X.fs->b∉ch->s.heap.get? b=some o->H b=none->∃sl,h'.get? b=some {o with slots:=sl}) (free:∀b o,b∉ch->s.heap.get? b=some o->H b=none->H' b=none)
  (there:∀b o,b∉ch->s.heap.get? b=some o->∃o',h'.get? b=some o')
  (tups:∀b xs,H b=some (.tup xs)->H' b=some (.tup xs)) (frzs:∀b o u,H b=some (.frz o u)->H' b=some (.frz o u)) (tbls:∀b ps,H b=some (.tbl ps)->∃more,H' b=some (.tbl (ps++more)))
  (ns:∀m,s.heap.Ns X.env.locals m->h'.Ns X.env.locals m) (hok:og X.prog X.w H' h') (hg:AllBare g') :
  bu X pins σ H' {s with heap:=h',gens:=g',drawn:=d',toks:=t'}:=by
 have neL:∀b o,X.s₀.heap.get? b=some o->b≠X.env.locals:=λb o e=>aO (bh (aF e) I.ok.above)
 have neC:∀b o,X.s₀.heap.get? b=some o->b∉X.ex->b∉ch:=λb o e hx hb=>by
  rcases(hch b hb).1 with z|z
  ·exact hx z
  ·exact absurd (bh (aF e) z) (c7 _)
 have cellK:∀x c,X.env.cells.lookup x=some c->∀v,s.heap.IsCell c v->h'.IsCell c v:=λx c e v ⟨o,ho,hd⟩=>by
  have nch:c∉ch:=λz=>(hch c z).2.2.1 x c e rfl
  by_cases hc:c∈X.fs
  ·obtain⟨sl,q⟩:=slot c o (I.cne x c e) hc nch ho (I.freeC x c e)
   exact⟨_,q,hd⟩
  ·exact⟨o,keep c o (I.cne x c e) hc nch ho (I.freeC x c e),hd⟩
 refine⟨I.ok,I.os,hg,⟨λb o e n hb hx=>?_,λb o e n hb hx=>?_,λb o e n hx=>?_,λb o e hx=>?_,λb xs e=>tups b xs (I.base.tups b xs e),λb o xs e=>frzs b o xs (I.base.frzs b o xs e),λb ps e=>?_⟩,?_,λx c e=>?_,?_,λx c e=>?_,λp hp=>?_,hok,I.len⟩
 ·exact keep b o (neL b o e) hb (neC b o e hx) (I.base.keep b o e n hb hx) (I.base.free b o e n hx)
 ·obtain⟨sl,e1⟩:=I.base.slot b o e n hb hx
  obtain⟨sl',e2⟩:=slot b _ (neL b o e) hb (neC b o e hx) e1 (I.base.free b o e n hx)
  exact⟨sl',e2⟩
 ·obtain⟨o',e1⟩:=I.base.there b o e hx
  exact free b o' (neC b o e hx) e1 (I.base.free b o e n hx)
 ·obtain⟨o',e1⟩:=I.base.there b o e hx
  exact there b o' (neC b o e hx) e1
 ·obtain⟨m1,e1⟩:=I.base.tbls b ps e
  obtain⟨m2,e2⟩:=tbls b _ e1
  exact⟨m1++m2,by rw[e2,Array.append_assoc]⟩
 ·obtain⟨m,hn,hl⟩:=I.loc
  refine⟨m,ns m hn,λi x v e1 e2 e3=>?_⟩
  obtain⟨u,r,l⟩:=hl i x v e1 e2 e3
  refine⟨u,r,?_⟩
  rcases l with l|⟨k,c,e,z⟩
  ·exact .inl l
  ·exact .inr ⟨k,c,e,cellK x c e _ z⟩
 ·obtain⟨v,z⟩:=I.cell x c e
  exact⟨v,cellK x c e v z⟩
 ·obtain⟨m,⟨o,_,_,ho,_⟩,_⟩:=I.loc
  exact free _ o (λz=>(hch _ z).2.1 rfl) ho I.free
 ·obtain⟨v,o,ho,hd⟩:=I.cell x c e
  exact free c o (λz=>(hch c z).2.2.1 x c e rfl) ho (I.freeC x c e)
 ·obtain⟨e,n,ne,nf,d⟩:=I.pin p hp
  have nch:p.1∉ch:=λz=>(hch p.1 z).2.2.2 p hp rfl
  exact⟨keep p.1 p.2 ne nf nch e n,free p.1 p.2 nch e n,ne,nf,d⟩
theorem bu.un{t':Nat}(I:bu X pins σ H s)(u:Un X.fs [] H H' s.heap h')(hok:og X.prog X.w H' h'):bu X pins σ H' {s with heap:=h',toks:=t'}:=by
 obtain⟨m,⟨o,es,ep,ho,r⟩,_⟩:=id I.loc
 obtain⟨sl,hL⟩:=u.any ho I.free (by simp)
 exact I.step (g':=s.gens) (d':=s.drawn) (ch:=[]) (λ_ z=>nomatch z) (λb o _ hb _ e n=>u.keep b o e n hb (by simp)) (λb o _ hb _ e n=>u.slot b o e n hb (by simp)) (λb o _ e n=>u.free b o e n (by simp)) (λb o _ e=>u.there b o e (by simp)) u.tups u.frzs u.tbls (λm' hm=>by
  obtain⟨o',es',ep',ho',r'⟩:=hm
  rw[ho] at ho';cases ho'
  exact⟨_,es',ep',hL,r'⟩) hok I.bare
theorem bu.call{g':Array GenState}{t':Nat}{d':Drawn}{ch:List Addr}(I:bu X pins σ H s)(u:Un (GH X.stack) ch H H' s.heap h')(hok:og X.prog X.w H' h')(hg:AllBare g')
  (hch:∀b∈ch,(b∈X.ex\/X.s₀.heap.objs.size<=b)/\b≠X.env.locals/\(∀x c,X.env.cells.lookup x=some c->c≠b)/\∀p∈X.pn++pins,p.1≠b) :
  bu X pins σ H' {s with heap:=h',gens:=g',drawn:=d',toks:=t'}:=by
 obtain⟨m,⟨o,es,ep,ho,r⟩,_⟩:=id I.loc
 obtain⟨sl,hL⟩:=u.any ho I.free λz=>(hch _ z).2.1 rfl
 exact I.step (ch:=ch) hch (λb o hL hb hc e n=>u.keep b o e n (λz=>(aM.mp (I.stkSub b z)).elim hL hb) hc) (λb o _ _ hc e n=>u.any e n hc) (λb o hc e n=>u.free b o e n hc) (λb o hc e=>u.there b o e hc) u.tups u.frzs u.tbls (λm' hm=>by
  obtain⟨o',es',ep',ho',r'⟩:=hm
  rw[ho] at ho';cases ho'
  exact⟨_,es',ep',hL,r'⟩) hok hg
theorem bu.turned{t':Nat}{it:Addr}(I:bu X pins σ H s)(k:∀b o,b≠it->s.heap.get? b=some o->h'.get? b=some o)(hn:H it=none)(hL:it≠X.env.locals)
  (h1:it∈X.ex\/X.s₀.heap.objs.size<=it) (h2:∀x c,X.env.cells.lookup x=some c->c≠it) (h3:∀p∈X.pn++pins,p.1≠it):bu X pins σ H {s with heap:=h',toks:=t'}:=by
 have nit:∀b u,H b=some u->b≠it:=λb u e z=>by rw[z,hn] at e;cases e
 refine I.step (g':=s.gens) (d':=s.drawn) (ch:=[it]) (λb hb=>?_) (λb o _ _ hc e _=>k b o (λz=>hc (by simp[z])) e) (λb o _ _ hc e _=>⟨o.slots,k b o (λz=>hc (by simp[z])) e⟩) (λ_ _ _ _ n=>n)
  (λb o hc e=>⟨o,k b o (λz=>hc (by simp[z])) e⟩) (λ_ _ e=>e) (λ_ _ _ e=>e) (λb ps e=>⟨#[],by rw[e];simp⟩) (λm hm=>?_) (λb u e=>?_) I.bare
 ·have e:b=it:=by simpa using hb
  subst e
  exact⟨h1,hL,h2,h3⟩
 ·obtain⟨o,es,ep,ho,r⟩:=hm
  exact⟨o,es,ep,k _ o (Ne.symm hL) ho,r⟩
 ·refine(I.hok b u e).stay (λc v hc q=>k c v ?_ q) (λ_ q=>q) λ_ _ q=>q
  rcases hc with z|z
  ·rw[z];exact nit b u e
  ·exact nit c _ z
theorem bu.tok(I:bu X pins σ H s)(t:Nat):bu X pins σ H {s with toks:=t}:=I.un (h':=s.heap) (t':=t) Un.refl I.hok
theorem bu.kept{t':Nat}(I:bu X pins σ H s)(k:∀b u,s.heap.get? b=some u->h'.get? b=some u):bu X pins σ H {s with heap:=h',toks:=t'}:=I.un (Un.kept k) (I.hok.kept k)
theorem bu.laid{a:Addr}{o:HO}{t':Nat}(I:bu X pins σ H s)(k:∀b u,s.heap.get? b=some u->h'.get? b=some u)(hp:s.heap.objs.size<=a)(new:d4 X.prog X.w (aN H a o) h' a o) :
  bu X pins σ (aN H a o) {s with heap:=h',toks:=t'}:=I.un (Un.laid k hp (I.hok.fresh hp)) (I.hok.laid k hp new)
theorem bu.write{x e:Addr}{o:HO}{t':Nat}(I:bu X pins σ H s)(mu:Nf (H x))(he:e=x\/H e=some (.own x))(k:∀b u,b≠e->s.heap.get? b=some u->h'.get? b=some u)(heo:∃u,h'.get? e=some u)
  (new:d4 X.prog X.w (aN H x o) h' x o):bu X pins σ (aN H x o) {s with heap:=h',toks:=t'}:=I.un (Un.write mu he k heo) (I.hok.write mu he k heo new)
theorem bu.pins_of{pins':List (Addr×Obj)}(I:bu X pins σ H s)(h:∀p∈pins',s.heap.get? p.1=some p.2/\H p.1=none/\p.1≠X.env.locals/\p.1∉X.fs/\∀v,p.2.data≠.cell v):bu X pins' σ H s:=
 ⟨I.ok,I.os,I.bare,I.base,I.loc,I.cell,I.free,I.freeC,λp hp=>(ax.mp hp).elim (λz=>I.pin p (bC _ z)) (h p),I.hok,I.len⟩
theorem AF{N:List Str}(hN:N.Nodup){i j:Nat}{x:Str}(a:N[i]?=some x)(b:N[j]?=some x):i=j:=by
 obtain⟨h1,e1⟩:=ae.mp a
 obtain⟨h2,e2⟩:=ae.mp b
 exact(List.getElem_inj hN).mp (e1.trans e2.symm)
theorem xr{M:Model}{A:Around}{E:Value->Shared->Prop}{i:Nat}{x:Str}{v:V}{u:Value}{Q:Unit->Shared->Prop}(I:bu X pins σ H s)(hN:X.N.Nodup)(hi:X.N[i]?=some x)(hx:FX X.env.scope x)(r:b7 v u)
  (h:∀s',bu X pins (σ.set i (some v)) H s'->(∃a,Heap.SameBut a s.heap s'.heap/\(a=X.env.locals\/X.env.cells.lookup x=some a))->Q () s') (hf:X.fn x=true\/X.env.scope.names.lookup x=some .local:=by first|exact .inl rfl|exact .inr rfl|assumption):wpAny M A (storeName X.env x u) Q E s:=by
 obtain⟨m,hn,hl⟩:=id I.loc
 have hcls:(X.env.scope.kind==.class || (X.env.scope.kind==.module&&X.env.locals != X.env.globals))=false:=by rw[I.ok.kind];rfl
 have hiσ:i<σ.length:=by rw[I.len];exact(ae.mp hi).1
 have cne:=I.cne
 have tracked:∀{a:Addr} {h':Heap},(∃o,s.heap.get? a=some o/\H a=none)->Heap.SameBut a s.heap h'->og X.prog X.w H h':=λ{a h'} ha hs b ob e=>by
  obtain⟨_,_,hfree⟩:=ha
  refine(I.hok b ob e).stay (λc w' hc q=>(hs.2 c ?_).trans q) (λ_ q=>q) λ_ _ q=>q
  rintro rfl
  rcases hc with rfl|hc
  ·rw[hfree] at e;cases e
  ·rw[hfree] at hc;cases hc
 rcases hx with hk|hk
 ·refine wpAny_storeName_local hk hn (λh' hn' hs=>?_) hcls
  obtain⟨oL,_,_,hoL,_⟩:=id hn
  refine h _ ⟨I.ok,I.os,I.bare,⟨λb o e n hb hx=>?_,λb o e n hb hx=>?_,I.base.free,λb o e hx=>?_,I.base.tups,I.base.frzs,I.base.tbls⟩,⟨_,hn',λj y v' e1 e2 e3=>?_⟩,λy c e=>?_,I.free,I.freeC,λp hp=>?_,tracked ⟨oL,hoL,I.free⟩ hs,by simpa using I.len⟩ ⟨_,hs,.inl rfl⟩
  ·exact(hs.2 b (aO (bh (aF e) I.ok.above))).trans (I.base.keep b o e n hb hx)
  ·obtain⟨sl,e1⟩:=I.base.slot b o e n hb hx
   exact⟨sl,(hs.2 b (aO (bh (aF e) I.ok.above))).trans e1⟩
  ·obtain⟨o',e1⟩:=I.base.there b o e hx
   exact⟨o',(hs.2 b (aO (bh (aF e) I.ok.above))).trans e1⟩
  ·by_cases hj:j=i
   ·subst hj
    rw[hi] at e1;cases e1
    rw[gQ hiσ] at e2
    cases e2
    exact⟨u,r,.inl ⟨hk,by simp⟩⟩
   ·rw[iM (Ne.symm hj)] at e2
    obtain⟨u',r',q⟩:=hl j y v' e1 e2 e3
    refine⟨u',r',?_⟩
    rcases q with⟨k,e⟩|⟨k,c,e,z⟩
    ·refine .inl ⟨k,?_⟩
     have:y≠x:=λe=>hj (AF hN e1 (e ▸ hi))
     simp[this,e]
    ·exact .inr ⟨k,c,e,z.sameBut hs (cne y c e)⟩
  ·obtain⟨w',z⟩:=I.cell y c e
   exact⟨w',z.sameBut hs (cne y c e)⟩
  ·obtain⟨e,n,ne,nf,d⟩:=I.pin p hp
   exact⟨(hs.2 p.1 ne).trans e,n,ne,nf,d⟩
 ·have hfn:X.fn x=true:=by
   rcases hf with z|z
   ·exact z
   ·rw[z] at hk;cases hk
  obtain⟨c,hc⟩:=I.ok.has x (.inl hk)
  obtain⟨w',z⟩:=I.cell x c hc
  refine wpAny_storeName_cell I.ok.kind hk hc z (λh' hc' hs=>?_)
  obtain⟨oc,hoc,hocd⟩:=id z
  refine h {s with heap:=h'} ⟨I.ok,I.os,I.bare,⟨λb o e n hb hx=>?_,λb o e n hb hx=>?_,I.base.free,λb o e hx=>?_,I.base.tups,I.base.frzs,I.base.tbls⟩,⟨m,hn.sameBut hs (Ne.symm (cne x c hc)),λj y v' e1 e2 e3=>?_⟩,λy c' e=>?_,I.free,I.freeC,λp hp=>?_,tracked ⟨oc,hoc,I.freeC x c hc⟩ hs,by simpa using I.len⟩ ⟨c,hs,.inr hc⟩
  ·exact(hs.2 b (aO (bh (aF e) (I.ok.cab x c hfn hc)))).trans (I.base.keep b o e n hb hx)
  ·obtain⟨sl,e1⟩:=I.base.slot b o e n hb hx
   exact⟨sl,(hs.2 b (aO (bh (aF e) (I.ok.cab x c hfn hc)))).trans e1⟩
  ·obtain⟨o',e1⟩:=I.base.there b o e hx
   exact⟨o',(hs.2 b (aO (bh (aF e) (I.ok.cab x c hfn hc)))).trans e1⟩
  ·by_cases hj:j=i
   ·subst hj
    rw[hi] at e1;cases e1
    rw[gQ hiσ] at e2
    cases e2
    exact⟨u,r,.inr ⟨.inl hk,c,hc,hc'⟩⟩
   ·rw[iM (Ne.symm hj)] at e2
    obtain⟨u',r',q⟩:=hl j y v' e1 e2 e3
    refine⟨u',r',?_⟩
    rcases q with q|⟨k,c',e,z'⟩
    ·exact .inl q
    ·refine .inr ⟨k,c',e,z'.sameBut hs ?_⟩
     rintro rfl
     exact hj (AF hN e1 (I.ok.inj _ _ _ e hc ▸ hi))
  ·by_cases hcc:c'=c
   ·subst hcc;exact⟨_,hc'⟩
   ·obtain⟨w2,z2⟩:=I.cell y c' e
    exact⟨w2,z2.sameBut hs hcc⟩
  ·obtain⟨e,n,ne,nf,d⟩:=I.pin p hp
   refine⟨(hs.2 p.1 ?_).trans e,n,ne,nf,d⟩
   intro q
   rw[q,hoc] at e
   have q':oc=p.2:=Option.some.inj e
   exact d w' (by rw[<-q'];exact hocd)
theorem Bb{M:Model}{A:Around}{E:Value->Shared->Prop}{i:Nat}{x:Str}{v:V}{u:Value}{Q:Unit->Shared->Prop}(I:bu X pins σ H s)(hN:X.N.Nodup)(hi:X.N[i]?=some x)(hx:FX X.env.scope x)(r:b7 v u)
  (h:∀s',bu X pins (σ.set i (some v)) H s'->Q () s') (hf:X.fn x=true\/X.env.scope.names.lookup x=some .local:=by first|exact .inl rfl|exact .inr rfl|assumption):wpAny M A (storeName X.env x u) Q E s:=
 xr I hN hi hx r (λs' I' _=>h s' I') hf
theorem bu.call'{s':Shared}{ch:List Addr}(I:bu X pins σ H s)(ho:s'.os=s.os)(u:Un (GH X.stack) ch H H' s.heap s'.heap)(hok:og X.prog X.w H' s'.heap)(hg:AllBare s'.gens)
  (hch:∀b∈ch,(b∈X.ex\/X.s₀.heap.objs.size<=b)/\b≠X.env.locals/\(∀x c,X.env.cells.lookup x=some c->c≠b)/\∀p∈X.pn++pins,p.1≠b):bu X pins σ H' s':=by
 obtain⟨h',g',d',t',o'⟩:=s'
 have e:o'=s.os:=ho
 subst e
 exact I.call (g':=g') (t':=t') (d':=d') u hok hg hch
end
abbrev XK:=Value->Option Addr->Hp->Prop
abbrev St:=List (Option V)
abbrev VK:=V->Hp->Prop
abbrev TE:=St->Hp->VK->Prop
abbrev TT:=St->Hp->(Bool->Hp->Prop)->Prop
abbrev TA:=St->Hp->(List V->Hp->Prop)->Prop
structure lT where
 nx:St->Hp->Prop
 rt:VK
 bk:St->Hp->Prop:=λ_ _=>False
 ct:St->Hp->Prop:=λ_ _=>False
abbrev TS:=lT->St->Hp->Prop
def EP(X:Cx)(pins:List (Addr×Obj))(σ:St)(Q:VK)(u:Value)(s':Shared):Prop:=∃v H',bu X pins σ H' s'/\b7 v u/\Q v H'
def TP(X:Cx)(pins:List (Addr×Obj))(σ:St)(Q:Bool->Hp->Prop)(b:Bool)(s':Shared):Prop:=∃H',bu X pins σ H' s'/\Q b H'
def AP(X:Cx)(pins:List (Addr×Obj))(σ:St)(Q:List V->Hp->Prop)(us:List Value)(s':Shared):Prop:=∃vs H',bu X pins σ H' s'/\b5 vs us/\Q vs H'
def SP(X:Cx)(pins:List (Addr×Obj))(D:lT)(f:Flow)(s':Shared):Prop:=
 match f with
 |.next=>∃σ' H',bu X pins σ' H' s'/\D.nx σ' H'
 |.brk=>∃σ' H',bu X pins σ' H' s'/\D.bk σ' H'
 |.cont=>∃σ' H',bu X pins σ' H' s'/\D.ct σ' H'
 |.ret u=>∃v σ' H',bu X pins σ' H' s'/\b7 v u/\D.rt v H'
def PE(X:Cx)(e:Expr)(t:TE):Prop:=
 ∀(pins:List (Addr×Obj)) (s:Shared) (σ:St) (H:Hp) (Q:VK),bu X pins σ H s->t σ H Q->wpAny (model X.prog X.w) X.A (eval e X.env) (EP X pins σ Q) X.xe s
def PT(X:Cx)(e:Expr)(t:TT):Prop:=
 ∀(pins:List (Addr×Obj)) (s:Shared) (σ:St) (H:Hp) (Q:Bool->Hp->Prop),bu X pins σ H s->t σ H Q->wpAny (model X.prog X.w) X.A (isTrue e X.env (eval e X.env)) (TP X pins σ Q) X.xe s
def PW(X:Cx)(e:Expr)(t:TT):Prop:=
 ∀(whole:Sem Value) (pins:List (Addr×Obj)) (s:Shared) (σ:St) (H:Hp) (Q:Bool->Hp->Prop),bu X pins σ H s->t σ H Q->wpAny (model X.prog X.w) X.A (isTrue e X.env whole) (TP X pins σ Q) X.xe s
theorem PW.pt{X:Cx}{e:Expr}{t:TT}(h:PW X e t):PT X e t:=h _
def PA(X:Cx)(es:List Expr)(t:TA):Prop:=
 ∀(pos:Pos) (pins:List (Addr×Obj)) (s:Shared) (σ:St) (H:Hp) (Q:List V->Hp->Prop),bu X pins σ H s->t σ H Q->wpAny (model X.prog X.w) X.A (spliced (backTo pos (starEach es X.env))) (AP X pins σ Q) X.xe s
def PS(X:Cx)(st:Stmt)(t:TS):Prop:=
 ∀(pins:List (Addr×Obj)) (s:Shared) (σ:St) (H:Hp) (D:lT),bu X pins σ H s->t D σ H->wpAny (model X.prog X.w) X.A (exec st X.env) (SP X pins D) X.xe s
def BU(X:Cx)(st:List Stmt)(t:TS):Prop:=
 ∀(pins:List (Addr×Obj)) (s:Shared) (σ:St) (H:Hp) (D:lT),bu X pins σ H s->t D σ H->wpAny (model X.prog X.w) X.A (execs st X.env) (SP X pins D) X.xe s
theorem eJ{α:Type}{t:Sem α}{Q Q':α->Shared->Prop}{M:Model}{A:Around}{E:Value->Shared->Prop}{s:Shared}(h:wpAny M A t Q E s)(hQ:∀a s,Q a s->Q' a s):wpAny M A t Q' E s:=wpAny_mono h hQ λ_ _ x=>x
section
variable{X:Cx}
def ay(i:Nat):TE:=λσ H Q=>∃v,σ[i]?=some (some v)/\Q v H
def tC(v:V):TE:=λ_ H Q=>Q v H
theorem Mu{i:Nat}{x:Str}{pos:Pos}(hN:X.N[i]?=some x)(hv:Oc X.env.scope x)(hd:(x==("__debug__":Str))=false:=by decide)(hcd:(x==("__classdict__":Str))=false:=by decide):PE X (.Name x pos) (ay i):=by
 intro pins s σ H Q I h
 obtain⟨v,e,h⟩:=h
 obtain⟨m,hn,hl⟩:=I.loc
 obtain⟨u,r,l⟩:=hl i x v hN e hv
 have fin:EP X pins σ Q u s:=⟨v,H,I,r,h⟩
 rcases l with⟨hk,hm⟩|⟨hk,c,hc,hcell⟩
 ·exact wpAny_Name (wpAny_loadName_local I.ok.kind hk hn hm fin) hd
 ·rcases hk with hk|hk
  ·exact wpAny_Name (wpAny_loadName_cell I.ok.kind hk hc hcell fin) hd
  ·exact wpAny_Name (wpAny_loadName_free I.ok.kind hk hc hcell fin hcd) hd
theorem Mo{i j pos}:PE X (.Constant (.int i) j pos) (tC (.int i)):=λ_ _ _ H _ I h=>wpAny_Constant_int ⟨.int i,H,I.tok _,⟨_,rfl⟩,h⟩
theorem NF{b j pos}:PE X (.Constant (.bool b) j pos) (tC (.bl b)):=λ_ _ _ H _ I h=>Constant_bool ⟨.bl b,H,I,rfl,h⟩
theorem Mq{j pos}:PE X (.Constant .none j pos) (tC .non):=λ_ _ _ H _ I h=>Constant_none ⟨.non,H,I,rfl,h⟩
theorem Ms{x j pos}:PE X (.Constant (.str x) j pos) (tC (.str x)):=λ_ _ _ H _ I h=>Calls.Constant_str ⟨.str x,H,I.tok _,⟨_,rfl⟩,h⟩
def Gl(X:Cx)(x:Str):Prop:=X.env.kindOf x=some .globalImplicit
theorem JZ{E:Value->Shared->Prop}{pins:List (Addr×Obj)}{s:Shared}{σ:St}{H:Hp}{x:Str}{u:Value}{pos:Pos}{Q:Value->Shared->Prop}(I:bu X pins σ H s)(hg:Gl X x)(hm:X.mg x=some u)(h:Q u s)
  (hd:(x==("__debug__":Str))=false:=by decide):wpAny (model X.prog X.w) X.A (eval (.Name x pos) X.env) Q E s:=
 Calls.Name_function_global I.ok.kind hg (Calls.loadGlobal_global (by rw[I.ok.glob];exact I.mod.glob.keeps I.bk) hm h) hd
theorem i8{E:Value->Shared->Prop}{pins:List (Addr×Obj)}{s:Shared}{σ:St}{H:Hp}{x:Str}{u:Value}{pos:Pos}{Q:Value->Shared->Prop}(I:bu X pins σ H s)(hg:Gl X x)(hm:X.mg x=none)(hv:bootBuiltins x=some u)(h:Q u s)
  (hn:x≠"__name__":=by decide) (hd:(x==("__debug__":Str))=false:=by decide):wpAny (model X.prog X.w) X.A (eval (.Name x pos) X.env) Q E s:=by
 obtain⟨mb,h1,h2⟩:=I.mod.blt
 exact Calls.Name_function_global I.ok.kind hg (Calls.loadGlobal_builtin (by rw[I.ok.glob];exact I.mod.glob.keeps I.bk) hm (by rw[I.ok.blt];exact h1.keeps I.bk) ((h2 x hn).trans hv) h) hd
variable{a b:Expr}{ta tb:TE}{pos:Pos}
def tB(t:TE):TT:=λσ H Q=>t σ H λx H1=>∃c,x=.bl c/\Q c H1
theorem ME{e:Expr}{t:TE}(h:PE X e t)(he:∀whole,isTrue e X.env whole=(do let v <-whole;standAt e.pos;holding [v] (truthy v)):=by intro _;rfl):PT X e (tB t):=by
 intro pins s σ H Q I hw
 refine isTrue_plain (eJ (h pins s σ H _ I hw) λv s1 ⟨x,H1,I1,r1,q1⟩=>?_) (he _)
 obtain⟨d,rfl,q⟩:=q1
 cases r1
 exact wpAny_truthy_bool ⟨H1,I1,q⟩
variable{tA tB':TT}{rest:List Expr}
def Dg(t u:TT):TT:=λσ H Q=>t σ H λc H1=>if c=true then u σ H1 Q else Q false H1
def Ox(t u:TT):TT:=λσ H Q=>t σ H λc H1=>if c=true then Q true H1 else u σ H1 Q
def K5(t:TT):TT:=λσ H Q=>t σ H λc H1=>Q (!c) H1
theorem Kw(ha:PT X a tA):PW X (.BoolOp .And [a] pos) tA:=by
 intro wh pins s σ H Q I h
 refine isTrue_and (eJ (ha pins s σ H Q I h) λc s1 e=>?_)
 cases c with
 |true=>exact isTrue_and_nil e
 |false=>exact e
theorem MH(ha:PT X a tA):PW X (.BoolOp .Or [a] pos) tA:=by
 intro wh pins s σ H Q I h
 refine isTrue_or (eJ (ha pins s σ H Q I h) λc s1 e=>?_)
 cases c with
 |false=>exact isTrue_or_nil e
 |true=>exact e
theorem MG(ha:PT X a tA)(hb:PW X (.BoolOp .And (b::rest) pos) tB'):PW X (.BoolOp .And (a::b::rest) pos) (Dg tA tB'):=by
 intro wh pins s σ H Q I h
 refine isTrue_and (eJ (ha pins s σ H _ I h) λc s1 ⟨H1,I1,q1⟩=>?_)
 cases c with
 |true=>exact hb wh pins s1 σ H1 Q I1 q1
 |false=>exact⟨H1,I1,q1⟩
theorem NN(ha:PT X a tA)(hb:PW X (.BoolOp .Or (b::rest) pos) tB'):PW X (.BoolOp .Or (a::b::rest) pos) (Ox tA tB'):=by
 intro wh pins s σ H Q I h
 refine isTrue_or (eJ (ha pins s σ H _ I h) λc s1 ⟨H1,I1,q1⟩=>?_)
 cases c with
 |true=>exact⟨H1,I1,q1⟩
 |false=>exact hb wh pins s1 σ H1 Q I1 q1
theorem MD(ha:PT X a tA):PT X (.UnaryOp .Not a pos) (K5 tA):=by
 intro pins s σ H Q I h
 exact isTrue_not (ha pins s σ H (λc H1=>Q (!c) H1) I h)
def IB(ta tb:TE):TE:=λσ H Q=>ta σ H λx H1=>∃c,x=.bl c/\if c=true then tb σ H1 Q else Q (.bl false) H1
def MY(ta tb:TE):TE:=λσ H Q=>ta σ H λx H1=>∃c,x=.bl c/\if c=true then Q (.bl true) H1 else tb σ H1 Q
theorem Mr{op}{t:TE}(h:PE X a t):PE X (.BoolOp op [a] pos) t:=λpins s σ H Q I hw=>BoolOp_one (h pins s σ H Q I hw)
theorem Mm(ha:PE X a ta)(hb:PE X (.BoolOp .And (b::rest) pos) tb):PE X (.BoolOp .And (a::b::rest) pos) (IB ta tb):=by
 intro pins s σ H Q I h
 refine BoolOp_and (eJ (ha pins s σ H _ I h) λv s1 ⟨x,H1,I1,r1,q1⟩=>?_)
 obtain⟨c,rfl,q1⟩:=q1
 cases r1
 refine wpAny_truthy_bool ?_
 cases c with
 |true=>exact hb pins s1 σ H1 Q I1 q1
 |false=>exact⟨.bl false,H1,I1,rfl,q1⟩
theorem NK(ha:PE X a ta)(hb:PE X (.BoolOp .Or (b::rest) pos) tb):PE X (.BoolOp .Or (a::b::rest) pos) (MY ta tb):=by
 intro pins s σ H Q I h
 refine BoolOp_or (eJ (ha pins s σ H _ I h) λv s1 ⟨x,H1,I1,r1,q1⟩=>?_)
 obtain⟨c,rfl,q1⟩:=q1
 cases r1
 refine wpAny_truthy_bool ?_
 cases c with
 |false=>exact hb pins s1 σ H1 Q I1 q1
 |true=>exact⟨.bl true,H1,I1,rfl,q1⟩
def Of(t:TT)(ta tb:TE):TE:=λσ H Q=>t σ H λc H1=>if c=true then ta σ H1 Q else tb σ H1 Q
theorem Hq{c:Expr}(hc:PT X c tA)(ha:PE X a ta)(hb:PE X b tb):PE X (.IfExp c a b pos) (Of tA ta tb):=by
 intro pins s σ H Q I h
 refine wpAny_IfExp (eJ (hc pins s σ H _ I h) λd s1 ⟨H1,I1,q1⟩=>?_)
 cases d with
 |true=>exact ha pins s1 σ H1 Q I1 q1
 |false=>exact hb pins s1 σ H1 Q I1 q1
end
def cq(K:Fg)(H:Hp)(a:Addr)(xs:List V):Prop:=
 Rd H a (.lst xs)\/
  ∃(o:Obj) (its:Array Value) (n:Nat),K.lookup a=some o/\o.cls=.type "list"/\o.dict=none/\o.data=.seq its n/\its.size<=sizeLine/\b5 xs its.toList
def cE(K:Fg)(H:Hp)(a:Addr)(xs:List V):Prop:=
 Rd H a (.tup xs)\/
  ∃(o:Obj) (its:Array Value) (n:Nat),K.lookup a=some o/\o.cls=.type "tuple"/\o.data=.seq its n/\its.size<=sizeLine/\b5 xs its.toList
def Oq:Value->Option V
 |.none=>some .non
 |.bool b=>some (.bl b)
 |.int i _=>some (.int i)
 |.str x _=>some (.str x)
 |.bytes b _=>some (.byt b)
 |.float b _=>some (.flt b)
 |.ref a=>some (.ref a)
 |.type n=>some (.ty n)
 |_=>none
theorem b7.abs{x:V}{u:Value}(r:b7 x u):Oq u=some x:=by
 cases x with
 |non=>cases r;rfl
 |bl _=>cases r;rfl
 |int _=>obtain⟨t,rfl⟩:=r;rfl
 |str _=>obtain⟨t,rfl⟩:=r;rfl
 |byt _=>obtain⟨t,rfl⟩:=r;rfl
 |flt _=>obtain⟨t,rfl⟩:=r;rfl
 |ref _=>cases r;rfl
 |ty _=>cases r;rfl
theorem b7.inj{x y:V}{u:Value}(r:b7 x u)(q:b7 y u):x=y:=Option.some.inj (r.abs.symm.trans q.abs)
theorem b5.inj:∀{xs ys:List V} {us:List Value},b5 xs us->b5 ys us->xs=ys
 |_,_,_,.nil,.nil=>rfl
 |_,_,_,.cons r t,.cons r' t'=>by rw[r.inj r',b5.inj t t']
section
variable{X:Cx}{pins:List (Addr×Obj)}{σ:St}{H:Hp}{s:Shared}{a:Addr}{xs ys:List V}
theorem cq.of{K:Fg}(h:H a=some (.lst xs)):cq K H a xs:=.inl (.inl h)
theorem cE.of{K:Fg}(h:H a=some (.tup xs)):cE K H a xs:=.inl (.inl h)
theorem bu.list(I:bu X pins σ H s)(h:cq X.K H a xs):∃its:List Value,b5 xs its/\PlainL s.heap a its.toArray/\xs.length<=sizeLine:=by
 rcases h with h|⟨o,its,n,hk,hc,hd,hs,hz,r⟩
 ·obtain⟨z,its,n,r,e⟩:=h.ok I.hok
  exact⟨its,r,⟨_,n,e,rfl,rfl,rfl⟩,z⟩
 ·refine⟨its.toList,r,⟨o,n,I.kIn a o hk,hc,hd,by simpa using hs⟩,?_⟩
  have e:=r.length
  simp only[bH] at e
  lia
theorem bu.tuple(I:bu X pins σ H s)(h:cE X.K H a xs):∃its:List Value,b5 xs its/\IsTup s.heap a its.toArray/\xs.length<=sizeLine:=by
 rcases h with h|⟨o,its,n,hk,hc,hs,hz,r⟩
 ·obtain⟨z,its,r,p⟩:=h.ok I.hok
  exact⟨its,r,p.tup,z⟩
 ·refine⟨its.toList,r,⟨o,I.kIn a o hk,hc,n,by simpa using hs⟩,?_⟩
  have e:=r.length
  simp only[bH] at e
  lia
theorem bu.list_inj(I:bu X pins σ H s)(h:cq X.K H a xs)(h':cq X.K H a ys):xs=ys:=by
 obtain⟨its,r,⟨o,n,e,_,_,d⟩,_⟩:=I.list h
 obtain⟨its',r',⟨o',n',e',_,_,d'⟩,_⟩:=I.list h'
 rw[e] at e';cases e'
 rw[d] at d'
 injection d' with d1 _
 have:its=its':=by simpa using congrArg pR d1
 subst this
 exact r.inj r'
theorem bu.tuple_inj(I:bu X pins σ H s)(h:cE X.K H a xs)(h':cE X.K H a ys):xs=ys:=by
 obtain⟨its,r,⟨o,e,_,n,d⟩,_⟩:=I.tuple h
 obtain⟨its',r',⟨o',e',_,n',d'⟩,_⟩:=I.tuple h'
 rw[e] at e';cases e'
 rw[d] at d'
 injection d' with d1 _
 have:its=its':=by simpa using congrArg pR d1
 subst this
 exact r.inj r'
end
abbrev Cx.wish(X:Cx)(E:Value->Shared->Prop):Cx:={X with xe:=E}
abbrev Cx.nox(X:Cx):Cx:=X.wish λ_ _=>False
theorem Cx.Ok.wish{X:Cx}(ok:X.Ok)(E:Value->Shared->Prop):(X.wish E).Ok:=
 ⟨ok.mod,ok.kind,ok.glob,ok.blt,ok.above,ok.inj,ok.has,ok.cab,ok.hd,ok.frames,ok.stk,ok.exf,ok.bs,ok.bsz,ok.noex,ok.exfs,ok.funs,ok.frf⟩
theorem Cx.Ok.unwish{X:Cx}{E:Value->Shared->Prop}(ok:(X.wish E).Ok):X.Ok:=
 ⟨ok.mod,ok.kind,ok.glob,ok.blt,ok.above,ok.inj,ok.has,ok.cab,ok.hd,ok.frames,ok.stk,ok.exf,ok.bs,ok.bsz,ok.noex,ok.exfs,ok.funs,ok.frf⟩
section
variable{X:Cx}{pins:List (Addr×Obj)}{σ:St}{H:Hp}{s:Shared}{E:Value->Shared->Prop}
theorem bu.wish(I:bu X pins σ H s)(E:Value->Shared->Prop):bu (X.wish E) pins σ H s:=⟨I.ok.wish E,I.os,I.bare,I.base,I.loc,I.cell,I.free,I.freeC,I.pin,I.hok,I.len⟩
theorem bu.unwish(I:bu (X.wish E) pins σ H s):bu X pins σ H s:=⟨I.ok.unwish,I.os,I.bare,I.base,I.loc,I.cell,I.free,I.freeC,I.pin,I.hok,I.len⟩
theorem SP.unwish{D:lT}{f:Flow}{s':Shared}(h:SP (X.wish E) pins D f s'):SP X pins D f s':=by
 cases f with
 |next=>obtain⟨σ',H',I,q⟩:=h;exact⟨σ',H',I.unwish,q⟩
 |brk=>obtain⟨σ',H',I,q⟩:=h;exact⟨σ',H',I.unwish,q⟩
 |cont=>obtain⟨σ',H',I,q⟩:=h;exact⟨σ',H',I.unwish,q⟩
 |ret u=>obtain⟨v,σ',H',I,r,q⟩:=h;exact⟨v,σ',H',I.unwish,r,q⟩
theorem BU.nox{st:List Stmt}{t:TS}(h:BU X.nox st t):BU X st t:=λpins s σ H D I hw=>
 wpAny_mono (h pins s σ H D (I.wish _) hw) (λ_ _ q=>q.unwish) λ_ _ z=>False.elim z
end
section
variable{X:Cx}{st:Stmt}{rest:List Stmt}{t u:TS}{e:Expr}{te:TE}{pos:Pos}
def dW:TS:=λD σ H=>D.nx σ H
def bt(t u:TS):TS:=λD σ H=>t {D with nx:=u D} σ H
theorem Kt:BU X [] dW:=λ_ _ σ H _ I h=>wpAny_execs_nil ⟨σ,H,I,h⟩
theorem Hx(h1:PS X st t)(h2:BU X rest u):BU X (st::rest) (bt t u):=by
 intro pins s σ H D I h
 refine wpAny_execs_cons (eJ (h1 pins s σ H {D with nx:=u D} I h) λf s1 q=>?_)
 cases f with
 |next=>
  obtain⟨σ',H',I',q⟩:=q
  exact h2 pins s1 σ' H' D I' q
 |ret v=>exact q
 |brk=>exact q
 |cont=>exact q
theorem Ku(h1:PS X st t):BU X [st] t:=by
 intro pins s σ H D I h
 refine wpAny_execs_cons (eJ (h1 pins s σ H D I h) λf s1 q=>?_)
 cases f with
 |next=>exact wpAny_execs_nil q
 |ret v=>exact q
 |brk=>exact q
 |cont=>exact q
theorem bu.quiet{pins:List (Addr×Obj)}{σ:St}{H:Hp}{s:Shared}(I:bu X pins σ H s):interactive X.env=false:=by simp[interactive,I.ok.kind]
def fZ(te:TE):TS:=λD σ H=>te σ H λ_ H1=>D.nx σ H1
theorem Ks(he:PE X e te)(hs:swapsWith e none pos.line X.env=pure false:=by rfl):PS X (.Expr e pos) (fZ te):=by
 intro pins s σ H D I h
 exact wpAny_Expr_any (eJ (he pins s σ H _ I h) λv s1 ⟨x,H1,I1,r1,q1⟩=>⟨σ,H1,I1,q1⟩) I.quiet hs
def dz(te:TE):TS:=λD σ H=>te σ H D.rt
theorem MB(he:PE X e te):PS X (.Return (some e) pos) (dz te):=by
 intro pins s σ H D I h
 exact wpAny_Return_some (eJ (he pins s σ H _ I h) λv s1 ⟨x,H1,I1,r1,q1⟩=>⟨x,σ,H1,I1,r1,q1⟩)
def gb(c:TT)(t u:TS):TS:=λD σ H=>c σ H λb H1=>if b=true then t D σ H1 else u D σ H1
theorem NM{c:Expr}{a b:List Stmt}{tc:TT}(hc:PT X c tc)(ha:BU X a t)(hb:BU X b u):PS X (.If c a b pos) (gb tc t u):=by
 intro pins s σ H D I h
 refine wpAny_If (eJ (hc pins s σ H _ I h) λd s1 ⟨H1,I1,q1⟩=>?_)
 cases d with
 |true=>exact ha pins s1 σ H1 D I1 q1
 |false=>exact hb pins s1 σ H1 D I1 q1
end
abbrev TG:=V->St->Hp->(St->Hp->Prop)->Prop
abbrev EN:=List V->St->Hp->(St->Hp->Prop)->Prop
def PG(X:Cx)(target:Expr)(t:TG):Prop:=
 ∀(pins:List (Addr×Obj)) (s:Shared) (σ:St) (H:Hp) (v:V) (u:Value) (Q:St->Hp->Prop),bu X pins σ H s->b7 v u->t v σ H Q->
  wpAny (model X.prog X.w) X.A (assign target X.env u) (λ_ s'=>∃σ' H',bu X pins σ' H' s'/\Q σ' H') X.xe s
def M4(X:Cx)(ts:List Expr)(t:EN):Prop:=
 ∀(pins:List (Addr×Obj)) (s:Shared) (σ:St) (H:Hp) (vs:List V) (us:List Value) (Q:St->Hp->Prop),bu X pins σ H s->b5 vs us->t vs σ H Q->
  wpAny (model X.prog X.w) X.A (assignInOrder ((assignEach ts X.env).map (·.2)) us) (λ_ s'=>∃σ' H',bu X pins σ' H' s'/\Q σ' H') X.xe s
abbrev Jy:=V->V->V->Hp->(Hp->Prop)->Prop
def F8(X:Cx)(t:Jy):Prop:=
 ∀(pins:List (Addr×Obj)) (s:Shared) (σ:St) (H:Hp) (o i v:V) (ov iv u:Value) (Q:Hp->Prop),bu X pins σ H s->b7 o ov->b7 i iv->b7 v u->t o i v H Q->
  wpAny (model X.prog X.w) X.A (setItem ov iv u) (λ_ s'=>∃H',bu X pins σ H' s'/\Q H') X.xe s
section
variable{X:Cx}{pos:Pos}
def aQ(i:Nat):TG:=λv σ H Q=>Q (σ.set i (some v)) H
theorem Kf{i:Nat}{x:Str}(hN:X.N.Nodup)(hi:X.N[i]?=some x)(hx:FX X.env.scope x)(hf:X.fn x=true\/X.env.scope.names.lookup x=some .local:=by first|exact .inl rfl|exact .inr rfl|assumption):PG X (.Name x pos) (aQ i):=by
 intro pins s σ H v u Q I r h
 exact wpAny_assign_Name (Bb I hN hi hx r (λs' I'=>⟨_,H,I',h⟩) hf)
def lX:EN:=λvs σ H Q=>vs=[]/\Q σ H
def dG(t:TG)(u:EN):EN:=λvs σ H Q=>∃v r,vs=v::r/\t v σ H λσ' H'=>u r σ' H' Q
theorem Kh:M4 X [] lX:=by
 intro pins s σ H vs us Q I r h
 obtain⟨e,h⟩:=h
 subst e
 cases r
 exact assignInOrder_nil ⟨σ,H,I,h⟩
theorem Hs{e:Expr}{es:List Expr}{t:TG}{u:EN}(h1:PG X e t)(h2:M4 X es u)
  (hs:(assignEach (e::es) X.env).map (·.2)=assign e X.env::(assignEach es X.env).map (·.2):=by rfl):M4 X (e::es) (dG t u):=by
 intro pins s σ H vs us Q I r h
 obtain⟨v,vr,e1,h⟩:=h
 subst e1
 cases r with
 |cons r rr=>
  rw[hs]
  refine assignInOrder_cons (eJ (h1 pins s σ H _ _ _ I r h) λ_ s1 ⟨σ1,H1,I1,q1⟩=>?_)
  exact h2 pins s1 σ1 H1 _ _ Q I1 rr q1
def my(K:Fg)(n:Nat)(t:EN):TG:=λv σ H Q=>∃a xs,v=.ref a/\cE K H a xs/\xs.length=n/\t xs σ H Q
theorem Mw{es:List Expr}{k:Nat}{t:EN}{n:Nat}(hc:X.calm=true)(h:M4 X es t)
  (hn:(assignEach es X.env).length=n:=by rfl) (hst:(assignEach es X.env).findIdx? (·.1)=none:=by rfl):PG X (.Tuple es k pos) (my X.K n t):=by
 intro pins s σ H v u Q I r hw
 obtain⟨a,xs,e1,hq,hl,hw⟩:=hw
 subst e1
 cases r
 obtain⟨its,rv,ht,hz⟩:=I.tuple hq
 refine assign_Tuple_tuple (I.ok.hd hc) ht (by simp[hn,<-hl,rv.length]) hst λh' hx=>?_
 have I1:bu X pins σ H {s with heap:=h'}:=I.kept (t':=s.toks) λb o e=>hx b o (aO (aF e)) e
 exact h pins _ σ H xs _ Q I1 (by simpa using rv) hw
def yp(to ti:TE)(t:Jy):TG:=λv σ H Q=>to σ H λo H1=>ti σ H1 λi H2=>t o i v H2 λH3=>Q σ H3
theorem Mv{o i:Expr}{to ti:TE}{t:Jy}(ho:PE X o to)(hi:PE X i ti)(hs:F8 X t)
  (ha:∀v,assign (.Subscript o i pos) X.env v=(do
   let ov <-holding [v] (eval o X.env)
   let iv <-holding [v,ov] (eval i X.env)
   standAt pos
   holding [v,ov,iv] (setItem ov iv v)
   release [v,ov,iv] []):=by intro _;rfl):PG X (.Subscript o i pos) (yp to ti t):=by
 intro pins s σ H v u Q I r h
 rw[ha]
 refine wpAny_bind (wpAny_holding (eJ (ho pins s σ H _ I h) λov s1 ⟨x,H1,I1,r1,q1⟩=>?_))
 refine wpAny_bind (wpAny_holding (eJ (hi pins s1 σ H1 _ I1 q1) λiv s2 ⟨y,H2,I2,r2,q2⟩=>?_))
 refine wpAny_bind (wpAny_standAt (wpAny_bind (wpAny_holding (eJ (hs pins s2 σ H2 x y v ov iv u _ I2 r1 r2 r q2) λ_ s3 ⟨H3,I3,q3⟩=>?_))))
 exact wpAny_release ⟨σ,H3,I3,q3⟩
def bP(te:TE)(g:TG):TS:=λD σ H=>te σ H λx H1=>g x σ H1 D.nx
theorem Mz{tg e:Expr}{te:TE}{g:TG}(he:PE X e te)(hg:PG X tg g)(hs:swapsWithSole [tg] e pos.line X.env=pure false:=by rfl)(hw:swappedStores [tg] e X.env=pure none:=by rfl)
  (h1:(assignEach [tg] X.env).map (·.2)=[assign tg X.env]:=by rfl):PS X (.Assign [tg] e pos) (bP te g):=by
 intro pins s σ H D I h
 refine wpAny_Assign_stores (eJ (he pins s σ H _ I h) λv s1 ⟨x,H1,I1,r1,q1⟩=>?_) hs hw
 rw[h1]
 exact eJ (hg pins s1 σ H1 x v _ I1 r1 q1) λ_ s2 q=>q
theorem MC{i:Nat}{x:Str}{e:Expr}{te:TE}{pos':Pos}(hN:X.N.Nodup)(hi:X.N[i]?=some x)(hx:FX X.env.scope x)(he:PE X e te)(hs:swapsWith e (some (.Name x pos')) pos.line X.env=pure false:=by rfl)(hf:X.fn x=true\/X.env.scope.names.lookup x=some .local:=by first|exact .inl rfl|exact .inr rfl|assumption) :
  PS X (.Assign [.Name x pos'] e pos) (bP te (aQ i)):=by
 intro pins s σ H D I h
 refine wpAny_Assign_Name (eJ (he pins s σ H _ I h) λv s1 ⟨y,H1,I1,r1,q1⟩=>?_) hs
 exact Bb I1 hN hi hx r1 (λs2 I2=>⟨_,H1,I2,q1⟩) hf
end
section
variable{X:Cx}{pos:Pos}
def lx(c:TT)(tb:TS):TS:=λD σ H=>∃W:Nat->St->Hp->Prop,(∃m,W m σ H)/\∀m σ H,W m σ H->
 c σ H λb H1=>if b=true then ∃N:St->Hp->Prop,(∀σ' H',N σ' H'->∃m',m'<m/\W m' σ' H')/\tb {D with nx:=N,ct:=N,bk:=D.nx} σ H1 else D.nx σ H1
theorem Hw{c:Expr}{body:List Stmt}{tc:TT}{tb:TS}(hp:PassesOwn (model X.prog X.w) X.A X.env X.xe)(hc:PT X c tc)(hb:BU X body tb):PS X (.While c body [] pos) (lx tc tb):=by
 intro pins s σ H D I h
 obtain⟨W,⟨m0,w0⟩,turn⟩:=h
 refine wpAny_While (codeAny_whileLoop (λn s'=>∃σ' H',bu X pins σ' H' s'/\W n σ' H') ?_ m0 ⟨σ,H,I,w0⟩)
 rintro n s1 ⟨σ1,H1,I1,w1⟩
 refine wpAny_passesOwn hp (eJ (hc pins s1 σ1 H1 _ I1 (turn n σ1 H1 w1)) λb s2 ⟨H2,I2,q2⟩=>?_)
 cases b with
 |true=>
  obtain⟨N,hN,q2⟩:=q2
  rw[if_pos rfl]
  refine wpAny_passesOwn hp (eJ (hb pins s2 σ1 H2 _ I2 q2) λf s3 q3=>?_)
  cases f with
  |next=>
   obtain⟨σ3,H3,I3,n3⟩:=q3
   obtain⟨m',hm,w3⟩:=hN σ3 H3 n3
   exact⟨m',hm,σ3,H3,I3,w3⟩
  |cont=>
   obtain⟨σ3,H3,I3,n3⟩:=q3
   obtain⟨m',hm,w3⟩:=hN σ3 H3 n3
   exact⟨m',hm,σ3,H3,I3,w3⟩
  |brk=>exact q3
  |ret v=>exact q3
 |false=>
  rw[if_neg Bool.false_ne_true]
  exact wpAny_execs_nil ⟨σ1,H2,I2,q2⟩
end
structure It where
 go:Nat->Hp->Prop
 yld:Nat->Hp->V->Hp->Prop
 stop:Nat->Hp->Prop
def px(X:Cx)(pins:List (Addr×Obj))(H:Hp)(b:Addr):Prop:=
 H b=none/\b≠X.env.locals/\b∉X.fs/\(b∈X.ex\/X.s₀.heap.objs.size<=b)/\(∀x c,X.env.cells.lookup x=some c->c≠b)/\∀p∈X.pn++pins,p.1≠b
theorem bu.fpOk{X:Cx}{pins:List (Addr×Obj)}{σ:St}{H H':Hp}{s:Shared}{b:Addr}(I:bu X pins σ H s)(hb:s.heap.objs.size<=b)(hn:H' b=none):px X pins H' b:=by
 refine⟨hn,cT (bh I.lt hb),I.nofs hb,.inr (br I.sz hb),λx c e z=>?_,λp hp z=>?_⟩
 ·obtain⟨v,q⟩:=I.cell x c e
  exact absurd (bh q.lt (by rw[z];exact hb)) (c7 _)
 ·exact absurd (bh (aF (I.pin p hp).1) (by rw[z];exact hb)) (c7 _)
structure rk(P:Program)(w:World)(K:Fg)(tg:Expr)(J:It)(fp:List Addr)(it:Addr)(tn:Nat->Heap->Prop):Prop where
 mem:it∈fp
 obj:∀i h,tn i h->∀b∈fp,∃o,h.get? b=some o/\∀v,o.data≠.cell v
 keep:∀i h h',tn i h->(∀b∈fp,∀o,h.get? b=some o->h'.get? b=some o)->tn i h'
 item:∀(X:Cx),X.prog=P->X.w=w->X.K=K->X.calm=true->∀(i:Nat) (pins:List (Addr×Obj)) (s:Shared) (σ:St) (H:Hp) (E:Value->Shared->Prop),bu X pins σ H s->(∀b∈fp,px X pins H b)->tn i s.heap->J.go i H->
  wpAny (model P w) X.A (pyNext (.ref it)) (λr s1=>∃u,r=some u/\
   wpAny (model P w) X.A (letOwnedTupleGo tg (.ref it) u) (λ_ s2=>∃x H',bu X pins σ H' s2/\b7 x u/\J.yld i H x H'/\tn (i+1) s2.heap/\∀b∈fp,H' b=none) E s1) E s
 done:∀(X:Cx),X.prog=P->X.w=w->X.K=K->X.calm=true->∀(i:Nat) (pins:List (Addr×Obj)) (s:Shared) (σ:St) (H:Hp) (E:Value->Shared->Prop),bu X pins σ H s->(∀b∈fp,px X pins H b)->tn i s.heap->J.stop i H->
  wpAny (model P w) X.A (pyNext (.ref it)) (λr s1=>r=none/\bu X pins σ H s1) E s
 self:∀(A:Around) (i:Nat) (s:Shared) (Q:Value->Shared->Prop) (E:Value->Shared->Prop),tn i s.heap->Q (.ref it) s->wpAny (model P w) A (pyIter (.ref it)) Q E s
abbrev TI:=St->Hp->(It->Hp->Prop)->Prop
def OB(X:Cx)(pins:List (Addr×Obj))(σ:St)(tg:Expr)(R:It->Hp->Prop)(itv:Value)(s2:Shared):Prop:=
 ∃(it:Addr) (fp:List Addr) (tn:Nat->Heap->Prop) (J:It) (H':Hp),itv=.ref it/\bu X pins σ H' s2/\rk X.prog X.w X.K tg J fp it tn/\tn 0 s2.heap/\(∀b∈fp,px X pins H' b)/\R J H'
def PI(X:Cx)(tg iter:Expr)(wi:TI):Prop:=
 ∀(pins:List (Addr×Obj)) (s:Shared) (σ:St) (H:Hp) (R:It->Hp->Prop),bu X pins σ H s->wi σ H R->
  wpAny (model X.prog X.w) X.A (eval iter X.env) (λv s1=>wpAny (model X.prog X.w) X.A (pyIter v) (OB X pins σ tg R) X.xe s1) X.xe s
theorem uu{M:Model}{A:Around}{E:Value->Shared->Prop}{s:Shared}{tg:Expr}{it:Addr}{u:Value}{o:Obj}{n:String}{vs:Array Value}{Q:Unit->Shared->Prop}(ho:s.heap.get? it=some o)(hc:o.cls=.type n)(hd:o.data=.fields vs)
  (hn:["enumerate","zip","dict_itemiterator","dict_reverseitemiterator","odict_iterator","itertools.zip_longest","itertools.pairwise"].contains n=false) (hQ:Q () s):wpAny M A (letOwnedTupleGo tg (.ref it) u) Q E s:=by
 unfold letOwnedTupleGo
 cases tg<;>first
  |exact wpAny_pure hQ
  |(cases u<;>first
    |exact wpAny_pure hQ
    |(refine wpAny_bind (wpAny_load ho ?_)
      rw[hc,hd]
      show wpAny M A (if(["enumerate","zip","dict_itemiterator","dict_reverseitemiterator","odict_iterator","itertools.zip_longest","itertools.pairwise"].contains n&&vs[0]?==some (rawInt _))=true then _ else _) Q E s
      rw[if_neg (by intro h;rw[hn,Bool.false_and] at h;cases h)]
      exact wpAny_pure hQ))
def Lc(K:Fg)(a:Addr):It:=
 ⟨λi H=>∃xs x,cq K H a xs/\xs[i]?=some x,λi H x H'=>H'=H/\∀xs,cq K H a xs->xs[i]?=some x,λi H=>∃xs,cq K H a xs/\xs.length<=i⟩
def FQ(K:Fg)(a:Addr):It:=
 ⟨λi H=>∃xs x,cE K H a xs/\xs[i]?=some x,λi H x H'=>H'=H/\∀xs,cE K H a xs->xs[i]?=some x,λi H=>∃xs,cE K H a xs/\xs.length<=i⟩
def Jm(lo:Int)(n:Nat):It:=⟨λi _=>i<n,λi H x H'=>H'=H/\x=.int (lo+i),λi _=>n<=i⟩
theorem Fx{P:Program}{w:World}{K:Fg}{tg:Expr}(a it:Addr):rk P w K tg (Lc K a) [it] it (λi h=>h.IsListIter it a i) where
 mem:=by simp
 obj:=λi h st b hb=>by
  have e:b=it:=by simpa using hb
  subst e
  obtain⟨o,e,c,d⟩:=st
  exact⟨o,e,λv z=>by rw[d] at z;cases z⟩
 keep:=λi h h' st k=>st.at λo e=>k it (by simp) o e
 item:=by
  intro X hP hw hK hc i pins s σ H E I hf st hg
  subst hP hw hK
  obtain⟨xs,x,hq,hx⟩:=hg
  obtain⟨its,rv,p,hz⟩:=I.list hq
  obtain⟨u,hu,ru⟩:=rv.get hx
  obtain⟨f0,f1,f2,f3,f4,f5⟩:=hf it (by simp)
  refine wpAny_pyNext_list_item st p.isList (x:=u) (by simpa using hu) λh' st' sb=>?_
  have I1:bu X pins σ H {s with heap:=h'}:=I.turned (t':=s.toks) (λb o hb e=>(sb.2 b hb).trans e) f0 f1 f3 f4 f5
  obtain⟨o,e,c,d⟩:=id st'
  exact⟨u,rfl,uu (s:={s with heap:=h'}) e c d (by decide) ⟨x,H,I1,ru,⟨rfl,λys hy=>by rw[I.list_inj hy hq];exact hx⟩,st',λb hb=>(hf b hb).1⟩⟩
 done:=by
  intro X hP hw hK hc i pins s σ H E I hf st hg
  subst hP hw hK
  obtain⟨xs,hq,hx⟩:=hg
  obtain⟨its,rv,p,hz⟩:=I.list hq
  obtain⟨f0,f1,f2,f3,f4,f5⟩:=hf it (by simp)
  have hl:=rv.length
  exact wpAny_pyNext_list_end (I.ok.hd hc) st p.isList (by simp;lia) λh' eb=>⟨rfl,I.turned (t':=s.toks) (λb o hb e=>eb b o hb e) f0 f1 f3 f4 f5⟩
 self:=λ_ _ _ _ _ st h=>wpAny_pyIter_listiter st h
theorem Dx{P:Program}{w:World}{K:Fg}{tg:Expr}(a it:Addr):rk P w K tg (FQ K a) [it] it (λi h=>h.IsTupleIter it a i) where
 mem:=by simp
 obj:=λi h st b hb=>by
  have e:b=it:=by simpa using hb
  subst e
  obtain⟨o,e,c,d⟩:=st
  exact⟨o,e,λv z=>by rw[d] at z;cases z⟩
 keep:=λi h h' st k=>st.at λo e=>k it (by simp) o e
 item:=by
  intro X hP hw hK hc i pins s σ H E I hf st hg
  subst hP hw hK
  obtain⟨xs,x,hq,hx⟩:=hg
  obtain⟨its,rv,p,hz⟩:=I.tuple hq
  obtain⟨u,hu,ru⟩:=rv.get hx
  obtain⟨f0,f1,f2,f3,f4,f5⟩:=hf it (by simp)
  refine wpAny_pyNext_tuple_item st (show s.heap.IsTuple a its.toArray from p) (x:=u) (by simpa using hu) λh' st' sb=>?_
  have I1:bu X pins σ H {s with heap:=h'}:=I.turned (t':=s.toks) (λb o hb e=>(sb.2 b hb).trans e) f0 f1 f3 f4 f5
  obtain⟨o,e,c,d⟩:=id st'
  exact⟨u,rfl,uu (s:={s with heap:=h'}) e c d (by decide) ⟨x,H,I1,ru,⟨rfl,λys hy=>by rw[I.tuple_inj hy hq];exact hx⟩,st',λb hb=>(hf b hb).1⟩⟩
 done:=by
  intro X hP hw hK hc i pins s σ H E I hf st hg
  subst hP hw hK
  obtain⟨xs,hq,hx⟩:=hg
  obtain⟨its,rv,p,hz⟩:=I.tuple hq
  obtain⟨f0,f1,f2,f3,f4,f5⟩:=hf it (by simp)
  have hl:=rv.length
  exact wpAny_pyNext_tuple_end (I.ok.hd hc) st (show s.heap.IsTuple a its.toArray from p) (by simp;lia) λh' eb=>⟨rfl,I.turned (t':=s.toks) (λb o hb e=>eb b o hb e) f0 f1 f3 f4 f5⟩
 self:=λ_ _ _ _ _ st h=>wpAny_pyIter_tupleiter st h
theorem Dv{P:Program}{w:World}{K:Fg}{tg:Expr}(it:Addr)(lo:Int)(n:Nat):rk P w K tg (Jm lo n) [it] it (λi h=>IsRangeIter h it (lo+(i:Nat)*1) ((n:Int)-(i:Nat)) 1) where
 mem:=by simp
 obj:=λi h st b hb=>by
  have e:b=it:=by simpa using hb
  subst e
  exact⟨_,st,λv z=>by
   have z':Data.fields _=Data.cell v:=z
   cases z'⟩
 keep:=λi h h' st k=>k it (by simp) _ st
 item:=by
  intro X hP hw hK hc i pins s σ H E I hf st hg
  subst hP hw hK
  obtain⟨f0,f1,f2,f3,f4,f5⟩:=hf it (by simp)
  have W:=Walks.range (prog:=X.prog) (w:=X.w) (I.ok.hd hc) it lo 1 n
  refine W.item i s _ _ hg st λv h' tk hv st' kk=>?_
  obtain⟨t,rfl⟩:=hv
  have I1:bu X pins σ H {s with heap:=h',toks:=tk}:=I.turned (λb o hb e=>kk b o (by simpa using hb) e) f0 f1 f3 f4 f5
  refine⟨_,rfl,uu (s:={s with heap:=h',toks:=tk}) (n:="range_iterator") st' rfl rfl (by decide) ⟨.int (lo+i),H,I1,⟨t,?_⟩,⟨rfl,rfl⟩,st',λb hb=>(hf b hb).1⟩⟩
  rw[Int.mul_one]
 done:=by
  intro X hP hw hK hc i pins s σ H E I hf st hg
  subst hP hw hK
  obtain⟨f0,f1,f2,f3,f4,f5⟩:=hf it (by simp)
  exact wpAny_pyNext_range_end (I.ok.hd hc) st (by have:n<=i:=hg;lia) λh' eb=>⟨rfl,I.turned (t':=s.toks) (λb o hb e=>eb b o hb e) f0 f1 f3 f4 f5⟩
 self:=λ_ _ _ _ _ st h=>wpAny_pyIter_rangeiter st h
section
variable{X:Cx}{tg:Expr}
def Lf(K:Fg)(tl:TE):TI:=λσ H R=>tl σ H λx H1=>∃a,x=.ref a/\(∃xs,cq K H1 a xs)/\R (Lc K a) H1
def Nr(K:Fg)(tl:TE):TI:=λσ H R=>tl σ H λx H1=>∃a,x=.ref a/\(∃xs,cE K H1 a xs)/\R (FQ K a) H1
theorem Kj{l:Expr}{tl:TE}(hl:PE X l tl):PI X tg l (Lf X.K tl):=by
 intro pins s σ H R I h
 refine eJ (hl pins s σ H _ I h) λv s1 ⟨x,H1,I1,r1,q1⟩=>?_
 obtain⟨a,e,⟨xs,hq⟩,q⟩:=q1
 subst e
 cases r1
 obtain⟨its,rv,p,hz⟩:=I1.list hq
 refine wpAny_pyIter_list p.isList ?_
 refine⟨s1.heap.objs.size,[s1.heap.objs.size],_,_,H1,rfl,I1.kept (t':=s1.toks) λb o e=>ag _ e,Fx a _,⟨_,az _ rfl,rfl,rfl⟩,λb hb=>?_,q⟩
 have e:b=s1.heap.objs.size:=by simpa using hb
 subst e
 exact I1.fpOk (aw _) (I1.hok.fresh (aw _))
theorem My{l:Expr}{tl:TE}(hl:PE X l tl):PI X tg l (Nr X.K tl):=by
 intro pins s σ H R I h
 refine eJ (hl pins s σ H _ I h) λv s1 ⟨x,H1,I1,r1,q1⟩=>?_
 obtain⟨a,e,⟨xs,hq⟩,q⟩:=q1
 subst e
 cases r1
 obtain⟨its,rv,p,hz⟩:=I1.tuple hq
 refine wpAny_pyIter_tuple (show s1.heap.IsTuple a its.toArray from p) ?_
 refine⟨s1.heap.objs.size,[s1.heap.objs.size],_,_,H1,rfl,I1.kept (t':=s1.toks) λb o e=>ag _ e,Dx a _,⟨_,az _ rfl,rfl,rfl⟩,λb hb=>?_,q⟩
 have e:b=s1.heap.objs.size:=by simpa using hb
 subst e
 exact I1.fpOk (aw _) (I1.hok.fresh (aw _))
theorem Ie{pins:List (Addr×Obj)}{σ:St}{H:Hp}{s:Shared}{R:It->Hp->Prop}{E:Value->Shared->Prop}{lo hi:Int}{t u v:Tok}{tk:Nat}(I:bu X pins σ H s)(h1:-(2 ^ 62)<=lo)(h2:lo<2 ^ 62)(h3:-(2 ^ 62)<=hi)(h4:hi<2 ^ 62)
  (q:R (Jm lo (hi-lo).toNat) H):wpAny (model X.prog X.w) X.A (pyIter (.ref s.heap.objs.size)) (OB X pins σ tg R) E {s with heap:=s.heap.push {cls:=.type "range",data:=.fields #[.int lo t,.int hi u,.int 1 v]},toks:=tk}:=by
 refine wpAny_pyIter_range (IsRange.new ..) (small_one h1 h2 h3 h4) ?_
 have I1:bu X pins σ H {s with heap:=s.heap.push {cls:=.type "range",data:=.fields #[.int lo t,.int hi u,.int 1 v]},toks:=tk}:=I.kept λb o e=>ag _ e
 refine⟨(s.heap.push {cls:=.type "range",data:=.fields #[.int lo t,.int hi u,.int 1 v]}).objs.size,[(s.heap.push {cls:=.type "range",data:=.fields #[.int lo t,.int hi u,.int 1 v]}).objs.size],_,_,H,rfl,
  I1.kept (t':=tk) λb o e=>ag _ e,Dv _ lo (hi-lo).toNat,?_,λb hb=>?_,q⟩
 ·have e1:lo+((0:Nat):Int)*1=lo:=by simp
  have e2:(((hi-lo).toNat:Nat):Int)-((0:Nat):Int)=Builtin.Range.rangeSize lo hi 1:=by rw[rangeSize_one];split<;>lia
  show IsRangeIter _ _ (lo+((0:Nat):Int)*1) ((((hi-lo).toNat:Nat):Int)-((0:Nat):Int)) 1
  rw[e1,e2]
  exact az _ rfl
 ·have e:b=(s.heap.push {cls:=.type "range",data:=.fields #[.int lo t,.int hi u,.int 1 v]}).objs.size:=by simpa using hb
  subst e
  exact I1.fpOk (aw _) (I1.hok.fresh (aw _))
def qj(ta:TA):TI:=λσ H R=>ta σ H λvs H1=>∃j:Int,vs=[.int j]/\-(2 ^ 62)<=j/\j<2 ^ 62/\R (Jm 0 j.toNat) H1
theorem E9{a:Expr}{ta:TA}{p pos:Pos}(hg:Gl X "range")(hm:X.mg "range"=none)(ha:PA X [a] ta)(hs:starEach [a] X.env=[(false,eval a X.env)]:=by rfl):PI X tg (.Call (.Name "range" p) [a] [] pos) (qj ta):=by
 intro pins s σ H R I h
 refine Call_ (i8 I hg hm boot_range (bw (eJ (ha pos pins s σ H _ I h) λus s1 ⟨vs,H1,I1,r1,q1⟩=>?_) hs rfl))
 obtain⟨j,e,q1,q2,q⟩:=q1
 subst e
 cases r1 with
 |cons r rr=>
  cases rr
  obtain⟨t,rfl⟩:=r
  exact call_range_1 (Ie I1 (by lia) (by lia) q1 q2 (by simpa using q))
def jI(wi:TI)(g:TG)(tb:TS):TS:=λD σ H=>wi σ H λJ H1=>∃W:Nat->Nat->St->Hp->Prop,(∃m,W 0 m σ H1)/\∀i m σ H,W i m σ H->
 (J.stop i H/\D.nx σ H)\/(J.go i H/\∃N:St->Hp->Prop,(∀σ' H',N σ' H'->∃m',m'<m/\W (i+1) m' σ' H')/\∀x H',J.yld i H x H'->g x σ H' λσ2 H2=>tb {D with nx:=N,ct:=N,bk:=D.nx} σ2 H2)
def uE(fp:List Addr)(h:Heap):List (Addr×Obj):=fp.filterMap λb=>(h.get? b).map λo=>(b,o)
theorem kY{fp:List Addr}{h:Heap}{b:Addr}{o:Obj}(hb:b∈fp)(e:h.get? b=some o):(b,o)∈uE fp h:=List.mem_filterMap.mpr ⟨b,hb,by rw[e];rfl⟩
theorem E7{fp:List Addr}{h:Heap}{p:Addr×Obj}(hp:p∈uE fp h):p.1∈fp/\h.get? p.1=some p.2:=by
 obtain⟨b,hb,e⟩:=List.mem_filterMap.mp hp
 cases q:h.get? b with
 |none=>rw[q] at e;cases e
 |some o=>
  rw[q] at e
  have e':(b,o)=p:=Option.some.inj e
  subst e'
  exact⟨hb,q⟩
theorem bu.pinned{pins:List (Addr×Obj)}{σ:St}{H:Hp}{s:Shared}{fp:List Addr}(I:bu X pins σ H s)(hf:∀b∈fp,px X pins H b)(ho:∀b∈fp,∃o,s.heap.get? b=some o/\∀v,o.data≠.cell v):bu X (pins++uE fp s.heap) σ H s:=
 I.pins_of λp hp=>(ax.mp hp).elim (λz=>I.pin p (aX _ z)) λz=>by
  obtain⟨hb,e⟩:=E7 z
  obtain⟨f0,f1,f2,_⟩:=hf p.1 hb
  obtain⟨o,e',d⟩:=ho p.1 hb
  rw[e] at e';cases e'
  exact⟨e,f0,f1,f2,d⟩
theorem bu.unpinned{pins pl:List (Addr×Obj)}{σ:St}{H:Hp}{s:Shared}(I:bu X (pins++pl) σ H s):bu X pins σ H s:=I.pins_of λp hp=>I.pin p (aX _ (bC _ hp))
theorem MA{iter:Expr}{body:List Stmt}{wi:TI}{g:TG}{tb:TS}{pos:Pos}(hp:PassesOwn (model X.prog X.w) X.A X.env X.xe)(hc:X.calm=true)(hi:PI X tg iter wi)(hg:PG X tg g)(hb:BU X body tb)
  (hs:∀x,foldedSetIterable iter X.env x=pure x:=by intro _;rfl):PS X (.For tg iter body [] pos) (jI wi g tb):=by
 intro pins s σ H D I h
 refine wpAny_For (eJ (hi pins s σ H _ I h) λv s1 h1=>eJ h1 λitv s2 h2=>?_) hs
 obtain⟨it,fp,tn,J,H2,e,I2,T,st2,f2,W,⟨m0,w0⟩,turn⟩:=h2
 subst e
 have stat:∀{H':Hp},(∀b∈fp,H' b=none)->∀b∈fp,px X pins H' b:=λhn b hb=>⟨hn b hb,(f2 b hb).2⟩
 refine codeAny_forLoop_any (λn s'=>∃i σ' H',bu X pins σ' H' s'/\tn i s'.heap/\(∀b∈fp,H' b=none)/\W i n σ' H') ?_ m0 ⟨0,σ,H2,I2,st2,λb hb=>(f2 b hb).1,w0⟩
 rintro n s3 ⟨i,σ3,H3,I3,st3,fr3,w3⟩
 rcases turn i n σ3 H3 w3 with⟨stop,qn⟩|⟨go,N,hN,step⟩
 ·refine wpAny_passesOwn hp (eJ (T.done X rfl rfl rfl hc i pins s3 σ3 H3 X.xe I3 (stat fr3) st3 stop) λr s4 ⟨hr,I4⟩=>?_)
  subst hr
  exact wpAny_execs_nil ⟨σ3,H3,I4,qn⟩
 ·refine wpAny_passesOwn hp (eJ (T.item X rfl rfl rfl hc i pins s3 σ3 H3 X.xe I3 (stat fr3) st3 go) λr s4 ⟨u,hr,h4⟩=>?_)
  subst hr
  refine wpAny_passesOwn hp (eJ h4 λ_ s5 ⟨x,H5,I5,r5,y5,st5,fr5⟩=>?_)
  have I5':=I5.pinned (stat fr5) (T.obj _ _ st5)
  refine wpAny_passesOwn hp (eJ (hg _ s5 σ3 H5 x u _ I5' r5 (step x H5 y5)) λ_ s6 ⟨σ6,H6,I6,q6⟩=>?_)
  refine wpAny_passesOwn hp (eJ (hb _ s6 σ6 H6 _ I6 q6) λf s7 q7=>?_)
  have again:∀{σ7:St} {H7:Hp},bu X (pins++uE fp s5.heap) σ7 H7 s7->N σ7 H7->∃m,m<n/\∃i σ' H',bu X pins σ' H' s7/\tn i s7.heap/\(∀b∈fp,H' b=none)/\W i m σ' H':=λ{σ7 H7} I7 n7=>by
   obtain⟨m',hm,w7⟩:=hN σ7 H7 n7
   refine⟨m',hm,i+1,σ7,H7,I7.unpinned,T.keep _ _ _ st5 λb hb o e=>(I7.pin (b,o) (aX _ (aX _ (kY hb e)))).1,λb hb=>?_,w7⟩
   obtain⟨o,e,d⟩:=T.obj _ _ st5 b hb
   exact(I7.pin (b,o) (aX _ (aX _ (kY hb e)))).2.1
  cases f with
  |next=>obtain⟨σ7,H7,I7,n7⟩:=q7;exact again I7 n7
  |cont=>obtain⟨σ7,H7,I7,n7⟩:=q7;exact again I7 n7
  |brk=>obtain⟨σ7,H7,I7,q7⟩:=q7;exact⟨σ7,H7,I7.unpinned,q7⟩
  |ret v=>obtain⟨x7,σ7,H7,I7,r7,q7⟩:=q7;exact⟨x7,σ7,H7,I7.unpinned,r7,q7⟩
end
theorem qg{K:Fg}{a:Addr}{xs:List V}{g:TG}{tb:TS}{D:lT}{σ:St}{H:Hp}(Pv:Nat->St->Hp->Prop)(h0:Pv 0 σ H)(hl:∀i σ H,i<=xs.length->Pv i σ H->cq K H a xs)
  (hs:∀i x σ H,xs[i]?=some x->Pv i σ H->g x σ H λσ2 H2=>tb {D with nx:=Pv (i+1),ct:=Pv (i+1),bk:=D.nx} σ2 H2) (hd:∀σ H,Pv xs.length σ H->D.nx σ H) :
  ∃W:Nat->Nat->St->Hp->Prop,(∃m,W 0 m σ H)/\∀i m σ H,W i m σ H->
   ((Lc K a).stop i H/\D.nx σ H)\/((Lc K a).go i H/\∃N:St->Hp->Prop,(∀σ' H',N σ' H'->∃m',m'<m/\W (i+1) m' σ' H')/\∀x H',(Lc K a).yld i H x H'->g x σ H' λσ2 H2=>tb {D with nx:=N,ct:=N,bk:=D.nx} σ2 H2):=by
 refine⟨λi m σ H=>m=xs.length-i/\i<=xs.length/\Pv i σ H,⟨xs.length,by simp,a8 _,h0⟩,?_⟩
 rintro i m σ H ⟨rfl,hi,p⟩
 have q:=hl i σ H hi p
 by_cases hlt:i<xs.length
 ·refine .inr ⟨⟨xs,xs[i],q,by simp[hlt]⟩,Pv (i+1),λσ' H' p'=>⟨xs.length-(i+1),by lia,rfl,hlt,p'⟩,λx H' y=>?_⟩
  obtain⟨e,y⟩:=y
  subst e
  exact hs i x σ _ (y xs q) p
 ·have e:i=xs.length:=by lia
  subst e
  exact .inl ⟨⟨xs,q,aw _⟩,hd σ H p⟩
theorem sZ{K:Fg}{a:Addr}{xs:List V}{g:TG}{tb:TS}{D:lT}{σ:St}{H:Hp}(Pv:Nat->St->Hp->Prop)(h0:Pv 0 σ H)(hl:∀i σ H,i<=xs.length->Pv i σ H->cE K H a xs)
  (hs:∀i x σ H,xs[i]?=some x->Pv i σ H->g x σ H λσ2 H2=>tb {D with nx:=Pv (i+1),ct:=Pv (i+1),bk:=D.nx} σ2 H2) (hd:∀σ H,Pv xs.length σ H->D.nx σ H) :
  ∃W:Nat->Nat->St->Hp->Prop,(∃m,W 0 m σ H)/\∀i m σ H,W i m σ H->
   ((FQ K a).stop i H/\D.nx σ H)\/((FQ K a).go i H/\∃N:St->Hp->Prop,(∀σ' H',N σ' H'->∃m',m'<m/\W (i+1) m' σ' H')/\∀x H',(FQ K a).yld i H x H'->g x σ H' λσ2 H2=>tb {D with nx:=N,ct:=N,bk:=D.nx} σ2 H2):=by
 refine⟨λi m σ H=>m=xs.length-i/\i<=xs.length/\Pv i σ H,⟨xs.length,by simp,a8 _,h0⟩,?_⟩
 rintro i m σ H ⟨rfl,hi,p⟩
 have q:=hl i σ H hi p
 by_cases hlt:i<xs.length
 ·refine .inr ⟨⟨xs,xs[i],q,by simp[hlt]⟩,Pv (i+1),λσ' H' p'=>⟨xs.length-(i+1),by lia,rfl,hlt,p'⟩,λx H' y=>?_⟩
  obtain⟨e,y⟩:=y
  subst e
  exact hs i x σ _ (y xs q) p
 ·have e:i=xs.length:=by lia
  subst e
  exact .inl ⟨⟨xs,q,aw _⟩,hd σ H p⟩
theorem kD{lo:Int}{n:Nat}{g:TG}{tb:TS}{D:lT}{σ:St}{H:Hp}(Pv:Nat->St->Hp->Prop)(h0:Pv 0 σ H)
  (hs:∀i σ H,i<n->Pv i σ H->g (.int (lo+i)) σ H λσ2 H2=>tb {D with nx:=Pv (i+1),ct:=Pv (i+1),bk:=D.nx} σ2 H2) (hd:∀σ H,Pv n σ H->D.nx σ H) :
  ∃W:Nat->Nat->St->Hp->Prop,(∃m,W 0 m σ H)/\∀i m σ H,W i m σ H->
   ((Jm lo n).stop i H/\D.nx σ H)\/((Jm lo n).go i H/\∃N:St->Hp->Prop,(∀σ' H',N σ' H'->∃m',m'<m/\W (i+1) m' σ' H')/\∀x H',(Jm lo n).yld i H x H'->g x σ H' λσ2 H2=>tb {D with nx:=N,ct:=N,bk:=D.nx} σ2 H2):=by
 refine⟨λi m σ H=>m=n-i/\i<=n/\Pv i σ H,⟨n,by simp,a8 _,h0⟩,?_⟩
 rintro i m σ H ⟨rfl,hi,p⟩
 by_cases hlt:i<n
 ·refine .inr ⟨hlt,Pv (i+1),λσ' H' p'=>⟨n-(i+1),by lia,rfl,hlt,p'⟩,λx H' y=>?_⟩
  obtain⟨e,y⟩:=y
  subst e y
  exact hs i σ _ hlt p
 ·have e:i=n:=by lia
  subst e
  exact .inl ⟨aw _,hd σ H p⟩
abbrev R2:=V->V->Hp->VK->Prop
def jf(X:Cx)(f:Value->Value->Sem Value)(r:R2):Prop:=
 ∀(pins:List (Addr×Obj)) (s:Shared) (σ:St) (H:Hp) (x y:V) (v u:Value) (Q:VK),bu X pins σ H s->b7 x v->b7 y u->r x y H Q->
  wpAny (model X.prog X.w) X.A (f v u) (EP X pins σ Q) X.xe s
def Ob(X:Cx)(f:Value->Sem Value)(r:V->Hp->VK->Prop):Prop:=
 ∀(pins:List (Addr×Obj)) (s:Shared) (σ:St) (H:Hp) (x:V) (v:Value) (Q:VK),bu X pins σ H s->b7 x v->r x H Q->
  wpAny (model X.prog X.w) X.A (f v) (EP X pins σ Q) X.xe s
def iO(X:Cx)(f:Value)(r:List V->Hp->VK->Prop):Prop:=
 ∀(pins:List (Addr×Obj)) (s:Shared) (σ:St) (H:Hp) (xs:List V) (us:List Value) (Q:VK),bu X pins σ H s->b5 xs us->r xs H Q->
  wpAny (model X.prog X.w) X.A (call f us) (EP X pins σ Q) X.xe s
def bN(r:R2)(ta tb:TE):TE:=λσ H Q=>ta σ H λx H1=>tb σ H1 λy H2=>r x y H2 Q
def vF(r:V->Hp->VK->Prop)(ta:TE):TE:=λσ H Q=>ta σ H λx H1=>r x H1 Q
def rI(C:Int->Int->Prop)(g:Int->Int->V):R2:=λx y H Q=>∃i j,x=.int i/\y=.int j/\C i j/\Q (g i j) H
def FG(g:Int->Int->V):R2:=λx y H Q=>∃i j,x=.int i/\y=.int j/\Q (g i j) H
def rU(g:Int->V):V->Hp->VK->Prop:=λx H Q=>∃i,x=.int i/\Q (g i) H
section
variable{X:Cx}{a b c:Expr}{ta tb tc:TE}{pos:Pos}
theorem LH(ha:PE X a ta)(hb:PE X b tb){pins:List (Addr×Obj)}{s:Shared}{σ:St}{H:Hp}{R:V->V->Hp->Prop}(I:bu X pins σ H s)
  (h:ta σ H λx H1=>tb σ H1 λy H2=>R x y H2) {Q:Value->Shared->Prop} {f:Value->Value->Sem Value}
  (hf:∀v u s2 x y H2,bu X pins σ H2 s2->b7 x v->b7 y u->R x y H2->wpAny (model X.prog X.w) X.A (f v u) Q X.xe s2) :
  wpAny (model X.prog X.w) X.A (eval a X.env) (λv s₁=>wpAny (model X.prog X.w) X.A (eval b X.env) (λu s₂=>wpAny (model X.prog X.w) X.A (f v u) Q X.xe s₂) X.xe s₁) X.xe s:=by
 refine eJ (ha pins s σ H _ I h) λv s1 ⟨x,H1,I1,r1,q1⟩=>?_
 refine eJ (hb pins s1 σ H1 _ I1 q1) λu s2 ⟨y,H2,I2,r2,q2⟩=>?_
 exact hf v u s2 x y H2 I2 r1 r2 q2
theorem NJ{op:Operator}{r:R2}(ho:jf X (binaryOp op) r)(ha:PE X a ta)(hb:PE X b tb):PE X (.BinOp a op b pos) (bN r ta tb):=by
 intro pins s σ H Q I h
 exact wpAny_BinOp (LH ha hb I h λv u s2 x y H2 I2 rx ry q=>ho pins s2 σ H2 x y v u Q I2 rx ry q)
theorem NL{op:UnaryOp}{r:V->Hp->VK->Prop}(ho:Ob X (unaryOp op) r)(ha:PE X a ta):PE X (.UnaryOp op a pos) (vF r ta):=by
 intro pins s σ H Q I h
 exact UnaryOp_ (eJ (ha pins s σ H _ I h) λv s1 ⟨x,H1,I1,r1,q1⟩=>ho pins s1 σ H1 x v Q I1 r1 q1)
theorem Ov{f:Value->Value->Sem Value}{C:Int->Int->Prop}{g:Int->Int->Int}
  (rule:∀(i j:Int) (t u:Tok) (s:Shared) (Q:Value->Shared->Prop) (E:Value->Shared->Prop),C i j->Q (.int (g i j) s.toks) {s with toks:=s.toks+1}->wpAny (model X.prog X.w) X.A (f (.int i t) (.int j u)) Q E s) :
  jf X f (rI C λi j=>.int (g i j)):=by
 intro pins s σ H x y v u Q I rx ry h
 obtain⟨i,j,rfl,rfl,hc,q⟩:=h
 obtain⟨t,rfl⟩:=rx
 obtain⟨t',rfl⟩:=ry
 exact rule i j t t' s _ _ hc ⟨.int (g i j),H,I.tok _,⟨_,rfl⟩,q⟩
theorem Nz{f:Value->Value->Sem Value}{g:Int->Int->Int}
  (rule:∀(i j:Int) (t u:Tok) (s:Shared) (Q:Value->Shared->Prop) (E:Value->Shared->Prop),Q (.int (g i j) s.toks) {s with toks:=s.toks+1}->wpAny (model X.prog X.w) X.A (f (.int i t) (.int j u)) Q E s) :
  jf X f (FG λi j=>.int (g i j)):=by
 intro pins s σ H x y v u Q I rx ry h
 obtain⟨i,j,rfl,rfl,q⟩:=h
 obtain⟨t,rfl⟩:=rx
 obtain⟨t',rfl⟩:=ry
 exact rule i j t t' s _ _ ⟨.int (g i j),H,I.tok _,⟨_,rfl⟩,q⟩
theorem L9{f:Value->Value->Sem Value}{g:Int->Int->Bool}
  (rule:∀(i j:Int) (t u:Tok) (s:Shared) (Q:Value->Shared->Prop) (E:Value->Shared->Prop),Q (.bool (g i j)) s->wpAny (model X.prog X.w) X.A (f (.int i t) (.int j u)) Q E s) :
  jf X f (FG λi j=>.bl (g i j)):=by
 intro pins s σ H x y v u Q I rx ry h
 obtain⟨i,j,rfl,rfl,q⟩:=h
 obtain⟨t,rfl⟩:=rx
 obtain⟨t',rfl⟩:=ry
 exact rule i j t t' s _ _ ⟨.bl (g i j),H,I,rfl,q⟩
def M8(i j:Int):Prop:=0<j/\j<1073741824
def Jj(i j:Int):Prop:=(-(2 ^ 64)<i/\i<2 ^ 64)\/(-(2 ^ 64)<j/\j<2 ^ 64)
theorem Jj.ok{i j:Int}(h:Jj i j):IntMulOk i j:=by
 rcases h with⟨h1,h2⟩|⟨h1,h2⟩
 ·exact .of_left (intBits_le_64 h1 h2)
 ·exact .of_right (intBits_le_64 h1 h2)
theorem Ma:jf X (binaryOp .Add) (FG λi j=>.int (i+j)):=Nz λ_ _ _ _ _ _ _ q=>add_int q
theorem rF:jf X (binaryOp .Sub) (FG λi j=>.int (i-j)):=Nz λ_ _ _ _ _ _ _ q=>sub_int q
theorem Mh:jf X (binaryOp .Mult) (rI Jj λi j=>.int (i*j)):=Ov λ_ _ _ _ _ _ _ hc q=>mul_int q hc.ok
theorem D4:jf X (binaryOp .FloorDiv) (rI M8 λi j=>.int (i / j)):=Ov λi j _ _ _ _ _ hc q=>by
 have h1:(0:Int)<j:=hc.1
 have h2:j<1073741824:=hc.2
 exact floordiv_int (by lia) (by rw[Int.fdiv_eq_ediv_of_nonneg i (by lia)];exact q) (.inl (PyProof.noPylong_small (by lia)))
theorem i9:jf X (binaryOp .Mod) (rI (λ_ j=>0<j) λi j=>.int (i % j)):=Ov λi j _ _ _ _ _ hc q=>by
 have h1:(0:Int)<j:=hc
 exact mod_int' (by lia) (by rw[Int.fmod_eq_emod_of_nonneg i (by lia)];exact q)
theorem OW{f:Value->Sem Value}{g:Int->Int}
  (rule:∀(i:Int) (t:Tok) (s:Shared) (Q:Value->Shared->Prop) (E:Value->Shared->Prop),Q (.int (g i) s.toks) {s with toks:=s.toks+1}->wpAny (model X.prog X.w) X.A (f (.int i t)) Q E s) :
  Ob X f (rU λi=>.int (g i)):=by
 intro pins s σ H x v Q I rx h
 obtain⟨i,rfl,q⟩:=h
 obtain⟨t,rfl⟩:=rx
 exact rule i t s _ _ ⟨.int (g i),H,I.tok _,⟨_,rfl⟩,q⟩
theorem e7:Ob X (unaryOp .USub) (rU λi=>.int (-i)):=OW λ_ _ _ _ _ q=>neg_int q
end
def Ir:V->V->Bool
 |.non,.non=>true|.non,.int _=>true|.int _,.non=>true|.non,.bl _=>true|.bl _,.non=>true|.non,.str _=>true|.str _,.non=>true
 |.int _,.int _=>true|.bl _,.bl _=>true|.str _,.str _=>true|.byt _,.byt _=>true
 |.int _,.str _=>true|.str _,.int _=>true|.bl _,.str _=>true|.str _,.bl _=>true
 |_,_=>false
def OJ:R2:=λx y H Q=>Ir x y=true/\Q (.bl (decide (x=y))) H
def OK:R2:=λx y H Q=>Ir x y=true/\Q (.bl (!decide (x=y))) H
theorem DP{i j:Int}:decide (V.int i=V.int j)=(i==j):=by
 rw[Bool.eq_iff_iff]
 simp
theorem Gu{i j:Bool}:decide (V.bl i=V.bl j)=(i==j):=by
 rw[Bool.eq_iff_iff]
 simp
theorem DQ{i j:Str}:decide (V.str i=V.str j)=(i==j):=by
 rw[Bool.eq_iff_iff]
 simp
theorem DO{i j:Array UInt8}:decide (V.byt i=V.byt j)=(i.toList==j.toList):=by
 rw[Bool.eq_iff_iff]
 cases i
 cases j
 simp
section
variable{X:Cx}{a b c:Expr}{ta tb tc:TE}{pos:Pos}
theorem cQ{pins:List (Addr×Obj)}{σ:St}{H:Hp}{s:Shared}{Q:VK}{k k':Bool}(I:bu X pins σ H s)(q:Q (.bl k) H)(e:k=k'):EP X pins σ Q (.bool k') s:=by
 subst e
 exact⟨.bl k,H,I,rfl,q⟩
theorem NA:jf X (compareOp .Eq) OJ:=by
 intro pins s σ H x y v u Q I rx ry h
 obtain⟨hs,q⟩:=h
 cases x with
 |non=>
  cases rx
  cases y with
  |non=>cases ry;exact PySem.EqNone.eq_none_none (cQ I q (by simp))
  |bl j=>cases ry;exact PySem.EqNone.eq_none_bool (cQ I q (by simp))
  |int j=>obtain⟨t',rfl⟩:=ry;exact PySem.EqNone.eq_none_int (cQ I q (by simp))
  |str j=>obtain⟨t',rfl⟩:=ry;exact PySem.EqNone.eq_none_str (cQ I q (by simp))
  |_=>exact absurd (show false=true from hs) Bool.false_ne_true
 |bl i=>
  cases rx
  cases y with
  |non=>cases ry;exact PySem.EqNone.eq_bool_none (cQ I q (by simp))
  |bl j=>cases ry;exact eq_bool (cQ I q Gu)
  |str j=>obtain⟨t',rfl⟩:=ry;exact PySem.EqMixed.eq_bool_str (cQ I q (by simp))
  |_=>exact absurd (show false=true from hs) Bool.false_ne_true
 |int i=>
  obtain⟨t,rfl⟩:=rx
  cases y with
  |non=>cases ry;exact PySem.EqNone.eq_int_none (cQ I q (by simp))
  |int j=>obtain⟨t',rfl⟩:=ry;exact eq_int (cQ I q DP)
  |str j=>obtain⟨t',rfl⟩:=ry;exact PySem.EqMixed.eq_int_str (cQ I q (by simp))
  |_=>exact absurd (show false=true from hs) Bool.false_ne_true
 |str i=>
  obtain⟨t,rfl⟩:=rx
  cases y with
  |non=>cases ry;exact PySem.EqNone.eq_str_none (cQ I q (by simp))
  |bl j=>cases ry;exact PySem.EqMixed.eq_str_bool (cQ I q (by simp))
  |int j=>obtain⟨t',rfl⟩:=ry;exact PySem.EqMixed.eq_str_int (cQ I q (by simp))
  |str j=>obtain⟨t',rfl⟩:=ry;exact eq_str (cQ I q DQ)
  |_=>exact absurd (show false=true from hs) Bool.false_ne_true
 |byt i=>
  obtain⟨t,rfl⟩:=rx
  cases y with
  |byt j=>obtain⟨t',rfl⟩:=ry;exact PySem.W.eq_bytes (cQ I q DO)
  |_=>exact absurd (show false=true from hs) Bool.false_ne_true
 |_=>cases y<;>exact absurd (show false=true from hs) Bool.false_ne_true
theorem NC:jf X (compareOp .NotEq) OK:=by
 intro pins s σ H x y v u Q I rx ry h
 obtain⟨hs,q⟩:=h
 cases x with
 |non=>
  cases rx
  cases y with
  |non=>cases ry;exact PySem.EqNone.ne_none_none (cQ I q (by simp))
  |bl j=>cases ry;exact PySem.EqNone.ne_none_bool (cQ I q (by simp))
  |int j=>obtain⟨t',rfl⟩:=ry;exact PySem.EqNone.ne_none_int (cQ I q (by simp))
  |str j=>obtain⟨t',rfl⟩:=ry;exact PySem.EqNone.ne_none_str (cQ I q (by simp))
  |_=>exact absurd (show false=true from hs) Bool.false_ne_true
 |bl i=>
  cases rx
  cases y with
  |non=>cases ry;exact PySem.EqNone.ne_bool_none (cQ I q (by simp))
  |bl j=>cases ry;exact ne_bool (cQ I q (congrArg not Gu))
  |str j=>obtain⟨t',rfl⟩:=ry;exact PySem.EqMixed.ne_bool_str (cQ I q (by simp))
  |_=>exact absurd (show false=true from hs) Bool.false_ne_true
 |int i=>
  obtain⟨t,rfl⟩:=rx
  cases y with
  |non=>cases ry;exact PySem.EqNone.ne_int_none (cQ I q (by simp))
  |int j=>obtain⟨t',rfl⟩:=ry;exact ne_int (cQ I q (congrArg not DP))
  |str j=>obtain⟨t',rfl⟩:=ry;exact PySem.EqMixed.ne_int_str (cQ I q (by simp))
  |_=>exact absurd (show false=true from hs) Bool.false_ne_true
 |str i=>
  obtain⟨t,rfl⟩:=rx
  cases y with
  |non=>cases ry;exact PySem.EqNone.ne_str_none (cQ I q (by simp))
  |bl j=>cases ry;exact PySem.EqMixed.ne_str_bool (cQ I q (by simp))
  |int j=>obtain⟨t',rfl⟩:=ry;exact PySem.EqMixed.ne_str_int (cQ I q (by simp))
  |str j=>obtain⟨t',rfl⟩:=ry;exact ne_str (cQ I q (congrArg not DQ))
  |_=>exact absurd (show false=true from hs) Bool.false_ne_true
 |byt i=>
  obtain⟨t,rfl⟩:=rx
  cases y with
  |byt j=>obtain⟨t',rfl⟩:=ry;exact PySem.W.ne_bytes (cQ I q (congrArg not DO))
  |_=>exact absurd (show false=true from hs) Bool.false_ne_true
 |_=>cases y<;>exact absurd (show false=true from hs) Bool.false_ne_true
theorem AG:jf X (compareOp .Lt) (FG λi j=>.bl (decide (i<j))):=L9 λ_ _ _ _ _ _ _ q=>lt_int q
theorem NB:jf X (compareOp .LtE) (FG λi j=>.bl (decide (i<=j))):=L9 λ_ _ _ _ _ _ _ q=>le_int q
theorem mG:jf X (compareOp .Gt) (FG λi j=>.bl (decide (j<i))):=L9 λ_ _ _ _ _ _ _ q=>gt_int q
theorem yG:jf X (compareOp .Is) (λx y H Q=>y=.non/\Q (.bl (decide (x=.non))) H):=by
 intro pins s σ H x y v u Q I rx ry h
 obtain⟨rfl,q⟩:=h
 cases ry
 refine is_none_gen (cQ I q ?_)
 cases x<;>first
  |(cases rx;rfl)
  |(obtain⟨t,rfl⟩:=rx;rfl)
theorem nH:jf X (compareOp .IsNot) (λx y H Q=>y=.non/\Q (.bl (!decide (x=.non))) H):=by
 intro pins s σ H x y v u Q I rx ry h
 obtain⟨rfl,q⟩:=h
 cases ry
 refine isnot_none_gen (cQ I q ?_)
 cases x<;>first
  |(cases rx;rfl)
  |(obtain⟨t,rfl⟩:=rx;rfl)
theorem jf.or{f:Value->Value->Sem Value}{r r':R2}(h:jf X f r)(h':jf X f r'):jf X f (λx y H Q=>r x y H Q\/r' x y H Q):=by
 intro pins s σ H x y v u Q I rx ry q
 rcases q with q|q
 ·exact h pins s σ H x y v u Q I rx ry q
 ·exact h' pins s σ H x y v u Q I rx ry q
theorem Kc{op:CmpOp}{r:R2}(ho:jf X (compareOp op) r)(ha:PE X a ta)(hb:PE X b tb)(hm:behindInMarks op b=false):PE X (.Compare a [op] [b] pos) (bN r ta tb):=by
 intro pins s σ H Q I h
 exact wpAny_Compare1 (LH ha hb I h λv u s2 x y H2 I2 rx ry q=>ho pins s2 σ H2 x y v u Q I2 rx ry q) hm
def cH(t:TE):TT:=λσ H Q=>t σ H λx H'=>∃k,x=.bl k/\Q k H'
theorem Kv{op:CmpOp}{r:R2}(ho:jf X (compareOp op) r)(ha:PE X a ta)(hb:PE X b tb)(hm:behindInMarks op b=false):PT X (.Compare a [op] [b] pos) (cH (bN r ta tb)):=by
 intro pins s σ H Q I h
 refine wpAny_isTrue_Compare1 (eJ (ha pins s σ H _ I h) λv s1 ⟨x,H1,I1,r1,q1⟩=>eJ (hb pins s1 σ H1 _ I1 q1) λu s2 ⟨y,H2,I2,r2,q2⟩=>
  eJ (ho pins s2 σ H2 x y v u _ I2 r1 r2 q2) λc s3 ⟨z,H3,I3,r3,k,e,q3⟩=>?_) hm
 subst e
 cases r3
 exact wpAny_truthy_bool ⟨H3,I3,q3⟩
theorem uy:(sizeLine:Nat)<2 ^ 63:=by rw[sizeLine_eq];decide
theorem CN:jf X (binaryOp .Add) (λx y H Q=>∃i j,x=.str i/\y=.str j/\i.length+j.length<=sizeLine/\Q (.str (i++j)) H):=by
 intro pins s σ H x y v u Q I rx ry h
 obtain⟨i,j,rfl,rfl,hz,q⟩:=h
 obtain⟨t,rfl⟩:=rx
 obtain⟨t',rfl⟩:=ry
 exact add_str (λt' tk=>⟨.str (i++j),H,I.tok _,⟨_,rfl⟩,q⟩) hz
theorem kM{x:V}{us:List Value}(r:b5 [x] us):∃u,us=[u]/\b7 x u:=by
 cases r with
 |cons r1 r2=>cases r2;exact⟨_,rfl,r1⟩
theorem Ja{x y:V}{us:List Value}(r:b5 [x,y] us):∃u w',us=[u,w']/\b7 x u/\b7 y w':=by
 cases r with
 |cons r1 r2=>
  cases r2 with
  |cons r3 r4=>cases r4;exact⟨_,_,rfl,r1,r3⟩
theorem ES(hc:X.calm=true):iO X (.builtin "min") (λxs H Q=>∃i j,xs=[.int i,.int j]/\Q (.int (if j<i then j else i)) H):=by
 intro pins s σ H xs us Q I r h
 obtain⟨i,j,rfl,q⟩:=h
 obtain⟨u,w',rfl,⟨t,rfl⟩,⟨t',rfl⟩⟩:=Ja r
 refine min_two_ints (I.ok.hd hc) λh' tk k=>⟨_,H,I.kept k,?_,q⟩
 by_cases hj:j<i
 ·rw[if_pos hj,if_pos hj];exact⟨_,rfl⟩
 ·rw[if_neg hj,if_neg hj];exact⟨_,rfl⟩
theorem rm:iO X (.type "int") (λxs H Q=>(∃i,xs=[.int i]/\Q (.int i) H)\/∃k,xs=[.bl k]/\Q (.int (if k then 1 else 0)) H):=by
 intro pins s σ H xs us Q I r h
 rcases h with⟨i,rfl,q⟩|⟨k,rfl,q⟩
 ·obtain⟨u,rfl,t,rfl⟩:=kM r
  exact call_int_int ⟨.int i,H,I,⟨_,rfl⟩,q⟩
 ·obtain⟨u,rfl,r1⟩:=kM r
  cases r1
  exact call_int_bool ⟨.int (if k then 1 else 0),H,I.tok _,⟨_,rfl⟩,q⟩
def Nc(K:Fg)(x:V)(H:Hp)(n:Nat):Prop:=
 match x with
 |.str y=>y.length<=sizeLine/\n=y.length
 |.byt y=>y.size<=sizeLine/\n=y.size
 |.ref p=>(∃xs,cq K H p xs/\n=xs.length)\/∃xs,cE K H p xs/\n=xs.length
 |_=>False
theorem Gj:iO X (.builtin "len") (λxs H Q=>∃x n,xs=[x]/\Nc X.K x H n/\Q (.int n) H):=by
 intro pins s σ H xs us Q I r h
 obtain⟨x,n,rfl,e,q⟩:=h
 obtain⟨u,rfl,rx⟩:=kM r
 have hl:=uy
 have hs:sizeLine=16777216:=sizeLine_eq
 cases x with
 |str y=>
  obtain⟨t,rfl⟩:=rx
  obtain⟨hy,e'⟩:y.length<=sizeLine/\n=y.length:=e
  subst e'
  exact len_str (by lia) ⟨.int _,H,I.tok _,⟨_,rfl⟩,q⟩
 |byt y=>
  obtain⟨t,rfl⟩:=rx
  obtain⟨hy,e'⟩:y.size<=sizeLine/\n=y.size:=e
  subst e'
  exact PySem.W.len_bytes (by lia) ⟨.int _,H,I.tok _,⟨_,rfl⟩,q⟩
 |ref p=>
  cases rx
  have e':(∃xs,cq X.K H p xs/\n=xs.length)\/∃xs,cE X.K H p xs/\n=xs.length:=e
  rcases e' with⟨xs,hx,e'⟩|⟨xs,hx,e'⟩
  ·subst e'
   obtain⟨its,r',pl,hz⟩:=I.list hx
   have hlen:=r'.length
   exact Calls.call_len_list pl.isList (by simp only[au];lia) ⟨.int xs.length,H,I.tok _,⟨_,by simp only[au];rw[hlen]⟩,q⟩
  ·subst e'
   obtain⟨its,r',pl,hz⟩:=I.tuple hx
   have hlen:=r'.length
   exact len_tuple pl (by simp only[au];lia) ⟨.int xs.length,H,I.tok _,⟨_,by simp only[au];rw[hlen]⟩,q⟩
 |_=>exact(show False from e).elim
end
section
variable{prog:Program}{w:World}{A:Around}{E:Value->Shared->Prop}{s:Shared}{K:Fg}{x dx C f:Addr}{mA:Str->Option Value}{name:Str}{v:Value}
end
theorem nN.some_of{v:V}{o:Option Value}(r:nN (some v) o):∃u,o=some u/\b7 v u:=by
 cases o with
 |none=>exact(show False from r).elim
 |some u=>exact⟨u,rfl,r⟩
section
variable{P:Program}{w:World}{H H':Hp}{h h':Heap}{a C dx:Addr}{fs fs':List (Str×V)}
end
section
variable{X:Cx}{pins:List (Addr×Obj)}{σ:St}{H:Hp}{s:Shared}{a C dx:Addr}{fs:List (Str×V)}{f:Str}{v:V}{A:Around}{E:Value->Shared->Prop}
end
section
variable{X:Cx}{o e value:Expr}{f:Str}{pos pos' tpos:Pos}{ta tv:TE}
end
section
variable{X:Cx}{pins:List (Addr×Obj)}{σ:St}{H:Hp}{s:Shared}{A:Around}{E:Value->Shared->Prop}{Q:Value->Shared->Prop}{c:Value}{b:Bool}
end
structure ix(k:Nat)(A:Around):Prop where
 hd:A.handled=none
 dp:A.depth+3*k+5<recursionLimit
 un:A.units+16*k+200<cLine
theorem ix.mono{j k:Nat}{A:Around}(r:ix k A)(h:j<=k):ix j A:=⟨r.hd,by have:=r.dp;lia,by have:=r.un;lia⟩
theorem ix.deeper{k:Nat}{A:Around}(r:ix (k+1) A)(env:Env):ix k (A.deeper env):=
 ⟨r.hd,by have:=r.dp;show A.depth+1+3*k+5<_;lia,by have:=r.un;show A.units+3+16*k+200<_;lia⟩
theorem ix.depth{k:Nat}{A:Around}(r:ix k A):A.depth<recursionLimit:=by have:=r.dp;lia
theorem ix.units{k:Nat}{A:Around}(r:ix k A):A.units+64<cLine:=by have:=r.un;lia
theorem ix.units0{k:Nat}{A:Around}(r:ix k A):A.units<cLine:=by have:=r.un;lia
def aP:TA:=λ_ H Q=>Q [] H
def ar(ta:TE)(tr:TA):TA:=λσ H Q=>ta σ H λx H1=>tr σ H1 λxs H2=>Q (x::xs) H2
section
variable{X:Cx}{e:Expr}{es:List Expr}{te:TE}{t:TA}{pos:Pos}
theorem Ml:PA X [] aP:=λ_ _ _ _ H Q I h=>Calls.spliced_nil ⟨[],H,I,.nil,h⟩
theorem Ka(ha:PE X e te)(hr:PA X es t)(hs:starEach (e::es) X.env=(false,eval e X.env)::starEach es X.env:=by rfl):PA X (e::es) (ar te t):=by
 intro pos pins s σ H Q I h
 rw[hs]
 show wpAny _ _ (spliced ((false,eval e X.env)::backTo pos (starEach es X.env))) _ _ s
 refine Calls.spliced_cons (eJ (ha pins s σ H _ I h) λu s1 ⟨x,H1,I1,r1,q1⟩=>?_)
 exact eJ (hr pos pins s1 σ H1 _ I1 q1) λus s2 ⟨xs,H2,I2,r2,q2⟩=>⟨x::xs,H2,I2,.cons r1 r2,q2⟩
def jD(t:TA):TE:=λσ H Q=>t σ H λxs H1=>xs.length<=sizeLine/\∀p,H1 p=none->Q (.ref p) (aN H1 p (.tup xs))
def fR(t:TA):TE:=λσ H Q=>t σ H λxs H1=>xs.length<=sizeLine/\∀p,H1 p=none->Q (.ref p) (aN H1 p (.lst xs))
theorem Mt{x1}(h:PA X es t):PE X (.Tuple es x1 pos) (jD t):=by
 intro pins s σ H Q I hq
 refine wpAny_Tuple_spliced (eJ (h pos pins s σ H _ I hq) λus s1 ⟨xs,H1,I1,r,z,q⟩=>⟨by rw[<-r.length];exact z,?_⟩)
 have hf:H1 s1.heap.objs.size=none:=I1.hok.fresh (aw _)
 refine⟨.ref s1.heap.objs.size,aN H1 s1.heap.objs.size (.tup xs),I1.laid (t':=s1.toks) (λb u e=>ag _ e) (aw _) ?_,rfl,q _ hf⟩
 exact⟨z,us,r,⟨_,az _ rfl,⟨rfl,rfl⟩,_,rfl⟩⟩
theorem Mp(h:PA X es t):PE X (.List es pos) (fR t):=by
 intro pins s σ H Q I hq
 refine wpAny_List_spliced (eJ (h pos pins s σ H _ I hq) λus s1 ⟨xs,H1,I1,r,z,q⟩=>⟨by rw[<-r.length];exact z,?_⟩)
 have hf:H1 s1.heap.objs.size=none:=I1.hok.fresh (aw _)
 refine⟨.ref s1.heap.objs.size,aN H1 s1.heap.objs.size (.lst xs),I1.laid (t':=s1.toks) (λb u e=>ag _ e) (aw _) ?_,rfl,q _ hf⟩
 exact⟨z,us,0,r,az _ rfl⟩
end
abbrev Sp:=List V->Hp->VK->XK->Prop
abbrev FK:=List Env->Hp->Shared->XK->Value->Shared->Prop
structure Jl(P:Program)(w:World)(K:Fg)(mg:Str->Option Value)(base:Heap)(A:Around)(outer:List Env)(s:Shared)(H:Hp):Prop where
 frames:A.frames=some outer
 mod:Mod K mg base
 bs:∀b o,base.get? b=some o->s.heap.get? b=some o/\H b=none
 bsz:base.objs.size<=s.heap.objs.size
 funs:s.heap.FunFrames base outer
 frf:∀b∈GH outer,H b=none
 hok:og P w H s.heap
 bare:AllBare s.gens
def CE(outer:List Env)(P:Program)(w:World)(H:Hp)(s:Shared)(Q:VK)(u:Value)(s':Shared):Prop:=
 ∃v H',s'.os=s.os/\AllBare s'.gens/\Un (GH outer) [] H H' s.heap s'.heap/\og P w H' s'.heap/\b7 v u/\Q v H'
def CR(CX:FK)(outer:List Env)(P:Program)(w:World)(H:Hp)(s:Shared)(Q:VK)(E:XK)(r:Result)(s':Shared):Prop:=
 match r with
 |.ok (.ret u)=>CE outer P w H s Q u s'
 |.ok _=>False
 |.error e=>CX outer H s E e s'
structure vG(P:Program)(w:World)(K:Fg)(mg:Str->Option Value)(base:Heap)(CX:FK)(k:Nat)(f:Addr)(fd:FuncData)(ps:List Str)(sp:Sp):Prop where
 len:∀vs H Q E,sp vs H Q E->vs.length=ps.length
 run:∀(A:Around) (outer:List Env) (s:Shared) (H:Hp) (args:Args) (us:List Value) (vs:List V) (Q:VK) (E:XK),ix k A->Jl P w K mg base A outer s H->BindsTo s fd args (ps.zip us)->b5 vs us->sp vs H Q E->
  codeAny (model P w) A (.call (.ref f) args) (CR CX outer P w H s Q E) s
section
variable{X:Cx}{pins:List (Addr×Obj)}{σ:St}{H:Hp}{s s':Shared}
theorem bu.env0(I:bu X pins σ H s):Jl X.prog X.w X.K X.mg X.base X.A X.stack s H:=
 ⟨I.ok.frames,I.ok.mod,I.bs,br I.ok.bsz I.sz,I.stack,I.stkFree,I.hok,I.bare⟩
theorem bu.after{Q:VK}{u:Value}(I:bu X pins σ H s)(h:CE X.stack X.prog X.w H s Q u s'):EP X pins σ Q u s':=by
 obtain⟨v,H',os,bare,un,hok,r,q⟩:=h
 obtain⟨hh,g,d,t,os'⟩:=s'
 obtain rfl:os'=s.os:=os
 exact⟨v,H',I.call (h':=hh) (g':=g) (d':=d) (t':=t) (ch:=[]) un hok bare (λb z=>absurd z (by simp)),r,q⟩
end
def bA(sp:Sp)(dvs:List V)(E:XK)(t:TA):TE:=λσ H Q=>t σ H λvs H1=>sp (vs++dvs) H1 Q E
def wF(K:Fg)(fd:FuncData)(ps:List Str)(ds:List Value):Prop:=
 ∀(s:Shared) (us:List Value),K.In s.heap->(us++ds).length=ps.length->BindsTo s fd ⟨us,[]⟩ (ps.zip (us++ds))
theorem wF.all{K:Fg}{fd:FuncData}{ps:List Str}(h:∀us:List Value,us.length=ps.length->bindArgs fd ⟨us,[]⟩=pure (ps.zip us)):wF K fd ps []:=λs us _ hl=>by
 rw[dJ] at hl ⊢
 exact .of_eq (h us hl)
def BV(CX:FK)(X:Cx)(E:XK):Prop:=∀(pins:List (Addr×Obj)) (σ:St) (H:Hp) (s:Shared) (e:Value) (s':Shared),bu X pins σ H s->CX X.stack H s E e s'->X.xe e s'
section
variable{X:Cx}{CX:FK}{k:Nat}{f C:Addr}{fd:FuncData}{ps:List Str}{sp:Sp}{dvs:List V}{ds:List Value}{E:XK}{x m:Str}{p pos apos:Pos}{e o:Expr}{es:List Expr}{ta:TE}{t:TA}
theorem MT{pins:List (Addr×Obj)}{σ:St}{H:Hp}{s:Shared}{Q:VK}{us:List Value}{vs:List V}(F:vG X.prog X.w X.K X.mg X.base CX k f fd ps sp)(hr:ix k X.A)(hb:wF X.K fd ps ds)(hd:b5 dvs ds)(hx:BV CX X E)
  (I:bu X pins σ H s) (r:b5 vs us) (h:sp (vs++dvs) H Q E):wpAny (model X.prog X.w) X.A (call (.ref f) us) (EP X pins σ Q) X.xe s:=by
 have r2:b5 (vs++dvs) (us++ds):=r.append hd
 have hl:(us++ds).length=ps.length:=by rw[<-r2.length];exact F.len _ _ _ _ h
 refine wpAny_call (codeAny_mono (F.run X.A X.stack s H ⟨us,[]⟩ (us++ds) (vs++dvs) Q E hr I.env0 (hb s us I.kIn hl) r2 h) λr s' hq=>?_)
 cases r with
 |error e=>exact hx pins σ H s e s' I hq
 |ok fl=>
  cases fl with
  |ret u=>exact I.after hq
  |next=>exact False.elim hq
  |brk=>exact False.elim hq
  |cont=>exact False.elim hq
theorem Kb(F:vG X.prog X.w X.K X.mg X.base CX k f fd ps sp)(hr:ix k X.A)(hg:Gl X x)(hm:X.mg x=some (.ref f))(hk:fJ X.K (.ref f)=true)(hb:wF X.K fd ps ds)(hd:b5 dvs ds)(hx:BV CX X E)
  (ha:PA X (e::es) t) (hdb:(x==("__debug__":Str))=false:=by decide) (he:starEach (e::es) X.env=(false,eval e X.env)::starEach es X.env:=by rfl) (hpl:(backTo pos (starEach es X.env)).any (·.1)=false:=by rfl) :
  PE X (.Call (.Name x p) (e::es) [] pos) (bA sp dvs E t):=by
 intro pins s σ H Q I h
 refine wpAny_Call_Name_kw (JZ I hg hm ?_ hdb)
 refine PySem.W.callWith_K (h₀:=X.base) I.ok.mod.kin hk (eJ (ha pos pins s σ H _ I h) λus s1 ⟨vs,H1,I1,r,q⟩=>⟨I1.kIn,?_⟩) he hpl
 exact MT F hr hb hd hx I1 r q
end
section
variable{X:Cx}{CX:FK}{k:Nat}{f C:Addr}{fd:FuncData}{ps ks:List Str}{sp:Sp}{E:XK}{x m:Str}{p pos apos kpos:Pos}{e o:Expr}{es:List Expr}{kws:List Keyword}{te ta:TE}{t tk:TA}{nm:Option Str}
variable{g:List Value->List Value->List Value}{gV:List V->List V->List V}
end
structure sW(N P:List Str)(sc:Scope):Prop where
 kind:sc.kind=.function
 co:sc.isCoroutine=false
 gen:sc.isGenerator=false
 nd:N.Nodup
 pre:N.take P.length=P
 par:∀x∈P,sc.names.lookup x=some .local\/sc.names.lookup x=some .cell
 nofree:∀y∈sc.names,y.2≠.free
theorem wK{kindOf:Str->Option NameKind}{x:Str}:∀{binds:List (Str×Value)} {m:Str->Option Value},(∀v,(x,v)∉binds)->bindL kindOf binds m x=m x
 |[],_,_=>rfl
 |(n,v)::r,m,h=>by
  unfold bindL
  rw[wK λw hw=>h w (aY _ hw)]
  split
  ·have:x≠n:=by rintro rfl;exact h v aZ
   simp[this]
  ·rfl
theorem wI{kindOf:Str->Option NameKind}{x:Str}:∀{binds:List (Str×Value)} {m:Str->Option Value},(∀v,(x,v)∉binds)->bindC kindOf binds m x=m x
 |[],_,_=>rfl
 |(n,v)::r,m,h=>by
  unfold bindC
  rw[wI λw hw=>h w (aY _ hw)]
  split
  ·rfl
  ·have:x≠n:=by rintro rfl;exact h v aZ
   simp[this]
theorem wJ{kindOf:Str->Option NameKind}{x:Str}{v:Value}:∀{P:List Str} {vs:List Value} {i:Nat} {m:Str->Option Value},P.Nodup->P[i]?=some x->vs[i]?=some v->kindOf x=some .local->
  bindL kindOf (P.zip vs) m x=some v
 |[],_,_,_,_,h,_,_=>by simp at h
 |_::_,[],_,_,_,_,h,_=>by simp at h
 |p::P,w::vs,0,m,nd,h1,h2,hk=>by
  simp at h1 h2;subst h1;subst h2
  show bindL kindOf ((p,w)::P.zip vs) m p=_
  unfold bindL
  rw[wK λv hv=>(bS.mp nd).1 (lA hv).1,if_pos hk]
  simp
 |p::P,w::vs,i+1,m,nd,h1,h2,hk=>by
  show bindL kindOf ((p,w)::P.zip vs) m x=_
  unfold bindL
  exact wJ (i:=i) (bS.mp nd).2 (by simpa using h1) (by simpa using h2) hk
theorem wH{kindOf:Str->Option NameKind}{x:Str}{v:Value}:∀{P:List Str} {vs:List Value} {i:Nat} {m:Str->Option Value},P.Nodup->P[i]?=some x->vs[i]?=some v->kindOf x≠some .local->
  bindC kindOf (P.zip vs) m x=some v
 |[],_,_,_,_,h,_,_=>by simp at h
 |_::_,[],_,_,_,_,h,_=>by simp at h
 |p::P,w::vs,0,m,nd,h1,h2,hk=>by
  simp at h1 h2;subst h1;subst h2
  show bindC kindOf ((p,w)::P.zip vs) m p=_
  unfold bindC
  rw[wI λv hv=>(bS.mp nd).1 (lA hv).1,if_neg hk]
  simp
 |p::P,w::vs,i+1,m,nd,h1,h2,hk=>by
  show bindC kindOf ((p,w)::P.zip vs) m x=_
  unfold bindC
  exact wH (i:=i) (bS.mp nd).2 (by simpa using h1) (by simpa using h2) hk
def start(N:List Str)(vs:List V):St:=vs.map some++aV (N.length-vs.length) none
def zV(CX:FK)(P:Program)(w:World)(K:Fg)(mg:Str->Option Value)(base:Heap)(N:List Str)(qual:Str)(scope:Scope)(f:Addr)(cd:Value)(A:Around)(outer:List Env)(s:Shared)(H:Hp)(E:XK):Cx where
 prog:=P
 w:=w
 K:=K
 mg:=mg
 base:=base
 A:=A.deeper (envOfC qual scope s.heap.objs.size f cd)
 N:=N
 s₀:=s
 H₀:=H
 env:=envOfC qual scope s.heap.objs.size f cd
 outer:=outer
 stack:=envOfC qual scope s.heap.objs.size f cd::outer
 ex:=[]
 calm:=true
 fn:=λ_=>true
 pn:=[]
 xe:=λe s'=>wpAny (model P w) (A.deeper (envOfC qual scope s.heap.objs.size f cd)) (leaving (envOfC qual scope s.heap.objs.size f cd) e) (λ_ s''=>CX outer H s E e s'') (λe' s''=>CX outer H s E e' s'') s'
theorem zP{sc:Scope}{n:Nat}{x:Str}(h:sc.names.lookup x=some .cell):∃c,(cellsFrom n sc.names []).lookup x=some c:=by
 have q:=PySem.W.cellsFrom_some sc.names n [] (.inl h)
 exact dC.mp q
theorem E2{CX:FK}{P:Program}{w:World}{K:Fg}{mg:Str->Option Value}{base:Heap}{N ps:List Str}{qual:Str}{scope:Scope}{f:Addr}{cd:Value}{A:Around}{outer:List Env}{s s1:Shared}{H:Hp}{E:XK}{us:List Value}{vs:List V}
  (S:sW N ps scope) (hd:A.handled=none) (e0:Jl P w K mg base A outer s H) (hl:vs.length=ps.length) (r:b5 vs us)
  (x:InCallC s s.heap.objs.size (bindL (envOfC qual scope s.heap.objs.size f cd).kindOf (ps.zip us) λ_=>none) (cellsFrom (s.heap.objs.size+1) scope.names []) (bindC (envOfC qual scope s.heap.objs.size f cd).kindOf (ps.zip us) λ_=>none) s1) :
  bu (zV CX P w K mg base N qual scope f cd A outer s H E) [] (start N vs) H s1:=by
 have hpl:ps.length<=N.length:=by have:=congrArg gH S.pre;rw[aS] at this;lia
 obtain⟨h1,tk,rfl,hk⟩:=x.done
 have noA:∀b:Addr,b∉(zV CX P w K mg base N qual scope f cd A outer s H E).ex:=λb z=>absurd (show b∈([]:List Addr) from z) (by simp)
 refine⟨⟨e0.mod,S.kind,rfl,rfl,aw _,λy z c h1 h2=>?_,λy hy=>?_,λy c _ h=>?_,λ_=>hd,Around.frames_deeper e0.frames,.inr ⟨rfl,rfl⟩,λb z=>absurd z (noA b),e0.bs,e0.bsz,λb _ _=>noA b,λb z=>absurd z (noA b),e0.funs,e0.frf⟩,
  rfl,e0.bare,Un.kept hk,⟨_,x.toInCall.ns,λi y v h1 h2 h3=>?_⟩,λy c h=>⟨_,x.cell y c h⟩,e0.hok.fresh (aw _),λy c h=>?_,λp hp=>absurd (show p∈([]:List (Addr×Obj)) from hp) (by simp),e0.hok.kept hk,?_⟩
 ·exact name_of_addr x.apart (cG h1) (cG h2)
 ·have hy:scope.names.lookup y=some .cell\/scope.names.lookup y=some .free:=hy
  rcases hy with hy|hy
  ·exact zP hy
  ·exact absurd rfl (S.nofree _ (cG hy))
 ·exact bW (x.above y c (cG h))
 ·have hi:i<vs.length:=by
   unfold start at h2
   by_cases hi:i<vs.length
   ·exact hi
   ·rw[ao (by simpa using hi)] at h2
    rw[List.getElem?_replicate] at h2
    split at h2<;>cases h2
  have ha:vs[i]?=some v:=by
   unfold start at h2
   rw[av (by simpa using hi),aH] at h2
   cases e:vs[i]? with
   |none=>rw[e] at h2;cases h2
   |some a=>rw[e] at h2;cases h2;rfl
  obtain⟨u,hu,rv⟩:=r.get ha
  have hp:ps[i]?=some y:=by
   rw[<-S.pre,List.getElem?_take_of_lt (by lia)];exact h1
  have ndP:ps.Nodup:=by rw[<-S.pre];exact S.nd.sublist (List.take_sublist _ _)
  refine⟨u,rv,?_⟩
  rcases S.par y (aC hp) with k|k
  ·exact .inl ⟨k,wJ ndP hp hu k⟩
  ·obtain⟨c,e⟩:=zP (n:=s.heap.objs.size+1) k
   refine .inr ⟨.inl k,c,e,?_⟩
   have q:=x.cell y c e
   rw[wH ndP hp hu (by show scope.names.lookup y≠_;rw[k];decide)] at q
   exact q
 ·exact e0.hok.fresh (bW (x.above y c (cG h)))
 ·unfold start
  show _=N.length
  rw[ai,af,fj]
  lia
theorem Np{CX:FK}{P:Program}{w:World}{K:Fg}{mg:Str->Option Value}{base:Heap}{k:Nat}{f:Addr}{name qual:Str}{params:Arguments}{body:List Stmt}{scope:Scope}{dV kV doc pm cdv ct oc:Value}{an od:Option Addr}
  {osl:Array (Option Value)} {N ps:List Str} {sp:Sp} (lk:K.lookup f=some ⟨oc,od,.func (eE name qual params body scope dV kV doc pm an cdv ct),osl⟩) (hcd:gX K cdv qual=true) (S:sW N ps scope)
  (len:∀vs H Q E,sp vs H Q E->vs.length=ps.length)
  (hbody:∀(A:Around) (outer:List Env) (s:Shared) (H:Hp) (vs:List V) (Q:VK) (E:XK),ix k (A.deeper (envOfC qual scope s.heap.objs.size f cdv))->sp vs H Q E->
   ∃t,BU (zV CX P w K mg base N qual scope f cdv A outer s H E) body t/\t {nx:=λ_ H'=>Q .non H',rt:=Q} (start N vs) H) :
  vG P w K mg base CX (k+1) f (eE name qual params body scope dV kV doc pm an cdv ct) ps sp:=by
 refine⟨len,λA outer s H args us vs Q E hr e0 hb r hsp=>?_⟩
 have hl:=len _ _ _ _ hsp
 have KX:K.In s.heap:=e0.mod.kin.keeps λb o e=>(e0.bs b o e).1
 have lim:s.heap.NoLimit:=e0.mod.nolimit.keeps λb o e=>(e0.bs b o e).1
 have hkind:∀y∈ps.zip us,scope.names.lookup y.1=some .local\/(scope.names.lookup y.1=some .cell/\((cellsFrom (s.heap.objs.size+1) scope.names []).lookup y.1).isSome=true):=λ⟨n,v⟩ hy=>by
  rcases S.par n (lA hy).1 with q|q
  ·exact .inl q
  ·exact .inr ⟨q,PySem.W.cellsFrom_some _ _ _ (.inl q)⟩
 refine codeAny_call_function hr.depth (KX _ _ lk) rfl S.co S.gen rfl (PySem.W.codeRec_of KX hcd) (hb _ _ _ _ ?_)
 refine wpAny_newFunctionEnv_cells S.kind hkind λenv he s1 x=>?_
 subst he
 refine⟨lim.keeps x.toInCall.keep,codeAny_func ?_⟩
 obtain⟨t,ht,hq⟩:=hbody A outer s H vs Q E (hr.deeper _) hsp
 have I:bu (zV CX P w K mg base N qual scope f cdv A outer s H E) [] (start N vs) H s1:=E2 S hr.hd e0 hl r x
 refine wpAny_mono (ht [] s1 (start N vs) H _ I hq) (λfl s' hs=>?_) λe s' hs=>hs
 have fin:∀{σ':St} {H':Hp} {v:V} {u:Value},bu (zV CX P w K mg base N qual scope f cdv A outer s H E) [] σ' H' s'->b7 v u->Q v H'->CE outer P w H s Q u s':=
  λ{σ' H' v u} J rv q=>⟨v,H',J.os,J.bare,J.base,J.hok,rv,q⟩
 cases fl with
 |ret u=>
  obtain⟨v,σ',H',J,rv,q⟩:=hs
  exact fin J rv q
 |next=>
  obtain⟨σ',H',J,q⟩:=hs
  exact fin (v:=V.non) (u:=Value.none) J rfl q
 |brk=>
  obtain⟨_,_,_,q⟩:=hs
  exact False.elim q
 |cont=>
  obtain⟨_,_,_,q⟩:=hs
  exact False.elim q
section
variable{X:Cx}{x:Str}{p pos:Pos}{e:Expr}{es:List Expr}{t:TA}{id T:String}{r:List V->Hp->VK->Prop}
def fQ(r:List V->Hp->VK->Prop)(t:TA):TE:=λσ H Q=>t σ H λvs H1=>r vs H1 Q
theorem G9(hc:iO X (.builtin id) r)(hg:Gl X x)(hm:X.mg x=none)(hv:bootBuiltins x=some (.builtin id))(ha:PA X (e::es) t)(hn:x≠"__name__":=by decide)(hdb:(x==("__debug__":Str))=false:=by decide)
  (he:starEach (e::es) X.env=(false,eval e X.env)::starEach es X.env:=by rfl) (hpl:(backTo pos (starEach es X.env)).any (·.1)=false:=by rfl):PE X (.Call (.Name x p) (e::es) [] pos) (fQ r t):=by
 intro pins s σ H Q I h
 refine wpAny_Call_Name_kw (i8 I hg hm hv ?_ hn hdb)
 exact PyProof.Rows.callWith_builtin1 (eJ (ha pos pins s σ H _ I h) λus s1 ⟨vs,H1,I1,r1,q1⟩=>hc pins s1 σ H1 vs us Q I1 r1 q1) he hpl
theorem E8(hc:iO X (.type T) r)(hg:Gl X x)(hm:X.mg x=none)(hv:bootBuiltins x=some (.type T))(ha:PA X (e::es) t)(hn:x≠"__name__":=by decide)(hdb:(x==("__debug__":Str))=false:=by decide)
  (he:starEach (e::es) X.env=(false,eval e X.env)::starEach es X.env:=by rfl) (hpl:(backTo pos (starEach es X.env)).any (·.1)=false:=by rfl):PE X (.Call (.Name x p) (e::es) [] pos) (fQ r t):=by
 intro pins s σ H Q I h
 refine wpAny_Call_Name_kw (i8 I hg hm hv ?_ hn hdb)
 exact bw (eJ (ha pos pins s σ H _ I h) λus s1 ⟨vs,H1,I1,r1,q1⟩=>hc pins s1 σ H1 vs us Q I1 r1 q1) he hpl
end
end L2
namespace HT
open PySem PyProof.Rows
section
open PySem.SeqAt
open PySem.AutoSeq1 (wpAny_loadPart')
open PySem.MeetsSeq PySem.MeetsSeq2 PySem.MeetsSeq3
end
section
variable{prog:Program}{w:World}{A:Around}{E:Value->Shared->Prop}{s:Shared}
theorem cat_tup{t b:Addr}{vs ws:List Value}{Q:Value->Shared->Prop}(ht:IsTup s.heap t vs.toArray)(hb:IsTup s.heap b ws.toArray)(hv:vs≠[])
  (h1:ws=[]->Q (.ref t) s) (h2:ws≠[]->Q (.ref s.heap.objs.size) {s with heap:=s.heap.push {cls:=.type "tuple",data:=.seq (vs++ws).toArray}})
  (hsz:vs.length+ws.length<=sizeLine):wpAny (model prog w) A (binaryOp .Add (.ref t) (.ref b)) Q E s:=by
 obtain⟨⟨cls,dd,data,sl⟩,ho,hc,n,hd⟩:=id ht
 obtain⟨⟨cls2,dd2,data2,sl2⟩,ho2,hc2,n2,hd2⟩:=id hb
 simp only at hc hd hc2 hd2
 subst hc hd hc2 hd2
 have e:vs.toArray++ws.toArray=(vs++ws).toArray:=by simp
 by_cases hw:ws=[]
 ·exact concat_meets ⟨_,ho,rfl⟩ ⟨_,ho2,rfl⟩ noFill_tuple_add seq_tuple_add gW gK (gf _ _)
   (tuple_addW1 t b vs.toArray ws.toArray n n2 dd dd2 sl sl2 (by simpa using hv) (by simp[hw])) ⟨ho,ho2,h1 hw⟩
 ·refine concat_meets ⟨_,ho,rfl⟩ ⟨_,ho2,rfl⟩ noFill_tuple_add seq_tuple_add gW gK (gf _ _)
   (tuple_addW2 t b vs.toArray ws.toArray n n2 dd dd2 sl sl2 (by simpa using hv) (by simpa using hw) (by rw[au,au];exact hsz)) ⟨ho,ho2,?_⟩
  rw[e]
  exact h2 hw
def sIx(n d:Nat):Option Int->Nat
 |none=>d
 |some v=>if v<0 then(v+(n:Int)).toNat else min v.toNat n
theorem sIx_none(n d:Nat):sIx n d none=d:=rfl
theorem sIx_nat(n d k:Nat):sIx n d (some (k:Int))=min k n:=by
 show(if(k:Int)<0 then((k:Int)+(n:Int)).toNat else min (k:Int).toNat n)=min k n
 rw[if_neg (by lia),aU]
theorem MU(n d:Nat)(hd:d<=n)(o:Option Int):sIx n d o<=n:=by
 cases o with
 |none=>exact hd
 |some v=>
  show(if v<0 then(v+(n:Int)).toNat else min v.toNat n)<=n
  by_cases hv:v<0
  ·rw[if_pos hv];lia
  ·rw[if_neg hv];exact iw _ _
theorem DM(v:Int)(n d:Nat):(if v<0 then max (v+(n:Int)) 0 else min v (n:Int))=((sIx n d (some v):Nat):Int):=by
 show(if v<0 then max (v+(n:Int)) 0 else min v (n:Int))=(((if v<0 then(v+(n:Int)).toNat else min v.toNat n):Nat):Int)
 by_cases hv:v<0
 ·simp only[if_pos hv];lia
 ·simp only[if_neg hv];lia
theorem BY(lo hi:Option Int)(n:Nat):Builtin.Slice.sliceAdjust lo hi 1 (n:Int)=(((sIx n 0 lo:Nat):Int),((sIx n n hi:Nat):Int)):=by
 have h1:¬((1:Int)<0):=by lia
 unfold Builtin.Slice.sliceAdjust
 simp only[h1,if_false]
 refine Prod.ext ?_ ?_
 ·cases lo with
  |none=>rfl
  |some v=>exact DM v n 0
 ·cases hi with
  |none=>rfl
  |some v=>exact DM v n n
theorem CS(i j:Nat):Builtin.Slice.slicePlaces (i:Int) (j:Int) 1=j-i:=by
 unfold Builtin.Slice.slicePlaces
 have h1:(1:Int)>0:=by lia
 simp only[h1,if_true,Int.ediv_one]
 split<;>lia
theorem uX{v:Value}{o:Option Int}{Q:Option Int->Shared->Prop}(p:IsPart v o)(h:Q o s):wpAny (model prog w) A (Builtin.Slice.slicePartIndex v) Q E s:=by
 cases p with
 |none=>exact slicePart_none h
 |int i t=>exact slicePart_int h
theorem kK{sl:Addr}{vl vu:Value}{lo hi:Option Int}{n:Nat}{Q:Int×Int×Nat->Shared->Prop}(hs:s.heap.IsSliceOf sl vl vu .none)(pl:IsPart vl lo)(pu:IsPart vu hi)
  (h:Q (((sIx n 0 lo:Nat):Int),1,sIx n n hi-sIx n 0 lo) s):wpAny (model prog w) A (Builtin.Slice.sliceApplied (.ref sl) (pure (n:Int))) Q E s:=by
 obtain⟨os,hos,hcs,hds⟩:=id hs
 unfold Builtin.Slice.sliceApplied Builtin.Slice.sliceFields
 refine wpAny_bind (wpAny_bind (wpAny_field hos hds (x:=vl) rfl (wpAny_bind (wpAny_field hos hds (x:=vu) rfl (wpAny_bind (wpAny_field hos hds (x:=.none) rfl (wpAny_pure ?_)))))))
 refine wpAny_bind (slicePart_none ?_)
 show wpAny _ _ (if((1:Int)==0)=true then _ else _) _ _ s
 rw[if_neg (by decide)]
 refine wpAny_bind (uX pl (wpAny_bind (uX pu (wpAny_bind (wpAny_pure ?_)))))
 show wpAny _ _ (match Builtin.Slice.sliceAdjust lo hi 1 (n:Int) with|(lo,hi)=>pure (lo,(1:Int),Builtin.Slice.slicePlaces lo hi 1)) _ _ s
 rw[BY lo hi n]
 show wpAny _ _ (pure (((sIx n 0 lo:Nat):Int),(1:Int),Builtin.Slice.slicePlaces ((sIx n 0 lo:Nat):Int) ((sIx n n hi:Nat):Int) 1)) _ _ s
 rw[CS]
 exact wpAny_pure h
theorem Hu(xs:Array Value)(i k:Nat):((bZ k).filterMap λ(m:Nat)=>xs[((i:Int)+(m:Int)*1).toNat]?).toArray=((xs.toList.drop i).take k).toArray:=by
 have e:(λ(m:Nat)=>xs[((i:Int)+(m:Int)*1).toNat]?)=λm=>xs[i+m]?:=by
  funext m
  have:((i:Int)+(m:Int)*1).toNat=i+m:=by lia
  rw[this]
 rw[e]
 have:=pick_run xs i k
 rw[List.filterMap_map] at this
 have e2:((λx=>xs[x]?) ∘ λx=>i+x)=λm=>xs[i+m]?:=rfl
 rw[e2] at this
 rw[this]
theorem getItem_tuple_cut{t sl:Addr}{items:Array Value}{vl vu:Value}{lo hi:Option Int}{Q:Value->Shared->Prop}(ht:IsTup s.heap t items)(hs:s.heap.IsSliceOf sl vl vu .none)(pl:IsPart vl lo)(pu:IsPart vu hi)
  (hw:¬(sIx items.size 0 lo=0/\sIx items.size items.size hi=items.size))
  (h:Q (.ref s.heap.objs.size) {s with heap:=s.heap.push {cls:=.type "tuple",data:=.seq ((items.toList.drop (sIx items.size 0 lo)).take (sIx items.size items.size hi-sIx items.size 0 lo)).toArray}})
  (hsz:items.size<=sizeLine):wpAny (model prog w) A (getItem (.ref t) (.ref sl)) Q E s:=by
 have htake:sizeOk (.seq ((items.toList.drop (sIx items.size 0 lo)).take (sIx items.size items.size hi-sIx items.size 0 lo)).toArray):=by
  show((items.toList.drop (sIx items.size 0 lo)).take (sIx items.size items.size hi-sIx items.size 0 lo)).toArray.size<=sizeLine
  rw[au,aS,eR,bH]
  lia
 have hj:sIx items.size items.size hi<=items.size:=MU _ _ (aw _) hi
 obtain⟨os,hos,hcs,hds⟩:=id hs
 have hTs:s.TypeIs (.ref sl) "slice":=⟨os,hos,hcs⟩
 unfold getItem
 try with_reducible refine wpAny_holding ?_
 first|refine wpAny_bind (wpAny_pure ?_)|skip
 refine wpAny_bind (wpAny_sequenceKey ht.typeIs (by decide) ?_)
 refine wpAny_bind (wpAny_callSpecial?_slot (name:=Str.ofString "__getitem__") ht.typeIs dw
  (wpAny_call_entry dw ht.typeIs entry_tuple_getitem ?_ (args_tuple_getitem _ _)))
 show wpAny _ _ (Builtin.Tuple.tupleItemsOf (.ref t) >>= _) _ _ s
 refine wpAny_bind (tupleItemsOf_ ht ?_)
 refine wpAny_bind (wpAny_typeOf hTs ?_)
 rw[if_pos (by decide)]
 refine wpAny_bind (kK hs pl pu ?_)
 have hno:¬((((sIx items.size 0 lo:Nat):Int)==0&&(1:Int)==1&&(sIx items.size items.size hi-sIx items.size 0 lo)==items.size)=true):=by
  intro q
  rw[Bool.and_eq_true,Bool.and_eq_true] at q
  have q1:((sIx items.size 0 lo:Nat):Int)=0:=eq_of_beq q.1.1
  have q2:sIx items.size items.size hi-sIx items.size 0 lo=items.size:=eq_of_beq q.2
  exact hw ⟨by lia,by lia⟩
 show wpAny _ _ (if(((sIx items.size 0 lo:Nat):Int)==0&&(1:Int)==1&&(sIx items.size items.size hi-sIx items.size 0 lo)==items.size)=true then _ else _) _ _ s
 rw[if_neg hno,Hu]
 first
  |exact wpAny_bind (m:=Builtin.Tuple.tupleExact _) (wpAny_newObj_type (wpAny_pure ⟨_,rfl,wpAny_pure h⟩) htake)
  |exact wpAny_bind (m:=Builtin.Tuple.tupleExact _) (wpAny_newObj_type (wpAny_bind (wpAny_pure (wpAny_pure ⟨_,rfl,wpAny_pure h⟩))) htake)
  |exact wpAny_bind (wpAny_bind (m:=Builtin.Tuple.tupleExact _) (wpAny_newObj_type (wpAny_pure (wpAny_pure ⟨_,rfl,wpAny_pure h⟩)) htake))
  |exact wpAny_bind (wpAny_bind (m:=Builtin.Tuple.tupleExact _) (wpAny_newObj_type (wpAny_pure ⟨_,rfl,wpAny_pure h⟩) htake))
end
end HT
namespace L2
open PySem PySem.Spec PyProof.Rows
abbrev TO:=St->Hp->(Option Int->Hp->Prop)->Prop
def PO(X:Cx)(e:Option Expr)(t:TO):Prop:=
 ∀(pins:List (Addr×Obj)) (s:Shared) (σ:St) (H:Hp) (Q:Option Int->Hp->Prop),bu X pins σ H s->t σ H Q->
  wpAny (model X.prog X.w) X.A (evalPart e X.env) (λu s'=>∃o H',bu X pins σ H' s'/\IsPart u o/\Q o H') X.xe s
def gx:TO:=λ_ H Q=>Q none H
def lE(t:TE):TO:=λσ H Q=>t σ H λx H1=>∃i,x=.int i/\Q (some i) H1
section
variable{X:Cx}{e:Expr}{te:TE}{lo hi:Option Expr}{tl th:TO}{pos p2:Pos}
theorem Kp:PO X none gx:=by
 intro pins s σ H Q I h
 rw[evalPart_none]
 exact wpAny_pure ⟨none,H,I,.none,h⟩
theorem Kq(h:PE X e te):PO X (some e) (lE te):=by
 intro pins s σ H Q I hw
 rw[evalPart_some]
 refine eJ (h pins s σ H _ I hw) λu s1 ⟨x,H1,I1,r1,q1⟩=>?_
 obtain⟨i,rfl,q⟩:=q1
 obtain⟨t,rfl⟩:=r1
 exact⟨some i,H1,I1,.int i t,q⟩
def Ga(X:Cx)(r:V->Option Int->Option Int->Hp->VK->Prop):Prop:=
 ∀(pins:List (Addr×Obj)) (s:Shared) (σ:St) (H:Hp) (x:V) (v vl vu:Value) (lo hi:Option Int) (sl:Addr) (Q:VK),bu X pins σ H s->b7 x v->s.heap.IsSliceOf sl vl vu .none->IsPart vl lo->IsPart vu hi->r x lo hi H Q->
  ∃T id,typeLookup (.type T) "__getitem__"=pure (some (.builtin id))/\s.TypeIs v T/\wpAny (model X.prog X.w) X.A (getItem v (.ref sl)) (EP X pins σ Q) X.xe s
theorem Ga.or{r r':V->Option Int->Option Int->Hp->VK->Prop}(h:Ga X r)(h':Ga X r'):Ga X (λx lo hi H Q=>r x lo hi H Q\/r' x lo hi H Q):=by
 intro pins s σ H x v vl vu lo hi sl Q I rx hs pl pu q
 rcases q with q|q
 ·exact h pins s σ H x v vl vu lo hi sl Q I rx hs pl pu q
 ·exact h' pins s σ H x v vl vu lo hi sl Q I rx hs pl pu q
def FI(r:V->Option Int->Option Int->Hp->VK->Prop)(te:TE)(tl th:TO):TE:=λσ H Q=>te σ H λx H1=>tl σ H1 λl H2=>th σ H2 λu H3=>r x l u H3 Q
theorem Hr{r:V->Option Int->Option Int->Hp->VK->Prop}(hr:Ga X r)(he:PE X e te)(hl:PO X lo tl)(hu:PO X hi th):PE X (.Subscript e (.Slice lo hi none p2) pos) (FI r te tl th):=by
 intro pins s σ H Q I h
 refine Subscript_ (eJ (he pins s σ H _ I h) λv s1 ⟨x,H1,I1,r1,q1⟩=>?_)
 refine wpAny_Slice (eJ (hl pins s1 σ H1 _ I1 q1) λvl s2 ⟨l,H2,I2,pl,q2⟩=>eJ (hu pins s2 σ H2 _ I2 q2) λvu s3 ⟨u,H3,I3,pu,q3⟩=>?_)
 rw[evalPart_none]
 refine wpAny_pure ?_
 have I4:bu X pins σ H3 {s3 with heap:=s3.heap.push {cls:=.type "slice",data:=.fields #[vl,vu,.none]}}:=I3.kept (t':=s3.toks) λb ob q=>ag _ q
 obtain⟨T,id,hT,ht,hg⟩:=hr pins {s3 with heap:=s3.heap.push {cls:=.type "slice",data:=.fields #[vl,vu,.none]}} σ H3 x v vl vu l u s3.heap.objs.size Q I4 r1 (Heap.IsSliceOf.new ..) pl pu q3
 show wpAny (model X.prog X.w) X.A (subscriptTail e (.Slice lo hi none p2) v (.ref s3.heap.objs.size)) (EP X pins σ Q) X.xe {s3 with heap:=s3.heap.push {cls:=.type "slice",data:=.fields #[vl,vu,.none]}}
 exact tail_any (ops:=[.ref s3.heap.objs.size,v]) ht hT hg (by with_unfolding_all rfl)
def nO(xs:List V)(lo hi:Option Int):List V:=(xs.drop (HT.sIx xs.length 0 lo)).take (HT.sIx xs.length xs.length hi-HT.sIx xs.length 0 lo)
theorem so(xs:List V)(lo hi:Option Int):(nO xs lo hi).length<=xs.length:=by
 unfold nO
 rw[aS,eR]
 lia
def N1(K:Fg):V->Option Int->Option Int->Hp->VK->Prop:=λx lo hi H Q=>∃a xs,x=.ref a/\cE K H a xs/\
 ¬(HT.sIx xs.length 0 lo=0/\HT.sIx xs.length xs.length hi=xs.length)/\∀p,H p=none->Q (.ref p) (aN H p (.tup (nO xs lo hi)))
theorem MX:Ga X (N1 X.K):=by
 intro pins s σ H x v vl vu lo hi sl Q I rx hs pl pu h
 obtain⟨a,xs,rfl,hx,hw,q⟩:=h
 cases rx
 obtain⟨its,r,ht,hz⟩:=I.tuple hx
 have hlen:its.toArray.size=xs.length:=by rw[au];exact r.length.symm
 refine⟨"tuple",_,dw.lookup,ht.typeIs,?_⟩
 refine HT.getItem_tuple_cut ht hs pl pu (by rw[hlen];exact hw) ?_ (by rw[hlen];exact hz)
 rw[hlen]
 refine⟨.ref s.heap.objs.size,_,I.laid (t':=s.toks) (o:=.tup (nO xs lo hi)) (λb ob q=>ag _ q) (aw _) ?_,rfl,q _ (I.hok.fresh (aw _))⟩
 exact⟨br (so xs lo hi) hz,_,(r.drop (HT.sIx xs.length 0 lo)).take (HT.sIx xs.length xs.length hi-HT.sIx xs.length 0 lo),j7.new _ _⟩
def Lk(K:Fg):R2:=λx y H Q=>∃a b xs ys,x=.ref a/\y=.ref b/\cE K H a xs/\cE K H b ys/\xs≠[]/\xs.length+ys.length<=sizeLine/\
 (ys=[]->Q (.ref a) H)/\(ys≠[]->∀p,H p=none->Q (.ref p) (aN H p (.tup (xs++ys))))
theorem b5.nil_iff{xs:List V}{us:List Value}(r:b5 xs us):us=[]↔xs=[]:=by
 cases r with
 |nil=>simp
 |cons _ _=>simp
theorem J5:jf X (binaryOp .Add) (Lk X.K):=by
 intro pins s σ H x y v u Q I rx ry h
 obtain⟨a,b,xs,ys,rfl,rfl,ha,hb,hx,hz,q1,q2⟩:=h
 cases rx
 cases ry
 obtain⟨its,r1,p1,_⟩:=I.tuple ha
 obtain⟨its2,r2,p2,_⟩:=I.tuple hb
 refine HT.cat_tup p1 p2 (λz=>hx (r1.nil_iff.mp z)) (λz=>⟨.ref a,H,I,rfl,q1 (r2.nil_iff.mp z)⟩) (λz=>?_) (by rw[<-r1.length,<-r2.length];exact hz)
 refine⟨.ref s.heap.objs.size,_,I.laid (t':=s.toks) (o:=.tup (xs++ys)) (λb ob q=>ag _ q) (aw _) ?_,rfl,q2 (λw=>z (r2.nil_iff.mpr w)) _ (I.hok.fresh (aw _))⟩
 exact⟨by rw[ai];exact hz,_,r1.append r2,j7.new _ _⟩
end
def JQ(n:Nat)(i:Int):Option Nat:=if 0<=i then(if i<n then some i.toNat else none) else if -(n:Int)<=i then some (i+n).toNat else none
def JB{α:Type}(xs:List α)(i:Int):Option α:=(JQ xs.length i).bind λj=>xs[j]?
theorem DZ{n:Nat}{i:Int}{j:Nat}(h:JQ n i=some j):seqIndex? i n=some j/\j<n/\-(n:Int)<=i/\i<n:=by
 unfold JQ at h
 by_cases h0:0<=i
 ·rw[if_pos h0] at h
  by_cases h1:i<n
  ·rw[if_pos h1] at h
   have e:i.toNat=j:=Option.some.inj h
   exact⟨by rw[seqIndex_of h0 h1,e],by lia,by lia,h1⟩
  ·rw[if_neg h1] at h;cases h
 ·rw[if_neg h0] at h
  by_cases h1:-(n:Int)<=i
  ·rw[if_pos h1] at h
   have e:(i+n).toNat=j:=Option.some.inj h
   exact⟨by rw[seqIndex_neg (by lia) h1,e],by lia,h1,by lia⟩
  ·rw[if_neg h1] at h;cases h
theorem yc{α:Type}{xs:List α}{i:Int}{v:α}(h:JB xs i=some v):∃j,seqIndex? i xs.length=some j/\xs[j]?=some v/\j<xs.length/\-(xs.length:Int)<=i/\i<xs.length:=by
 unfold JB at h
 cases e:JQ xs.length i with
 |none=>rw[e] at h;cases h
 |some j=>
  rw[e] at h
  obtain⟨h1,h2,h3,h4⟩:=DZ e
  exact⟨j,h1,h,h2,h3,h4⟩
theorem zM{α:Type}(xs:List α)(v:α):JB (xs++[v]) (-1)=some v:=by
 have hl:(xs++[v]).length=xs.length+1:=by simp
 have e:JQ (xs++[v]).length (-1)=some xs.length:=by
  unfold JQ
  rw[hl,if_neg (by decide),if_pos (by lia)]
  congr 1
  lia
 unfold JB
 rw[e]
 show(xs++[v])[xs.length]?=some v
 simp
def x8(b:Expr):Prop:=∀o i,subscripted b false o i=operate [o,i] (getItem o i)
def Jh(X:Cx)(r:R2):Prop:=
 ∀(value slice:Expr) (pins:List (Addr×Obj)) (s:Shared) (σ:St) (H:Hp) (x y:V) (v u:Value) (Q:VK),bu X pins σ H s->b7 x v->b7 y u->r x y H Q->
  subscripted slice false v u=operate [v,u] (getItem v u)->wpAny (model X.prog X.w) X.A (subscriptTail value slice v u) (EP X pins σ Q) X.xe s
def Nd(X:Cx)(id:String)(r:V->List V->Hp->VK->Prop):Prop:=
 ∀(pins:List (Addr×Obj)) (s:Shared) (σ:St) (H:Hp) (x:V) (xs:List V) (v:Value) (us:List Value) (Q:VK),bu X pins σ H s->b7 x v->b5 xs us->r x xs H Q->
  wpAny (model X.prog X.w) X.A (call (.builtin id) (v::us)) (EP X pins σ Q) X.xe s
section
variable{X:Cx}{a b:Expr}{ta tb:TE}{pos:Pos}
theorem Jh.or{r r':R2}(h:Jh X r)(h':Jh X r'):Jh X (λx y H Q=>r x y H Q\/r' x y H Q):=by
 intro value slice pins s σ H x y v u Q I rx ry q hs
 rcases q with q|q
 ·exact h value slice pins s σ H x y v u Q I rx ry q hs
 ·exact h' value slice pins s σ H x y v u Q I rx ry q hs
theorem NI{r:R2}(hr:Jh X r)(ha:PE X a ta)(hb:PE X b tb)(hs:x8 b):PE X (.Subscript a b pos) (bN r ta tb):=by
 intro pins s σ H Q I h
 exact Subscript_ (LH ha hb I h λv u s2 x y H2 I2 rx ry q=>hr a b pins s2 σ H2 x y v u Q I2 rx ry q (hs _ _))
def NV(K:Fg):R2:=λx y H Q=>∃p xs i v,x=.ref p/\y=.int i/\cq K H p xs/\JB xs i=some v/\Q v H
def NX(K:Fg):R2:=λx y H Q=>∃p xs i v,x=.ref p/\y=.int i/\cE K H p xs/\JB xs i=some v/\Q v H
def NW:R2:=λx y H Q=>∃z i c,x=.str z/\y=.int i/\z.length<=sizeLine/\JB z.cps.toList i=some c/\Q (.str ⟨#[c]⟩) H
theorem JR:Jh X (NV X.K):=by
 intro value slice pins s σ H x y v u Q I rx ry h hs
 obtain⟨p,xs,i,z,rfl,rfl,hq,he,q⟩:=h
 cases rx
 obtain⟨t,rfl⟩:=ry
 obtain⟨its,r,pl,hz⟩:=I.list hq
 obtain⟨j,h1,h2,h3,h4,h5⟩:=yc he
 obtain⟨w,ew,rw'⟩:=r.get h2
 have hl:=r.length
 have hn:=uy
 have fin:EP X pins σ Q w s:=⟨z,H,I,rw',q⟩
 by_cases h0:0<=i
 ·have hj:i.toNat=j:=by
   rw[seqIndex_of h0 h5] at h1
   exact Option.some.inj h1
  exact item_listR pl.isList h0 (by lia) (by rw[hj];simpa using ew) fin hs
 ·have hj:(i+(its.toArray.size:Int)).toNat=j:=by
   rw[seqIndex_neg (by lia) h4] at h1
   rw[au,<-hl]
   exact Option.some.inj h1
  exact subscriptTail_builtinR (x:=w) pl.isList.typeIs slot_list_getitem.lookup
   (wpAny_getItem_list_neg (Q:=λr s'=>r=w/\EP X pins σ Q r s') pl.isList (by lia) (by rw[au]<;>lia) (by lia) (by rw[hj];simpa using ew) ⟨rfl,fin⟩) hs
theorem LU:Jh X (NX X.K):=by
 intro value slice pins s σ H x y v u Q I rx ry h hs
 obtain⟨p,xs,i,z,rfl,rfl,hq,he,q⟩:=h
 cases rx
 obtain⟨t,rfl⟩:=ry
 obtain⟨its,r,pl,hz⟩:=I.tuple hq
 obtain⟨j,h1,h2,h3,h4,h5⟩:=yc he
 obtain⟨w,ew,rw'⟩:=r.get h2
 have hl:=r.length
 have hn:=uy
 have fin:EP X pins σ Q w s:=⟨z,H,I,rw',q⟩
 exact subscriptTail_builtinR (x:=w) pl.typeIs slot_tuple_getitem.lookup
  (getItem_tuple (j:=j) (Q:=λr s'=>r=w/\EP X pins σ Q r s') pl (by lia) (by lia) (by rw[au,<-hl];exact h1) (by simpa using ew) ⟨rfl,fin⟩) hs
theorem LS:Jh X NW:=by
 intro value slice pins s σ H x y v u Q I rx ry h hs
 obtain⟨z,i,c,rfl,rfl,hz,he,q⟩:=h
 obtain⟨t,rfl⟩:=rx
 obtain⟨t',rfl⟩:=ry
 obtain⟨j,h1,h2,h3,h4,h5⟩:=yc he
 have hl:z.cps.toList.length=z.length:=by simp[Str.length]
 rw[hl] at h1 h4 h5
 have hn:=uy
 exact tail_any (typeIs_str s z t) slot_str_getitem.lookup (getItem_str (c:=c) (by
  have e1:decide (i < -(2 ^ 63:Int))=false:=decide_eq_false (by lia)
  have e2:decide (i >= 2 ^ 63)=false:=decide_eq_false (by lia)
  rw[e1,e2,Bool.or_false]) (by rw[h1];simpa using h2) ⟨.str ⟨#[c]⟩,H,I.tok _,⟨_,rfl⟩,q⟩) hs
def fF(K:Fg):R2:=λx y H Q=>NV K x y H Q\/NX K x y H Q\/NW x y H Q
theorem LR:Jh X (fF X.K):=JR.or (LU.or LS)
theorem CL(its:List Value)(n j:Nat)(u:Value):Obj.mapSeq (·.setIfInBounds j u) {cls:=.type "list",data:=.seq its.toArray n}={cls:=.type "list",data:=.seq (its.set j u).toArray n}:=by
 simp[Obj.mapSeq]
theorem bu.lst{pins:List (Addr×Obj)}{σ:St}{H:Hp}{s:Shared}{p:Addr}{xs:List V}(I:bu X pins σ H s)(h:H p=some (.lst xs)) :
  ∃(its:List Value) (n:Nat),b5 xs its/\s.heap.get? p=some {cls:=.type "list",data:=.seq its.toArray n}/\xs.length<=sizeLine:=by
 obtain⟨z,its,n,r,e⟩:=I.hok p _ h
 exact⟨its,n,r,e,z⟩
theorem bu.lstUpd{pins:List (Addr×Obj)}{σ:St}{H:Hp}{s:Shared}{p:Addr}{xs ys:List V}{its its':List Value}{n n':Nat}{f:Obj->Obj}(I:bu X pins σ H s)(h:H p=some (.lst xs))
  (ho:s.heap.get? p=some {cls:=.type "list",data:=.seq its.toArray n}) (hf:f {cls:=.type "list",data:=.seq its.toArray n}={cls:=.type "list",data:=.seq its'.toArray n'}) (r:b5 ys its') (hz:ys.length<=sizeLine) (t:Nat) :
  bu X pins σ (aN H p (.lst ys)) {s with heap:=s.heap.update p f,toks:=t}:=by
 have e:(s.heap.update p f).get? p=some {cls:=.type "list",data:=.seq its'.toArray n'}:=by
  rw[b9 f ho (by rw[hf]<;>rfl),hf]
 refine I.write (x:=p) (e:=p) (by rw[h];trivial) (.inl rfl) (λb u hb q=>(bI _ _ (Ne.symm hb)).trans q) ⟨_,e⟩ ?_
 exact⟨hz,its',n',r,e⟩
def AN:V->V->V->Hp->(Hp->Prop)->Prop:=λo i v H Q=>∃p xs k j,o=.ref p/\i=.int k/\H p=some (.lst xs)/\JQ xs.length k=some j/\Q (aN H p (.lst (xs.set j v)))
theorem uW:F8 X AN:=by
 intro pins s σ H o i v ov iv u Q I ro ri rv h
 obtain⟨p,xs,k,j,rfl,rfl,hp,hj,q⟩:=h
 cases ro
 obtain⟨t,rfl⟩:=ri
 obtain⟨its,n,r,ho,hz⟩:=I.lst hp
 obtain⟨h1,h2,h3,h4⟩:=DZ hj
 have hl:=r.length
 have hn:=uy
 have I':bu X pins σ (aN H p (.lst (xs.set j v))) {s with heap:=s.heap.update p (Obj.mapSeq (·.setIfInBounds j u))}:=
  I.lstUpd hp ho (CL its n j u) (r.set rv j) (by rw[ly];exact hz) s.toks
 by_cases h0:0<=k
 ·have hk:k.toNat=j:=by
   rw[seqIndex_of h0 h4] at h1
   exact Option.some.inj h1
  exact PySem.W.ki_setAt ho h0 (by lia) (by rw[au,<-hl];exact h4) (by rw[hk];exact⟨_,I',q⟩)
 ·have hk:(k+(its.toArray.size:Int)).toNat=j:=by
   rw[seqIndex_neg (by lia) h3] at h1
   rw[au,<-hl]
   exact Option.some.inj h1
  exact PySem.W.ki_setBack ho (by lia) (by rw[au,<-hl];exact h3) (by lia) (by rw[hk];exact⟨_,I',q⟩)
theorem yV(lo hi:Option Int)(n:Nat):(sliceBounds lo hi none n).1=((HT.sIx n 0 lo:Nat):Int)/\(sliceBounds lo hi none n).2.1=((HT.sIx n n hi:Nat):Int)/\(sliceBounds lo hi none n).2.2=1:=by
 refine⟨?_,?_,rfl⟩
 ·cases lo with
  |none=>simp[sliceBounds,HT.sIx]
  |some i=>
   simp only[sliceBounds,HT.sIx,kx,show(1:Int)>0 by decide,if_true]
   by_cases h:i<0
   ·simp only[h,if_true]<;>lia
   ·simp only[h,if_false]<;>lia
 ·cases hi with
  |none=>simp[sliceBounds,HT.sIx]
  |some i=>
   simp only[sliceBounds,HT.sIx,kx,show(1:Int)>0 by decide,if_true]
   by_cases h:i<0
   ·simp only[h,if_true]<;>lia
   ·simp only[h,if_false]<;>lia
theorem wm(its:List Value)(lo hi:Option Int):slicePick its.toArray lo hi none=((its.drop (HT.sIx its.length 0 lo)).take (HT.sIx its.length its.length hi-HT.sIx its.length 0 lo)).toArray:=by
 obtain⟨h1,h2,h3⟩:=yV lo hi its.toArray.size
 unfold slicePick
 rw[h1,h2,h3]
 simp only[sliceRange_one,pick_run,au]<;>rfl
def N0(K:Fg):V->Option Int->Option Int->Hp->VK->Prop:=λx lo hi H Q=>∃a xs,x=.ref a/\cq K H a xs/\∀p,H p=none->Q (.ref p) (aN H p (.lst (nO xs lo hi)))
theorem K0:Ga X (N0 X.K):=by
 intro pins s σ H x v vl vu lo hi sl Q I rx hs pl pu h
 obtain⟨a,xs,rfl,hx,q⟩:=h
 cases rx
 obtain⟨its,r,ht,hz⟩:=I.list hx
 have hlen:=r.length
 refine⟨"list",_,slot_list_getitem.lookup,ht.isList.typeIs,?_⟩
 refine wpAny_getItem_list_slice ht.isList hs pl pu .none (by simp) ?_ (by rw[au]<;>lia)
 rw[wm,<-hlen]
 refine⟨.ref s.heap.objs.size,_,I.laid (t':=s.toks) (o:=.lst (nO xs lo hi)) (λb ob q=>ag _ q) (aw _) ?_,rfl,q _ (I.hok.fresh (aw _))⟩
 exact⟨br (so xs lo hi) hz,_,0,(r.drop (HT.sIx xs.length 0 lo)).take (HT.sIx xs.length xs.length hi-HT.sIx xs.length 0 lo),az _ rfl⟩
def gZ:V->Bool
 |.non=>true
 |.bl _=>true
 |.int _=>true
 |.str _=>true
 |_=>false
def vU:V->V->Bool
 |.non,.non=>true
 |.bl a,.bl b=>a==b
 |.bl a,.int b=>(if a then 1 else 0)==b
 |.int a,.bl b=>a==(if b then 1 else 0)
 |.int a,.int b=>a==b
 |.str a,.str b=>a==b
 |_,_=>false
theorem Cu{A:Around}{s:Shared}{y x:V}{u v:Value}(ry:b7 y u)(rx:b7 x v)(fy:gZ y=true)(fx:gZ x=true):SeqAt.EqAt A s u v (vU y x):=by
 cases y with
 |non=>
  cases ry
  cases x with
  |non=>cases rx;exact SeqAt.EqAt.same _
  |bl b=>cases rx;exact SeqAt.EqAt.none_bool b
  |int b=>obtain⟨t,rfl⟩:=rx;exact SeqAt.EqAt.none_int b t
  |str b=>obtain⟨t,rfl⟩:=rx;exact SeqAt.EqAt.none_str b t
  |_=>exact absurd (show false=true from fx) Bool.false_ne_true
 |bl a=>
  cases ry
  cases x with
  |non=>cases rx;exact SeqAt.EqAt.bool_none a
  |bl b=>cases rx;exact SeqAt.EqAt.bool_bool a b
  |int b=>obtain⟨t,rfl⟩:=rx;exact SeqAt.EqAt.bool_int a b t
  |str b=>obtain⟨t,rfl⟩:=rx;exact SeqAt.EqAt.bool_str a b t
  |_=>exact absurd (show false=true from fx) Bool.false_ne_true
 |int a=>
  obtain⟨t',rfl⟩:=ry
  cases x with
  |non=>cases rx;exact SeqAt.EqAt.int_none a t'
  |bl b=>cases rx;exact SeqAt.EqAt.int_bool a t' b
  |int b=>obtain⟨t,rfl⟩:=rx;exact SeqAt.EqAt.int_int a t' b t
  |str b=>obtain⟨t,rfl⟩:=rx;exact SeqAt.EqAt.int_str a t' b t
  |_=>exact absurd (show false=true from fx) Bool.false_ne_true
 |str a=>
  obtain⟨t',rfl⟩:=ry
  cases x with
  |non=>cases rx;exact SeqAt.EqAt.str_none a t'
  |bl b=>cases rx;exact SeqAt.EqAt.str_bool a t' b
  |int b=>obtain⟨t,rfl⟩:=rx;exact SeqAt.EqAt.str_int a t' b t
  |str b=>obtain⟨t,rfl⟩:=rx;exact SeqAt.EqAt.str_str a t' b t
  |_=>exact absurd (show false=true from fx) Bool.false_ne_true
 |_=>exact absurd (show false=true from fy) Bool.false_ne_true
def Cw(x:V)(u:Value):Bool:=match u with
 |.none=>vU .non x
 |.bool b=>vU (.bl b) x
 |.int i _=>vU (.int i) x
 |.str z _=>vU (.str z) x
 |_=>false
theorem GA{x y:V}{u:Value}(r:b7 y u)(f:gZ y=true):Cw x u=vU y x:=by
 cases y with
 |non=>cases r;rfl
 |bl b=>cases r;rfl
 |int i=>obtain⟨t,rfl⟩:=r;rfl
 |str z=>obtain⟨t,rfl⟩:=r;rfl
 |_=>exact absurd (show false=true from f) Bool.false_ne_true
theorem qa{x:V}:∀{xs:List V} {us:List Value},b5 xs us->xs.all gZ=true->us.any (Cw x)=xs.any λy=>vU y x
 |_,_,.nil,_=>rfl
 |y::xs,u::us,.cons r t,f=>by
  rw[nY,Bool.and_eq_true] at f
  rw[iD,iD,GA r f.1,qa t f.2]
theorem mD{A:Around}{s:Shared}{x:V}{v:Value}(rx:b7 x v)(fx:gZ x=true):∀{xs:List V} {us:List Value},b5 xs us->xs.all gZ=true->∀u∈us,SeqAt.EqAt A s u v (Cw x u)
 |_,_,.nil,_=>λu hu=>by cases hu
 |y::xs,u::us,.cons r t,f=>λu' hu=>by
  rw[nY,Bool.and_eq_true] at f
  rcases aM.mp hu with rfl|hu
  ·rw[GA r f.1];exact Cu r rx f.1 fx
  ·exact mD rx fx t f.2 u' hu
def sr(x:V)(xs:List V):Bool:=xs.any λy=>vU y x
def y8(K:Fg)(neg:Bool):R2:=λx y H Q=>∃p xs,y=.ref p/\(cq K H p xs\/cE K H p xs)/\gZ x=true/\xs.all gZ=true/\Q (.bl (if neg then !sr x xs else sr x xs)) H
theorem ff:jf X (compareOp .In) (y8 X.K false):=by
 intro pins s σ H x y v u Q I rx ry h
 obtain⟨p,xs,rfl,hq,fx,fs,q⟩:=h
 cases ry
 rcases hq with hq|hq
 ·obtain⟨its,r,pl,hz⟩:=I.list hq
  refine SeqAt.in_listAt (Cw x) pl.isList (λw hw=>mD rx fx r fs w (by simpa using hw)) ⟨.bl _,H,I,rfl,?_⟩
  rw[show its.toArray.any (Cw x)=its.any (Cw x) by simp,qa r fs]
  exact q
 ·obtain⟨its,r,pl,hz⟩:=I.tuple hq
  refine SeqAt.in_tupleAt (Cw x) pl (λw hw=>mD rx fx r fs w (by simpa using hw)) ⟨.bl _,H,I,rfl,?_⟩
  rw[show its.toArray.any (Cw x)=its.any (Cw x) by simp,qa r fs]
  exact q
theorem jq:jf X (compareOp .NotIn) (y8 X.K true):=by
 intro pins s σ H x y v u Q I rx ry h
 obtain⟨p,xs,rfl,hq,fx,fs,q⟩:=h
 cases ry
 rcases hq with hq|hq
 ·obtain⟨its,r,pl,hz⟩:=I.list hq
  refine SeqAt.notIn_listAt (Cw x) pl.isList (λw hw=>mD rx fx r fs w (by simpa using hw)) ⟨.bl _,H,I,rfl,?_⟩
  rw[show its.toArray.any (Cw x)=its.any (Cw x) by simp,qa r fs]
  exact q
 ·obtain⟨its,r,pl,hz⟩:=I.tuple hq
  refine SeqAt.notIn_tupleAt (Cw x) pl (λw hw=>mD rx fx r fs w (by simpa using hw)) ⟨.bl _,H,I,rfl,?_⟩
  rw[show its.toArray.any (Cw x)=its.any (Cw x) by simp,qa r fs]
  exact q
theorem kU:iO X (.type "list") (λxs H Q=>∃p ys,xs=[.ref p]/\(cq X.K H p ys\/cE X.K H p ys)/\∀l,H l=none->Q (.ref l) (aN H l (.lst ys))):=by
 intro pins s σ H xs us Q I r h
 obtain⟨p,ys,rfl,hq,q⟩:=h
 obtain⟨u,rfl,rx⟩:=kM r
 cases rx
 have fin:∀(its:List Value),b5 ys its->ys.length<=sizeLine->∀(h':Heap) (c':Nat),(∀b o',s.heap.get? b=some o'->h'.get? b=some o')->
   h'.get? s.heap.objs.size=some {cls:=.type "list",dict:=none,data:=.seq its.toArray c',slots:=#[]}->EP X pins σ Q (.ref s.heap.objs.size) {s with heap:=h'}:=λits r' hz h' c' kp e=>
  ⟨.ref s.heap.objs.size,_,I.laid (t':=s.toks) kp (aw _) (show d4 X.prog X.w _ h' _ (.lst ys) from⟨hz,its,c',r',e⟩),rfl,q _ (I.hok.fresh (aw _))⟩
 rcases hq with hq|hq
 ·obtain⟨its,r',pl,hz⟩:=I.list hq
  have hlen:=r'.length
  obtain⟨o,ho,hc,n,hd⟩:=pl.isList
  exact call_list_seq p (.inl rfl) ho hc hd (λh' c' kp e=>fin its r' hz h' c' kp e) (by simp only[au]<;>lia)
 ·obtain⟨its,r',pl,hz⟩:=I.tuple hq
  have hlen:=r'.length
  obtain⟨o,ho,hc,n,hd⟩:=pl
  exact call_list_seq p (.inr rfl) ho hc hd (λh' c' kp e=>fin its r' hz h' c' kp e) (by simp only[au]<;>lia)
theorem bY:iO X (.type "tuple") (λxs H Q=>∃p ys,xs=[.ref p]/\((cq X.K H p ys/\∀l,H l=none->Q (.ref l) (aN H l (.tup ys)))\/(cE X.K H p ys/\Q (.ref p) H))):=by
 intro pins s σ H xs us Q I r h
 obtain⟨p,ys,rfl,h⟩:=h
 obtain⟨u,rfl,rx⟩:=kM r
 cases rx
 rcases h with⟨hq,q⟩|⟨hq,q⟩
 ·obtain⟨its,r',pl,hz⟩:=I.list hq
  have hlen:=r'.length
  refine call_tuple_list pl.isList (λh' kp=>?_) (by simp only[au]<;>lia)
  have I1:bu X pins σ H {s with heap:=h'}:=I.kept (t':=s.toks) kp
  have I2:bu X pins σ (aN H h'.objs.size (.tup ys)) {s with heap:=h'.push {cls:=.type "tuple",data:=.seq its.toArray}}:=
   I1.laid (t':=s.toks) (λb o e=>ag _ e) (aw _) (show d4 X.prog X.w _ _ _ (.tup ys) from⟨hz,its,r',j7.new _ _⟩)
  exact⟨.ref h'.objs.size,_,I2,rfl,q _ (I1.hok.fresh (aw _))⟩
 ·obtain⟨its,r',pl,hz⟩:=I.tuple hq
  exact call_tuple_same pl ⟨.ref p,H,I,rfl,q⟩
def Oy(K:Fg)(T:String)(x:V)(H:Hp):Prop:=match x with
 |.str _=>T="str"
 |.int _=>T="int"
 |.ref p=>(T="list"/\∃xs,cq K H p xs)\/(T="tuple"/\∃o,K.lookup p=some o/\o.cls=.type "tuple"/\o.dict=none)\/
   (T="dict"/\((∃kvs,H p=some (.dK kvs))\/∃kvs,H p=some (.dT kvs)))\/(T="set"/\∃S n,H p=some (.set S n))
 |_=>False
theorem IV{pins:List (Addr×Obj)}{σ:St}{H:Hp}{s:Shared}{T:String}{x:V}{v:Value}(I:bu X pins σ H s)(r:b7 x v)(ty:Oy X.K T x H) :
  s.TypeIs v T/\∀a,v=.ref a->∃ob,s.heap.get? a=some ob/\ob.dict=none:=by
 cases x with
 |str z=>
  obtain⟨t,rfl⟩:=r
  cases(show T="str" from ty)
  exact⟨typeIs_str s z t,λ_ e=>nomatch e⟩
 |int i=>
  obtain⟨t,rfl⟩:=r
  cases(show T="int" from ty)
  exact⟨typeIs_int s i t,λ_ e=>nomatch e⟩
 |ref p=>
  cases r
  rcases ty with⟨rfl,xs,hq⟩|⟨rfl,o,hk,hc,hd⟩|⟨rfl,hk⟩|⟨rfl,S,n,hk⟩
  ·obtain⟨its,_,pl,_⟩:=I.list hq
   refine⟨pl.isList.typeIs,λa e=>?_⟩
   cases e
   obtain⟨o,n,e,c,hd,_⟩:=pl
   exact⟨o,e,hd⟩
  ·refine⟨⟨o,I.kIn p o hk,hc⟩,λa e=>?_⟩
   cases e
   exact⟨o,I.kIn _ o hk,hd⟩
  ·have z:∃o,s.heap.get? p=some o/\o.ExactDict:=by
    rcases hk with⟨kvs,hk⟩|⟨kvs,hk⟩
    ·obtain⟨_,_,_,_,o,_,_,e,ex,_⟩:=I.hok p _ hk
     exact⟨o,e,ex⟩
    ·obtain⟨_,_,_,_,o,_,_,e,ex,_⟩:=I.hok p _ hk
     exact⟨o,e,ex⟩
   obtain⟨o,e,ex⟩:=z
   refine⟨⟨o,e,ex.1⟩,λa e2=>?_⟩
   cases e2
   exact⟨o,e,ex.2.1⟩
  ·obtain⟨o,_,_,_,e,ex,_⟩:=I.hok p _ hk
   refine⟨⟨o,e,ex.1⟩,λa e2=>?_⟩
   cases e2
   exact⟨o,e,ex.2.1⟩
 |_=>exact False.elim ty
def K4(K:Fg)(T:String)(r:V->List V->Hp->VK->Prop)(to:TE):TE:=λσ H Q=>to σ H λx H1=>Oy K T x H1/\r x [] H1 Q
def rQ(K:Fg)(T:String)(r:V->List V->Hp->VK->Prop)(to:TE)(t:TA):TE:=λσ H Q=>to σ H λx H1=>Oy K T x H1/\t σ H1 λxs H2=>r x xs H2 Q
variable{o e:Expr}{es:List Expr}{to:TE}{t:TA}{name:Str}{apos cpos:Pos}{T id:String}{r:V->List V->Hp->VK->Prop}
theorem Mn(pa:PlainAttrs T)(slot:Slot T name id)(hty:typeOf (.builtin id)=pure (.type "method_descriptor"))(hm:Nd X id r)(ho:PE X o to)
  (hbase:attributeBase o name X.env (eval o X.env)=eval o X.env:=by rfl) (hline:(apos.endLine==cpos.line)=true:=by rfl):PE X (.Call (.Attribute o name apos) [] [] cpos) (K4 X.K T r to):=by
 intro pins s σ H Q I h
 refine wpAny_Call_method0_late hbase hline (eJ (ho pins s σ H _ I h) λv s1 ⟨x,H1,I1,r1,ty,q1⟩=>?_)
 obtain⟨h1,h2⟩:=IV I1 r1 ty
 exact⟨T,id,pa,slot,hty,h1,h2,Calls.callWith_builtin rfl (PySem.evalArgs_none (hm pins s1 σ H1 x [] v [] Q I1 r1 .nil q1))⟩
theorem NG(pa:PlainAttrs T)(slot:Slot T name id)(hty:typeOf (.builtin id)=pure (.type "method_descriptor"))(hm:Nd X id r)(ho:PE X o to)(ha:PA X (e::es) t)
  (hbase:attributeBase o name X.env (eval o X.env)=eval o X.env:=by rfl)
  (hfew:((backTo cpos (starEach (e::es) X.env)).all (λx=>!x.1)&&(backToKw cpos (keywordEach [] X.env)).all (λx=>x.1.isSome)
   && decide ((e::es).length+([]:List Keyword).length+(if([]:List Keyword).isEmpty then 0 else 1)<30))=true:=by rfl)
  (hline:(apos.endLine==cpos.line)=true:=by rfl) (hs:starEach (e::es) X.env=(false,eval e X.env)::starEach es X.env:=by rfl) (hplain:(backTo cpos (starEach es X.env)).any (·.1)=false:=by rfl) :
  PE X (.Call (.Attribute o name apos) (e::es) [] cpos) (rQ X.K T r to t):=by
 intro pins s σ H Q I h
 refine wpAny_Call_method_late hbase hfew hline rfl (eJ (ho pins s σ H _ I h) λv s1 ⟨x,H1,I1,r1,ty,q1⟩=>?_)
 obtain⟨h1,h2⟩:=IV I1 r1 ty
 refine⟨T,id,pa,slot,hty,h1,h2,?_⟩
 have hA:=ha cpos pins s1 σ H1 _ I1 q1
 rw[hs] at hA ⊢
 refine Calls.callWith_builtin (by show(false || (backTo cpos (starEach es X.env)).any (·.1))=false;rw[hplain]<;>rfl) (Calls.evalArgs_plain ?_)
 exact eJ hA λus s2 ⟨vs,H2,I2,r2,q2⟩=>hm pins s2 σ H2 x vs v us Q I2 r1 r2 q2
end
def Oa(X:Cx)(id:String)(r:V->List V->Hp->VK->Prop):Prop:=
 ∀(pins:List (Addr×Obj)) (s:Shared) (σ:St) (H:Hp) (x:V) (xs:List V) (v:Value) (us:List Value) (Q:VK),bu X pins σ H s->b7 x v->b5 xs us->r x xs H Q->
  wpAny (model X.prog X.w) X.A (call (.builtin id) (v::us)) (EP X pins σ Q) X.xe s
theorem b5.one:∀{x:V} {us:List Value},b5 [x] us->∃u,us=[u]/\b7 x u
 |_,_,.cons r .nil=>⟨_,rfl,r⟩
theorem b5.zero:∀{us:List Value},b5 [] us->us=[]
 |_,.nil=>rfl
theorem b5.dropLast{xs:List V}{us:List Value}(h:b5 xs us):b5 xs.dropLast us.dropLast:=by
 induction h with
 |nil=>exact .nil
 |cons r t ih=>
  cases t with
  |nil=>exact .nil
  |cons q t'=>exact .cons r ih
theorem b5.eraseIdx:∀{xs:List V} {us:List Value} (i:Nat),b5 xs us->b5 (xs.eraseIdx i) (us.eraseIdx i)
 |_,_,_,.nil=>.nil
 |_,_,0,.cons _ t=>t
 |_,_,i+1,.cons r t=>.cons r (b5.eraseIdx i t)
theorem b5.reverse{xs:List V}{us:List Value}(h:b5 xs us):b5 xs.reverse us.reverse:=by
 induction h with
 |nil=>exact .nil
 |cons r t ih=>rw[List.reverse_cons,List.reverse_cons];exact b5.append ih (.cons r .nil)
theorem b5.rep{xs:List V}{us:List Value}(h:b5 xs us):∀k:Nat,b5 (aV k xs).flatten (aV k us).flatten
 |0=>.nil
 |k+1=>by
  rw[cM,cM,c8,c8]
  exact b5.append h (b5.rep h k)
theorem Cz{α:Type}(l:List α):l.eraseIdx (l.length-1)=l.dropLast:=by
 induction l with
 |nil=>rfl
 |cons a r ih=>
  cases r with
  |nil=>rfl
  |cons b r=>
   have e:(a::b::r).length-1=((b::r).length-1)+1:=by
    have h1:(a::b::r).length=r.length+2:=rfl
    have h2:(b::r).length=r.length+1:=rfl
    lia
   rw[e,List.eraseIdx_cons_succ,ih]
   all_goals rfl
theorem xa{α:Type}:∀(l:List α) (i:Nat),(l.eraseIdx i).length<=l.length
 |[],_=>aw _
 |_::_,0=>eD _
 |_::r,i+1=>Nat.succ_le_succ (xa r i)
theorem wR(its:List Value):∀(k:Nat) (acc:List Value),
  tI (λx1 x2=>x1++x2) acc.toArray (aV k its.toArray)=(acc++(aV k its).flatten).toArray
 |0,acc=>by simp
 |k+1,acc=>by
  have e:acc.toArray++its.toArray=(acc++its).toArray:=by simp
  have e2:(acc++its)++(aV k its).flatten=acc++(aV (k+1) its).flatten:=by
   rw[cM,c8,ft]
  rw[<-e2,<-wR its k (acc++its),<-e,cM,gn]
section
variable{X:Cx}{pins:List (Addr×Obj)}{σ:St}{H:Hp}{s:Shared}{l b:Addr}{xs ys zs:List V}
theorem bu.lset{its its':List Value}{n:Nat}{f:Array Value->Array Value}{t':Nat}(I:bu X pins σ H s)(hH:H l=some (.lst xs))
  (e:s.heap.get? l=some {cls:=.type "list",data:=.seq its.toArray n}) (hf:f its.toArray=its'.toArray) (hv:b5 ys its') (hz:ys.length<=sizeLine) :
  bu X pins σ (aN H l (.lst ys)) {s with heap:=s.heap.update l (Obj.mapSeq f),toks:=t'}:=by
 have q:=PySem.IsL.update e f
 rw[hf] at q
 refine I.write (x:=l) (e:=l) (by rw[hH];exact trivial) (.inl rfl) (λb' u hb hu=>(bI s.heap (Obj.mapSeq f) (Ne.symm hb)).trans hu) ⟨_,q⟩ ?_
 exact⟨hz,its',_,hv,q⟩
theorem bu.lnew{its:List Value}{t':Nat}(I:bu X pins σ H s)(hv:b5 ys its)(hz:ys.length<=sizeLine) :
  bu X pins σ (aN H s.heap.objs.size (.lst ys)) {s with heap:=s.heap.push {cls:=.type "list",data:=.seq its.toArray},toks:=t'}:=
 I.laid (λ_ _ q=>ag _ q) (aw _) ⟨hz,its,0,hv,az _ rfl⟩
theorem bu.fresh(I:bu X pins σ H s):H s.heap.objs.size=none:=I.hok.fresh (aw _)
theorem bu.lstM(I:bu X pins σ H s)(hH:H l=some (.lst xs)):xs.length<=sizeLine/\∃(its:List Value) (n:Nat),b5 xs its/\xs.length=its.length/\s.heap.get? l=some {cls:=.type "list",data:=.seq its.toArray n}:=by
 obtain⟨z,its,n,r,e⟩:=I.hok l _ hH
 exact⟨z,its,n,r,r.length,e⟩
theorem G5{n:Nat}(h:n<=sizeLine):Builtin.List.listTooLong n=false:=by
 unfold Builtin.List.listTooLong
 exact decide_eq_false (by lia)
end
section
variable{X:Cx}
def dH:V->List V->Hp->VK->Prop:=λx vs H Q=>∃l xs y,x=.ref l/\vs=[y]/\H l=some (.lst xs)/\xs.length<sizeLine/\Q .non (aN H l (.lst (xs++[y])))
theorem xb:Oa X "list.append" dH:=by
 intro pins s σ H x vs v us Q I rx rv h
 obtain⟨l,xs,y,rfl,rfl,hH,hz,q⟩:=h
 cases rx
 obtain⟨u,rfl,ru⟩:=rv.one
 obtain⟨z,its,n,r,hl,e⟩:=I.lstM hH
 refine call_meets F.slot_list_append ⟨_,e,rfl⟩ F.entry_list_append (F.args_list_append_2 _ _) (PySem.list_append l its.toArray n u (by rw[au];lia)) ⟨e,?_⟩
 refine⟨.non,_,I.lset (its':=its++[u]) hH e (by simp) (r.append (.cons ru .nil)) ?_,rfl,q⟩
 rw[ai,aI]
 lia
def tq:V->List V->Hp->VK->Prop:=λx vs H Q=>∃l b xs zs,x=.ref l/\vs=[.ref b]/\H l=some (.lst xs)/\H b=some (.lst zs)/\xs.length+zs.length<=sizeLine/\Q .non (aN H l (.lst (xs++zs)))
theorem rC:Oa X "list.extend" tq:=by
 intro pins s σ H x vs v us Q I rx rv h
 obtain⟨l,b,xs,zs,rfl,rfl,hH,hB,hz,q⟩:=h
 cases rx
 obtain⟨u,rfl,ru⟩:=rv.one
 cases ru
 obtain⟨z,its,n,r,hl,e⟩:=I.lstM hH
 obtain⟨z2,its2,n2,r2,hl2,e2⟩:=I.lstM hB
 have hsz:its.toArray.size+its2.toArray.size<=sizeLine:=by rw[au,au];lia
 have hlong:¬(!its.toArray.isEmpty&&Builtin.List.listTooLong (its.toArray.size+its2.toArray.size))=true:=by
  rw[G5 hsz,Bool.and_false]
  exact Bool.false_ne_true
 refine call_meets F.slot_list_extend ⟨_,e,rfl⟩ F.entry_list_extend (F.args_list_extend_2 _ _)
  (AutoSeq1.list_extend_list_list_0 l its.toArray n b its2.toArray n2 hlong (by rw[au];lia) (by lia)) ⟨e,e2,?_⟩
 refine⟨.non,_,I.lset (its':=its++its2) hH e (by simp) (r.append r2) ?_,rfl,q⟩
 rw[ai]
 lia
def MM:V->List V->Hp->VK->Prop:=λx vs H Q=>∃l xs y,x=.ref l/\vs=[]/\H l=some (.lst xs)/\xs[xs.length-1]?=some y/\Q y (aN H l (.lst xs.dropLast))
theorem G3:Oa X "list.pop" MM:=by
 intro pins s σ H x vs v us Q I rx rv h
 obtain⟨l,xs,y,rfl,rfl,hH,hy,q⟩:=h
 cases rx
 have hus:=rv.zero
 subst hus
 obtain⟨z,its,n,r,hl,e⟩:=I.lstM hH
 obtain⟨u,hu,ru⟩:=r.get hy
 have hy':its.toArray[its.toArray.size-1]?=some u:=by
  show its.toArray[its.length-1]?=some u
  rw[<-bM,<-hl]
  exact hu
 refine call_meets F.slot_list_pop ⟨_,e,rfl⟩ F.entry_list_pop (F.args_list_pop_1 _) (MeetsSeq.list_pop_last l its.toArray n u hy' (by rw[au];lia)) ⟨e,?_⟩
 refine⟨y,_,I.lset (its':=its.dropLast) hH e ?_ r.dropLast ?_,ru,q⟩
 ·show its.toArray.eraseIdxIfInBounds (its.toArray.size-1)=its.dropLast.toArray
  rw[au,List.eraseIdxIfInBounds_toArray,Cz]
 ·rw[cY]
  lia
def CW:V->List V->Hp->VK->Prop:=λx vs H Q=>∃l xs i k y,x=.ref l/\vs=[.int i]/\H l=some (.lst xs)/\-(2 ^ 63)<=i/\i<2 ^ 63/\seqIndex? i xs.length=some k/\xs[k]?=some y/\Q y (aN H l (.lst (xs.eraseIdx k)))
theorem AD:Oa X "list.pop" CW:=by
 intro pins s σ H x vs v us Q I rx rv h
 obtain⟨l,xs,i,k,y,rfl,rfl,hH,h1,h2,hk,hy,q⟩:=h
 cases rx
 obtain⟨u,rfl,ru⟩:=rv.one
 obtain⟨t,rfl⟩:=ru
 obtain⟨z,its,n,r,hl,e⟩:=I.lstM hH
 obtain⟨w,hw,rw'⟩:=r.get hy
 refine call_meets F.slot_list_pop ⟨_,e,rfl⟩ F.entry_list_pop (F.args_list_pop_2 _ _)
  (MeetsSeq.list_pop_at l its.toArray n i t k w (fitsIndex_both h1 h2) (by rw[au,<-hl];exact hk) (by rw[<-bM];exact hw) (by rw[au];lia)) ⟨e,?_⟩
 refine⟨y,_,I.lset (its':=its.eraseIdx k) hH e ?_ (r.eraseIdx k) ?_,rw',q⟩
 ·show its.toArray.eraseIdxIfInBounds k=(its.eraseIdx k).toArray
  rw[List.eraseIdxIfInBounds_toArray]
 ·have:=xa xs k
  lia
def NS:R2:=λx y H Q=>∃l b xs zs,x=.ref l/\y=.ref b/\H l=some (.lst xs)/\H b=some (.lst zs)/\xs.length+zs.length<=sizeLine/\∀p,H p=none->Q (.ref p) (aN H p (.lst (xs++zs)))
theorem Mb:jf X (binaryOp .Add) NS:=by
 intro pins s σ H x y v u Q I rx ry h
 obtain⟨l,b,xs,zs,rfl,rfl,hH,hB,hz,q⟩:=h
 cases rx
 cases ry
 obtain⟨z,its,n,r,hl,e⟩:=I.lstM hH
 obtain⟨z2,its2,n2,r2,hl2,e2⟩:=I.lstM hB
 refine PySem.P.add_list e e2 ?_ (by rw[au,au];lia)
 have ea:its.toArray++its2.toArray=(its++its2).toArray:=by simp
 rw[ea]
 exact⟨.ref _,_,I.lnew (t':=s.toks) (r.append r2) (by rw[ai];lia),rfl,q _ I.fresh⟩
theorem J0{α:Type}(xs:List α)(k:Nat):(aV k xs).flatten.length=k*xs.length:=by
 induction k with
 |zero=>simp
 |succ k ih=>rw[cM,c8,ai,ih,Nat.succ_mul,pS]
end
section
variable{prog:Program}{w:World}{A:Around}{E:Value->Shared->Prop}{s:Shared}
set_option maxRecDepth 100000 in
end
section
variable{X:Cx}
end
end L2
namespace Att
open PySem PySem.W PySem.Calls PyProof.Rows
theorem sR{P:Params}{h:Heap}:∀(ns:List Int) (vs:List Value),WellAll P h vs (ns.map WData.int)->IntsAre vs ns:=by
 intro ns
 induction ns with
 |nil=>
  intro vs w
  rw[List.map_nil] at w
  cases w
  exact .nil
 |cons n ns ih=>
  intro vs w
  rw[bz] at w
  cases w with
  |cons a b=>
   cases a
   exact .cons _ _ (ih _ b)
theorem Fj{l:OpenLaw}{n:Nat}(hn:l.most=some n){P:Params}{h:Heap}{args:List WData}{vals:List Value}
  (hpre:l.row.toRowW.claim.pre args=true) (hwl:WellAll P h vals args) :
  ∃a vs ns,vals=[Value.ref a]/\args=[WData.list (ns.map WData.int)]/\h.get? a=some {cls:=.type "list",data:=.seq vs.toArray}/\IntsAre vs ns/\ns.length<=n:=by
 have hsh:WShape.hasAll [] args [.list .int]=true:=(pre_splitW hpre).1
 have hc:l.pre.holds [] {args:=args}=true:=(pre_splitW hpre).2
 obtain⟨d,r,rfl,h1,h2⟩:=hasAllW_cons hsh
 obtain rfl:=hasAllW_nil h2
 obtain⟨xs,rfl,h3⟩:=hasW_list h1
 obtain⟨ns,rfl⟩:=items_int h3
 have hlen:ns.length<=n:=by
  unfold OpenLaw.pre at hc
  have h4:(WTm.not (.lt (.lit (.int (n:Int))) (.len (.arg 0)))).holds [] {args:=[.list (ns.map .int)]}=true:=by
   have h4:=(holds_andW hc).1
   rw[hn] at h4
   exact h4
  have h5:=condW_of h4 (w_not (w_lt w_lit (w_len_list (w_arg rfl))))
  rw[af] at h5
  refine Nat.le_of_not_lt λq=>?_
  have q':(n:Int)<((ns.length:Nat):Int):=by lia
  first
   |(rw[decide_eq_true q'] at h5;exact absurd h5 (by decide))
   |(simp at h5;lia)
 cases hwl with
 |cons w1 w2=>
  cases w2
  cases w1 with
  |list ho hall=>exact⟨_,_,ns,rfl,rfl,ho,sR ns _ hall,hlen⟩
theorem Fb(l:OpenLaw)(args:List WData):l.row.toRowW.claim.post args (.bool true) args=true:=
 postW_of (r:=l.row.toRowW) (X:=(true==true))
  (show WShape.has [] (.bool true) .bool=true by first|rfl|decide|simp[WShape.has,WShape.arms,WShape.armsAll])
  (show(WTm.eq .res (.lit (.bool true))).value [] {args:=args,res:=some (.bool true),after:=args}=some (.bool (true==true)) from w_eq_bool (w_res rfl) w_lit) rfl
theorem attach_call{l:OpenLaw}{n:Nat}{q:Program}{loose:List Str}{XP:(Str->Option Value)->Heap->Prop}{YP:World->Heap->Prop}{d:DefRec}
  (hn:l.most=some n) (hdf:d.params.defaults=[])
  (call:∀(w:World) (s₀ s₁:Shared) (mg mb:Str->Option Value) (fa:Addr) (o:Obj) (pm cd doc:Value) (a:Addr) (vs:List Value) (ns:List Int),
   Ground q loose [] XP w s₀ mg mb s₁.heap->YP w s₁.heap->
   s₁.heap.get? fa=some o->o.data=.func (docDef d.name d.params d.body d.scope pm cd doc)->s₁.heap.CodeRec cd d.name->mg d.name=some (.ref fa)->
   s₁.heap.get? a=some {cls:=.type "list",data:=.seq vs.toArray}->IntsAre vs ns->ns.length<=n->s₁.gens=#[]->
   codeAny (model l.prog w) callerA (.call (.ref fa) ⟨[.ref a],[]⟩) (λr s'=>r=.ok (.ret (.bool true))/\OldK s₁.heap s'.heap/\s'.os=s₁.os/\AllBare s'.gens) s₁) :
  WalkO q loose XP YP l.row.toRowW d [] (λf vs=>tJ f vs):=by
 intro w s₀ s₁ mg mb G Y fa o pm cd doc dV kV ho hd hcd hD hmg hg args vals as hpre hlay hrd hwl hlo
 obtain rfl:dV=.none:=Dflts.none hD hdf
 obtain rfl:kV=.none:=Dflts.noKw hD
 obtain⟨a,vs,ns,rfl,rfl,hobj,hints,hlen⟩:=Fj hn hpre hwl
 refine enter_call (codeAny_mono (call w s₀ s₁ mg mb fa o pm cd doc a vs ns G Y ho (fd_plain hd) hcd hmg hobj hints hlen hg) λr s' hq=>?_)
 obtain⟨rfl,h2,h3,h4⟩:=hq
 exact⟨.inl ⟨.bool true,.bool true,[],rfl,λ_=>rfl,.bool true,Fb l _,λ_=>⟨List.Pairwise.nil,λ_ hm=>(nomatch hm)⟩⟩,h2,h3,h4⟩
section
variable{prog:Program}{w:World}{A:Around}{E:Value->Shared->Prop}{s:Shared}{K:Frag}
end
end Att
namespace L2
open PySem PySem.Spec PyProof.Rows
theorem xN:∀{vs:List Value} {ns:List Int},IntsAre vs ns->b5 (ns.map V.int) vs
 |_,_,.nil=>.nil
 |_,_,.cons n t h=>.cons ⟨t,rfl⟩ (xN h)
def Js(H:Hp):Prop:=∀b,H b=none\/∃o xs,H b=some (.frz o (.lst xs))
theorem GZ{P:Program}{w:World}{K:Fg}{mg mb:Str->Option Value}{CX:FK}{k:Nat}{fa a:Addr}{fd:FuncData}{x:Str}{sp:Sp}{s₁:Shared}{vs:List Value}{ns:List Int}
  (KX:K.In s₁.heap) (hns:s₁.heap.Ns mainGlobals mg) (hb:s₁.heap.Ns builtinsNs mb) (hbb:∀x:Str,x≠"__name__"->mb x=bootBuiltins x) (hlim:s₁.heap.NoLimit) (hg:s₁.gens=#[])
  (ha:s₁.heap.get? a=some {cls:=.type "list",data:=.seq vs.toArray}) (hi:IntsAre vs ns) (hl:ns.length<=sizeLine) (hr:ix k callerA)
  (F:∀base:Heap,K.In base->base.Ns mainGlobals mg->vG P w K mg base CX k fa fd [x] sp) (hbind:∀(s:Shared) (u:Value),BindsTo s fd ⟨[u],[]⟩ [(x,u)])
  (hsp:∀H:Hp,Js H->cq K H a (ns.map V.int)->sp [.ref a] H (λv _=>v=.bl true) λ_ _ _=>False)
  (hCX:∀H e s',CX [] H s₁ (λ_ _ _=>False) e s'->False) :
  codeAny (model P w) callerA (.call (.ref fa) ⟨[.ref a],[]⟩) (λr s'=>r=.ok (.ret (.bool true))/\OldK s₁.heap s'.heap/\s'.os=s₁.os/\AllBare s'.gens) s₁:=by
 have rv:=xN hi
 have lenV:=hi.length
 have core:∀H:Hp,Js H->cq K H a (ns.map V.int)->og P w H s₁.heap->(∀b,H b≠none->b=a)->(H a≠none->K.lookup a=none)->
   codeAny (model P w) callerA (.call (.ref fa) ⟨[.ref a],[]⟩) (λr s'=>r=.ok (.ret (.bool true))/\OldK s₁.heap s'.heap/\s'.os=s₁.os/\AllBare s'.gens) s₁:=by
  intro H hO hS hok hA hK
  have base_of:∀{b:Addr} {o:Obj},s₁.heap.get? b=some o->H b=none->(yr s₁.heap H).get? b=some o:=λe n=>GL e n
  have noA:∀{b:Addr} {o:Obj} {es:Array DictEntry} {ep:Nat},s₁.heap.get? b=some o->o.data=.dict es ep->H b=none:=λ{b o es ep} e d=>by
   cases q:H b with
   |none=>rfl
   |some u=>
    have e':b=a:=hA b (by rw[q];simp)
    subst e'
    rw[ha] at e;cases e
    have d':Data.seq vs.toArray _=Data.dict es ep:=d
    cases d'
  have nsK:∀{b:Addr} {m:Str->Option Value},s₁.heap.Ns b m->(yr s₁.heap H).Ns b m:=λ{b m} ⟨o,es,ep,e,d,r⟩=>⟨o,es,ep,base_of e (noA e d),d,r⟩
  have hKb:K.In (yr s₁.heap H):=λb o e=>base_of (KX b o e) (by
   cases q:H b with
   |none=>rfl
   |some u=>
    have e':b=a:=hA b (by rw[q];simp)
    subst e'
    rw[hK (by rw[q];simp)] at e;cases e)
  have hM:Mod K mg (yr s₁.heap H):=⟨hKb,nsK hns,⟨mb,nsK hb,hbb⟩,let⟨mc,h1,h2⟩:=hlim;⟨mc,nsK h1,h2⟩⟩
  have e0:Jl P w K mg (yr s₁.heap H) callerA [] s₁ H:=⟨rfl,hM,λb o e=>J4 e,Nat.le_of_eq (E1 _ _),trivial,λb hb=>absurd (show b∈([]:List Addr) from hb) (by simp),hok,.of_eq hg⟩
  refine codeAny_mono ((F _ hKb (nsK hns)).run callerA [] s₁ H ⟨[.ref a],[]⟩ [.ref a] [.ref a] _ _ hr e0 (hbind s₁ (.ref a)) (.cons rfl .nil) (hsp H hO hS)) λr s' h=>?_
  cases r with
  |error e=>exact(hCX H e s' h).elim
  |ok fl=>
   cases fl with
   |next=>exact False.elim h
   |brk=>exact False.elim h
   |cont=>exact False.elim h
   |ret u=>
    obtain⟨v,H',os,bare,un,hok',r',q⟩:=h
    have q':v=.bl true:=q
    subst q'
    obtain rfl:u=Value.bool true:=r'
    refine⟨rfl,OldK.of_keep λb o e=>?_,os,bare⟩
    cases q:H b with
    |none=>exact un.keep b o e q (by intro z;exact absurd (show b∈([]:List Addr) from z) (by simp)) (by simp)
    |some u=>
     rcases hO b with z|⟨ob,xs,z⟩
     ·rw[q] at z;cases z
     ·have z2:=un.frzs b ob _ z
      obtain⟨e1,_⟩:=hok b _ z
      obtain⟨e2,_⟩:=hok' b _ z2
      rw[e] at e1;cases e1
      exact e2
 cases hk:K.lookup a with
 |some o=>
  have e:=KX a o hk
  rw[ha] at e
  cases e
  refine core (λ_=>none) (λ_=>.inl rfl) (.inr ⟨_,vs.toArray,_,hk,rfl,rfl,rfl,by rw[au,lenV];exact hl,by simpa using rv⟩) (λb u z=>by have z':(none:Option HO)=some u:=z;cases z') (λb z=>absurd rfl z) λz=>absurd rfl z
 |none=>
  refine core (λb=>if b=a then some (.frz {cls:=.type "list",data:=.seq vs.toArray} (.lst (ns.map V.int))) else none) (λb=>?_) (.inl (.inr ⟨{cls:=.type "list",data:=.seq vs.toArray},if_pos rfl⟩)) (λb u z=>?_) (λb z=>?_) λ_=>hk
  ·by_cases hb:b=a
   ·exact .inr ⟨_,_,if_pos hb⟩
   ·exact .inl (if_neg hb)
  ·by_cases hb:b=a
   ·have z':=(if_pos hb).symm.trans z
    cases z'
    subst hb
    exact⟨ha,by rw[af];exact hl,vs,_,rv,ha⟩
   ·have z':=(if_neg hb).symm.trans z
    cases z'
  ·by_cases hb:b=a
   ·exact hb
   ·exact absurd (if_neg hb) z
theorem walk_of{l:PySem.W.OpenLaw}{n k:Nat}{q:Program}{loose:List Str}{XP:(Str->Option Value)->Heap->Prop}{YP:World->Heap->Prop}{d:DefRec}{K:Params->Fg}{CX:World->FK}{sp:World->Sp}{x:Str}
  (hn:l.most=some n) (hn2:n<=sizeLine) (hdf:d.params.defaults=[]) (hr:ix k callerA)
  (hY:∀(w:World) (h:Heap),YP w h->(K w.params).In h)
  (F:∀(w:World) (mg:Str->Option Value) (fa:Addr) (h:Heap),(K w.params).In h->h.Ns mainGlobals mg->mg d.name=some (.ref fa)->
   ∃fd:FuncData,(∀(s:Shared) (u:Value),BindsTo s fd ⟨[u],[]⟩ [(x,u)])/\
    ∀base:Heap,(K w.params).In base->base.Ns mainGlobals mg->vG l.prog w (K w.params) mg base (CX w) k fa fd [x] (sp w))
  (hsp:∀(w:World) (H:Hp) (a:Addr) (ns:List Int),ns.length<=n->Js H->cq (K w.params) H a (ns.map V.int)->sp w [.ref a] H (λv _=>v=.bl true) λ_ _ _=>False)
  (hCX:∀(w:World) (H:Hp) (s:Shared) (e:Value) (s':Shared),CX w [] H s (λ_ _ _=>False) e s'->False) :
  PySem.W.WalkO q loose XP YP l.row.toRowW d [] (λf vs=>tJ f vs):=by
 refine Att.attach_call hn hdf λw s₀ s₁ mg mb fa o pm cd doc a vs ns G Y ho hd hcd hmg hobj hints hlen hg=>?_
 have KX:=hY w _ Y
 obtain⟨fd,hb,hF⟩:=F w mg fa _ KX G.T.g hmg
 exact GZ KX G.T.g G.T.b G.T.builtins G.T.nolimit hg hobj hints (br hlen hn2) hr hF hb (λH hO hS=>hsp w H a ns hlen hO hS) λH e s'=>hCX w H s₁ e s'
def kW(s:Stmt):Arguments:=match s with
 |.FunctionDef _ a _ _ _ _ _ _ _ _=>a
 |_=>{posonlyargs:=[],args:=[],vararg:=none,kwonlyargs:=[],kw_defaults:=[],kwarg:=none,defaults:=[]}
def iG(s:Stmt):List Stmt:=match s with
 |.FunctionDef _ _ b _ _ _ _ _ _ _=>b
 |_=>[]
def cP(s:Stmt):Scope:=match s with
 |.FunctionDef _ _ _ _ _ _ sc _ _ _=>sc
 |_=>{kind:=.function,names:=[],isGenerator:=false,isCoroutine:=false}
abbrev Jg:FK:=λ_ _ _ _ _ _=>False
abbrev E0:XK:=λ_ _ _=>False
theorem ND{X:Cx}:BV Jg X E0:=λ_ _ _ _ _ _ _ h=>h.elim
structure M9(K:Fg)(x qual:Str)(st:Stmt)(f:Addr)(fd:FuncData):Prop where
 ex:∃(oc:Value) (od:Option Addr) (kV doc pm:Value) (an:Option Addr) (cdv ct:Value) (osl:Array (Option Value)),
  fd=eE x qual (kW st) (iG st) (cP st) .none kV doc pm an cdv ct/\K.lookup f=some ⟨oc,od,.func fd,osl⟩/\gX K cdv qual=true
 kp:fJ K (.ref f)=true
section
variable{P:Program}{w:World}{K:Fg}{mg:Str->Option Value}{base:Heap}
theorem M9.ok{x qual:Str}{st:Stmt}{f:Addr}{fd:FuncData}{N ps:List Str}{k:Nat}{sp:Sp}(F:M9 K x qual st f fd)(S:sW N ps (cP st))(len:∀vs H Q E,sp vs H Q E->vs.length=ps.length)
  (hbody:∀(cdv:Value) (A:Around) (outer:List Env) (s:Shared) (H:Hp) (vs:List V) (Q:VK) (E:XK),ix k (A.deeper (envOfC qual (cP st) s.heap.objs.size f cdv))->sp vs H Q E->
   ∃t,BU (zV Jg P w K mg base N qual (cP st) f cdv A outer s H E).nox (iG st) t/\t {nx:=λ_ H'=>Q .non H',rt:=Q} (start N vs) H):vG P w K mg base Jg (k+1) f fd ps sp:=by
 obtain⟨oc,od,kV,doc,pm,an,cdv,ct,osl,rfl,lk,hcd⟩:=F.ex
 refine Np lk hcd S len λA outer s H vs Q E hr hsp=>?_
 obtain⟨t,h,q⟩:=hbody cdv A outer s H vs Q E hr hsp
 exact⟨t,h.nox,q⟩
theorem M9.binds{x qual:Str}{st:Stmt}{f:Addr}{fd:FuncData}{ps:List Str}(F:M9 K x qual st f fd)
  (h:∀(kV doc pm:Value) (an:Option Addr) (cdv ct:Value) (us:List Value),us.length=ps.length->bindArgs (eE x qual (kW st) (iG st) (cP st) .none kV doc pm an cdv ct) ⟨us,[]⟩=pure (ps.zip us)):wF K fd ps []:=by
 obtain⟨oc,od,kV,doc,pm,an,cdv,ct,osl,rfl,lk,hcd⟩:=F.ex
 exact .all (h kV doc pm an cdv ct)
theorem GI{x qual:Str}{st:Stmt}{f:Addr}{oc:Value}{od an:Option Addr}{osl:Array (Option Value)}{kV doc pm cdv ct:Value}(l:K.lookup f=some ⟨oc,od,.func (eE x qual (kW st) (iG st) (cP st) .none kV doc pm an cdv ct),osl⟩)
  (c:gX K cdv qual=true) (k:fJ K (.ref f)=true):M9 K x qual st f (eE x qual (kW st) (iG st) (cP st) .none kV doc pm an cdv ct):=⟨⟨oc,od,kV,doc,pm,an,cdv,ct,osl,rfl,l,c⟩,k⟩
end
theorem Nq{A:Around}{k:Nat}(hr:ix k A):A.units+1<cLine:=cU (Nat.add_le_add_left (by decide:1<=64) _) hr.units
section
variable{X:Cx}
theorem pv(i:Nat){x:Str}{pos:Pos}(hN:X.N[i]?=some x:=by rfl)(hv:Oc X.env.scope x:=by first|exact Or.inl rfl|exact Or.inr (Or.inl rfl)|exact Or.inr (Or.inr rfl))(hd:(x==("__debug__":Str))=false:=by decide)
  (hcd:(x==("__classdict__":Str))=false:=by decide):PE X (.Name x pos) (ay i):=Mu hN hv hd hcd
end
theorem jo{A B:Prop}(h:B):if false=true then A else B:=by
 rw[if_neg Bool.false_ne_true]
 exact h
theorem nS{A B:Prop}(h:A):if true=true then A else B:=by
 rw[if_pos rfl]
 exact h
def aJ(H H':Hp):Prop:=∀b o,H b=some o->H' b=some o
theorem aJ.refl(H:Hp):aJ H H:=λ_ _ h=>h
theorem aJ.trans{H H1 H2:Hp}(a:aJ H H1)(b:aJ H1 H2):aJ H H2:=λc o h=>b c o (a c o h)
theorem aJ.free{H H':Hp}(e:aJ H H'){l:Addr}(h:H' l=Option.none):H l=Option.none:=by
 cases q:H l with
 |none=>rfl
 |some o=>
  rw[e l o q] at h
  cases h
section
variable{prog:Program}{w:World}{A:Around}{R:Result->Shared->Prop}{s:Shared}
theorem yi{elt target iter:Expr}{ifs:List Expr}{scope:Scope}{pos:Pos}{it acc:Value}{env:Env}(I:Nat->Shared->Prop)
  (turn:∀n s,I n s->wpAny (model prog w) A (pyNext it) (λr s₁=>match r with
   |none=>R (.ok .next) s₁
   |some v=>wpAny (model prog w) A (letOwnedTupleGo target it v) (λ_ s₁=>wpAny (model prog w) A (assign target env v) (λ_ s₂=>
     wpAny (model prog w) A (forIn ifs true λc r=>if r=true then do let ok <-isTrue c env (eval c env);pure (ForInStep.yield ok) else pure (ForInStep.yield r)) (λok s₃=>
      if ok=true then wpAny (model prog w) A (eval elt env) (λx s₄=>
       wpAny (model prog w) A (call (.builtin "list.append") [acc,x]) (λ_ s₅=>∃m,m<n/\I m s₅) (λ_ _=>False) s₄) (λ_ _=>False) s₃
      else ∃m,m<n/\I m s₃) (λ_ _=>False) s₂) (λ_ _=>False) s₁) (λ_ _=>False) s₁) (λ_ _=>False) s)
  (n:Nat) (h:I n s) :
  codeAny (model prog w) A (.compLoop (.ListComp elt [⟨target,iter,ifs,0⟩] scope pos) 0 it acc env) R s:=by
 refine codeAny_loop rfl I (λn s hI=>?_) n h
 show wpAny _ A ((compTurn (.ListComp elt [⟨target,iter,ifs,0⟩] scope pos) 0 it acc env).onRaise (λx=>do noteFrame x env;theTreesLotGoes x)) _ _ s
 refine wpAny_noted ?_
 rw[compTurn_list]
 refine wpAny_bind (wpAny_standAt (wpAny_bind (wpAny_mono (turn n s hI) (λr s₁ h₁=>?_) λ_ _ h'=>h'.elim)))
 cases r with
 |none=>exact wpAny_pure h₁
 |some v=>
  refine wpAny_bind (wpAny_mono h₁ (λ_ s₁' h₁'=>?_) λ_ _ h'=>h'.elim)
  refine wpAny_bind (wpAny_mono h₁' (λ_ s₂ h₂=>wpAny_bind (wpAny_mono h₂ (λok s₃ h₃=>?_) λ_ _ h'=>h'.elim)) λ_ _ h'=>h'.elim)
  cases ok with
  |false=>exact wpAny_pure ⟨rfl,h₃⟩
  |true=>
   exact wpAny_bind (wpAny_bind (wpAny_mono h₃ (λx s₄ h₄=>wpAny_bind (wpAny_mono h₄ (λ_ s₅ h₅=>wpAny_pure (wpAny_pure ⟨rfl,h₅⟩)) λ_ _ h'=>h'.elim)) λ_ _ h'=>h'.elim))
end
theorem pD{env:Env}{f:Str×NameKind->List (Str×Addr)->Sem (ForInStep (List (Str×Addr)))}
  (hf:∀n k cs,f (n,k) cs=if(k==NameKind.free)=true then(do let c <-cellOf env n;pure (.yield ((n,c)::cs))) else pure (.yield cs)) :
  ∀(names:List (Str×NameKind)) (cs:List (Str×Addr)),(∀x∈names,x.2=NameKind.free->∃c,env.cells.lookup x.1=some c)->(∀n c,cs.lookup n=some c->env.cells.lookup n=some c)->
   ∃cl,(forIn names cs f:Sem (List (Str×Addr)))=pure cl/\(∀n c,cl.lookup n=some c->env.cells.lookup n=some c)/\(∀n,(cs.lookup n).isSome=true->(cl.lookup n).isSome=true)/\∀x∈names,x.2=NameKind.free->(cl.lookup x.1).isSome=true
 |[],cs,_,h2=>⟨cs,rfl,h2,λ_ h=>h,λ_ h=>nomatch h⟩
 |(n,k)::r,cs,h1,h2=>by
  have h1r:∀x∈r,x.2=NameKind.free->∃c,env.cells.lookup x.1=some c:=λx hx=>h1 x (aY _ hx)
  rw[e8,hf]
  by_cases hk:k=NameKind.free
  ·subst hk
   obtain⟨c,hc⟩:=h1 (n,NameKind.free) aZ rfl
   have h2':∀m d,((n,c)::cs).lookup m=some d->env.cells.lookup m=some d:=λm d hd=>by
    rw[dY] at hd
    cases e:(m==n) with
    |true=>
     rw[e] at hd
     have:m=n:=by simpa using e
     rw[this];cases hd;exact hc
    |false=>rw[e] at hd;exact h2 m d hd
   obtain⟨cl,e1,e2,e3,e4⟩:=pD hf r ((n,c)::cs) h1r h2'
   refine⟨cl,?_,e2,λm hm=>e3 m ?_,λx hx hk=>?_⟩
   ·rw[<-e1]
    have ec:cellOf env n=pure c:=by unfold cellOf;rw[hc]
    rw[ec]
    rfl
   ·rw[dY]
    cases e:(m==n) with
    |true=>rfl
    |false=>exact hm
   ·rcases aM.mp hx with rfl|hx
    ·exact e3 n (by rw[dY,beq_self_eq_true];rfl)
    ·exact e4 x hx hk
  ·have hb:(k==NameKind.free)=false:=by simpa using hk
   obtain⟨cl,e1,e2,e3,e4⟩:=pD hf r cs h1r h2
   refine⟨cl,?_,e2,e3,λx hx hk'=>?_⟩
   ·rw[<-e1,hb]
    rfl
   ·rcases aM.mp hx with rfl|hx
    ·exact absurd hk' hk
    ·exact e4 x hx hk'
theorem ug{scope:Scope}{env:Env}(h1:∀x∈scope.names,x.2=NameKind.free->∃c,env.cells.lookup x.1=some c) :
  ∃cl,closureFor scope env=pure cl/\(∀n c,cl.lookup n=some c->env.cells.lookup n=some c)/\∀x∈scope.names,x.2=NameKind.free->(cl.lookup x.1).isSome=true:=by
 obtain⟨cl,e1,e2,_,e4⟩:=pD (env:=env) (f:=λ(x:Str×NameKind) cs=>if(x.2==NameKind.free)=true then(do let c <-cellOf env x.1;pure (.yield ((x.1,c)::cs))) else pure (.yield cs)) (λ_ _ _=>rfl) scope.names [] h1 (λ_ _ h=>nomatch h)
 refine⟨cl,Eq.trans (show closureFor scope env=((forIn scope.names ([]:List (Str×Addr)) λ(x:Str×NameKind) cs=>if(x.2==NameKind.free)=true then(do let c <-cellOf env x.1;pure (.yield ((x.1,c)::cs))) else pure (.yield cs)) >>= λcs=>pure cs) from rfl) ?_,e2,e4⟩
 rw[e1]
 all_goals rfl
theorem g8{env:Env}{x:Str}:∀(names:List (Str×NameKind)),
  (names.map λ(n,k)=>if(k==NameKind.free&&env.scope.kind==.function&&env.kindOf n==some .cell) then(n,NameKind.cell) else(n,k)).lookup x =
   (names.lookup x).map λk=>if(k==NameKind.free&&env.scope.kind==.function&&env.kindOf x==some .cell) then NameKind.cell else k
 |[]=>rfl
 |(n,k)::r=>by
  have ih:=g8 (env:=env) (x:=x) r
  show List.lookup x ((if(k==NameKind.free&&env.scope.kind==.function&&env.kindOf n==some .cell)=true then(n,NameKind.cell) else(n,k))::_)=_
  cases hx:x==n with
  |true=>
   have e:x=n:=by simpa using hx
   subst e
   by_cases hc:(k==NameKind.free&&env.scope.kind==.function&&env.kindOf x==some .cell)=true
   ·rw[if_pos hc];simp only[dY,hx,i6,if_pos hc]
   ·rw[if_neg hc];simp only[dY,hx,i6,if_neg hc]
  |false=>
   by_cases hc:(k==NameKind.free&&env.scope.kind==.function&&env.kindOf n==some .cell)=true
   ·rw[if_pos hc];simp only[dY,hx];exact ih
   ·rw[if_neg hc];simp only[dY,hx];exact ih
theorem Ih{scope:Scope}{env:Env}{x:Str}(hcell:∀y∈scope.names,y.2≠NameKind.cell)(h:(relabel scope env).names.lookup x=some .cell\/(relabel scope env).names.lookup x=some .free):scope.names.lookup x=some .free:=by
 have e:(relabel scope env).names.lookup x=_:=g8 (env:=env) (x:=x) scope.names
 rw[e] at h
 cases q:scope.names.lookup x with
 |none=>rw[q] at h;rcases h with h|h<;>cases h
 |some k=>
  rw[q] at h
  by_cases hk:k=NameKind.free
  ·rw[hk]
  ·have hb:(k==NameKind.free)=false:=by simpa using hk
   simp only[i6,hb,Bool.false_and,Bool.false_eq_true,if_false] at h
   rcases h with h|h
   ·cases h;exact absurd rfl (hcell _ (cG q))
   ·exact h
theorem KR{scope:Scope}{env:Env}{x:Str}(h:(relabel scope env).names.lookup x≠none):scope.names.lookup x≠none:=by
 have e:(relabel scope env).names.lookup x=_:=g8 (env:=env) (x:=x) scope.names
 intro q
 rw[e,q] at h
 exact h rfl
structure pw(sc:Scope)(N:List Str)(scope:Scope)(NY:List Str)(js:List Nat):Prop where
 kind:scope.kind=.function
 cell:∀y∈scope.names,y.2≠NameKind.cell
 names:∀x∈scope.names,x.2=NameKind.local->scope.names.lookup x.1=some .local
 free:∀x∈scope.names,x.2=NameKind.free->sc.names.lookup x.1=some .cell\/sc.names.lookup x.1=some .free
 pre:NY.take N.length=N
 cap:∀p∈N.zipIdx,js.contains p.2=true\/scope.names.lookup p.1=none\/scope.names.lookup p.1=some .free
def um(js:List Nat)(k:Nat)(σ:St):St:=js.foldl (λs j=>s.set j none) σ++aV k none
theorem ni:∀(js:List Nat) (σ:St),(js.foldl (λs j=>s.set j none) σ).length=σ.length
 |[],_=>rfl
 |j::r,σ=>by rw[gn,ni r,ly]
theorem wL:∀(js:List Nat) (σ:St) (i:Nat) (v:V),(js.foldl (λs j=>s.set j none) σ)[i]?=some (some v)->σ[i]?=some (some v)/\js.contains i=false
 |[],σ,i,v,h=>⟨h,rfl⟩
 |j::r,σ,i,v,h=>by
  rw[gn] at h
  obtain⟨h1,h2⟩:=wL r _ i v h
  by_cases e:j=i
  ·subst e
   by_cases hj:j<σ.length
   ·rw[gQ hj] at h1;cases h1
   ·rw[bg (by rw[ly];lia)] at h1;cases h1
  ·rw[iM e] at h1
   refine⟨h1,?_⟩
   rw[List.contains_cons,h2]
   have:(i==j)=false:=by simpa using λz=>e z.symm
   rw[this];rfl
theorem JK{js:List Nat}{k:Nat}{σ:St}{i:Nat}{v:V}(h:(um js k σ)[i]?=some (some v)):σ[i]?=some (some v)/\js.contains i=false:=by
 unfold um at h
 by_cases hi:i<σ.length
 ·rw[av (by rw[ni];exact hi)] at h
  exact wL js σ i v h
 ·rw[ao (by rw[ni];lia),List.getElem?_replicate] at h
  split at h<;>cases h
theorem JL{js:List Nat}{k:Nat}{σ:St}:(um js k σ).length=σ.length+k:=by
 unfold um
 rw[ai,ni,fj]
def cV(X:Cx)(NY:List Str)(scope:Scope)(cl:List (Str×Addr))(C:Addr)(s₀:Shared)(H₀:Hp)(fp:List Addr):Cx:=
 {X with N:=NY,s₀:=s₀,H₀:=H₀,env:=compEnvC scope cl C X.env,outer:=X.stack,ex:=fp,fn:=λ_=>false,pn:=[],xe:=λ_ _=>False}
def EG(X:Cx)(ifs:List Expr)(t:TT):Prop:=
 ∀(pins:List (Addr×Obj)) (s:Shared) (σ:St) (H:Hp) (Q:Bool->Hp->Prop),bu X pins σ H s->t σ H Q->
  wpAny (model X.prog X.w) X.A (forIn ifs true λc r=>if r=true then do let ok <-isTrue c X.env (eval c X.env);pure (ForInStep.yield ok) else pure (ForInStep.yield r)) (TP X pins σ Q) X.xe s
def jE:TT:=λ_ H Q=>Q true H
theorem Kn{X:Cx}:EG X [] jE:=λ_ _ _ H _ I h=>wpAny_tests_nil ⟨H,I,h⟩
theorem Ko{X:Cx}{c:Expr}{t:TT}(h:PT X c t):EG X [c] t:=λpins s σ H Q I q=>wpAny_tests_one (h pins s σ H Q I q)
def jr(D:Addr)(tc:TT)(te:TE):TS:=λE σ H=>tc σ H λb H1=>if b=true then te σ H1 λy H2=>∃ys,H2 D=some (.lst ys)/\ys.length<sizeLine/\E.nx σ (aN H2 D (.lst (ys++[y]))) else E.nx σ H1
def d6(js:List Nat)(k:Nat)(wi:TI)(g:TG)(tc:TT)(te:TE):TE:=λσ H Q=>wi σ H λJ H1=>∀D,H1 D=none->
 ∃W:Nat->Nat->St->Hp->Prop,(∃m,W 0 m (um js k σ) (aN H1 D (.lst [])))/\∀i m σ H,W i m σ H->
  (J.stop i H/\Q (.ref D) H)\/(J.go i H/\∃N:St->Hp->Prop,(∀σ' H',N σ' H'->∃m',m'<m/\W (i+1) m' σ' H')/\∀x H',J.yld i H x H'->g x σ H' λσ2 H2=>jr D tc te {nx:=N,rt:=λ_ _=>False,ct:=N,bk:=λ_ H'=>Q (.ref D) H'} σ2 H2)
section
variable{X:Cx}{pins:List (Addr×Obj)}{σ:St}{H2:Hp}{s₂:Shared}{N NY:List Str}{sc scope:Scope}{cl:List (Str×Addr)}{C:Addr}{fp:List Addr}{js:List Nat}{k:Nat}
theorem JC(I2:bu X pins σ H2 s₂)(hf:∀b∈fp,px X pins H2 b)(hfl:∀b∈fp,∃o,s₂.heap.get? b=some o)(hkind:scope.kind=.function)(hcell:∀y∈scope.names,y.2≠NameKind.cell)
  (hcl1:∀n c,cl.lookup n=some c->X.env.cells.lookup n=some c) (hcl2:∀x∈scope.names,x.2=NameKind.free->(cl.lookup x.1).isSome=true) (hC:s₂.heap.objs.size<=C) :
  (cV X NY scope cl C s₂ H2 fp).Ok where
 mod:=I2.ok.mod
 kind:=hkind
 glob:=I2.ok.glob
 blt:=I2.ok.blt
 above:=hC
 inj:=λx y c h1 h2=>I2.ok.inj x y c (hcl1 x c h1) (hcl1 y c h2)
 has:=λx hx=>by
  have e:scope.names.lookup x=some .free:=Ih (env:=X.env) hcell hx
  exact dC.mp (hcl2 (x,.free) (cG e) rfl)
 cab:=λ_ _ h _=>nomatch h
 hd:=I2.ok.hd
 frames:=I2.ok.frames
 stk:=.inl rfl
 exf:=λb hb=>by
  obtain⟨o,ho⟩:=hfl b hb
  exact⟨aO (bh (aF ho) hC),λx c h=>(hf b hb).2.2.2.2.1 x c (hcl1 x c h)⟩
 bs:=I2.bs
 bsz:=br I2.ok.bsz I2.sz
 noex:=λb o e hb=>by
  rcases(hf b hb).2.2.2.1 with z|z
  ·exact I2.ok.noex b o e z
  ·exact absurd (bh (aF e) (br I2.ok.bsz z)) (c7 _)
 exfs:=λb hb z=>by
  rcases aM.mp (I2.stkSub b z) with e|e
  ·exact(hf b hb).2.1 e
  ·exact(hf b hb).2.2.1 e
 funs:=I2.stack
 frf:=I2.stkFree
variable{elt iter target:Expr}{ifs:List Expr}{pos:Pos}{it:Addr}{tn:Nat->Heap->Prop}{J:It}{g:TG}{tc:TT}{te:TE}{Q:VK}{RR:Value->Addr->Result->Shared->Prop}{E:Value->Shared->Prop}
theorem uh(ok:pw sc N scope NY js)(hsc:X.env.scope=sc)(hN:X.N=N)(hk:NY.length=N.length+k)(hc:X.calm=true)(I2:bu X pins σ H2 s₂)(T:rk X.prog X.w X.K target J fp it tn)(st2:tn 0 s₂.heap)(f2:∀b∈fp,px X pins H2 b)
  (hcl1:∀n c,cl.lookup n=some c->X.env.cells.lookup n=some c) (hcl2:∀x∈scope.names,x.2=NameKind.free->(cl.lookup x.1).isSome=true)
  (hg:∀cl C s₀ H₀ fp,PG (cV X NY scope cl C s₀ H₀ fp) target g) (hi:∀cl C s₀ H₀ fp,EG (cV X NY scope cl C s₀ H₀ fp) ifs tc) (he:∀cl C s₀ H₀ fp,PE (cV X NY scope cl C s₀ H₀ fp) elt te)
  (loop:∀D,H2 D=none->
   ∃W:Nat->Nat->St->Hp->Prop,(∃m,W 0 m (um js k σ) (aN H2 D (.lst [])))/\∀i m σ H,W i m σ H->
    (J.stop i H/\Q (.ref D) H)\/(J.go i H/\∃N:St->Hp->Prop,(∀σ' H',N σ' H'->∃m',m'<m/\W (i+1) m' σ' H')/\∀x H',J.yld i H x H'->g x σ H' λσ2 H2=>jr D tc te {nx:=N,rt:=λ_ _=>False,ct:=N,bk:=λ_ H'=>Q (.ref D) H'} σ2 H2))
  (hRR:∀D C H' s' m,s'.heap.Ns C m->bu X pins σ H' s'->H' C=none->C≠X.env.locals->X.s₀.heap.objs.size<=C->(∀x c,X.env.cells.lookup x=some c->c≠C)->(∀p∈X.pn++pins,p.1≠C)->D≠C->Q (.ref D) H'->RR (.ref D) C (.ok .next) s') :
  wpAny (model X.prog X.w) X.A (newList []) (λacc s₃=>wpAny (model X.prog X.w) X.A (newFunctionEnv scope X.env.globals cl [] X.env.qual none .none (some X.env)) (λcenv s₄=>
   codeAny (model X.prog X.w) X.A (.compStart (.ListComp elt [⟨target,iter,ifs,0⟩] scope pos) 0 (.ref it) acc {cenv with scope:=relabel scope X.env}) (RR acc cenv.locals) s₄) E s₃) E s₂:=by
 refine wpAny_newObj_type (wpAny_newFunctionEnv ok.cell (by intro y hy;simp at hy) (λh₁ hns₁ hsb₁=>?_) ok.kind)
 dsimp only at hns₁ hsb₁ ⊢
 generalize hG:s₂.heap.push {cls:=.type "list",dict:=none,data:=.seq ([]:List Value).toArray}=G at hns₁ hsb₁ ⊢
 have hC:G.objs.size=s₂.heap.objs.size+1:=by rw[<-hG,bF]
 have hDC:s₂.heap.objs.size≠G.objs.size:=by rw[hC];exact aO (cZ _)
 have hCle:s₂.heap.objs.size<=G.objs.size:=by rw[hC];exact eD _
 have below:∀b,b<s₂.heap.objs.size->b≠G.objs.size:=λb hb=>by rw[hC];exact aO (dh hb)
 have old:∀b o,s₂.heap.get? b=some o->h₁.get? b=some o:=λb o e=>hsb₁.extBut b o (below b (aF e)) (ag _ (hG ▸ ag _ e))
 have hacc:h₁.get? s₂.heap.objs.size=some {cls:=.type "list",dict:=none,data:=.seq ([]:List Value).toArray}:=hsb₁.extBut _ _ hDC (ag _ (hG ▸ az _ rfl))
 have hfl:∀b∈fp,∃o,s₂.heap.get? b=some o:=λb hb=>let⟨o,ho,_⟩:=T.obj 0 _ st2 b hb;⟨o,ho⟩
 have fD:H2 s₂.heap.objs.size=none:=I2.hok.fresh (aw _)
 have fC:H2 G.objs.size=none:=I2.hok.fresh hCle
 have I4:bu (cV X NY scope cl G.objs.size s₂ H2 fp) [] (um js k σ) (aN H2 s₂.heap.objs.size (.lst [])) {s₂ with heap:=h₁,toks:=s₂.toks+([]:List (Str×Value)).length}:=by
  refine⟨JC I2 f2 hfl ok.kind ok.cell hcl1 hcl2 hCle,rfl,I2.bare,Un.laid old (aw _) fD,⟨_,hns₁,λi y v h1 h2 h3=>?_⟩,λx c h=>?_,?_,λx c h=>?_,λp hp=>absurd (show p∈([]:List (Addr×Obj)) from hp) (by simp),I2.hok.laid old (aw _) ⟨a8 _,[],0,.nil,hacc⟩,?_⟩
  ·obtain⟨e1,e2⟩:=JK h2
   have hi:i<N.length:=by
    have:=(ae.mp e1).1
    rw[I2.len,hN] at this;exact this
   have hy:N[i]?=some y:=by
    rw[<-ok.pre,List.getElem?_take_of_lt hi];exact h1
   have hz:(y,i)∈N.zipIdx:=by
    rw[List.mem_zipIdx_iff_getElem?];exact hy
   have nn:scope.names.lookup y≠none:=KR (env:=X.env) (x:=y) (by
    rcases h3 with z|z|z
    ·intro q;rw[show(relabel scope X.env).names.lookup y=_ from z] at q;cases q
    ·intro q;rw[show(relabel scope X.env).names.lookup y=_ from z] at q;cases q
    ·intro q;rw[show(relabel scope X.env).names.lookup y=_ from z] at q;cases q)
   have hfr:scope.names.lookup y=some .free:=by
    rcases ok.cap (y,i) hz with z|z|z
    ·rw[e2] at z;cases z
    ·exact absurd z nn
    ·exact z
   have hX:=ok.free (y,.free) (cG hfr) rfl
   rw[<-hsc] at hX
   obtain⟨m,hn,hl⟩:=I2.loc
   obtain⟨u,ru,lk⟩:=hl i y v (by rw[hN];exact hy) e1 (by
    rcases hX with z|z
    ·exact .inr (.inl z)
    ·exact .inr (.inr z))
   refine⟨u,ru,?_⟩
   rcases lk with⟨lk,_⟩|⟨_,c,hc1,hc2⟩
   ·have lk:X.env.scope.names.lookup y=some .local:=lk
    rcases hX with z|z<;>· rw[z] at lk;cases lk
   ·have hs:=hcl2 (y,.free) (cG hfr) rfl
    obtain⟨c',hc'⟩:=dC.mp hs
    have e3:=hcl1 y c' hc'
    rw[hc1] at e3;cases e3
    refine .inr ⟨?_,c,hc',hc2.keeps old⟩
    show(relabel scope X.env).names.lookup y=some .cell\/(relabel scope X.env).names.lookup y=some .free
    have e:(relabel scope X.env).names.lookup y=_:=g8 (env:=X.env) (x:=y) scope.names
    rw[e,hfr,i6]
    split
    ·exact .inl rfl
    ·exact .inr rfl
  ·obtain⟨v,q⟩:=I2.cell x c (hcl1 x c h)
   exact⟨v,q.keeps old⟩
  ·show aN H2 s₂.heap.objs.size (.lst []) G.objs.size=none
   rw[aA (Ne.symm hDC)];exact fC
  ·have q:=I2.freeC x c (hcl1 x c h)
   obtain⟨v,o,ho,_⟩:=I2.cell x c (hcl1 x c h)
   show aN H2 s₂.heap.objs.size (.lst []) c=none
   rw[aA (aO (aF ho))];exact q
  ·show(um js k σ).length=NY.length
   rw[JL,I2.len,hN,hk]
 have st4:tn 0 h₁:=T.keep _ _ _ st2 λb _ o e=>old b o e
 obtain⟨W,⟨m0,w0⟩,turn⟩:=loop s₂.heap.objs.size fD
 have stat:∀{H':Hp},(∀b∈fp,H' b=none)->∀b∈fp,px (cV X NY scope cl G.objs.size s₂ H2 fp) [] H' b:=λhn b hb=>by
  obtain⟨o,ho⟩:=hfl b hb
  refine⟨hn b hb,below b (aF ho),λz=>?_,.inl hb,λx c h=>(f2 b hb).2.2.2.2.1 x c (hcl1 x c h),λp hp=>absurd (show p∈([]:List (Addr×Obj)) from hp) (by simp)⟩
  rcases aM.mp (I2.stkSub b z) with e|e
  ·exact(f2 b hb).2.1 e
  ·exact(f2 b hb).2.2.1 e
 have go:∀s₄:Shared,s₄={s₂ with heap:=h₁,toks:=s₂.toks+([]:List (Str×Value)).length}->
   codeAny (model X.prog X.w) X.A (.compLoop (.ListComp elt [⟨target,iter,ifs,0⟩] scope pos) 0 (.ref it) (.ref s₂.heap.objs.size) (compEnvC scope cl G.objs.size X.env)) (RR (.ref s₂.heap.objs.size) G.objs.size) s₄:=by
  rintro s₄ rfl
  refine yi (λn s'=>∃i σ' H',bu (cV X NY scope cl G.objs.size s₂ H2 fp) [] σ' H' s'/\tn i s'.heap/\(∀b∈fp,H' b=none)/\W i n σ' H') ?_ m0
   ⟨0,_,_,I4,st4,λb hb=>by
    obtain⟨o,ho⟩:=hfl b hb
    rw[aA (aO (aF ho))];exact(f2 b hb).1,w0⟩
  rintro n s3 ⟨i,σ3,H3,I3,st3,fr3,w3⟩
  rcases turn i n σ3 H3 w3 with⟨stop,qn⟩|⟨go,Nx,hNx,step⟩
  ·refine eJ (T.done (cV X NY scope cl G.objs.size s₂ H2 fp) rfl rfl rfl hc i [] s3 σ3 H3 _ I3 (stat fr3) st3 stop) λr s5 ⟨hr,I5⟩=>?_
   subst hr
   have IX:bu X pins σ H3 s5:=I2.call' (ch:=fp) I5.os I5.base I5.hok I5.bare λb hb=>⟨(f2 b hb).2.2.2.1,(f2 b hb).2.1,(f2 b hb).2.2.2.2.1,(f2 b hb).2.2.2.2.2⟩
   obtain⟨m,hm,_⟩:=I5.loc
   refine hRR _ _ H3 s5 m hm IX I5.free (λz=>?_) (br I2.sz hCle) (λx c h z=>?_) (λp hp z=>?_) hDC qn
   ·have:=I2.lt;rw[<-z] at this;exact c7 _ (bh this hCle)
   ·obtain⟨v,o,ho,_⟩:=I2.cell x c h
    have:=aF ho;rw[z] at this;exact c7 _ (bh this hCle)
   ·have:=aF (I2.pin p hp).1;rw[z] at this;exact c7 _ (bh this hCle)
  ·refine eJ (T.item (cV X NY scope cl G.objs.size s₂ H2 fp) rfl rfl rfl hc i [] s3 σ3 H3 _ I3 (stat fr3) st3 go) λr s5 ⟨u,hr,h5⟩=>?_
   subst hr
   refine eJ h5 λ_ s6 ⟨x,H6,I6,r6,y6,st6,fr6⟩=>?_
   have I6':=I6.pinned (stat fr6) (T.obj _ _ st6)
   have again:∀{σ7:St} {H7:Hp} {s7:Shared},bu (cV X NY scope cl G.objs.size s₂ H2 fp) ([]++uE fp s6.heap) σ7 H7 s7->Nx σ7 H7->∃m,m<n/\∃i σ' H',bu (cV X NY scope cl G.objs.size s₂ H2 fp) [] σ' H' s7/\tn i s7.heap/\(∀b∈fp,H' b=none)/\W i m σ' H':=λ{σ7 H7 s7} I7 n7=>by
    obtain⟨m',hm,w7⟩:=hNx σ7 H7 n7
    refine⟨m',hm,i+1,σ7,H7,I7.unpinned,T.keep _ _ _ st6 λb hb o e=>(I7.pin (b,o) (aX _ (aX _ (kY hb e)))).1,λb hb=>?_,w7⟩
    obtain⟨o,e,d⟩:=T.obj _ _ st6 b hb
    exact(I7.pin (b,o) (aX _ (aX _ (kY hb e)))).2.1
   refine eJ (hg cl G.objs.size s₂ H2 fp _ s6 σ3 H6 x u _ I6' r6 (step x H6 y6)) λ_ s7 ⟨σ7,H7,I7,q7⟩=>?_
   refine eJ (hi cl G.objs.size s₂ H2 fp _ s7 σ7 H7 _ I7 q7) λok s8 ⟨H8,I8,q8⟩=>?_
   cases ok with
   |false=>
    rw[if_neg Bool.false_ne_true] at q8 ⊢
    exact again I8 q8
   |true=>
    rw[if_pos rfl] at q8 ⊢
    refine eJ (he cl G.objs.size s₂ H2 fp _ s8 σ7 H8 _ I8 q8) λy s9 ⟨z,H9,I9,r9,ys,hD,hz,n9⟩=>?_
    refine eJ (xb (X:=cV X NY scope cl G.objs.size s₂ H2 fp) _ s9 σ7 H9 (.ref s₂.heap.objs.size) [z] (.ref s₂.heap.objs.size) [y] (λ_ H'=>H'=aN H9 s₂.heap.objs.size (.lst (ys++[z]))) I9 rfl (.cons r9 .nil) ⟨_,ys,z,rfl,rfl,hD,hz,rfl⟩) λ_ s10 ⟨_,H10,I10,_,q10⟩=>?_
    subst q10
    exact again I10 n9
 exact codeAny_compStart_list (go _ rfl) (T.self _ 0 _ _ _ st4 (go _ rfl))
theorem Kd{wi:TI}(ok:pw sc N scope NY js)(hsc:X.env.scope=sc)(hN:X.N=N)(hk:NY.length=N.length+k)(hc:X.calm=true)(hit:PI X target iter wi)
  (hg:∀cl C s₀ H₀ fp,PG (cV X NY scope cl C s₀ H₀ fp) target g) (hi:∀cl C s₀ H₀ fp,EG (cV X NY scope cl C s₀ H₀ fp) ifs tc) (he:∀cl C s₀ H₀ fp,PE (cV X NY scope cl C s₀ H₀ fp) elt te)
  (hs:∀x,foldedSetIterable iter X.env x=pure x:=by intro _;rfl):PE X (.ListComp elt [⟨target,iter,ifs,0⟩] scope pos) (d6 js k wi g tc te):=by
 intro pins s σ H Q I h
 obtain⟨cl,hclos,hcl1,hcl2⟩:=ug (scope:=scope) (env:=X.env) λx hx hf=>I.ok.has x.1 (by
  have:=ok.free x hx hf
  rw[<-hsc] at this
  exact this)
 rw[eval_ListComp]
 refine wpAny_comprehension_free (use:=none) rfl hs hclos ok.kind ok.names (eJ (hit pins s σ H _ I h) λxv s₁ h₁=>eJ h₁ λitv s₂ h₂=>?_)
 obtain⟨it,fp,tn,J,H2,rfl,I2,T,st2,f2,loop⟩:=h₂
 refine uh (RR:=λacc C=>compPost (model X.prog X.w) X.A X.xe none (EP X pins σ Q) acc C) (Q:=Q) ok hsc hN hk hc I2 T st2 f2 hcl1 hcl2 hg hi he loop ?_
 intro D C H' s' m hm IX fC c1 c2 c3 c4 _ q
 exact⟨m,hm,λh' hs'=>⟨.ref D,H',IX.turned (t':=s'.toks) (λb o hb e=>(hs'.2 b hb).trans e) fC c1 (.inr c2) c3 c4,rfl,q⟩⟩
theorem Kr{wi:TI}{i:Nat}{y:Str}{py spos:Pos}(ok:pw sc N scope NY js)(hsc:X.env.scope=sc)(hN:X.N=N)(hk:NY.length=N.length+k)(hc:X.calm=true)(hit:PI X target iter wi)
  (hg:∀cl C s₀ H₀ fp,PG (cV X NY scope cl C s₀ H₀ fp) target g) (hi:∀cl C s₀ H₀ fp,EG (cV X NY scope cl C s₀ H₀ fp) ifs tc) (he:∀cl C s₀ H₀ fp,PE (cV X NY scope cl C s₀ H₀ fp) elt te)
  (nd:X.N.Nodup) (hy:X.N[i]?=some y) (hl:FX X.env.scope y) (hsw:swapsWith (.ListComp elt [⟨target,iter,ifs,0⟩] scope pos) (some (.Name y py)) spos.line X.env=pure true)
  (hs:∀x,foldedSetIterable iter X.env x=pure x:=by intro _;rfl) (hf:X.fn y=true\/X.env.scope.names.lookup y=some .local:=by first|exact .inl rfl|exact .inr rfl|assumption) :
  PS X (.Assign [.Name y py] (.ListComp elt [⟨target,iter,ifs,0⟩] scope pos) spos) (bP (d6 js k wi g tc te) (aQ i)):=by
 intro pins s σ H D I h
 obtain⟨cl,hclos,hcl1,hcl2⟩:=ug (scope:=scope) (env:=X.env) λx hx hf=>I.ok.has x.1 (by
  have:=ok.free x hx hf
  rw[<-hsc] at this
  exact this)
 rw[exec_Assign_Name_used _ _ _ _ hsw]
 refine wpAny_bind (wpAny_standAt (wpAny_bind ?_))
 show wpAny _ X.A (do let _ <-comprehension (.ListComp elt [⟨target,iter,ifs,0⟩] scope pos) scope X.env _ (newList []) false (eval iter X.env) (some (assign (.Name y py) X.env))) _ _ s
 refine wpAny_bind (wpAny_mono (wpAny_comprehension_free (use:=some (assign (.Name y py) X.env)) (Q:=λ_ s'=>SP X pins D .next s') rfl hs hclos ok.kind ok.names
  (eJ (hit pins s σ H _ I h) λxv s₁ h₁=>eJ h₁ λitv s₂ h₂=>?_)) (λ_ s' hq=>wpAny_pure (wpAny_pure hq)) λ_ _ e=>e)
 obtain⟨it,fp,tn,J,H2,rfl,I2,T,st2,f2,loop⟩:=h₂
 refine uh (RR:=λacc C=>compPost (model X.prog X.w) X.A X.xe (some (assign (.Name y py) X.env)) (λ_ s'=>SP X pins D .next s') acc C) (Q:=λx H1=>aQ i x σ H1 D.nx) ok hsc hN hk hc I2 T st2 f2 hcl1 hcl2 hg hi he loop ?_
 intro Da C H' s' m hm IX fC c1 c2 c3 c4 _ q
 show wpAny _ X.A (assign (.Name y py) X.env (.ref Da)) _ _ _
 refine wpAny_assign_Name (xr IX nd hy hl (v:=.ref Da) rfl (λs2 IY ⟨a,sb,ha⟩=>?_) hf)
 have hne:C≠a:=by
  rcases ha with rfl|ha
  ·exact c1
  ·exact λz=>c3 y a ha z.symm
 exact⟨m,hm.sameBut sb hne,λh' hs'=>⟨_,H',IY.turned (t':=s2.toks) (λb o hb e=>(hs'.2 b hb).trans e) fC c1 (.inr c2) c3 c4,q⟩⟩
end
section
variable{X:Cx}{pins:List (Addr×Obj)}{σ:St}{H:Hp}{s:Shared}{h':Heap}
theorem bu.turnedL{t':Nat}{ch:List Addr}(I:bu X pins σ H s)(k:∀b o,b∉ch->s.heap.get? b=some o->h'.get? b=some o)(hf:∀b∈ch,px X pins H b) :
  bu X pins σ H {s with heap:=h',toks:=t'}:=by
 have nit:∀b u,H b=some u->b∉ch:=λb u e z=>by rw[(hf b z).1] at e;cases e
 refine I.step (g':=s.gens) (d':=s.drawn) (ch:=ch) (λb hb=>⟨(hf b hb).2.2.2.1,(hf b hb).2.1,(hf b hb).2.2.2.2.1,(hf b hb).2.2.2.2.2⟩) (λb o _ _ hc e _=>k b o hc e) (λb o _ _ hc e _=>⟨o.slots,k b o hc e⟩) (λ_ _ _ _ n=>n)
  (λb o hc e=>⟨o,k b o hc e⟩) (λ_ _ e=>e) (λ_ _ _ e=>e) (λb ps e=>⟨#[],by rw[e];simp⟩) (λm hm=>?_) (λb u e=>?_) I.bare
 ·obtain⟨o,es,ep,ho,r⟩:=hm
  exact⟨o,es,ep,k _ o (λz=>(hf _ z).2.1 rfl) ho,r⟩
 ·refine(I.hok b u e).stay (λc v hc q=>k c v ?_ q) (λ_ q=>q) λ_ _ q=>q
  rcases hc with z|z
  ·rw[z];exact nit b u e
  ·exact nit c _ z
theorem bu.adopt{T:Addr}{o:HO}(I:bu X pins σ H s)(hf:px X pins H T)(new:d4 X.prog X.w (aN H T o) s.heap T o):bu X pins σ (aN H T o) s:=by
 have nT:∀b u,H b=some u->b≠T:=λb u e z=>by rw[z,hf.1] at e;cases e
 refine I.step (h':=s.heap) (H':=aN H T o) (g':=s.gens) (d':=s.drawn) (t':=s.toks) (ch:=[T]) (λb hb=>?_) (λb _ _ _ _ e _=>e) (λb ob _ _ _ e _=>⟨ob.slots,e⟩) (λb ob hb _ n=>?_)
  (λb ob _ e=>⟨ob,e⟩) (λb xs e=>?_) (λb ob u e=>?_) (λb ps e=>⟨#[],?_⟩) (λm hm=>hm) (λb u e=>?_) I.bare
 ·have e:b=T:=by simpa using hb
  subst e
  exact⟨hf.2.2.2.1,hf.2.1,hf.2.2.2.2.1,hf.2.2.2.2.2⟩
 ·rw[aA (λz=>hb (by simp[z]))];exact n
 ·rw[aA (nT b _ e)];exact e
 ·rw[aA (nT b _ e)];exact e
 ·rw[aA (nT b _ e),e];simp
 ·by_cases hb:b=T
  ·subst hb;rw[ak] at e;cases e;exact new
  ·rw[aA hb] at e
   exact(I.hok b u e).stay (λc v _ q=>q) (λc q=>by rw[aA (nT c _ q)];exact q) λc xs q=>by rw[aA (nT c _ q)];exact q
end
def Nb(K:Fg)(a:Addr):It:=
 ⟨λi H=>∃xs x,cq K H a xs/\xs[i]?=some x,λi H x H'=>∃p v,H p=none/\x=.ref p/\H'=aN H p (.tup [.int (i:Nat),v])/\∀xs,cq K H a xs->xs[i]?=some v,λi H=>∃xs,cq K H a xs/\xs.length<=i⟩
theorem tH{X:Cx}{H:Hp}{h:Heap}{T:Addr}{x y:V}{u v:Value}{n:Nat}(e:h.get? T=some {cls:=.type "tuple",data:=.seq #[u,v] n})(r1:b7 x u)(r2:b7 y v):d4 X.prog X.w H h T (.tup [x,y]):=
 ⟨show 2<=sizeLine by decide,[u,v],.cons r1 (.cons r2 .nil),⟨_,e,⟨rfl,rfl⟩,_,rfl⟩⟩
theorem J2{h:Heap}{it a:Addr}{i:Nat}{l:Addr}{items:Array Value}(p:h.IsList a items)(q:h.IsListIter it l i):a≠it:=by
 intro e;subst e
 obtain⟨o,e1,c1,_⟩:=p
 obtain⟨o',e2,c2,_⟩:=q
 rw[e1] at e2;cases e2;rw[c1] at c2
 injection c2 with c3
 exact absurd c3 (by decide)
theorem Fw{P:Program}{w:World}{K:Fg}{elts:List Expr}{k:Nat}{pos:Pos}(a e it:Addr)(hne:e≠it) :
  rk P w K (.Tuple elts k pos) (Nb K a) [e,it] e (λi h=>(∃old,IsEnum h e it (i:Nat) old)/\h.IsListIter it a i) where
 mem:=by simp
 obj:=λi h st b hb=>by
  obtain⟨⟨old,he⟩,⟨o,ho,c,d⟩⟩:=st
  rcases aM.mp hb with rfl|hb
  ·exact⟨_,he,λv z=>by have z':Data.fields _=Data.cell v:=z;cases z'⟩
  ·rw[aj.mp hb]
   exact⟨o,ho,λv z=>by rw[d] at z;cases z⟩
 keep:=λi h h' st k=>⟨let⟨old,he⟩:=st.1;⟨old,k e (by simp) _ he⟩,st.2.at λo q=>k it (by simp) o q⟩
 item:=by
  intro X hP hw hK hc i pins s σ H E I hf st hg
  subst hP hw hK
  obtain⟨⟨old,he⟩,hit⟩:=st
  obtain⟨xs,x,hq,hx⟩:=hg
  obtain⟨its,rv,p,hz⟩:=I.list hq
  obtain⟨u,hu,ru⟩:=rv.get hx
  have hlt:i<its.toArray.size:=by have:=(ae.mp hu).1;simpa using this
  have na:a≠it:=J2 p.isList hit
  have nb:e≠a:=by
   intro z;subst z
   obtain⟨o,n,e1,c1,_⟩:=p
   rw[he] at e1;cases e1
   injection c1 with c3
   exact absurd c3 (by decide)
  have Dw:=Draws.list (prog:=X.prog) (w:=X.w) (A:=X.A.in1) (show X.A.in1.handled=none from I.ok.hd hc) it a na its.toArray
  refine wpAny_pyNext_enum_itemD Dw he ⟨hit,p.isList⟩ hlt hne (by simp[hne,nb]) λy h1 tk hP ho st1 hT hsz hk=>?_
  have ey:y=u:=by
   have h1:its.toArray[i]?=some y:=hP
   have h2:its[i]?=some y:=by simpa using h1
   rw[hu] at h2;exact(Option.some.inj h2).symm
  subst ey
  refine⟨_,rfl,?_⟩
  have fT:px X pins H s.heap.objs.size:=I.fpOk (aw _) (I.hok.fresh (aw _))
  refine wpAny_letOwnedTupleGo_enum ho λh2 he2 hs2=>?_
  have helt:e<s.heap.objs.size:=aF he
  have I1:bu X pins σ H {s with heap:=h2,toks:=tk+1}:=I.turnedL (t':=tk+1) (ch:=[e,it]) (λb o hb q=>by
   have b1:b≠e:=λz=>hb (by simp[z])
   have b2:b≠it:=λz=>hb (by simp[z])
   exact(hs2.2 b b1).trans (hk b o b1 b2 q)) hf
  have gT:h2.get? s.heap.objs.size=some {cls:=.type "tuple",data:=.seq #[.int i tk,y]}:=(hs2.2 _ (cT helt)).trans hT
  have I2:=I1.adopt (T:=s.heap.objs.size) (o:=.tup [.int (i:Nat),x]) fT (tH (X:=X) gT ⟨tk,rfl⟩ ru)
  refine⟨.ref s.heap.objs.size,_,I2,rfl,⟨s.heap.objs.size,x,fT.1,rfl,rfl,λys hy=>by rw[I.list_inj hy hq];exact hx⟩,⟨⟨y,?_⟩,?_⟩,λb hb=>?_⟩
  ·have e2:(((i+1:Nat):Nat):Int)=(i:Int)+1:=by lia
   show IsEnum h2 e it (((i+1:Nat):Nat):Int) y
   rw[e2];exact he2
  ·obtain⟨o,q1,q2⟩:=st1.1
   exact⟨o,(hs2.2 it (Ne.symm hne)).trans q1,q2⟩
  ·have nT:b≠s.heap.objs.size:=by
    rcases aM.mp hb with rfl|hb
    ·exact aO helt
    ·rw[aj.mp hb]
     obtain⟨o,ho,_⟩:=hit
     exact aO (aF ho)
   rw[aA nT];exact(hf b hb).1
 done:=by
  intro X hP hw hK hc i pins s σ H E I hf st hg
  subst hP hw hK
  obtain⟨⟨old,he⟩,hit⟩:=st
  obtain⟨xs,hq,hx⟩:=hg
  obtain⟨its,rv,p,hz⟩:=I.list hq
  have hl:=rv.length
  have hT:s.TypeIs (.ref e) "enumerate":=⟨_,he,rfl⟩
  unfold pyNext
  refine wpAny_bind (wpAny_attempt (wpAny_callSpecial?_slot (name:=Str.ofString "__next__") hT F.slot_enumerate_next
   (wpAny_call_entry F.slot_enumerate_next hT F.entry_enumerate_next ?_ (F.args_enumerate_next_1 _))))
  show wpAny _ _ (field (.ref e) 2 >>= _) _ _ _
  refine wpAny_bind (wpAny_field he rfl (x:=.ref it) rfl ?_)
  refine wpAny_bind (wpAny_nextOf_list_end (show X.A.in1.handled=none from I.ok.hd hc) hit p.isList (by simp;lia) λh1 x1 eb hx1=>?_)
  obtain⟨o,ho,hcl⟩:=hx1
  refine wpAny_bind (wpAny_isInstance (T:="StopIteration") (b:=true) ⟨o,ho,hcl⟩ isSubtype_stop ?_)
  exact wpAny_pure ⟨rfl,I.turnedL (t':=s.toks) (ch:=[e,it]) (λb ob hb q=>eb b ob (λz=>hb (by simp[z])) q) hf⟩
 self:=λ_ _ _ _ _ st h=>let⟨_,he⟩:=st.1;wpAny_pyIter_enum he h
section
variable{X:Cx}{elts:List Expr}{k:Nat}{tpos:Pos}
def GN(K:Fg)(tl:TA):TI:=λσ H R=>tl σ H λvs H1=>∃a,vs=[.ref a]/\(∃xs,cq K H1 a xs)/\R (Nb K a) H1
theorem Ki{a:Expr}{ta:TA}{p pos:Pos}(hg:Gl X "enumerate")(hm:X.mg "enumerate"=none)(ha:PA X [a] ta)(hs:starEach [a] X.env=[(false,eval a X.env)]:=by rfl) :
  PI X (.Tuple elts k tpos) (.Call (.Name "enumerate" p) [a] [] pos) (GN X.K ta):=by
 intro pins s σ H R I h
 refine Call_ (i8 I hg hm boot_enumerate (bw (eJ (ha pos pins s σ H _ I h) λus s1 ⟨vs,H1,I1,r1,q1⟩=>?_) hs rfl))
 obtain⟨l,e,⟨xs,hq⟩,q⟩:=q1
 subst e
 cases r1 with
 |cons r rr=>
  cases rr
  cases r
  obtain⟨its,rv,pl,hz⟩:=I1.list hq
  refine call_enumerate_list pl.isList λh1 he hit hsz hk=>?_
  refine wpAny_pyIter_enum he ?_
  have I2:bu X pins σ H1 {s1 with heap:=h1}:=I1.kept (t':=s1.toks) hk
  refine⟨s1.heap.objs.size+1,[s1.heap.objs.size+1,s1.heap.objs.size],_,_,H1,rfl,I2,Fw l _ _ (Nat.succ_ne_self _),⟨⟨.none,he⟩,hit⟩,λb hb=>?_,q⟩
  have hb':s1.heap.objs.size<=b:=by
   rcases aM.mp hb with rfl|hb
   ·lia
   ·rw[aj.mp hb];exact aw _
  exact I1.fpOk hb' (I1.hok.fresh hb')
end
section
variable{X:Cx}{elts:List Expr}{k:Nat}{tpos:Pos}
end
theorem GF{K:Fg}{a:Addr}{xs:List V}{g:TG}{tb:TS}{D:lT}{σ:St}{H:Hp}(Pv:Nat->St->Hp->Prop)(h0:Pv 0 σ H)(hl:∀i σ H,i<=xs.length->Pv i σ H->cq K H a xs)
  (hs:∀i x σ H p,xs[i]?=some x->H p=none->Pv i σ H->g (.ref p) σ (aN H p (.tup [.int (i:Nat),x])) λσ2 H2=>tb {D with nx:=Pv (i+1),ct:=Pv (i+1),bk:=D.nx} σ2 H2) (hd:∀σ H,Pv xs.length σ H->D.nx σ H) :
  ∃W:Nat->Nat->St->Hp->Prop,(∃m,W 0 m σ H)/\∀i m σ H,W i m σ H->
   ((Nb K a).stop i H/\D.nx σ H)\/((Nb K a).go i H/\∃N:St->Hp->Prop,(∀σ' H',N σ' H'->∃m',m'<m/\W (i+1) m' σ' H')/\∀x H',(Nb K a).yld i H x H'->g x σ H' λσ2 H2=>tb {D with nx:=N,ct:=N,bk:=D.nx} σ2 H2):=by
 refine⟨λi m σ H=>m=xs.length-i/\i<=xs.length/\Pv i σ H,⟨xs.length,by simp,a8 _,h0⟩,?_⟩
 rintro i m σ H ⟨rfl,hi,p⟩
 have q:=hl i σ H hi p
 by_cases hlt:i<xs.length
 ·refine .inr ⟨⟨xs,xs[i],q,by simp[hlt]⟩,Pv (i+1),λσ' H' p'=>⟨xs.length-(i+1),by lia,rfl,hlt,p'⟩,λx H' y=>?_⟩
  obtain⟨pp,v,e1,rfl,rfl,y⟩:=y
  exact hs i v σ H pp (y xs q) e1 p
 ·have e:i=xs.length:=by lia
  subst e
  exact .inl ⟨⟨xs,q,aw _⟩,hd σ H p⟩
end L2
namespace PySem
open Sem (wp)
open Builtin MeetsSeq MeetsSeq2 MeetsSeq3
theorem rE:fillsNumberSlot (.type "tuple") "mul"=pure false:=
 fillsNumberSlot_seq (id:="tuple.__mul__") (r:=some (.builtin "tuple.__rmul__")) F.slot_tuple_mul.lookup (by decide +kernel) F.slot_tuple_rmul.lookup (by decide +kernel)
theorem yP:seqRepeat? (.type "tuple")=pure (some (.builtin "tuple.__mul__")):=by
 unfold seqRepeat?
 rw[seqSlot_of (T:="tuple") (name:="__mul__") (id:="tuple.__mul__") F.slot_tuple_mul.lookup (by decide +kernel),seqSlot_of (T:="tuple") (name:="__rmul__") (id:="tuple.__rmul__") F.slot_tuple_rmul.lookup (by decide +kernel)]
 rfl
theorem ux(a:Int)(t:Tok)(l:Addr)(items:Array Value)(n:Nat)(dd:Option Addr)(sl:Array (Option Value)) :
  Meets (Builtin.«int.__rmul__» ⟨[.int a t,.ref l],[]⟩) (λ_ R s=>s.heap.get? l=some {cls:=.type "tuple",dict:=dd,data:=.seq items n,slots:=sl}/\R (.ok (.ret Value.notImplemented)) s):=
 .of_wp λprog w A R s h=>by obtain⟨hp,g,d,tk,os⟩:=s;obtain⟨hl,h⟩:=h;wp_walk;exact⟨_,rfl,h⟩
theorem vz(l:Addr)(items:Array Value)(n:Nat)(dd:Option Addr)(sl:Array (Option Value))(x:Int)(u:Tok)(hlo:-(2 ^ 63)<=x)(hhi:x<2 ^ 63)(he:items.isEmpty=false)(h1:¬x=1)(hp:0<x)(hsz:items.size*x.toNat<=sizeLine) :
  Meets (Builtin.«tuple.__mul__» ⟨[.ref l,.int x u],[]⟩) (λ_ R s=>s.heap.get? l=some {cls:=.type "tuple",dict:=dd,data:=.seq items n,slots:=sl}/\
   R (.ok (.ret (Value.ref s.heap.objs.size))) {s with heap:=s.heap.push {cls:=Value.type "tuple",data:=Data.seq (tI (λx1 x2=>x1++x2) #[] (aV x.toNat items))},toks:=s.toks}):=
 .of_wp λprog w A R s h=>by
  obtain⟨hp,g,d,tk,os⟩:=s;obtain⟨hl,h⟩:=h
  have z1:(decide (x < -(2 ^ 63)) || decide (x >= 2 ^ 63))=false:=by simp;lia
  have z2:(items.isEmpty || x==1)=false:=by simp[he,h1]
  have z3:(decide (x<=0) || items.isEmpty)=false:=by simp[he];lia
  have ex:(items.size:Int)*x=((items.size*x.toNat:Nat):Int):=by
   rw[Int.natCast_mul];congr 1;lia
  have z4:¬((items.size:Int)*x>(2 ^ 63-1) / 8):=by
   rw[ex]
   have:(sizeLine:Nat)<=(2 ^ 63-1) / 8:=by decide
   lia
  have z5:Tuple.tupleTooMany ((items.size:Int)*x)=false:=by
   unfold Tuple.tupleTooMany
   rw[ex]
   exact decide_eq_false (by lia)
  have z6:(tI (λ(x1 x2:Array Value)=>x1++x2) #[] (aV x.toNat items)).size<=sizeLine:=by
   have e:=AutoListH.size_joined items x.toNat #[]
   rw[e,pT]
   simpa using hsz
  wp_walk
  refine wpAny_ite_false (by rw[z1];rfl) ?_
  wp_walk using AutoSeq1.wpAny_loadPart' hl
  refine wpAny_ite_false (decide_eq_false z4) ?_
  wp_walk
  refine wpAny_ite_false (by rw[z5];rfl) ?_
  wp_walk
  exact⟨_,rfl,h⟩
theorem wC(l:Addr)(items:Array Value)(n:Nat)(dd:Option Addr)(sl:Array (Option Value))(u:Tok) :
  Meets (Builtin.«tuple.__mul__» ⟨[.ref l,.int 1 u],[]⟩) (λ_ R s=>s.heap.get? l=some {cls:=.type "tuple",dict:=dd,data:=.seq items n,slots:=sl}/\R (.ok (.ret (Value.ref l))) s):=
 .of_wp λprog w A R s h=>by
  obtain⟨hp,g,d,tk,os⟩:=s;obtain⟨hl,h⟩:=h
  have z2:(items.isEmpty || (1:Int)==1)=true:=by simp
  wp_walk using AutoSeq1.wpAny_loadPart' hl
  first|exact⟨_,rfl,h⟩|trace_state
theorem vB(l:Addr)(items:Array Value)(n:Nat)(dd:Option Addr)(sl:Array (Option Value))(u:Tok)(he:items.isEmpty=false) :
  Meets (Builtin.«tuple.__mul__» ⟨[.ref l,.int 0 u],[]⟩) (λ_ R s=>s.heap.get? l=some {cls:=.type "tuple",dict:=dd,data:=.seq items n,slots:=sl}/\
   R (.ok (.ret (Value.ref s.heap.objs.size))) {s with heap:=s.heap.push {cls:=Value.type "tuple",data:=Data.seq #[]},toks:=s.toks}):=
 .of_wp λprog w A R s h=>by
  obtain⟨hp,g,d,tk,os⟩:=s;obtain⟨hl,h⟩:=h
  have z2:(items.isEmpty || (0:Int)==1)=false:=by simp[he]
  have z3:(decide ((0:Int)<=0) || items.isEmpty)=true:=by simp
  wp_walk using AutoSeq1.wpAny_loadPart' hl
  first|exact⟨_,rfl,h⟩|trace_state
end PySem
namespace L2
open PySem PySem.Spec PyProof.Rows
section
variable{X:Cx}
def Lq(K:Fg):R2:=λx y H Q=>∃(l:Addr) (k:Nat) (xs:List V),x=.ref l/\y=.int (k:Nat)/\cE K H l xs/\xs≠[]/\xs.length*k<=sizeLine/\(k=1->Q (.ref l) H)/\
 (k≠1->∀p,H p=none->Q (.ref p) (aN H p (.tup (aV k xs).flatten)))
theorem J9:jf X (binaryOp .Mult) (Lq X.K):=by
 intro pins s σ H x y v u Q I rx ry h
 obtain⟨l,k,xs,rfl,rfl,hq,hne,hz,q1,q2⟩:=h
 cases rx
 obtain⟨t,rfl⟩:=ry
 obtain⟨its,r,⟨⟨cls,dd,data,sl⟩,e,hc,n,hd⟩,hl⟩:=I.tuple hq
 simp only at hc hd
 subst hc hd
 have hlen:=r.length
 have he:its.toArray.isEmpty=false:=by
  cases its with
  |nil=>simp at hlen;exact absurd hlen hne
  |cons a r'=>rfl
 have hs:its.toArray.size*k<=sizeLine:=by rw[au,<-hlen];exact hz
 have road:wpAny (model X.prog X.w) X.A (call (.builtin "tuple.__mul__") [.ref l,.int (k:Nat) t]) (EP X pins σ Q) X.xe s->wpAny (model X.prog X.w) X.A (binaryOp .Mult (.ref l) (.int (k:Nat) t)) (EP X pins σ Q) X.xe s:=λhcall=>
  wpAny_binaryOp_repeat_ref (T:="tuple") (U:="int") (by decide) ⟨_,e,rfl⟩ (λs'=>typeIs_int s' k t) rE F.fills_int_mul F.slot_int_rmul yP F.slot_int_index.lookup
   (call_meets F.slot_int_rmul (typeIs_int s k t) F.entry_int_rmul (F.args_int_rmul_2 _ _) (ux k t l its.toArray n dd sl) ⟨e,rfl,⟨_,e,rfl⟩,hcall⟩)
 refine road ?_
 by_cases h1:k=1
 ·subst h1
  exact call_meets F.slot_tuple_mul ⟨_,e,rfl⟩ F.entry_tuple_mul (F.args_tuple_mul_2 _ _) (wC l its.toArray n dd sl t) ⟨e,⟨.ref l,H,I,rfl,q1 rfl⟩⟩
 ·have hn:H s.heap.objs.size=none:=I.hok.fresh (aw _)
  by_cases h0:k=0
  ·subst h0
   refine call_meets F.slot_tuple_mul ⟨_,e,rfl⟩ F.entry_tuple_mul (F.args_tuple_mul_2 _ _) (vB l its.toArray n dd sl t he) ⟨e,⟨.ref s.heap.objs.size,_,?_,rfl,q2 h1 _ hn⟩⟩
   exact I.laid (t':=s.toks) (λb o e=>ag _ e) (aw _) ⟨a8 _,[],.nil,⟨_,az _ rfl,⟨rfl,rfl⟩,_,rfl⟩⟩
  ·have hk64:(k:Int)<2 ^ 63:=by
    have h3:1<=its.toArray.size:=by
     cases its with
     |nil=>simp at he
     |cons a r'=>simp
    have h4:k<=its.toArray.size*k:=Nat.le_mul_of_pos_left k h3
    have h5:(sizeLine:Nat)<2 ^ 63:=by decide
    lia
   refine call_meets F.slot_tuple_mul ⟨_,e,rfl⟩ F.entry_tuple_mul (F.args_tuple_mul_2 _ _) (vz l its.toArray n dd sl k t (by lia) hk64 he (by lia) (by lia) (by simpa using hs)) ⟨e,?_⟩
   have f0:=wR its k []
   rw[e9] at f0
   have ek:((k:Nat):Int).toNat=k:=by simp
   rw[ek,f0]
   refine⟨.ref s.heap.objs.size,_,?_,rfl,q2 h1 _ hn⟩
   refine I.laid (t':=s.toks) (λb o e=>ag _ e) (aw _) ⟨?_,(aV k its).flatten,r.rep k,⟨_,az _ rfl,⟨rfl,rfl⟩,_,rfl⟩⟩
   rw[J0,pT];exact hz
theorem yg:iO X (.builtin "divmod") (λxs H Q=>∃i j,xs=[.int i,.int j]/\(0<j/\j<2 ^ 64)/\∀p,H p=none->Q (.ref p) (aN H p (.tup [.int (i / j),.int (i % j)]))):=by
 intro pins s σ H xs us Q I r h
 obtain⟨i,j,rfl,⟨h1,h2⟩,q⟩:=h
 obtain⟨u,w',rfl,⟨t,rfl⟩,⟨t',rfl⟩⟩:=Ja r
 have hb:j.natAbs.log2<9000:=by
  have h3:j.natAbs.log2<64:=(Nat.log2_lt (by lia)).mpr (by lia)
  lia
 refine divmod_int (by lia) ?_ (.inl (PyProof.noPylong_of_log2 hb))
 rw[Int.fdiv_eq_ediv_of_nonneg i (by lia),Int.fmod_eq_emod_of_nonneg i (by lia)]
 have hn:H s.heap.objs.size=none:=I.hok.fresh (aw _)
 refine⟨.ref s.heap.objs.size,_,?_,rfl,q _ hn⟩
 refine I.laid (λb o e=>ag _ e) (aw _) ⟨by simp only[bf,gq];rw[sizeLine_eq];decide,[.int (i / j) s.toks,.int (i % j) (s.toks+1)],.cons ⟨_,rfl⟩ (.cons ⟨_,rfl⟩ .nil),?_⟩
 exact⟨_,az s.heap rfl,⟨rfl,rfl⟩,0,rfl⟩
theorem BZ(bs:List Bool):(bZ bs.length).all (λi=>(bs[i]?).getD false)=bs.all id:=by
 rw[Bool.eq_iff_iff,dX,dX]
 constructor
 ·intro h b hb
  obtain⟨i,hi,e⟩:=aR.mp hb
  have:=h i (gR.mpr hi)
  rw[aa hi,eS,e] at this
  exact this
 ·intro h i hi
  have hi:=gR.mp hi
  rw[aa hi,eS]
  exact h _ (cf hi)
theorem iQ(hc:X.calm=true):iO X (.builtin "all") (λxs H Q=>∃(p:Addr) (bs:List Bool),xs=[.ref p]/\cq X.K H p (bs.map V.bl)/\Q (.bl (bs.all id)) H):=by
 intro pins s σ H xs us Q I r h
 obtain⟨p,bs,rfl,hq,q⟩:=h
 obtain⟨u,rfl,rx⟩:=kM r
 cases rx
 obtain⟨its,rv,pl,hz⟩:=I.list hq
 have hlen:=rv.length
 rw[af] at hlen
 have hlt:p<s.heap.objs.size:=by obtain⟨o,e,_⟩:=pl.isList;exact aF e
 refine call_all_walk (wpAny_pyIter_list pl.isList ?_)
 refine⟨_,_,_,_,_,_,λi=>(bs[i]?).getD false,rfl,Walks.list (A:=X.A.in1) (show X.A.in1.handled=none from I.ok.hd hc) s.heap.objs.size p (aO hlt) its.toArray,⟨⟨_,az _ rfl,rfl,rfl⟩,pl.isList.push _⟩,?_,λh' tk hk=>?_⟩
 ·intro i v s' Q' E' hP hQ
  have hP':its[i]?=some v:=by
   have:its.toArray[i]?=some v:=hP
   simpa using this
  have hi:i<bs.length:=by rw[hlen];exact(ae.mp hP').1
  obtain⟨u,hu,ru⟩:=rv.get (i:=i) (x:=V.bl bs[i]) (by rw[aH,aa hi];rfl)
  rw[hP'] at hu
  cases hu
  cases ru
  have hQ':Q' ((bs[i]?).getD false) s':=hQ
  rw[aa hi,eS] at hQ'
  exact wpAny_truthy_bool hQ'
 ·have e:its.toArray.size=bs.length:=by rw[au,hlen]
  rw[e,BZ]
  refine⟨.bl _,H,?_,rfl,q⟩
  refine I.kept (t':=tk) λb o eb=>?_
  refine hk b o (λz=>?_) (ag _ eb)
  have e2:b=s.heap.objs.size:=by simpa using z
  have h2:=aF eb
  rw[e2] at h2
  exact c7 _ h2
end
section
variable{X:Cx}
theorem qG:∀{ys:List Str} {us:List Value},b5 (ys.map V.str) us->StrsAre us ys
 |[],_,r=>by cases r;exact .nil
 |y::ys,_,r=>by
  cases r with
  |cons r rr=>
   obtain⟨t,rfl⟩:=r
   exact .cons _ _ (qG rr)
def HU(K:Fg):V->List V->Hp->VK->Prop:=λx vs H Q=>∃(sep:Str) (p:Addr) (ys:List Str),x=.str sep/\vs=[.ref p]/\cq K H p (ys.map V.str)/\(ys.map (·.length)).sum+ys.length*sep.length<=16777216/\Q (.str (Txt.join sep ys)) H
theorem J1:Nd X "str.join" (HU X.K):=by
 intro pins s σ H x vs v us Q I rx rv h
 obtain⟨sep,p,ys,rfl,rfl,hq,hz,q⟩:=h
 obtain⟨t,rfl⟩:=rx
 obtain⟨u,rfl,ru⟩:=rv.one
 cases ru
 obtain⟨its,r,pl,_⟩:=I.list hq
 exact join_list pl.isList (by simpa using qG r) hz λt' k=>⟨.str _,H,I.tok k,⟨t',rfl⟩,q⟩
end
section
variable{X:Cx}
def nR(xs ys:List V):Bool:=(bZ (min xs.length ys.length)).all (λj=>vU ((xs[j]?).getD .non) ((ys[j]?).getD .non))&&xs.length==ys.length
def KH(K:Fg)(neg:Bool):R2:=λx y H Q=>∃p q xs ys,x=.ref p/\y=.ref q/\cE K H p xs/\cE K H q ys/\xs.all gZ=true/\ys.all gZ=true/\Q (.bl (if neg then !nR xs ys else nR xs ys)) H
theorem DK{A:Around}{s:Shared}{xs ys:List V}{us vs:List Value}(r1:b5 xs us)(r2:b5 ys vs)(f1:xs.all gZ=true)(f2:ys.all gZ=true) :
  ∀j (h1:j<us.toArray.size) (h2:j<vs.toArray.size),SeqAt.EqAt A s us.toArray[j] vs.toArray[j] (vU ((xs[j]?).getD .non) ((ys[j]?).getD .non)):=by
 intro j h1 h2
 have l1:=r1.length
 have l2:=r2.length
 rw[au] at h1 h2
 have j1:j<xs.length:=by lia
 have j2:j<ys.length:=by lia
 obtain⟨u,hu,ru⟩:=r1.get (aa j1)
 obtain⟨v,hv,rv⟩:=r2.get (aa j2)
 have eu:us.toArray[j]=u:=by
  have:=aa h1
  rw[hu] at this
  simpa using(Option.some.inj this).symm
 have ev:vs.toArray[j]=v:=by
  have:=aa h2
  rw[hv] at this
  simpa using(Option.some.inj this).symm
 rw[eu,ev,aa j1,aa j2,eS,eS]
 exact Cu ru rv (dX.mp f1 _ (cf j1)) (dX.mp f2 _ (cf j2))
theorem Me(hu:X.A.units<cLine):jf X (compareOp .Eq) (KH X.K false):=by
 intro pins s σ H x y v u Q I rx ry h
 obtain⟨p,q,xs,ys,rfl,rfl,h1,h2,f1,f2,qq⟩:=h
 cases rx
 cases ry
 obtain⟨us,r1,t1,_⟩:=I.tuple h1
 obtain⟨vs,r2,t2,_⟩:=I.tuple h2
 refine SeqAt.eq_tupleAt (show s.heap.IsTuple p us.toArray from t1) (show s.heap.IsTuple q vs.toArray from t2) hu (DK r1 r2 f1 f2) ⟨.bl (nR xs ys),H,I,?_,qq⟩
 show Value.bool _=Value.bool _
 unfold nR
 rw[au,au,r1.length,r2.length]
def Ln(K:Fg):R2:=λx y H Q=>∃p xs z,x=.ref p/\y=.str z/\cE K H p xs/\Q (.bl false) H
theorem J8(hu:X.A.units<cLine):jf X (compareOp .Eq) (Ln X.K):=by
 intro pins s σ H x y v u Q I rx ry h
 obtain⟨p,xs,z,rfl,rfl,h1,qq⟩:=h
 cases rx
 obtain⟨t,rfl⟩:=ry
 obtain⟨us,r1,t1,_⟩:=I.tuple h1
 exact SeqAt.RcAt.tuple_str z t (show s.heap.IsTuple p us.toArray from t1) hu X.prog X.w X.xe _ ⟨.bl false,H,I,rfl,qq⟩
theorem Mj(hu:X.A.units<cLine):jf X (compareOp .NotEq) (KH X.K true):=by
 intro pins s σ H x y v u Q I rx ry h
 obtain⟨p,q,xs,ys,rfl,rfl,h1,h2,f1,f2,qq⟩:=h
 cases rx
 cases ry
 obtain⟨us,r1,t1,_⟩:=I.tuple h1
 obtain⟨vs,r2,t2,_⟩:=I.tuple h2
 refine SeqAt.RcNeAt.tuples (show s.heap.IsTuple p us.toArray from t1) (show s.heap.IsTuple q vs.toArray from t2) hu (DK r1 r2 f1 f2) X.prog X.w X.xe _ ⟨.bl (!nR xs ys),H,I,?_,qq⟩
 show Value.bool _=Value.bool _
 unfold nR
 rw[au,au,r1.length,r2.length]
end
section
variable{X:Cx}
def KG(K:Fg)(neg:Bool):R2:=λx y H Q=>∃p q xs ys,x=.ref p/\y=.ref q/\cq K H p xs/\cq K H q ys/\xs.all gZ=true/\ys.all gZ=true/\Q (.bl (if neg then !nR xs ys else nR xs ys)) H
theorem Af{xs ys:List V}(h:xs.length=ys.length):nR xs ys=(bZ xs.length).all (λj=>vU ((xs[j]?).getD .non) ((ys[j]?).getD .non)):=by
 unfold nR;rw[<-h,Nat.min_self];simp
theorem DT{xs ys:List V}(h:¬xs.length=ys.length):nR xs ys=false:=by
 unfold nR;rw[Bool.and_eq_false_iff];right;simpa using h
theorem Mc(hu:X.A.units<cLine):jf X (compareOp .Eq) (KG X.K false):=by
 intro pins s σ H x y v u Q I rx ry h
 obtain⟨p,q,xs,ys,rfl,rfl,h1,h2,f1,f2,qq⟩:=h
 cases rx
 cases ry
 obtain⟨us,r1,t1,_⟩:=I.list h1
 obtain⟨vs,r2,t2,_⟩:=I.list h2
 have l1:=r1.length
 have l2:=r2.length
 by_cases c:xs.length=ys.length
 ·refine SeqAt.eq_listAt t1.isList t2.isList (by rw[au,au];lia) hu (DK r1 r2 f1 f2) ⟨.bl (nR xs ys),H,I,?_,qq⟩
  show Value.bool _=Value.bool _
  rw[Af c,au,l1]
 ·refine SeqAt.eq_list_lengthsAt t1.isList t2.isList (by rw[au,au];simp;lia) hu ⟨.bl (nR xs ys),H,I,?_,qq⟩
  show Value.bool _=Value.bool _
  rw[DT c]
theorem Mi(hu:X.A.units<cLine):jf X (compareOp .NotEq) (KG X.K true):=by
 intro pins s σ H x y v u Q I rx ry h
 obtain⟨p,q,xs,ys,rfl,rfl,h1,h2,f1,f2,qq⟩:=h
 cases rx
 cases ry
 obtain⟨us,r1,t1,_⟩:=I.list h1
 obtain⟨vs,r2,t2,_⟩:=I.list h2
 have l1:=r1.length
 have l2:=r2.length
 by_cases c:xs.length=ys.length
 ·refine SeqAt.RcNeAt.lists t1.isList t2.isList (by rw[au,au];lia) hu (DK r1 r2 f1 f2) X.prog X.w X.xe _ ⟨.bl (!nR xs ys),H,I,?_,qq⟩
  show Value.bool _=Value.bool _
  rw[Af c,au,l1]
 ·refine SeqAt.RcNeAt.lists_lengths t1.isList t2.isList (by rw[au,au];simp;lia) hu X.prog X.w X.xe _ ⟨.bl (!nR xs ys),H,I,?_,qq⟩
  show Value.bool _=Value.bool _
  rw[DT c];rfl
end
section
variable{prog:Program}{w:World}{A:Around}{E:Value->Shared->Prop}
theorem uj{it t:Addr}{items:Array Value}(hne:t≠it):∀(n i:Nat) (s:Shared) (Q:List Value->Shared->Prop),s.heap.IsListIter it t i->s.heap.IsList t items->i+n<=items.size->
  (∀h':Heap,h'.IsListIter it t (i+n)->Heap.SameBut it s.heap h'->Q ((items.toList.drop i).take n) {s with heap:=h'})->wpAny (model prog w) A (draw (.ref it) n) Q E s
 |0,i,s,Q,hit,_,_,hQ=>by
  show wpAny _ _ (pure []) Q E s
  exact wpAny_pure (by simpa using hQ s.heap hit (Heap.SameBut.refl ..))
 |n+1,i,s,Q,hit,ht,hle,hQ=>by
  have hlt:i<items.size:=by lia
  show wpAny _ _ (pyNext (.ref it) >>= _) Q E s
  refine wpAny_bind (wpAny_pyNext_list_item hit ht (x:=items[i]) (by simp[hlt]) λh₁ hit₁ hs₁=>?_)
  refine wpAny_bind (wpAny_holding (uj hne n (i+1) _ _ hit₁ (ht.extBut hs₁.extBut hne) (by lia) λh₂ hit₂ hs₂=>wpAny_pure ?_))
  have hd:items.toList.drop i=items[i]::items.toList.drop (i+1):=by simp[cy,hlt]
  have:=hQ h₂ (by rw[show i+(n+1)=i+1+n by lia];exact hit₂) (hs₁.trans hs₂)
  rw[hd,List.take_succ_cons] at this
  exact this
theorem q4{s:Shared}{t:Addr}{items:Array Value}{Q:List Value->Shared->Prop}(hh:A.handled=none)(ht:s.heap.IsList t items)
  (hQ:∀h':Heap,Heap.ExtBut s.heap.objs.size s.heap h'->Q items.toList {s with heap:=h'}):wpAny (model prog w) A (unpackItems (.ref t) items.size none) Q E s:=by
 have hlt:t≠s.heap.objs.size:=by obtain⟨o,ho,_⟩:=ht;exact aO (aF ho)
 unfold unpackItems
 refine wpAny_bind ?_
 ·unfold notIterableAtAll
  refine wpAny_bind (wpAny_specialOf ht.typeIs slot_list_iter.lookup ?_)
  refine wpAny_pure ?_
  simp only[Bool.false_eq_true,if_false]
  refine wpAny_bind (wpAny_holding (wpAny_pyIter_list ht ?_))
  refine wpAny_bind (wpAny_holding (uj hlt items.size 0 _ _ ⟨_,az _ rfl,rfl,rfl⟩ (ht.push _) (by lia) λh₁ hit₁ hs₁=>?_))
  have hall:List.take items.size (List.drop 0 items.toList)=items.toList:=by
   rw[jw];exact dS (by simp)
  rw[hall]
  rw[if_neg (by simp)]
  have ht₁:h₁.IsList t items:=(ht.push _).extBut hs₁.extBut hlt
  refine wpAny_bind (wpAny_holding (wpAny_pyNext_list_end hh hit₁ ht₁ (by simp) λh₂ he₂=>?_))
  simp only[Option.isSome_none,Bool.false_eq_true,if_false]
  refine wpAny_pure (hQ h₂ λb o hb e=>he₂ b o hb (hs₁.extBut b o hb (ag _ e)))
end
section
variable{X:Cx}{pos:Pos}
def GJ(K:Fg)(n:Nat)(t:EN):TG:=λv σ H Q=>∃a xs,v=.ref a/\cq K H a xs/\xs.length=n/\t xs σ H Q
theorem Kg{es:List Expr}{k:Nat}{t:EN}{n:Nat}(hc:X.calm=true)(h:M4 X es t)
  (hn:(assignEach es X.env).length=n:=by rfl) (hst:(assignEach es X.env).findIdx? (·.1)=none:=by rfl):PG X (.Tuple es k pos) (GJ X.K n t):=by
 intro pins s σ H v u Q I r hw
 obtain⟨a,xs,e1,hq,hl,hw⟩:=hw
 subst e1
 cases r
 obtain⟨its,rv,ht,hz⟩:=I.list hq
 rw[assign_Tuple]
 refine wpAny_bind (wpAny_standAt ?_)
 unfold unpack
 have e:(assignEach es X.env).length=its.toArray.size:=by simp[hn,<-hl,rv.length]
 rw[e,hst]
 refine wpAny_bind (wpAny_holding (q4 (I.ok.hd hc) ht.isList λh' hx=>?_))
 have I1:bu X pins σ H {s with heap:=h'}:=I.kept (t':=s.toks) λb o e=>hx b o (aO (aF e)) e
 exact h pins _ σ H xs _ Q I1 (by simpa using rv) hw
end
def N2:R2:=λx y H Q=>∃i j,x=.str i/\y=.str j/\i.length+j.length<=sizeLine/\Q (.str (i++j)) H
def dq(K:Fg):R2:=λx y H Q=>FG (λi j=>.int (i+j)) x y H Q\/(N2 x y H Q\/(NS x y H Q\/Lk K x y H Q))
def xm:R2:=FG λi j=>.int (i-j)
def jB(K:Fg):R2:=λx y H Q=>rI Jj (λi j=>.int (i*j)) x y H Q\/Lq K x y H Q
def kG:R2:=rI (λ_ j=>0<j) λi j=>.int (i % j)
def HQ:R2:=rI M8 λi j=>.int (i / j)
def v7(K:Fg):R2:=λx y H Q=>OJ x y H Q\/(KH K false x y H Q\/(Ln K x y H Q\/KG K false x y H Q))
def HW(K:Fg):R2:=λx y H Q=>OK x y H Q\/(KH K true x y H Q\/KG K true x y H Q)
def Fe:R2:=FG λi j=>.bl (decide (i<j))
def Ow:R2:=FG λi j=>.bl (decide (i<=j))
def uL:R2:=FG λi j=>.bl (decide (j<i))
def KI:R2:=λx y H Q=>y=.non/\Q (.bl (decide (x=.non))) H
def xk:R2:=λx y H Q=>y=.non/\Q (.bl (!decide (x=.non))) H
def kH:V->Hp->VK->Prop:=rU λi=>.int (-i)
def FH(K:Fg):V->Option Int->Option Int->Hp->VK->Prop:=λx lo hi H Q=>N0 K x lo hi H Q\/N1 K x lo hi H Q
def gF(K:Fg):List V->Hp->VK->Prop:=λxs H Q=>∃x n,xs=[x]/\Nc K x H n/\Q (.int n) H
def KF:List V->Hp->VK->Prop:=λxs H Q=>∃i j,xs=[.int i,.int j]/\(0<j/\j<2 ^ 64)/\∀p,H p=none->Q (.ref p) (aN H p (.tup [.int (i / j),.int (i % j)]))
def NZ:List V->Hp->VK->Prop:=λxs H Q=>∃i j,xs=[.int i,.int j]/\Q (.int (if j<i then j else i)) H
def Fd(K:Fg):List V->Hp->VK->Prop:=λxs H Q=>∃(p:Addr) (bs:List Bool),xs=[.ref p]/\cq K H p (bs.map V.bl)/\Q (.bl (bs.all id)) H
def HS:List V->Hp->VK->Prop:=λxs H Q=>(∃i,xs=[.int i]/\Q (.int i) H)\/∃k,xs=[.bl k]/\Q (.int (if k then 1 else 0)) H
def yK(K:Fg):List V->Hp->VK->Prop:=λxs H Q=>∃p ys,xs=[.ref p]/\(cq K H p ys\/cE K H p ys)/\∀l,H l=none->Q (.ref l) (aN H l (.lst ys))
def dO(K:Fg):List V->Hp->VK->Prop:=λxs H Q=>∃p ys,xs=[.ref p]/\((cq K H p ys/\∀l,H l=none->Q (.ref l) (aN H l (.tup ys)))\/(cE K H p ys/\Q (.ref p) H))
def jk(K:Fg)(tl:TE):TI:=λσ H R=>Lf K tl σ H R\/Nr K tl σ H R
section
variable{X:Cx}
theorem bX:jf X (binaryOp .Add) (dq X.K):=Ma.or (CN.or (Mb.or J5))
theorem gj:jf X (binaryOp .Mult) (jB X.K):=Mh.or J9
theorem k8(hu:X.A.units<cLine):jf X (compareOp .Eq) (v7 X.K):=NA.or ((Me hu).or ((J8 hu).or (Mc hu)))
theorem yH(hu:X.A.units<cLine):jf X (compareOp .NotEq) (HW X.K):=NC.or ((Mj hu).or (Mi hu))
theorem ko:Ga X (FH X.K):=K0.or MX
theorem Mx{tg l:Expr}{tl:TE}(hl:PE X l tl):PI X tg l (jk X.K tl):=by
 intro pins s σ H R I h
 rcases h with h|h
 ·exact Kj hl pins s σ H R I h
 ·exact My hl pins s σ H R I h
end
structure cx(P:Program)(w:World)(K:Fg)(mg:Str->Option Value)(base:Heap)(x:Str)(ps:List Str)(k:Nat)(sp:Sp):Prop where
 ex:∃(f:Addr) (fd:FuncData),mg x=some (.ref f)/\fJ K (.ref f)=true/\wF K fd ps []/\vG P w K mg base Jg k f fd ps sp
theorem NH{X:Cx}{x:Str}{ps:List Str}{k:Nat}{sp:Sp}{e:Expr}{es:List Expr}{t:TA}{p pos:Pos}(c:cx X.prog X.w X.K X.mg X.base x ps k sp)(hr:ix k X.A)(hg:Gl X x)(ha:PA X (e::es) t)
  (hdb:(x==("__debug__":Str))=false:=by decide) (he:starEach (e::es) X.env=(false,eval e X.env)::starEach es X.env:=by rfl) (hpl:(backTo pos (starEach es X.env)).any (·.1)=false:=by rfl) :
  PE X (.Call (.Name x p) (e::es) [] pos) (bA sp [] E0 t):=by
 obtain⟨f,fd,hm,hk,hb,F⟩:=c.ex
 exact Kb F hr hg hm hk hb .nil ND ha hdb he hpl
structure kP(mg:Str->Option Value):Prop where
 len_:mg "len"=none
 range_:mg "range"=none
 divmod_:mg "divmod"=none
 max_:mg "max"=none
 min_:mg "min"=none
 sum_:mg "sum"=none
 all_:mg "all"=none
 isinstance_:mg "isinstance"=none
 int_:mg "int"=none
 bool_:mg "bool"=none
 list_:mg "list"=none
 tuple_:mg "tuple"=none
 enumerate_:mg "enumerate"=none
 zip_:mg "zip"=none
 sorted_:mg "sorted"=none
 set_:mg "set"=none
 dict_:mg "dict"=none
 str_:mg "str"=none
 any_:mg "any"=none
 reversed_:mg "reversed"=none
 abs_:mg "abs"=none
def iY(a:Addr)(H H':Hp):Prop:=∀b o,b≠a->H b=some o->H' b=some o
theorem iY.refl(a:Addr)(H:Hp):iY a H H:=λ_ _ _ h=>h
theorem iY.trans{a:Addr}{H H1 H2:Hp}(x:iY a H H1)(y:iY a H1 H2):iY a H H2:=λc o n h=>y c o n (x c o n h)
theorem iY.upd_at{a:Addr}{H:Hp}{o:HO}:iY a H (aN H a o):=λb u n h=>by rw[aA n];exact h
theorem iY.new{a p:Addr}{H H1:Hp}{o:HO}(x:iY a H H1)(hp:H1 p=none):iY a H (aN H1 p o):=λb u n h=>by
 rw[aA (aL (x b u n h) hp)];exact x b u n h
theorem aJ.new{p:Addr}{H H1:Hp}{o:HO}(x:aJ H H1)(hp:H1 p=none):aJ H (aN H1 p o):=λb u h=>by
 rw[aA (aL (x b u h) hp)];exact x b u h
theorem iY.free{a p:Addr}{H H':Hp}(x:iY a H H')(n:p≠a)(h:H' p=none):H p=none:=by
 cases q:H p with
 |none=>rfl
 |some o=>rw[x p o n q] at h;cases h
theorem pF{js:List Nat}{k:Nat}{lo:Int}{n:Nat}{g:TG}{tc:TT}{te:TE}{R:Hp->Prop}{σ:St}{H:Hp}{D:Addr}(Pv:Nat->St->Hp->Prop)(h0:Pv 0 (um js k σ) (aN H D (.lst [])))
  (hs:∀i σ H,i<n->Pv i σ H->g (.int (lo+i)) σ H λσ2 H2=>jr D tc te {nx:=Pv (i+1),rt:=λ_ _=>False,ct:=Pv (i+1),bk:=λ_ H'=>R H'} σ2 H2) (hd:∀σ H,Pv n σ H->R H) :
  ∃W:Nat->Nat->St->Hp->Prop,(∃m,W 0 m (um js k σ) (aN H D (.lst [])))/\∀i m σ H,W i m σ H->
   ((Jm lo n).stop i H/\R H)\/((Jm lo n).go i H/\∃N:St->Hp->Prop,(∀σ' H',N σ' H'->∃m',m'<m/\W (i+1) m' σ' H')/\∀x H',(Jm lo n).yld i H x H'->g x σ H' λσ2 H2=>jr D tc te {nx:=N,rt:=λ_ _=>False,ct:=N,bk:=λ_ H'=>R H'} σ2 H2):=
 kD (D:={nx:=λ_ H'=>R H',rt:=λ_ _=>False}) Pv h0 hs hd
theorem kB{js:List Nat}{k:Nat}{K:Fg}{a:Addr}{xs:List V}{g:TG}{tc:TT}{te:TE}{R:Hp->Prop}{σ:St}{H:Hp}{D:Addr}(Pv:Nat->St->Hp->Prop)(h0:Pv 0 (um js k σ) (aN H D (.lst [])))(hl:∀i σ H,i<=xs.length->Pv i σ H->cq K H a xs)
  (hs:∀i x σ H,xs[i]?=some x->Pv i σ H->g x σ H λσ2 H2=>jr D tc te {nx:=Pv (i+1),rt:=λ_ _=>False,ct:=Pv (i+1),bk:=λ_ H'=>R H'} σ2 H2) (hd:∀σ H,Pv xs.length σ H->R H) :
  ∃W:Nat->Nat->St->Hp->Prop,(∃m,W 0 m (um js k σ) (aN H D (.lst [])))/\∀i m σ H,W i m σ H->
   ((Lc K a).stop i H/\R H)\/((Lc K a).go i H/\∃N:St->Hp->Prop,(∀σ' H',N σ' H'->∃m',m'<m/\W (i+1) m' σ' H')/\∀x H',(Lc K a).yld i H x H'->g x σ H' λσ2 H2=>jr D tc te {nx:=N,rt:=λ_ _=>False,ct:=N,bk:=λ_ H'=>R H'} σ2 H2):=
 qg (D:={nx:=λ_ H'=>R H',rt:=λ_ _=>False}) Pv h0 hl hs hd
theorem iR{js:List Nat}{k:Nat}{K:Fg}{a:Addr}{xs:List V}{g:TG}{tc:TT}{te:TE}{R:Hp->Prop}{σ:St}{H:Hp}{D:Addr}(Pv:Nat->St->Hp->Prop)(h0:Pv 0 (um js k σ) (aN H D (.lst [])))(hl:∀i σ H,i<=xs.length->Pv i σ H->cE K H a xs)
  (hs:∀i x σ H,xs[i]?=some x->Pv i σ H->g x σ H λσ2 H2=>jr D tc te {nx:=Pv (i+1),rt:=λ_ _=>False,ct:=Pv (i+1),bk:=λ_ H'=>R H'} σ2 H2) (hd:∀σ H,Pv xs.length σ H->R H) :
  ∃W:Nat->Nat->St->Hp->Prop,(∃m,W 0 m (um js k σ) (aN H D (.lst [])))/\∀i m σ H,W i m σ H->
   ((FQ K a).stop i H/\R H)\/((FQ K a).go i H/\∃N:St->Hp->Prop,(∀σ' H',N σ' H'->∃m',m'<m/\W (i+1) m' σ' H')/\∀x H',(FQ K a).yld i H x H'->g x σ H' λσ2 H2=>jr D tc te {nx:=N,rt:=λ_ _=>False,ct:=N,bk:=λ_ H'=>R H'} σ2 H2):=
 sZ (D:={nx:=λ_ H'=>R H',rt:=λ_ _=>False}) Pv h0 hl hs hd
theorem iY.through{a l:Addr}{H H1 H2:Hp}{o:HO}(x:iY a H H1)(hl:H1 l=none)(y:iY l (aN H1 l o) H2):iY a H H2:=λb u n h=>by
 have h1:=x b u n h
 have nl:b≠l:=aL h1 hl
 exact y b u nl (by rw[aA nl];exact h1)
structure QE(X:Cx)(e:Expr)(t:TE):Prop where
 up:PE X e t
structure QT(X:Cx)(e:Expr)(t:TT):Prop where
 up:PT X e t
structure QW(X:Cx)(e:Expr)(t:TT):Prop where
 up:PW X e t
structure QA(X:Cx)(e:List Expr)(t:TA):Prop where
 up:PA X e t
structure QS(X:Cx)(e:Stmt)(t:TS):Prop where
 up:PS X e t
structure Jx(X:Cx)(e:List Stmt)(t:TS):Prop where
 up:BU X e t
structure QG(X:Cx)(e:Expr)(t:TG):Prop where
 up:PG X e t
structure Nh(X:Cx)(e:List Expr)(t:EN):Prop where
 up:M4 X e t
structure QI(X:Cx)(a b:Expr)(t:TI):Prop where
 up:PI X a b t
structure QO(X:Cx)(e:Option Expr)(t:TO):Prop where
 up:PO X e t
structure EM(X:Cx)(e:List Expr)(t:TT):Prop where
 up:EG X e t
theorem qv(i:Nat){x:Str}{pos:Pos}(hN:X.N[i]?=some x:=by rfl)(hv:Oc X.env.scope x:=by first|exact Or.inl rfl|exact Or.inr (Or.inl rfl)|exact Or.inr (Or.inr rfl))(hd:(x==("__debug__":Str))=false:=by decide)(hcd:(x==("__classdict__":Str))=false:=by decide):QE X (.Name x pos) (ay i):=
 ⟨pv i hN hv hd hcd⟩
theorem aK{i j pos}:QE X (.Constant (.int i) j pos) (tC (.int i)):=
 ⟨Mo ⟩
theorem HA{b j pos}:QE X (.Constant (.bool b) j pos) (tC (.bl b)):=
 ⟨NF ⟩
theorem eL{j pos}:QE X (.Constant .none j pos) (tC .non):=
 ⟨Mq ⟩
theorem ja{x j pos}:QE X (.Constant (.str x) j pos) (tC (.str x)):=
 ⟨Ms ⟩
theorem bK{op:Operator}{r:R2}(ho:jf X (binaryOp op) r)(ha:QE X a ta)(hb:QE X b tb):QE X (.BinOp a op b pos) (bN r ta tb):=
 ⟨NJ ho ha.up hb.up⟩
theorem g9{op:UnaryOp}{r:V->Hp->VK->Prop}(ho:Ob X (unaryOp op) r)(ha:QE X a ta):QE X (.UnaryOp op a pos) (vF r ta):=
 ⟨NL ho ha.up⟩
theorem fE{op:CmpOp}{r:R2}(ho:jf X (compareOp op) r)(ha:QE X a ta)(hb:QE X b tb)(hm:behindInMarks op b=false):QE X (.Compare a [op] [b] pos) (bN r ta tb):=
 ⟨Kc ho ha.up hb.up hm⟩
theorem MI{rest:List Expr}(ha:QE X a ta)(hb:QE X (.BoolOp .And (b::rest) pos) tb):QE X (.BoolOp .And (a::b::rest) pos) (IB ta tb):=
 ⟨Mm ha.up hb.up⟩
theorem NQ{rest:List Expr}(ha:QE X a ta)(hb:QE X (.BoolOp .Or (b::rest) pos) tb):QE X (.BoolOp .Or (a::b::rest) pos) (MY ta tb):=
 ⟨NK ha.up hb.up⟩
theorem HI{op}{t:TE}(h:QE X a t):QE X (.BoolOp op [a] pos) t:=
 ⟨Mr h.up⟩
theorem AL{c:Expr}(hc:QT X c tA)(ha:QE X a ta)(hb:QE X b tb):QE X (.IfExp c a b pos) (Of tA ta tb):=
 ⟨Hq hc.up ha.up hb.up⟩
theorem gm{lo hi:Option Expr}{r:V->Option Int->Option Int->Hp->VK->Prop}(hr:Ga X r)(he:QE X e te)(hl:QO X lo tl)(hu:QO X hi th):QE X (.Subscript e (.Slice lo hi none p2) pos) (FI r te tl th):=
 ⟨Hr hr he.up hl.up hu.up⟩
theorem NP{r:R2}(hr:Jh X r)(ha:QE X a ta)(hb:QE X b tb)(hs:x8 b):QE X (.Subscript a b pos) (bN r ta tb):=
 ⟨NI hr ha.up hb.up hs⟩
theorem eY{x1}(h:QA X es t):QE X (.Tuple es x1 pos) (jD t):=
 ⟨Mt h.up⟩
theorem cR(h:QA X es t):QE X (.List es pos) (fR t):=
 ⟨Mp h.up⟩
theorem uG{id:String}(pa:PlainAttrs T)(slot:Slot T name id)(hty:typeOf (.builtin id)=pure (.type "method_descriptor"))(hm:Nd X id r)(ho:QE X o to)(ha:QA X (e::es) t)(hbase:attributeBase o name X.env (eval o X.env)=eval o X.env:=by rfl)(hfew:((backTo cpos (starEach (e::es) X.env)).all (λx=>!x.1)&&(backToKw cpos (keywordEach [] X.env)).all (λx=>x.1.isSome)
   && decide ((e::es).length+([]:List Keyword).length+(if([]:List Keyword).isEmpty then 0 else 1)<30))=true:=by rfl) (hline:(apos.endLine==cpos.line)=true:=by rfl) (hs:starEach (e::es) X.env=(false,eval e X.env)::starEach es X.env:=by rfl) (hplain:(backTo cpos (starEach es X.env)).any (·.1)=false:=by rfl):QE X (.Call (.Attribute o name apos) (e::es) [] cpos) (rQ X.K T r to t):=
 ⟨NG pa slot hty hm ho.up ha.up hbase hfew hline hs hplain⟩
theorem HB{id:String}(pa:PlainAttrs T)(slot:Slot T name id)(hty:typeOf (.builtin id)=pure (.type "method_descriptor"))(hm:Nd X id r)(ho:QE X o to)(hbase:attributeBase o name X.env (eval o X.env)=eval o X.env:=by rfl)(hline:(apos.endLine==cpos.line)=true:=by rfl):QE X (.Call (.Attribute o name apos) [] [] cpos) (K4 X.K T r to):=
 ⟨Mn pa slot hty hm ho.up hbase hline⟩
theorem fc{id:String}(hc:iO X (.builtin id) r)(hg:Gl X x)(hm:X.mg x=none)(hv:bootBuiltins x=some (.builtin id))(ha:QA X (e::es) t)(hn:x≠"__name__":=by decide)(hdb:(x==("__debug__":Str))=false:=by decide)(he:starEach (e::es) X.env=(false,eval e X.env)::starEach es X.env:=by rfl)(hpl:(backTo pos (starEach es X.env)).any (·.1)=false:=by rfl):QE X (.Call (.Name x p) (e::es) [] pos) (fQ r t):=
 ⟨G9 hc hg hm hv ha.up hn hdb he hpl⟩
theorem b6(hc:iO X (.type T) r)(hg:Gl X x)(hm:X.mg x=none)(hv:bootBuiltins x=some (.type T))(ha:QA X (e::es) t)(hn:x≠"__name__":=by decide)(hdb:(x==("__debug__":Str))=false:=by decide)(he:starEach (e::es) X.env=(false,eval e X.env)::starEach es X.env:=by rfl)(hpl:(backTo pos (starEach es X.env)).any (·.1)=false:=by rfl):QE X (.Call (.Name x p) (e::es) [] pos) (fQ r t):=
 ⟨E8 hc hg hm hv ha.up hn hdb he hpl⟩
theorem NO{X:Cx}{x:Str}{ps:List Str}{k:Nat}{sp:Sp}{e:Expr}{es:List Expr}{t:TA}{p pos:Pos}(c:cx X.prog X.w X.K X.mg X.base x ps k sp)(hr:ix k X.A)(hg:Gl X x)(ha:QA X (e::es) t)(hdb:(x==("__debug__":Str))=false:=by decide)(he:starEach (e::es) X.env=(false,eval e X.env)::starEach es X.env:=by rfl)(hpl:(backTo pos (starEach es X.env)).any (·.1)=false:=by rfl):QE X (.Call (.Name x p) (e::es) [] pos) (bA sp [] E0 t):=
 ⟨NH c hr hg ha.up hdb he hpl⟩
theorem Kx{wi:TI}(ok:pw sc N scope NY js)(hsc:X.env.scope=sc)(hN:X.N=N)(hk:NY.length=N.length+k)(hc:X.calm=true)(hit:QI X target iter wi)(hg:∀cl C s₀ H₀ fp,QG (cV X NY scope cl C s₀ H₀ fp) target g)(hi:∀cl C s₀ H₀ fp,EM (cV X NY scope cl C s₀ H₀ fp) ifs tc)(he:∀cl C s₀ H₀ fp,QE (cV X NY scope cl C s₀ H₀ fp) elt te)(hs:∀x,foldedSetIterable iter X.env x=pure x:=by intro _;rfl):QE X (.ListComp elt [⟨target,iter,ifs,0⟩] scope pos) (d6 js k wi g tc te):=
 ⟨Kd ok hsc hN hk hc hit.up (λcl C s₀ H₀ fp=>(hg cl C s₀ H₀ fp).up) (λcl C s₀ H₀ fp=>(hi cl C s₀ H₀ fp).up) (λcl C s₀ H₀ fp=>(he cl C s₀ H₀ fp).up) hs⟩
theorem KD{wi:TI}{i:Nat}{y:Str}{py spos:Pos}(ok:pw sc N scope NY js)(hsc:X.env.scope=sc)(hN:X.N=N)(hk:NY.length=N.length+k)(hc:X.calm=true)(hit:QI X target iter wi)(hg:∀cl C s₀ H₀ fp,QG (cV X NY scope cl C s₀ H₀ fp) target g)(hi:∀cl C s₀ H₀ fp,EM (cV X NY scope cl C s₀ H₀ fp) ifs tc)(he:∀cl C s₀ H₀ fp,QE (cV X NY scope cl C s₀ H₀ fp) elt te)(nd:X.N.Nodup)(hy:X.N[i]?=some y)(hl:FX X.env.scope y)(hsw:swapsWith (.ListComp elt [⟨target,iter,ifs,0⟩] scope pos) (some (.Name y py)) spos.line X.env=pure true)(hs:∀x,foldedSetIterable iter X.env x=pure x:=by intro _;rfl)(hf:X.fn y=true\/X.env.scope.names.lookup y=some .local:=by first|exact .inl rfl|exact .inr rfl|assumption):QS X (.Assign [.Name y py] (.ListComp elt [⟨target,iter,ifs,0⟩] scope pos) spos) (bP (d6 js k wi g tc te) (aQ i)):=
 ⟨Kr ok hsc hN hk hc hit.up (λcl C s₀ H₀ fp=>(hg cl C s₀ H₀ fp).up) (λcl C s₀ H₀ fp=>(hi cl C s₀ H₀ fp).up) (λcl C s₀ H₀ fp=>(he cl C s₀ H₀ fp).up) nd hy hl hsw hs hf⟩
theorem iI :QO X none gx:=
 ⟨Kp ⟩
theorem iJ(h:QE X e te):QO X (some e) (lE te):=
 ⟨Kq h.up⟩
theorem fL :QA X [] aP:=
 ⟨Ml ⟩
theorem aG(ha:QE X e te)(hr:QA X es t)(hs:starEach (e::es) X.env=(false,eval e X.env)::starEach es X.env:=by rfl):QA X (e::es) (ar te t):=
 ⟨Ka ha.up hr.up hs⟩
theorem bB{op:CmpOp}{r:R2}(ho:jf X (compareOp op) r)(ha:QE X a ta)(hb:QE X b tb)(hm:behindInMarks op b=false):QT X (.Compare a [op] [b] pos) (cH (bN r ta tb)):=
 ⟨Kv ho ha.up hb.up hm⟩
theorem HM(ha:QT X a tA):QT X (.UnaryOp .Not a pos) (K5 tA):=
 ⟨MD ha.up⟩
theorem uJ{rest:List Expr}(ha:QT X a tA)(hb:QW X (.BoolOp .And (b::rest) pos) tB'):QW X (.BoolOp .And (a::b::rest) pos) (Dg tA tB'):=
 ⟨MG ha.up hb.up⟩
theorem qy(ha:QT X a tA):QW X (.BoolOp .And [a] pos) tA:=
 ⟨Kw ha.up⟩
theorem NR{rest:List Expr}(ha:QT X a tA)(hb:QW X (.BoolOp .Or (b::rest) pos) tB'):QW X (.BoolOp .Or (a::b::rest) pos) (Ox tA tB'):=
 ⟨NN ha.up hb.up⟩
theorem ML(ha:QT X a tA):QW X (.BoolOp .Or [a] pos) tA:=
 ⟨MH ha.up⟩
theorem QW.pt{X:Cx}{e:Expr}{t:TT}(h:QW X e t):QT X e t:=
 ⟨PW.pt h.up⟩
theorem rH{e:Expr}{t:TE}(h:QE X e t)(he:∀whole,isTrue e X.env whole=(do let v <-whole;standAt e.pos;holding [v] (truthy v)):=by intro _;rfl):QT X e (tB t):=
 ⟨ME h.up he⟩
theorem iA{a:Expr}{ta:TA}{p pos:Pos}(hg:Gl X "range")(hm:X.mg "range"=none)(ha:QA X [a] ta)(hs:starEach [a] X.env=[(false,eval a X.env)]:=by rfl):QI X tg (.Call (.Name "range" p) [a] [] pos) (qj ta):=
 ⟨E9 hg hm ha.up hs⟩
theorem KA{a:Expr}{ta:TA}{p pos:Pos}(hg:Gl X "enumerate")(hm:X.mg "enumerate"=none)(ha:QA X [a] ta)(hs:starEach [a] X.env=[(false,eval a X.env)]:=by rfl):QI X (.Tuple elts k tpos) (.Call (.Name "enumerate" p) [a] [] pos) (GN X.K ta):=
 ⟨Ki hg hm ha.up hs⟩
theorem eU{tg l:Expr}{tl:TE}(hl:QE X l tl):QI X tg l (jk X.K tl):=
 ⟨Mx hl.up⟩
theorem Ky{i:Nat}{x:Str}(hN:X.N.Nodup)(hi:X.N[i]?=some x)(hx:FX X.env.scope x)(hf:X.fn x=true\/X.env.scope.names.lookup x=some .local:=by first|exact .inl rfl|exact .inr rfl|assumption):QG X (.Name x pos) (aQ i):=
 ⟨Kf hN hi hx hf⟩
theorem gC{es:List Expr}{k:Nat}{t:EN}{n:Nat}(hc:X.calm=true)(h:Nh X es t)(hn:(assignEach es X.env).length=n:=by rfl)(hst:(assignEach es X.env).findIdx? (·.1)=none:=by rfl):QG X (.Tuple es k pos) (my X.K n t):=
 ⟨Mw hc h.up hn hst⟩
theorem Kz{es:List Expr}{k:Nat}{t:EN}{n:Nat}(hc:X.calm=true)(h:Nh X es t)(hn:(assignEach es X.env).length=n:=by rfl)(hst:(assignEach es X.env).findIdx? (·.1)=none:=by rfl):QG X (.Tuple es k pos) (GJ X.K n t):=
 ⟨Kg hc h.up hn hst⟩
theorem eO :Nh X [] lX:=
 ⟨Kh ⟩
theorem bQ{e:Expr}{es:List Expr}{t:TG}{u:EN}(h1:QG X e t)(h2:Nh X es u)(hs:(assignEach (e::es) X.env).map (·.2)=assign e X.env::(assignEach es X.env).map (·.2):=by rfl):Nh X (e::es) (dG t u):=
 ⟨Hs h1.up h2.up hs⟩
theorem pK{o i:Expr}{to ti:TE}{t:Jy}(ho:QE X o to)(hi:QE X i ti)(hs:F8 X t)(ha:∀v,assign (.Subscript o i pos) X.env v=(do
   let ov <-holding [v] (eval o X.env)
   let iv <-holding [v,ov] (eval i X.env)
   standAt pos
   holding [v,ov,iv] (setItem ov iv v)
   release [v,ov,iv] []):=by intro _;rfl):QG X (.Subscript o i pos) (yp to ti t):=
 ⟨Mv ho.up hi.up hs ha⟩
theorem MK{i:Nat}{x:Str}{e:Expr}{te:TE}{pos':Pos}(hN:X.N.Nodup)(hi:X.N[i]?=some x)(hx:FX X.env.scope x)(he:QE X e te)(hs:swapsWith e (some (.Name x pos')) pos.line X.env=pure false:=by rfl)(hf:X.fn x=true\/X.env.scope.names.lookup x=some .local:=by first|exact .inl rfl|exact .inr rfl|assumption):QS X (.Assign [.Name x pos'] e pos) (bP te (aQ i)):=
 ⟨MC hN hi hx he.up hs hf⟩
theorem jz{tg e:Expr}{te:TE}{g:TG}(he:QE X e te)(hg:QG X tg g)(hs:swapsWithSole [tg] e pos.line X.env=pure false:=by rfl)(hw:swappedStores [tg] e X.env=pure none:=by rfl)(h1:(assignEach [tg] X.env).map (·.2)=[assign tg X.env]:=by rfl):QS X (.Assign [tg] e pos) (bP te g):=
 ⟨Mz he.up hg.up hs hw h1⟩
theorem dU(he:QE X e te)(hs:swapsWith e none pos.line X.env=pure false:=by rfl):QS X (.Expr e pos) (fZ te):=
 ⟨Ks he.up hs⟩
theorem bJ(he:QE X e te):QS X (.Return (some e) pos) (dz te):=
 ⟨MB he.up⟩
theorem qx{c:Expr}{a b:List Stmt}{tc:TT}(hc:QT X c tc)(ha:Jx X a t)(hb:Jx X b u):QS X (.If c a b pos) (gb tc t u):=
 ⟨NM hc.up ha.up hb.up⟩
theorem jA{c:Expr}{body:List Stmt}{tc:TT}{tb:TS}(hp:PassesOwn (model X.prog X.w) X.A X.env X.xe)(hc:QT X c tc)(hb:Jx X body tb):QS X (.While c body [] pos) (lx tc tb):=
 ⟨Hw hp hc.up hb.up⟩
theorem eV{iter:Expr}{body:List Stmt}{wi:TI}{g:TG}{tb:TS}{pos:Pos}(hp:PassesOwn (model X.prog X.w) X.A X.env X.xe)(hc:X.calm=true)(hi:QI X tg iter wi)(hg:QG X tg g)(hb:Jx X body tb)(hs:∀x,foldedSetIterable iter X.env x=pure x:=by intro _;rfl):QS X (.For tg iter body [] pos) (jI wi g tb):=
 ⟨MA hp hc hi.up hg.up hb.up hs⟩
theorem aE{st:Stmt}{rest:List Stmt}(h1:QS X st t)(h2:Jx X rest u):Jx X (st::rest) (bt t u):=
 ⟨Hx h1.up h2.up⟩
theorem aT{st:Stmt}(h1:QS X st t):Jx X [st] t:=
 ⟨Ku h1.up⟩
theorem jT :Jx X [] dW:=
 ⟨Kt ⟩
theorem eZ{X:Cx}:EM X [] jE:=
 ⟨Kn ⟩
theorem jS{X:Cx}{c:Expr}{t:TT}(h:QT X c t):EM X [c] t:=
 ⟨Ko h.up⟩
section
variable{κ:Type}[DecidableEq κ]
def cW(kvs:List (κ×V))(k:κ):Option V:=(kvs.find? λkv=>decide (kv.1=k)).map (·.2)
def iU(kvs:List (κ×V))(k:κ)(v:V):List (κ×V):=
 if(kvs.any λkv=>decide (kv.1=k))=true then kvs.map (λkv=>if kv.1=k then(kv.1,v) else kv) else kvs++[(k,v)]
def jP(kvs:List (κ×V))(k:κ):List (κ×V):=kvs.filter λkv=>decide (kv.1≠k)
theorem fV{p:κ×V}{r:List (κ×V)}{k:κ}(e:p.1=k):cW (p::r) k=some p.2:=by simp[cW,cS,e]
theorem fU{p:κ×V}{r:List (κ×V)}{k:κ}(e:¬p.1=k):cW (p::r) k=cW r k:=by simp[cW,cS,e]
theorem kL(k:κ):∀kvs:List (κ×V),(kvs.any λkv=>decide (kv.1=k))=(cW kvs k).isSome
 |[]=>rfl
 |p::r=>by
  rw[iD]
  by_cases e:p.1=k
  ·simp only[fV e,decide_eq_true e,Bool.true_or,Option.isSome_some]
  ·rw[fU e,decide_eq_false e,Bool.false_or];exact kL k r
theorem xM(k j:κ)(y:V):∀kvs:List (κ×V),cW kvs k=none->cW (kvs++[(k,y)]) j=if j=k then some y else cW kvs j
 |[],_=>by
  by_cases e:k=j
  ·rw[if_pos e.symm];exact fV (p:=(k,y)) e
  ·rw[if_neg (λz=>e z.symm)];exact fU (p:=(k,y)) e
 |p::r,hn=>by
  rw[List.cons_append]
  have hk:¬p.1=k:=λz=>by rw[fV z] at hn;cases hn
  rw[fU hk] at hn
  have ih:=xM k j y r hn
  by_cases e:p.1=j
  ·rw[fV e,fV e,if_neg (λz=>hk (e.trans z))]
  ·rw[fU e,fU e,ih]
theorem gL(kvs:List (κ×V))(k:κ)(v:V):(iU kvs k v).length<=kvs.length+1:=by
 unfold iU
 split
 ·rw[af];lia
 ·rw[ai,bf,gq];lia
theorem mJ{kvs:List (κ×V)}{k:κ}(v:V)(h:cW kvs k=none):iU kvs k v=kvs++[(k,v)]:=by
 unfold iU
 rw[kL,h]
 exact if_neg (by decide)
theorem nN.isSome_eq{o:Option V}{u:Option Value}(r:nN o u):o.isSome=u.isSome:=by
 cases o with
 |none=>cases u with
  |none=>rfl
  |some _=>exact(show False from r).elim
 |some _=>cases u with
  |none=>exact(show False from r).elim
  |some _=>rfl
theorem nN.getD{o:Option V}{u:Option Value}{d:V}{d':Value}(r:nN o u)(rd:b7 d d'):b7 (o.getD d) (u.getD d'):=by
 cases o with
 |none=>cases u with
  |none=>exact rd
  |some _=>exact(show False from r).elim
 |some _=>cases u with
  |none=>exact(show False from r).elim
  |some _=>exact r
theorem KV.val{kvs:List (κ×V)}{vs:List (κ×Value)}(r:KV kvs vs)(k:κ):nN (cW kvs k) (valueAt vs k):=by
 unfold KV at r
 induction r with
 |nil=>exact True.intro
 |@cons p q ps qs h t ih=>
  obtain⟨h1,h2⟩:=h
  by_cases e:p.1=k
  ·have e':q.1=k:=h1.symm.trans e
   have b:valueAt (q::qs) k=some q.2:=by simp[valueAt,cS,e']
   rw[fV e,b];exact h2
  ·have e':¬q.1=k:=λz=>e (h1.trans z)
   have b:valueAt (q::qs) k=valueAt qs k:=by simp[valueAt,cS,e']
   rw[fU e,b];exact ih
theorem KV.any{kvs:List (κ×V)}{vs:List (κ×Value)}(r:KV kvs vs)(k:κ):(kvs.any λkv=>decide (kv.1=k))=vs.any λkv=>decide (kv.1=k):=by
 unfold KV at r
 induction r with
 |nil=>rfl
 |cons h t ih=>rw[iD,iD,ih,h.1]
theorem KV.repl{kvs:List (κ×V)}{vs:List (κ×Value)}(r:KV kvs vs)(k:κ){y:V}{u:Value}(ry:b7 y u) :
  KV (kvs.map λkv=>if kv.1=k then(kv.1,y) else kv) (vs.map λkv=>if kv.1=k then(kv.1,u) else kv):=by
 unfold KV at r ⊢
 induction r with
 |nil=>exact .nil
 |@cons p q ps qs h t ih=>
  rw[bz,bz]
  refine .cons ?_ ih
  obtain⟨h1,h2⟩:=h
  by_cases e:p.1=k
  ·rw[if_pos e,if_pos (h1.symm.trans e)];exact⟨h1,ry⟩
  ·rw[if_neg e,if_neg (λz=>e (h1.trans z))];exact⟨h1,h2⟩
theorem KV.put{kvs:List (κ×V)}{vs:List (κ×Value)}(r:KV kvs vs)(k:κ){y:V}{u:Value}(ry:b7 y u):KV (iU kvs k y) (stored vs k u):=by
 unfold iU stored
 rw[r.any k]
 by_cases e:(vs.any λkv=>decide (kv.1=k))=true
 ·rw[if_pos e,if_pos e];exact r.repl k ry
 ·rw[if_neg e,if_neg e];exact Paired.snoc r ⟨rfl,ry⟩
theorem KV.drop{kvs:List (κ×V)}{vs:List (κ×Value)}(r:KV kvs vs)(k:κ):KV (jP kvs k) (without vs k):=by
 unfold KV at r ⊢
 unfold jP without
 induction r with
 |nil=>exact .nil
 |@cons p q ps qs h t ih=>
  obtain⟨h1,h2⟩:=h
  rw[cX,cX]
  by_cases e:p.1=k
  ·have a:¬decide (p.1≠k)=true:=by simp[e]
   have b:¬decide (q.1≠k)=true:=by simp[h1.symm.trans e]
   rw[if_neg a,if_neg b];exact ih
  ·have e':¬q.1=k:=λz=>e (h1.trans z)
   have a:decide (p.1≠k)=true:=by simp[e]
   have b:decide (q.1≠k)=true:=by simp[e']
   rw[if_pos a,if_pos b];exact .cons ⟨h1,h2⟩ ih
theorem KV.length{kvs:List (κ×V)}{vs:List (κ×Value)}(r:KV kvs vs):kvs.length=vs.length:=Paired.length r
theorem Gy(kvs:List (κ×V))(k:κ):(jP kvs k).length<=kvs.length:=bx _ _
end
theorem sv{P:Program}{w:World}{k:ky}{u:Value}(r:b7 (kV k) u):(eF P w).is k u=true:=by
 cases k with
 |inl i=>obtain⟨t,e⟩:=(show ∃t,u=Value.int i t from r);subst e;exact AB P w i t
 |inr x=>obtain⟨t,e⟩:=(show ∃t,u=Value.str x t from r);subst e;exact AC P w x t
theorem Lh{P:Program}{w:World}{k:b8}{u:Value}(r:b7 (kN k) u):(cL P w).is k u=true:=by
 cases k with
 |none=>obtain rfl:u=Value.none:=r;rfl
 |some k=>exact sv (P:=P) (w:=w) (k:=k) r
theorem wX{P:Program}{w:World}:∀{ks:List b8} {us:List Value},b5 (ks.map kN) us->ItemsAre (cL P w) ks us
 |[],_,r=>by rw[List.map_nil] at r;cases r;exact .nil
 |k::ks,_,r=>by
  rw[bz] at r
  cases r with
  |cons h t=>exact .cons (Lh h) (wX t)
abbrev KT(H:Hp):List (List b8×V)->List (List b8×Addr×Value)->Prop:=Paired λp q=>p.1=q.1/\H q.2.1=some (.tup (p.1.map kN))/\b7 p.2 q.2.2
theorem KT.val{H:Hp}{kvs:List (List b8×V)}{xs:List (List b8×Addr×Value)}(r:KT H kvs xs)(k:List b8):nN (cW kvs k) ((atKey xs k).map (·.2)):=by
 induction r with
 |nil=>exact True.intro
 |@cons p q ps qs h t ih=>
  obtain⟨h1,_,h2⟩:=h
  by_cases e:p.1=k
  ·have e':q.1=k:=h1.symm.trans e
   have b:atKey (q::qs) k=some q.2:=by simp[atKey,cS,e']
   rw[fV e,b];exact h2
  ·have e':¬q.1=k:=λz=>e (h1.trans z)
   have b:atKey (q::qs) k=atKey qs k:=by simp[atKey,cS,e']
   rw[fU e,b];exact ih
theorem KT.repl{H:Hp}{kvs:List (List b8×V)}{xs:List (List b8×Addr×Value)}(r:KT H kvs xs)(k:List b8){y:V}{u:Value}(ry:b7 y u) :
  KT H (kvs.map λkv=>if kv.1=k then(kv.1,y) else kv) (xs.map (putAt k u)):=by
 induction r with
 |nil=>exact .nil
 |@cons p q ps qs h t ih=>
  rw[bz,bz]
  refine .cons ?_ ih
  obtain⟨h1,h2,h3⟩:=h
  unfold putAt
  by_cases e:p.1=k
  ·rw[if_pos e,if_pos (h1.symm.trans e)];exact⟨h1,h2,ry⟩
  ·rw[if_neg e,if_neg (λz=>e (h1.trans z))];exact⟨h1,h2,h3⟩
theorem KT.put{H:Hp}{kvs:List (List b8×V)}{xs:List (List b8×Addr×Value)}(r:KT H kvs xs)(k:List b8){b:Addr}{y:V}{u:Value}(hb:H b=some (.tup (k.map kN)))(ry:b7 y u) :
  KT H (iU kvs k y) (storedH xs k b u):=by
 have e:(kvs.any λkv=>decide (kv.1=k))=(atKey xs k).isSome:=by
  rw[kL,(r.val k).isSome_eq,fA]
 unfold iU storedH
 rw[e]
 by_cases q:(atKey xs k).isSome=true
 ·rw[if_pos q,if_pos q];exact r.repl k ry
 ·rw[if_neg q,if_neg q];exact Paired.snoc r ⟨rfl,hb,ry⟩
theorem KT.keeps{H H':Hp}{kvs:List (List b8×V)}{xs:List (List b8×Addr×Value)}(r:KT H kvs xs)(ht:∀b ys,H b=some (.tup ys)->H' b=some (.tup ys)):KT H' kvs xs:=
 Paired.mapP r λ_ _ z=>⟨z.1,ht _ _ z.2.1,z.2.2⟩
section
variable{P:Program}{w:World}{H:Hp}{h:Heap}{a:Addr}
theorem Ig{u:HO}(ok:og P w H h)(e:Rd H a u):d4 P w H h a u:=e.ok ok
theorem qe{kvs:List (ky×V)}(ok:og P w H h)(e:Rd H a (.dK kvs)):kvs.length<=sizeLine/\(a==sysModules)=false/\∃vs,KV kvs vs/\h.DictOf (eF P w) a vs:=
 show d4 P w H h a (.dK kvs) from Ig ok e
theorem Ad{kvs:List (ky×V)}(ok:og P w H h)(e:H a=some (.dK kvs)):kvs.length<=sizeLine/\(a==sysModules)=false/\∃vs,KV kvs vs/\h.DictOf (eF P w) a vs:=qe ok (.inl e)
theorem mC{ks:List b8}(ok:og P w H h)(e:H a=some (.tup (ks.map kN))):(tupleKind (cL P w)).is h ks a:=by
 obtain⟨_,its,r,o,h1,h2,n,h3⟩:=(show d4 P w H h a (.tup (ks.map kN)) from ok a _ e)
 exact⟨o,its.toArray,n,h1,h2.1,h3,by simpa using wX r⟩
theorem uk{kvs:List (List b8×V)}(ok:og P w H h)(e:Rd H a (.dT kvs)):kvs.length<=sizeLine/\(a==sysModules)=false/\
  ∃xs,KT H kvs xs/\h.DictOfH (tupleKind (cL P w)) a xs:=by
 obtain⟨z,y,xs,r,o,es,ep,h1,h2,h3,h4,h5⟩:=(show d4 P w H h a (.dT kvs) from Ig ok e)
 refine⟨z,y,xs,r,o,es,ep,h1,h2,h3,h4,λx hx=>?_,h5⟩
 have all:∀{l:List (List b8×V)} {m:List (List b8×Addr×Value)},KT H l m->∀x∈m,(tupleKind (cL P w)).is h x.1 x.2.1:=by
  intro l m q
  induction q with
  |nil=>intro x hx;exact nomatch hx
  |@cons p q ps qs hq t ih=>
   intro x hx
   rcases aM.mp hx with e|hx
   ·subst e
    exact mC ok (by rw[<-hq.1];exact hq.2.1)
   ·exact ih x hx
 exact all r x hx
theorem Nn{kvs:List (List b8×V)}(ok:og P w H h)(e:H a=some (.dT kvs)):kvs.length<=sizeLine/\(a==sysModules)=false/\
  ∃xs,KT H kvs xs/\h.DictOfH (tupleKind (cL P w)) a xs:=uk ok (.inl e)
end
def rg(H:Hp)(a:Addr)(y:V)(r:Option V):Prop:=
 (∃kvs k,Rd H a (.dK kvs)/\y=kV k/\r=cW kvs k)\/∃kvs k b,Rd H a (.dT kvs)/\y=.ref b/\H b=some (.tup (k.map kN))/\r=cW kvs k
def BH(H:Hp)(a:Addr)(y v:V)(H':Hp):Prop:=
 (∃kvs k,H a=some (.dK kvs)/\y=kV k/\kvs.length<sizeLine/\H'=aN H a (.dK (iU kvs k v)))\/
 ∃kvs k b,H a=some (.dT kvs)/\y=.ref b/\H b=some (.tup (k.map kN))/\kvs.length<sizeLine/\H'=aN H a (.dT (iU kvs k v))
theorem rg.t{H:Hp}{a b:Addr}{kvs:List (List b8×V)}{k:List b8}(e:H a=some (.dT kvs))(eb:H b=some (.tup (k.map kN))):rg H a (.ref b) (cW kvs k):=.inr ⟨kvs,k,b,.inl e,rfl,eb,rfl⟩
theorem BH.t{H:Hp}{a b:Addr}{kvs:List (List b8×V)}{k:List b8}{v:V}(e:H a=some (.dT kvs))(eb:H b=some (.tup (k.map kN)))(hl:kvs.length<sizeLine) :
  BH H a (.ref b) v (aN H a (.dT (iU kvs k v))):=.inr ⟨kvs,k,b,e,rfl,eb,hl,rfl⟩
section
variable{X:Cx}{pins:List (Addr×Obj)}{σ:St}{H:Hp}{s:Shared}{a:Addr}{y v:V}{u r:Value}{o:Option V}{A:Around}{E:Value->Shared->Prop}
theorem bu.big(I:bu X pins σ H s):sysModules<s.heap.objs.size:=by
 have h:mainGlobals<s.heap.objs.size:=(I.mod.glob.keeps I.bk).lt
 exact jh (by decide) h
theorem EV{Q:Value->Shared->Prop}(hu:A.units+1<cLine)(I:bu X pins σ H s)(g:rg H a y (some v))(ry:b7 y u)(h:∀w' s',bu X pins σ H s'->b7 v w'->Q w' s') :
  wpAny (model X.prog X.w) A (getItem (.ref a) u) Q E s:=by
 rcases g with⟨kvs,k,e,ey,l⟩|⟨kvs,k,b,e,ey,eb,l⟩
 ·subst ey
  obtain⟨z,hd,vs,rel,dd⟩:=qe I.hok e
  obtain⟨w',hw,rw'⟩:=nN.some_of (v:=v) (o:=valueAt vs k) (by rw[l];exact rel.val k)
  exact wpAny_getItem_of (sv ry) dd.mapOf hw (h w' _ (I.tok _) rw')
 ·subst ey
  cases(show u=Value.ref b from ry)
  obtain⟨z,hd,xs,rel,dd⟩:=uk I.hok e
  obtain⟨w',hw,rw'⟩:=nN.some_of (v:=v) (o:=(atKey xs k).map (·.2)) (by rw[l];exact rel.val k)
  obtain⟨p,hp,hp2⟩:=gU.mp hw
  refine wpAny_getItem_heap (tupleKind_room_in1 hu) (mC I.hok eb) dd hp ?_
  rw[hp2]
  exact h w' _ (I.tok _) rw'
theorem Ot{Q:Value->Shared->Prop}(hu:A.units+1<cLine)(I:bu X pins σ H s)(g:rg H a y o)(ry:b7 y u)(h:∀s',bu X pins σ H s'->Q (.bool o.isSome) s') :
  wpAny (model X.prog X.w) A (compareOp .In u (.ref a)) Q E s:=by
 rcases g with⟨kvs,k,e,ey,l⟩|⟨kvs,k,b,e,ey,eb,l⟩
 ·subst ey
  obtain⟨z,hd,vs,rel,dd⟩:=qe I.hok e
  refine wpAny_in_of (sv ry) hd dd.mapOf ?_
  rw[<-(rel.val k).isSome_eq,<-l]
  exact h _ (I.tok _)
 ·subst ey
  cases(show u=Value.ref b from ry)
  obtain⟨z,hd,xs,rel,dd⟩:=uk I.hok e
  refine wpAny_in_heap (tupleKind_room_in1 hu) (mC I.hok eb) hd dd ?_
  have q:=(rel.val k).isSome_eq
  rw[fA] at q
  rw[<-q,<-l]
  exact h _ (I.tok _)
theorem JH{Q:Value->Shared->Prop}(hu:A.units+1<cLine)(I:bu X pins σ H s)(g:rg H a y o)(ry:b7 y u)(h:∀s',bu X pins σ H s'->Q (.bool (!o.isSome)) s') :
  wpAny (model X.prog X.w) A (compareOp .NotIn u (.ref a)) Q E s:=by
 rcases g with⟨kvs,k,e,ey,l⟩|⟨kvs,k,b,e,ey,eb,l⟩
 ·subst ey
  obtain⟨z,hd,vs,rel,dd⟩:=qe I.hok e
  refine wpAny_notIn_of (sv ry) hd dd.mapOf ?_
  rw[<-(rel.val k).isSome_eq,<-l]
  exact h _ (I.tok _)
 ·subst ey
  cases(show u=Value.ref b from ry)
  obtain⟨z,hd,xs,rel,dd⟩:=uk I.hok e
  refine wpAny_notIn_heap (tupleKind_room_in1 hu) (mC I.hok eb) hd dd ?_
  have q:=(rel.val k).isSome_eq
  rw[fA] at q
  rw[<-q,<-l]
  exact h _ (I.tok _)
theorem nj{h':Heap}{t':Nat}{ob:HO}(I:bu X pins σ H s)(mu:Nf (H a))(hs:Heap.SameBut a s.heap h')(he:∃q,h'.get? a=some q)(new:d4 X.prog X.w (aN H a ob) h' a ob) :
  bu X pins σ (aN H a ob) {s with heap:=h',toks:=t'}:=
 I.write (x:=a) (e:=a) mu (.inl rfl) (λb q hb z=>(hs.2 b hb).trans z) he new
theorem Cr{P:Program}{w:World}{H':Hp}{h':Heap}{kvs:List (ky×V)}{vs:List (ky×Value)}(z:kvs.length<=sizeLine)(hd:(a==sysModules)=false)(rel:KV kvs vs)(dd:h'.DictOf (eF P w) a vs) :
  d4 P w H' h' a (.dK kvs):=⟨z,hd,vs,rel,dd⟩
theorem EW{H':Hp}{Q:Unit->Shared->Prop}(hu:A.units+1<cLine)(I:bu X pins σ H s)(g:BH H a y v H')(ry:b7 y u)(rv:b7 v r)(h:∀s',bu X pins σ H' s'->Q () s') :
  wpAny (model X.prog X.w) A (setItem (.ref a) u r) Q E s:=by
 rcases g with⟨kvs,k,e,ey,l,eH⟩|⟨kvs,k,b,e,ey,eb,l,eH⟩
 ·subst ey eH
  obtain⟨z,hd,vs,rel,dd⟩:=Ad I.hok e
  have hz:vs.length<=sizeLine:=by rw[<-rel.length];exact z
  have hl:(iU kvs k v).length<=sizeLine:=by have:=gL kvs k v;lia
  refine wpAny_setItem_pairs (hsz:=hz) (sv ry) dd λh' dd' hs=>h _ ?_
  have he:∃q,h'.get? a=some q:=let⟨q,_,_,hq,_⟩:=dd';⟨q,hq⟩
  exact nj I (by rw[e];exact True.intro) hs he (Cr hl hd (rel.put k rv) dd')
 ·subst ey eH
  cases(show u=Value.ref b from ry)
  obtain⟨z,hd,xs,rel,dd⟩:=Nn I.hok e
  have hz:xs.length<=sizeLine:=by rw[<-Paired.length rel];exact z
  have hl:(iU kvs k v).length<=sizeLine:=by have:=gL kvs k v;lia
  refine wpAny_setItem_heap (hsz:=hz) (tupleKind_room_in1 hu) (mC I.hok eb) dd λh' dd' hs=>h _ ?_
  obtain⟨q,es,ep,hq,h2,h3,h4,_,h5⟩:=dd'
  refine nj I (by rw[e];exact True.intro) hs ⟨q,hq⟩ ⟨hl,hd,_,(rel.put k eb rv).keeps λc ys ec=>?_,q,es,ep,hq,h2,h3,h4,h5⟩
  rw[aA (oq ec e (λz=>nomatch z))]
  exact ec
end
section
variable{X:Cx}{pins:List (Addr×Obj)}{σ:St}{H:Hp}{s:Shared}{a:Addr}{kvs:List (ky×V)}{k:ky}{u:Value}{A:Around}{E:Value->Shared->Prop}
theorem Nl{v:V}{more:List Value}{Q:Value->Shared->Prop}(I:bu X pins σ H s)(e:H a=some (.dK kvs))(ry:b7 (kV k) u)(l:cW kvs k=some v)(hm:more=[]\/∃x,more=[x])
  (h:∀w' s',bu X pins σ (aN H a (.dK (jP kvs k))) s'->b7 v w'->Q w' s'):wpAny (model X.prog X.w) A (call (.builtin "dict.pop") (.ref a::u::more)) Q E s:=by
 obtain⟨z,hd,vs,rel,dd⟩:=Ad I.hok e
 obtain⟨w',hw,rw'⟩:=nN.some_of (v:=v) (o:=valueAt vs k) (by rw[<-l];exact rel.val k)
 have hp:(keyPart u).isSome=true:=by
  cases k with
  |inl i=>obtain⟨t,q⟩:=(show ∃t,u=Value.int i t from ry);subst q;rfl
  |inr x=>obtain⟨t,q⟩:=(show ∃t,u=Value.str x t from ry);subst q;rfl
 have ha:argsOk "dict.pop" ⟨.ref a::u::more,[]⟩:=by
  rcases hm with q|⟨x,q⟩
  ·subst q;exact PySem.F.args_dict_pop_2 _ _
  ·subst q;exact PySem.F.args_dict_pop_3 _ _ _
 refine call_meetsIn PySem.F.slot_dict_pop dd.typeIs PySem.F.entry_dict_pop ha (meets_dict_pop_there (eF X.prog X.w) a (sv ry) more hm hp)
  ⟨vs,w',dd,by rw[<-rel.length];exact z,hw,λh' dd' hs=>h w' _ ?_ rw'⟩
 have he:∃q,h'.get? a=some q:=let⟨q,_,_,hq,_⟩:=dd';⟨q,hq⟩
 exact nj I (by rw[e];exact True.intro) hs he (Cr (br (Gy kvs k) z) hd (rel.drop k) dd')
theorem Nk{Q:Value->Shared->Prop}(I:bu X pins σ H s)(e:Rd H a (.dK kvs))(h:∀t s',bu X pins σ H s'->Q (.int kvs.length t) s'):wpAny (model X.prog X.w) A (call (.builtin "len") [.ref a]) Q E s:=by
 obtain⟨z,hd,vs,rel,dd⟩:=qe I.hok e
 refine call_len_dict hd dd (by rw[<-rel.length];rw[sizeLine_eq] at z;lia) ?_
 rw[<-rel.length]
 exact h _ _ (I.tok _)
end
def F1(i:Expr):Prop:=∀ov iv,subscripted i false ov iv=operate [ov,iv] (getItem ov iv)
theorem Eg{prog:Program}{w:World}{A:Around}{E:Value->Shared->Prop}{s:Shared}{env:Env}{value slice:Expr}{pos:Pos}{T id:String}{Q:Value->Shared->Prop}
  (hl:typeLookup (.type T) "__getitem__"=pure (some (.builtin id))) (hs:F1 slice)
  (h:wpAny (model prog w) A (eval value env) (λo s₁=>wpAny (model prog w) A (eval slice env) (λi s₂=>s₂.TypeIs o T/\wpAny (model prog w) A (getItem o i) Q E s₂) E s₁) E s) :
  wpAny (model prog w) A (eval (.Subscript value slice pos) env) Q E s:=by
 refine Subscript_ (wpAny_mono h (λo s₁ h₁=>wpAny_mono h₁ (λi s₂ h₂=>?_) λ_ _ x=>x) λ_ _ x=>x)
 obtain⟨hT,h₂⟩:=h₂
 unfold subscriptTail
 refine wpAny_bind ?_
 rw[getitemInPython_of_ne hT.not_modules]
 refine wpAny_bind (wpAny_specialOf hT hl ?_)
 have fin:wpAny (model prog w) A (subscripted slice false o i) (λr s₃=>wpAny (model prog w) A (letTemporaryGo value o r >>= λ_=>pure r) Q E s₃) E s₂:=by
  rw[hs o i]
  exact wpAny_operating (wpAny_mono h₂ (λr s₃ h₃=>wpAny_bind (wpAny_letTemporaryGo (wpAny_pure h₃))) λ_ _ x=>x)
 first
  |exact wpAny_pure (wpAny_bind fin)
  |exact wpAny_bind (wpAny_pure (wpAny_bind fin))
  |exact wpAny_bind fin
theorem Ac{X:Cx}{pins:List (Addr×Obj)}{σ:St}{H:Hp}{s:Shared}{a:Addr}{y:V}{o:Option V}(I:bu X pins σ H s)(g:rg H a y o):s.TypeIs (.ref a) "dict":=by
 rcases g with⟨kvs,k,e,_,_⟩|⟨kvs,k,b,e,_,_,_⟩
 ·obtain⟨_,_,vs,_,dd⟩:=qe I.hok e
  exact dd.typeIs
 ·obtain⟨_,_,xs,_,dd⟩:=uk I.hok e
  exact dd.typeIs
def oB(td ty:TE):TE:=λσ H Q=>td σ H λx H1=>ty σ H1 λy H2=>∃a v,x=.ref a/\rg H2 a y (some v)/\Q v H2
section
variable{X:Cx}{o i e value:Expr}{pos pos' tpos:Pos}{td ty tv:TE}
theorem Ke(hu:X.A.units+1<cLine)(ho:PE X o td)(hi:PE X i ty)(hs:F1 i):PE X (.Subscript o i pos) (oB td ty):=by
 intro pins s σ H Q I h
 refine Eg PySem.F.slot_dict_getitem.lookup hs (eJ (ho pins s σ H _ I h) λu s1 ⟨x,H1,I1,rx,q1⟩=>eJ (hi pins s1 σ H1 _ I1 q1) λiv s2 ⟨y,H2,I2,ry,a,v,ex,g,q2⟩=>?_)
 subst ex
 obtain rfl:u=Value.ref a:=rx
 exact⟨Ac I2 g,EV hu I2 g ry λw' s3 I3 rw'=>⟨v,H2,I3,rw',q2⟩⟩
end
theorem Gv{P:Program}{w:World}{H:Hp}(h:Heap)(hb:sysModules<h.objs.size):d4 P w H (h.push {cls:=.type "dict",data:=.dict #[]}) h.objs.size (.dK []):=
 ⟨a8 _,beq_eq_false_iff_ne.mpr (Ne.symm (aO hb)),[],.nil,Heap.DictOf.new h⟩
theorem Gz{P:Program}{w:World}{H:Hp}(h:Heap)(hb:sysModules<h.objs.size):d4 P w H (h.push {cls:=.type "dict",data:=.dict #[]}) h.objs.size (.dT []):=
 ⟨a8 _,beq_eq_false_iff_ne.mpr (Ne.symm (aO hb)),[],.nil,_,#[],0,az _ rfl,⟨rfl,rfl,rfl⟩,rfl,rfl,df⟩
def Dj:TE:=λ_ H Q=>∀p,H p=none->Q (.ref p) (aN H p (.dK []))
def u4:TE:=λ_ H Q=>∀p,H p=none->Q (.ref p) (aN H p (.dT []))
section
variable{X:Cx}{pos:Pos}
theorem Hk:PE X (.Dict [] [] pos) Dj:=λpins s σ H Q I h=>
 wpAny_Dict_empty ⟨.ref s.heap.objs.size,_,I.laid (a:=s.heap.objs.size) (o:=.dK []) (t':=s.toks) (λ_ _ q=>ag _ q) (aw _) (Gv s.heap I.big),rfl,h _ (I.hok.fresh (aw _))⟩
theorem Hm:PE X (.Dict [] [] pos) u4:=λpins s σ H Q I h=>
 wpAny_Dict_empty ⟨.ref s.heap.objs.size,_,I.laid (a:=s.heap.objs.size) (o:=.dT []) (t':=s.toks) (λ_ _ q=>ag _ q) (aw _) (Gz s.heap I.big),rfl,h _ (I.hok.fresh (aw _))⟩
end
structure M1(X:Cx)(o:Expr)(m:Str)(apos:Pos)(e:Expr)(cpos:Pos):Prop where
 base:attributeBase o m X.env (eval o X.env)=eval o X.env
 few:((backTo cpos (starEach [e] X.env)).all (λx=>!x.1)&&(backToKw cpos (keywordEach [] X.env)).all (λx=>x.1.isSome)
  && decide (([e]:List Expr).length+([]:List Keyword).length+(if([]:List Keyword).isEmpty then 0 else 1)<30))=true
 line:(apos.endLine==cpos.line)=true
 trees:backTo cpos (starEach [e] X.env)=[(false,eval e X.env)]
structure M2(X:Cx)(o:Expr)(m:Str)(apos:Pos)(e f:Expr)(cpos:Pos):Prop where
 base:attributeBase o m X.env (eval o X.env)=eval o X.env
 few:((backTo cpos (starEach [e,f] X.env)).all (λx=>!x.1)&&(backToKw cpos (keywordEach [] X.env)).all (λx=>x.1.isSome)
  && decide (([e,f]:List Expr).length+([]:List Keyword).length+(if([]:List Keyword).isEmpty then 0 else 1)<30))=true
 line:(apos.endLine==cpos.line)=true
 trees:backTo cpos (starEach [e,f] X.env)=[(false,eval e X.env),(false,eval f X.env)]
def N8(H:Hp)(a:Addr):Prop:=(∃kvs,Rd H a (.dK kvs))\/∃kvs,Rd H a (.dT kvs)
theorem yu{X:Cx}{pins:List (Addr×Obj)}{σ:St}{H:Hp}{s:Shared}{a:Addr}(I:bu X pins σ H s)(d:N8 H a) :
  s.TypeIs (.ref a) "dict"/\(∀b,Value.ref a=.ref b->∃ob,s.heap.get? b=some ob/\ob.dict=none)/\(a==sysModules)=false:=by
 rcases d with⟨kvs,e⟩|⟨kvs,e⟩
 ·obtain⟨_,hd,vs,_,dd⟩:=qe I.hok e
  refine⟨dd.typeIs,λb q=>?_,hd⟩
  cases q
  obtain⟨ob,_,_,h1,h2,_⟩:=dd
  exact⟨ob,h1,h2.2.1⟩
 ·obtain⟨_,hd,xs,_,dd⟩:=uk I.hok e
  refine⟨dd.typeIs,λb q=>?_,hd⟩
  cases q
  obtain⟨ob,_,_,h1,h2,_⟩:=dd
  exact⟨ob,h1,h2.2.1⟩
section
variable{X:Cx}{pins:List (Addr×Obj)}{σ:St}{H:Hp}{s:Shared}{a:Addr}{y d:V}{u r:Value}{o:Option V}{A:Around}{E:Value->Shared->Prop}
theorem LL{Q:Value->Shared->Prop}(hu:A.units+1<cLine)(I:bu X pins σ H s)(g:rg H a y o)(ry:b7 y u)(h:∀w' s',bu X pins σ H s'->b7 (o.getD .non) w'->Q w' s') :
  wpAny (model X.prog X.w) A (call (.builtin "dict.get") [.ref a,u]) Q E s:=by
 rcases g with⟨kvs,k,e,ey,l⟩|⟨kvs,k,b,e,ey,eb,l⟩
 ·subst ey
  obtain⟨z,hd,vs,rel,dd⟩:=qe I.hok e
  refine call_meetsIn ie dd.typeIs PySem.F.entry_dict_get (PySem.F.args_dict_get_2 _ _) (meets_dict_get (eF X.prog X.w) a (sv ry) hd) ⟨_,dd.mapOf,h _ _ (I.tok _) ?_⟩
  rw[l]
  exact(rel.val k).getD rfl
 ·subst ey
  cases(show u=Value.ref b from ry)
  obtain⟨z,hd,xs,rel,dd⟩:=uk I.hok e
  refine call_meetsIn ie dd.typeIs PySem.F.entry_dict_get (PySem.F.args_dict_get_2 _ _) (meetsH_dict_get (tupleKind (cL X.prog X.w)) a b hd) ⟨tupleKind_room_in1 hu,k,xs,mC I.hok eb,dd,h _ _ (I.tok _) ?_⟩
  rw[l]
  exact(rel.val k).getD rfl
end
def Dh(td ty:TE):TE:=λσ H Q=>td σ H λx H1=>∃a,x=.ref a/\N8 H1 a/\ty σ H1 λy H2=>∃o,rg H2 a y o/\Q (o.getD .non) H2
def Dl(td ty:TE):TE:=λσ H Q=>td σ H λx H1=>∃a,x=.ref a/\N8 H1 a/\ty σ H1 λy H2=>∃kvs k v,H2 a=some (.dK kvs)/\y=kV k/\cW kvs k=some v/\Q v (aN H2 a (.dK (jP kvs k)))
section
variable{X:Cx}{o e f:Expr}{apos cpos:Pos}{td ty tx:TE}
theorem Hi(hu:X.A.units+1<cLine)(ho:PE X o td)(he:PE X e ty)(m:M1 X o "get" apos e cpos):PE X (.Call (.Attribute o "get" apos) [e] [] cpos) (Dh td ty):=by
 intro pins s σ H Q I h
 refine wpAny_Call_method m.base m.few m.line eT ie PySem.F.type_dict_get (eJ (ho pins s σ H _ I h) λu s1 ⟨x,H1,I1,rx,a,ex,d,q1⟩=>?_)
 subst ex
 obtain rfl:u=Value.ref a:=rx
 obtain⟨t1,t2,_⟩:=yu I1 d
 refine⟨t1,t2,?_⟩
 rw[m.trees]
 refine Calls.callWith_builtin rfl (Calls.evalArgs_plain (Calls.spliced_cons (eJ (he pins s1 σ H1 _ I1 q1) λiv s2 ⟨y,H2,I2,ry,ov,g,q2⟩=>Calls.spliced_nil ?_)))
 exact LL hu I2 g ry λw' s3 I3 rw'=>⟨_,H2,I3,rw',q2⟩
theorem Hn(ho:PE X o td)(he:PE X e ty)(m:M1 X o "pop" apos e cpos):PE X (.Call (.Attribute o "pop" apos) [e] [] cpos) (Dl td ty):=by
 intro pins s σ H Q I h
 refine wpAny_Call_method m.base m.few m.line eT PySem.F.slot_dict_pop PySem.F.type_dict_pop (eJ (ho pins s σ H _ I h) λu s1 ⟨x,H1,I1,rx,a,ex,d,q1⟩=>?_)
 subst ex
 obtain rfl:u=Value.ref a:=rx
 obtain⟨t1,t2,_⟩:=yu I1 d
 refine⟨t1,t2,?_⟩
 rw[m.trees]
 refine Calls.callWith_builtin rfl (Calls.evalArgs_plain (Calls.spliced_cons (eJ (he pins s1 σ H1 _ I1 q1) λiv s2 ⟨y,H2,I2,ry,kvs,k,v,ea,ey,l,q2⟩=>Calls.spliced_nil ?_)))
 subst ey
 exact Nl I2 ea ry l (.inl rfl) λw' s3 I3 rw'=>⟨v,_,I3,rw',q2⟩
end
section
variable{X:Cx}{pins:List (Addr×Obj)}{σ:St}{H:Hp}{s:Shared}{a:Addr}{kvs:List (ky×V)}{A:Around}{E:Value->Shared->Prop}
end
section
variable{X:Cx}{pins:List (Addr×Obj)}{σ:St}{H:Hp}{s:Shared}{a:Addr}{y:V}{u:Value}{A:Around}{E:Value->Shared->Prop}
end
section
variable{X:Cx}
theorem ER:iO X (.builtin "len") (λxs H Q=>∃a kvs,xs=[V.ref a]/\H a=some (.dK kvs)/\Q (.int kvs.length) H):=by
 intro pins s σ H xs us Q I r h
 obtain⟨a,kvs,rfl,ha,q⟩:=h
 obtain⟨u,rfl,ru⟩:=kM r
 cases ru
 exact Nk I (.inl ha) λt s' I'=>⟨.int kvs.length,H,I',⟨t,rfl⟩,q⟩
end
section
variable{κ:Type}[DecidableEq κ]
theorem IW{kvs:List (κ×V)}{k:κ}(h:cW kvs k=none):¬k∈kvs.map (·.1):=by
 intro m
 obtain⟨p,hp,e⟩:=aD.mp m
 have q:(kvs.any λkv=>decide (kv.1=k))=true:=fW.mpr ⟨p,hp,decide_eq_true e⟩
 rw[kL,h] at q
 exact absurd q (by simp)
theorem EA{kvs:List (κ×V)}{k:κ}{v:V}(h:cW kvs k=some v):k∈kvs.map (·.1):=by
 have q:(kvs.any λkv=>decide (kv.1=k))=true:=by
  rw[kL,h]
  all_goals rfl
 obtain⟨p,hp,e⟩:=fW.mp q
 exact aD.mpr ⟨p,hp,of_decide_eq_true e⟩
end
def HR(neg:Bool):R2:=λx y H Q=>∃a o,y=.ref a/\rg H a x o/\Q (.bl (if neg then !o.isSome else o.isSome)) H
def D8:V->V->V->Hp->(Hp->Prop)->Prop:=λo i v H Q=>∃a H',o=.ref a/\BH H a i v H'/\Q H'
section
variable{X:Cx}
theorem Mg(hu:X.A.units+1<cLine):jf X (compareOp .In) (HR false):=by
 intro pins s σ H x y v u Q I rx ry h
 obtain⟨a,o,rfl,g,q⟩:=h
 cases ry
 exact Ot hu I g rx λs' I'=>⟨.bl o.isSome,H,I',rfl,q⟩
theorem xh(hu:X.A.units+1<cLine):jf X (compareOp .NotIn) (HR true):=by
 intro pins s σ H x y v u Q I rx ry h
 obtain⟨a,o,rfl,g,q⟩:=h
 cases ry
 exact JH hu I g rx λs' I'=>⟨.bl (!o.isSome),H,I',rfl,q⟩
theorem uU(hu:X.A.units+1<cLine):F8 X D8:=by
 intro pins s σ H o i v ov iv u Q I ro ri rv h
 obtain⟨a,H',rfl,g,q⟩:=h
 cases ro
 exact EW hu I g ri rv λs' I'=>⟨H',I',q⟩
end
section
variable{P:Program}{w:World}{K:Fg}{mg:Str->Option Value}{base:Heap}
end
theorem HG{X:Cx}{pos:Pos}:QE X (.Dict [] [] pos) Dj:=⟨Hk⟩
end L2
end
section
namespace PySem.W
open PySem PySem.Calls PyProof.Rows PyProof.V PySem.Spec
theorem CK:typeLookup (.type "list_reverseiterator") "__len__"=pure none:=by rw[typeLookup_type,builtinLookup_eq_fast];kernel_rfl
theorem G1:typeLookup (.type "list_reverseiterator") "__length_hint__"=pure (some (.builtin "list_reverseiterator.__length_hint__")):=by rw[typeLookup_type,builtinLookup_eq_fast];kernel_rfl
section
variable{prog:Program}{w:World}{A:Around}{E:Value->Shared->Prop}{s:Shared}{r l:Addr}
theorem GM{Q:Bool->Shared->Prop}(hT:s.TypeIs (.ref r) "list_reverseiterator")(h:Q false s):wpAny (model prog w) A (Builtin.List.listLengthHint (.ref r)) Q E s:=by
 unfold Builtin.List.listLengthHint
 refine wpAny_bind (wpAny_specialOf hT CK ?_)
 refine wpAny_ite_split (λhab=>absurd hab (by decide)) (λ_=>?_)
 refine wpAny_ite_split (λhab=>absurd hab (by decide)) (λ_=>?_)
 refine wpAny_bind (wpAny_specialOf hT G1 ?_)
 generalize hid:("list_reverseiterator.__length_hint__":String)=id0
 wp_delta
 rw[show splitId id0=some ("list_reverseiterator","__length_hint__") from by subst hid;decide +kernel]
 subst hid
 refine wpAny_bind (wpAny_isInstance (T:="list_reverseiterator") (b:=true) hT (by rw[isSubtype_type];kernel_rfl) ?_)
 refine wpAny_ite_split (λhab=>absurd hab (by decide)) (λ_=>?_)
 refine wpAny_ite_split (λ_=>?_) (λhab=>absurd (by decide +kernel) hab)
 refine wpAny_ite_split (λhab=>absurd hab (by decide +kernel)) (λ_=>?_)
 exact wpAny_pure h
theorem C6{items:Array Value}{R:Result->Shared->Prop}(hh:A.handled=none)(hl:s.heap.IsList l items)(hit:s.heap.IsRevIter r l ((items.size:Int)-1))(hne:l≠r)(S:Addr)(hSr:S≠r)(hSl:S≠l)(res:Value)(c₀:Nat)(hS:s.heap.get? S=some {cls:=.type "list",data:=.seq #[] c₀})
  (hR:∀h' tk acc' c',(∀b o,b≠S->b≠r->s.heap.get? b=some o->h'.get? b=some o)->h'.get? S=some {cls:=.type "list",dict:=none,data:=.seq acc' c',slots:=#[]}->ItemsOf (λi v=>items[items.size-1-i]?=some v) acc' items.size->R (.ok (.ret res)) {s with heap:=h',toks:=tk}) (hn:items.size<=sizeLine) :
  wpAny (model prog w) A.in1 (Builtin.List.listExtendWith (.ref S) (.ref r) res)
   (λfin s'=>match fin with|.done f=>R (.ok f) s'|.again c'=>c'.quiet=true/\codeAny (model prog w) A c' R s') (λe s'=>R (.error e) s') s:=by
 have hSf:S∉[r,l]:=by simp only[aM,cF,or_false,not_or];exact⟨hSr,hSl⟩
 have W:=Walks.listRev (prog:=prog) (w:=w) (A:=A.in1) hh r l hne items
 have key:∀(h:Heap) (c₁ tk:Nat),(0<=items.size/\h.IsRevIter r l ((items.size:Int)-1-((0:Nat):Int))/\h.IsList l items)->(∀b o,b≠S->s.heap.get? b=some o->h.get? b=some o)->
   h.get? S=some {cls:=.type "list",data:=.seq #[] c₁}->codeAny (model prog w) A (.builtin "list.extend.loop" ⟨[.ref S,.ref r,res],[]⟩) R {s with heap:=h,toks:=tk}:=by
  intro h c₁ tk hst hk hS₁
  refine codeAny_extend_loopS W.toS hn S hSf res items.size 0 _ #[] c₁ rfl (a8 _) hst hS₁ (ItemsOf.nil _) λs' acc' c' hm hS' hacc=>?_
  rw[Moved.eq_with hm]
  refine hR s'.heap s'.toks acc' c' (λb o hb hbr e=>hm.heap b o (λhmem=>?_) (hk b o hb e)) hS' hacc
  rcases aM.mp hmem with e'|hmem
  ·exact hb e'
  ·exact hbr (aj.mp hmem)
 have st0:0<=items.size/\s.heap.IsRevIter r l ((items.size:Int)-1-((0:Nat):Int))/\s.heap.IsList l items:=⟨a8 _,(by have e:(items.size:Int)-1-((0:Nat):Int)=(items.size:Int)-1:=(by omega);rw[e];exact hit),hl⟩
 unfold Builtin.List.listExtendWith
 refine wpAny_bind (wpAny_typeOf (T:="list_reverseiterator") hit.typeIs ?_)
 have h1:Builtin.List.listSameRef (.ref S) (.ref r)=false:=by simp[Builtin.List.listSameRef,hSr]
 have h2:(Value.type "list_reverseiterator"==Value.type "list")=false:=by decide
 have h3:(Value.type "list_reverseiterator"==Value.type "tuple")=false:=by decide
 simp only[h1,h2,h3,Bool.or_false,Bool.false_eq_true,if_false]
 refine wpAny_bind (wpAny_pyIter_revIter hit ?_)
 refine wpAny_bind (wpAny_holding (GM hit.typeIs ?_))
 refine wpAny_ite_split (λ_=>?_) (λ_=>wpAny_pure ⟨plainId_quiet d9 _,key _ c₀ _ st0 (λb o _ e=>e) hS⟩)
 refine wpAny_bind (wpAny_rule ?_)
 refine wpAny_bind ?_
 show wpAny _ _ (updateSeq S (·.push .none) >>= λ_=>updateSeq S (·.pop)) _ _ _
 refine wpAny_bind (wpAny_updateSeq hS rfl ?_)
 have hS₂:=b9 (Obj.mapSeq (·.push Value.none)) hS rfl
 refine wpAny_updateSeq (hz:=by seq_fits) hS₂ rfl ?_
 have hS₃:=b9 (Obj.mapSeq (·.pop)) hS₂ rfl
 refine wpAny_pure ⟨plainId_quiet d9 _,key _ _ _ ?_ (λb o hb e=>?_) hS₃⟩
 ·refine W.frame 0 _ _ st0 λb hb o e=>?_
  have hbS:b≠S:=λh=>hSf (h ▸ hb)
  exact(bI _ _ (Ne.symm hbS)).trans ((bI _ _ (Ne.symm hbS)).trans e)
 ·exact(bI _ _ (Ne.symm hb)).trans ((bI _ _ (Ne.symm hb)).trans e)
theorem Il{items:Array Value}{R:Result->Shared->Prop}(hh:A.handled=none)(hl:s.heap.IsList l items)(hit:s.heap.IsRevIter r l ((items.size:Int)-1))(hne:l≠r)(S:Addr)(hSr:S≠r)(hSl:S≠l)(hS:s.heap.get? S=some {cls:=.type "list",data:=.seq #[]})
  (hR:∀h' tk acc' c',(∀b o,b≠S->b≠r->s.heap.get? b=some o->h'.get? b=some o)->h'.get? S=some {cls:=.type "list",dict:=none,data:=.seq acc' c',slots:=#[]}->ItemsOf (λi v=>items[items.size-1-i]?=some v) acc' items.size->R (.ok (.ret .none)) {s with heap:=h',toks:=tk}) (hn:items.size<=sizeLine) :
  wpAny (model prog w) A.in1 (Builtin.«list.__init__» ⟨[.ref S,.ref r],[]⟩)
   (λfin s'=>match fin with|.done f=>R (.ok f) s'|.again c'=>c'.quiet=true/\codeAny (model prog w) A c' R s') (λe s'=>R (.error e) s') s:=by
 show wpAny _ _ (do let old <-Builtin.List.listItems (.ref S);Builtin.List.listUpdate (.ref S) (λ_=>#[]);letGo old.toList.reverse;Builtin.List.listExtendWith (.ref S) (.ref r) .none) _ _ s
 refine wpAny_bind ?_
 unfold Builtin.List.listItems
 refine wpAny_bind (wpAny_seqItems hS rfl (wpAny_pure ?_))
 show wpAny _ _ (updateSeq S (λ_=>#[]) >>= λ_=>letGo (#[]:Array Value).toList.reverse >>= λ_=>Builtin.List.listExtendWith (.ref S) (.ref r) .none) _ _ s
 refine wpAny_bind (wpAny_updateSeq hS rfl ?_)
 have hS₂:=b9 (Obj.mapSeq (λ_=>(#[]:Array Value))) hS rfl
 have oth:∀b o,b≠S->s.heap.get? b=some o->(s.heap.update S (Obj.mapSeq (λ_=>(#[]:Array Value)))).get? b=some o:=
  λb o hb e=>(bI _ _ (Ne.symm hb)).trans e
 refine wpAny_bind (wpAny_letGo ?_)
 refine C6 (items:=items) hh (hl.at λo e=>oth l o hSl.symm e) (hit.at λo e=>oth r o hSr.symm e) hne S hSr hSl .none _ hS₂ (λh' tk acc' c' hk hS' hacc=>?_) hn
 exact hR h' tk acc' c' (λb o hb hbr e=>hk b o hb hbr (oth b o hb e)) hS' hacc
theorem call_list_rev{items:Array Value}{Q:Value->Shared->Prop}(hh:A.handled=none)(hl:s.heap.IsList l items)(hit:s.heap.IsRevIter r l ((items.size:Int)-1))(hne:l≠r)(hn:items.size<=sizeLine)
  (hQ:∀h' tk acc' c',(∀b o,b≠r->s.heap.get? b=some o->h'.get? b=some o)->h'.get? s.heap.objs.size=some {cls:=.type "list",dict:=none,data:=.seq acc' c',slots:=#[]}->ItemsOf (λi v=>items[items.size-1-i]?=some v) acc' items.size->Q (.ref s.heap.objs.size) {s with heap:=h',toks:=tk}) :
  wpAny (model prog w) A (call (.type "list") [.ref r]) Q E s:=by
 refine callType_codes (Q₁:=λobj s₁=>obj=.ref s.heap.objs.size/\s₁={s with heap:=s.heap.push {cls:=.type "list",data:=.seq #[]}}) PySem.F.called_list (PySem.F.typeCall_list_1 _) PySem.F.entry_list_init
  (code_list_new _ ⟨rfl,rfl⟩) λobj s₁ h₁=>?_
 obtain⟨rfl,rfl⟩:=h₁
 have hS:(s.heap.push {cls:=.type "list",data:=.seq #[]}).get? s.heap.objs.size=some {cls:=.type "list",data:=.seq #[]}:=az _ rfl
 have lr:r<s.heap.objs.size:=let⟨_,ho,_⟩:=hit;aF ho
 have ll:l<s.heap.objs.size:=let⟨_,ho,_⟩:=hl;aF ho
 refine⟨⟨_,hS,rfl⟩,PySem.F.args_list_init_2 _ _,Il (A:=A.in1) (items:=items) hh (hl.at λo e=>ag _ e) (hit.at λo e=>ag _ e) hne _ (cT lr) (cT ll) hS (λh' tk acc' c' hk hS' hacc=>?_) hn⟩
 exact⟨rfl,hQ h' tk acc' c' (λb o hb e=>hk b o (aO (aF e)) hb (ag _ e)) hS' hacc⟩
end
end PySem.W
namespace L2
open PySem PySem.Spec PyProof.Rows
def qI(K:Fg)(t:TA):TE:=λσ H Q=>t σ H λvs H1=>∃p ys,vs=[.ref p]/\cq K H1 p ys/\∀l,H1 l=none->Q (.ref l) (aN H1 l (.lst ys.reverse))
section
variable{X:Cx}
theorem Im{ys:List V}{its:List Value}{acc:Array Value}(r:b5 ys its)(h:ItemsOf (λi v=>its.toArray[its.toArray.size-1-i]?=some v) acc its.toArray.size):b5 ys.reverse acc.toList:=by
 have e:acc.toList=its.reverse:=by
  apply eA
  intro i
  by_cases hi:i<its.length
  ·have hs:acc.size=its.length:=by have:=h.1;simpa using this
   have h1:acc[i]?=some acc[i]:=aW (by omega)
   have h2:=h.2 i _ h1
   rw[bM,h1,bV hi]
   simpa using h2.symm
  ·have hs:acc.size=its.length:=by have:=h.1;simpa using this
   rw[bg (by rw[bH];omega),bg (by rw[bO];omega)]
 rw[e]
 exact r.reverse
theorem CQ{a:Expr}{ta:TA}{p1 p2 pos pos2:Pos}(hg:Gl X "list")(hg2:Gl X "reversed")(hm:X.mg "list"=none)(hm2:X.mg "reversed"=none)(hc:X.calm=true)(ha:PA X [a] ta)
  (hs2:starEach [a] X.env=[(false,eval a X.env)]:=by rfl) (hs:starEach [.Call (.Name "reversed" p2) [a] [] pos2] X.env=[(false,eval (.Call (.Name "reversed" p2) [a] [] pos2) X.env)]:=by rfl) :
  PE X (.Call (.Name "list" p1) [.Call (.Name "reversed" p2) [a] [] pos2] [] pos) (qI X.K ta):=by
 intro pins s σ H Q I h
 refine wpAny_Call_Name_kw (i8 I hg hm boot_list ?_)
 refine bw ?_ hs rfl
 rw[hs]
 show wpAny _ _ (spliced ((false,eval (.Call (.Name "reversed" p2) [a] [] pos2) X.env)::backTo pos [])) _ _ s
 refine Calls.spliced_cons ?_
 refine wpAny_Call_Name_kw (i8 I hg2 hm2 boot_reversed ?_)
 refine bw (eJ (ha pos2 pins s σ H _ I h) λus s1 ⟨vs,H1,I1,r1,q1⟩=>?_) hs2 rfl
 obtain⟨l,ys,rfl,hq,q⟩:=q1
 obtain⟨u,rfl,rx⟩:=kM r1
 cases rx
 obtain⟨its,rv,pl,hz⟩:=I1.list hq
 have ll:l<s1.heap.objs.size:=let⟨_,ho,_⟩:=pl.isList;aF ho
 refine call_reversed_list pl.isList (Calls.spliced_nil ?_)
 have hlen:=rv.length
 refine PySem.W.call_list_rev (items:=its.toArray) (I1.ok.hd hc) (pl.isList.push _) ⟨_,az _ rfl,rfl,rfl⟩ (aO ll) (by rw[au,<-hlen];exact hz) λh' tk acc c' hk hS hacc=>?_
 have sz:(s1.heap.push (revObj l ((its.toArray.size:Int)-1))).objs.size=s1.heap.objs.size+1:=size_push' ..
 have kp:∀b o,s1.heap.get? b=some o->h'.get? b=some o:=λb o e=>hk b o (aO (aF e)) (ag _ e)
 refine⟨.ref (s1.heap.push (revObj l ((its.toArray.size:Int)-1))).objs.size,_,I1.laid (t':=tk) kp (by rw[sz];exact eD _) (show d4 X.prog X.w _ h' _ (.lst ys.reverse) from⟨by rw[bO];exact hz,acc.toList,c',Im rv hacc,?_⟩),rfl,q _ (I1.hok.fresh (by rw[sz];exact eD _))⟩
 rw[iL];exact hS
theorem uI{a:Expr}{ta:TA}{p1 p2 pos pos2:Pos}(hg:Gl X "list")(hg2:Gl X "reversed")(hm:X.mg "list"=none)(hm2:X.mg "reversed"=none)(hc:X.calm=true)(ha:QA X [a] ta)
  (hs2:starEach [a] X.env=[(false,eval a X.env)]:=by rfl) (hs:starEach [.Call (.Name "reversed" p2) [a] [] pos2] X.env=[(false,eval (.Call (.Name "reversed" p2) [a] [] pos2) X.env)]:=by rfl) :
  QE X (.Call (.Name "list" p1) [.Call (.Name "reversed" p2) [a] [] pos2] [] pos) (qI X.K ta):=⟨CQ hg hg2 hm hm2 hc ha.up hs2 hs⟩
end
end L2
end
section
namespace HT
open PySem PyProof.Rows
section
variable{prog:Program}{w:World}{A:Around}{E:Value->Shared->Prop}{s:Shared}
theorem cat_tup0{t b:Addr}{vs ws:List Value}{Q:Value->Shared->Prop}(ht:IsTup s.heap t vs.toArray)(hb:IsTup s.heap b ws.toArray)(hv:vs=[])(h:Q (.ref b) s):wpAny (model prog w) A (binaryOp .Add (.ref t) (.ref b)) Q E s:=by
 obtain⟨⟨cls,dd,data,sl⟩,ho,hc,n,hd⟩:=id ht
 obtain⟨⟨cls2,dd2,data2,sl2⟩,ho2,hc2,n2,hd2⟩:=id hb
 simp only at hc hd hc2 hd2
 subst hc hd hc2 hd2
 exact concat_meets ⟨_,ho,rfl⟩ ⟨_,ho2,rfl⟩ noFill_tuple_add seq_tuple_add gW gK (gf _ _)
   (tuple_addW0 t b vs.toArray ws.toArray n n2 dd dd2 sl sl2 (by simp[hv])) ⟨ho,ho2,h⟩
theorem getItem_tuple_all{t sl:Addr}{items:Array Value}{vl vu:Value}{lo hi:Option Int}{Q:Value->Shared->Prop}(ht:IsTup s.heap t items)(hs:s.heap.IsSliceOf sl vl vu .none)(pl:IsPart vl lo)(pu:IsPart vu hi)
  (hw:sIx items.size 0 lo=0/\sIx items.size items.size hi=items.size) (h:Q (.ref t) s):wpAny (model prog w) A (getItem (.ref t) (.ref sl)) Q E s:=by
 obtain⟨os,hos,hcs,hds⟩:=id hs
 have hTs:s.TypeIs (.ref sl) "slice":=⟨os,hos,hcs⟩
 unfold getItem
 try with_reducible refine wpAny_holding ?_
 first|refine wpAny_bind (wpAny_pure ?_)|skip
 refine wpAny_bind (wpAny_sequenceKey ht.typeIs (by decide) ?_)
 refine wpAny_bind (wpAny_callSpecial?_slot (name:=Str.ofString "__getitem__") ht.typeIs dw
  (wpAny_call_entry dw ht.typeIs entry_tuple_getitem ?_ (args_tuple_getitem _ _)))
 show wpAny _ _ (Builtin.Tuple.tupleItemsOf (.ref t) >>= _) _ _ s
 refine wpAny_bind (tupleItemsOf_ ht ?_)
 refine wpAny_bind (wpAny_typeOf hTs ?_)
 rw[if_pos (by decide)]
 refine wpAny_bind (kK hs pl pu ?_)
 have hyes:(((sIx items.size 0 lo:Nat):Int)==0&&(1:Int)==1&&(sIx items.size items.size hi-sIx items.size 0 lo)==items.size)=true:=by
  rw[hw.1,hw.2];simp
 show wpAny _ _ (if(((sIx items.size 0 lo:Nat):Int)==0&&(1:Int)==1&&(sIx items.size items.size hi-sIx items.size 0 lo)==items.size)=true then _ else _) _ _ s
 rw[if_pos hyes]
 refine wpAny_bind (m:=Builtin.Tuple.tupleIsExact (.ref t)) ?_
 unfold Builtin.Tuple.tupleIsExact
 refine wpAny_bind (wpAny_typeOf ht.typeIs (wpAny_pure ?_))
 rw[if_pos (by decide)]
 exact wpAny_bind (wpAny_rule (wpAny_pure ⟨_,rfl,wpAny_pure h⟩))
end
end HT
namespace L2
open PySem PySem.Spec PyProof.Rows
section
variable{X:Cx}
def HN(K:Fg):R2:=λx y H Q=>∃a b ys,x=.ref a/\y=.ref b/\cE K H a []/\cE K H b ys/\Q (.ref b) H
theorem G8:jf X (binaryOp .Add) (HN X.K):=by
 intro pins s σ H x y v u Q I rx ry h
 obtain⟨a,b,ys,rfl,rfl,ha,hb,q⟩:=h
 cases rx
 cases ry
 obtain⟨its,r1,p1,_⟩:=I.tuple ha
 obtain⟨its2,r2,p2,_⟩:=I.tuple hb
 exact HT.cat_tup0 p1 p2 (r1.nil_iff.mpr rfl) ⟨.ref b,H,I,rfl,q⟩
def pL(K:Fg):R2:=λx y H Q=>HN K x y H Q\/dq K x y H Q
theorem mH:jf X (binaryOp .Add) (pL X.K):=G8.or bX
def Lr(K:Fg):V->Option Int->Option Int->Hp->VK->Prop:=λx lo hi H Q=>∃a xs,x=.ref a/\cE K H a xs/\(HT.sIx xs.length 0 lo=0/\HT.sIx xs.length xs.length hi=xs.length)/\Q (.ref a) H
theorem K2:Ga X (Lr X.K):=by
 intro pins s σ H x v vl vu lo hi sl Q I rx hs pl pu h
 obtain⟨a,xs,rfl,hx,hw,q⟩:=h
 cases rx
 obtain⟨its,r,ht,hz⟩:=I.tuple hx
 have hlen:its.toArray.size=xs.length:=by rw[au];exact r.length.symm
 refine⟨"tuple",_,dw.lookup,ht.typeIs,?_⟩
 exact HT.getItem_tuple_all ht hs pl pu (by rw[hlen];exact hw) ⟨.ref a,H,I,rfl,q⟩
def MN(K:Fg):V->Option Int->Option Int->Hp->VK->Prop:=λx lo hi H Q=>Lr K x lo hi H Q\/FH K x lo hi H Q
theorem K1:Ga X (MN X.K):=K2.or ko
def Lm(K:Fg):R2:=λx y H Q=>∃p q xs,x=.ref p/\y=.ref q/\cE K H p xs/\cE K H q []/\Q (.bl (decide (xs=[]))) H
theorem J7(hu:X.A.units<cLine):jf X (compareOp .Eq) (Lm X.K):=by
 intro pins s σ H x y v u Q I rx ry h
 obtain⟨p,q,xs,rfl,rfl,h1,h2,qq⟩:=h
 cases rx
 cases ry
 obtain⟨us,r1,t1,_⟩:=I.tuple h1
 obtain⟨vs,r2,t2,_⟩:=I.tuple h2
 have ev:vs=[]:=r2.nil_iff.mpr rfl
 subst ev
 refine SeqAt.eq_tupleAt (e:=λ_=>true) (show s.heap.IsTuple p us.toArray from t1) (show s.heap.IsTuple q ([]:List Value).toArray from t2) hu (λj h1 h2=>absurd h2 (by simp)) ⟨.bl (decide (xs=[])),H,I,?_,qq⟩
 show Value.bool _=Value.bool _
 congr 1
 rw[au,<-r1.length]
 cases xs<;>simp
def NU(K:Fg):R2:=λx y H Q=>Lm K x y H Q\/v7 K x y H Q
theorem Mf(hu:X.A.units<cLine):jf X (compareOp .Eq) (NU X.K):=(J7 hu).or (k8 hu)
end
end L2
end
section
namespace PySem
open Sem (wp)
theorem yB:typeLookup (.type "list") "keys"=pure none:=by rw[typeLookup_type,builtinLookup_eq_fast];kernel_rfl
theorem E5{prog:Program}{w:World}{A:Around}{E:Value->Shared->Prop}{s:Shared}{a:Addr}{xs:Array Value}{k:Nat}{Q:Option Value->Shared->Prop}{sl:Array (Option Value)}
  (hx:s.heap.get? a=some {cls:=.type "list",dict:=none,data:=.seq xs k,slots:=sl}) (hA:A.handled=none)
  (h:∀h' tk,(∀b u,s.heap.get? b=some u->h'.get? b=some u)->Q none {s with heap:=h',toks:=tk}):wpAny (model prog w) A (getAttr? (.ref a) "keys") Q E s:=by
 obtain⟨hp,g,d,tk,os⟩:=s
 have hT:∀tk',(⟨hp,g,d,tk',os⟩:Shared).TypeIs (.ref a) "list":=λ_=>⟨_,hx,rfl⟩
 have f1:=sub_AttributeError
 have f3:=F.slot_list_getattribute.lookup
 have f4:=F.slot_list_getattribute.bind (.ref a)
 have f5:=am_list_getattr_none
 unfold getAttr? getAttrBy? getAttrBy
 repeat (any_goals (first|assumption|exact hT _|((with_reducible show wpAny _ _ (call (Value.builtin "list.__getattribute__") _ _) _ _ _);refine call_meets F.slot_list_getattribute (hT _) am_entry_list_getattribute (F.args_list_getattribute_2 _ _) (meets_getattribute_miss_list a xs k sl "keys" _ yB (by decide +kernel) (by decide +kernel)) ⟨hx,hA,λh' tk' e hx'=>?_⟩)|wp_step))
 obtain⟨t',u',he⟩:=hx'.there
 show wpAny _ _ (getattributeRaised _ _ _ _ _ _ _) _ _ _
 unfold getattributeRaised
 repeat (any_goals (first|assumption|wp_step))
 exact h _ _ hx'.keeps
namespace F
theorem entry_dict_update_loop:entryFor table "dict.update.loop"=some Builtin.«dict.update.loop»:=entryFor_of_tree (by kernel_rfl)
theorem plain_dict_update_loop:plainId "dict.update.loop"=true:=by decide +kernel
end F
def eK(tp:Bool)(h:Heap)(i l:Addr)(k:Nat):Prop:=match tp with
 |true=>h.IsTupleIter i l k
 |false=>h.IsListIter i l k
def fb(tp:Bool)(h:Heap)(l:Addr)(xs:Array Value):Prop:=match tp with
 |true=>h.IsTuple l xs
 |false=>h.IsList l xs
theorem eK.at{tp:Bool}{h h':Heap}{i l:Addr}{k:Nat}(x:eK tp h i l k)(e:∀o,h.get? i=some o->h'.get? i=some o):eK tp h' i l k:=by
 cases tp with
 |true=>exact Heap.IsTupleIter.at (show h.IsTupleIter i l k from x) e
 |false=>exact Heap.IsListIter.at (show h.IsListIter i l k from x) e
theorem fb.at{tp:Bool}{h h':Heap}{l:Addr}{xs:Array Value}(x:fb tp h l xs)(e:∀o,h.get? l=some o->h'.get? l=some o):fb tp h' l xs:=by
 cases tp with
 |true=>obtain⟨o,ho,r⟩:=(show h.IsTuple l xs from x);exact⟨o,e o ho,r⟩
 |false=>exact Heap.IsList.at (show h.IsList l xs from x) e
theorem eK.extBut{tp:Bool}{h h':Heap}{i l b:Addr}{k:Nat}(x:eK tp h i l k)(hs:Heap.ExtBut b h h')(n:i≠b):eK tp h' i l k:=x.at λo e=>hs i o n e
theorem fb.extBut{tp:Bool}{h h':Heap}{l b:Addr}{xs:Array Value}(x:fb tp h l xs)(hs:Heap.ExtBut b h h')(n:l≠b):fb tp h' l xs:=x.at λo e=>hs l o n e
theorem eK.lt{tp:Bool}{h:Heap}{i l:Addr}{k:Nat}(x:eK tp h i l k):i<h.objs.size:=by
 cases tp with
 |true=>obtain⟨o,ho,_⟩:=(show h.IsTupleIter i l k from x);exact aF ho
 |false=>obtain⟨o,ho,_⟩:=(show h.IsListIter i l k from x);exact aF ho
theorem fb.lt{tp:Bool}{h:Heap}{l:Addr}{xs:Array Value}(x:fb tp h l xs):l<h.objs.size:=by
 cases tp with
 |true=>obtain⟨o,ho,_⟩:=(show h.IsTuple l xs from x);exact aF ho
 |false=>obtain⟨o,ho,_⟩:=(show h.IsList l xs from x);exact aF ho
def wW(tp:Bool)(l:Addr):Obj:={cls:=.type (if tp then "tuple_iterator" else "list_iterator"),data:=.fields #[.ref l,.int 0 0]}
section
variable{prog:Program}{w:World}{A:Around}{E:Value->Shared->Prop}{s:Shared}
theorem uF{tp:Bool}{l:Addr}{xs:Array Value}{Q:Value->Shared->Prop}(hl:fb tp s.heap l xs)(hQ:Q (.ref s.heap.objs.size) {s with heap:=s.heap.push (wW tp l)}):wpAny (model prog w) A (pyIter (.ref l)) Q E s:=by
 cases tp with
 |true=>exact wpAny_pyIter_tuple (show s.heap.IsTuple l xs from hl) hQ
 |false=>exact wpAny_pyIter_list (show s.heap.IsList l xs from hl) hQ
theorem Am{tp:Bool}{l:Addr}(h:Heap):eK tp (h.push (wW tp l)) h.objs.size l 0:=by
 cases tp with
 |true=>exact⟨_,az _ rfl,rfl,rfl⟩
 |false=>exact⟨_,az _ rfl,rfl,rfl⟩
theorem ql{it t:Addr}{i:Nat}{items}{x:Value}{Q:Value->Shared->Prop}(hit:s.heap.IsTupleIter it t i)
  (ht:s.heap.IsTuple t items) (hx:items[i]?=some x)
  (hQ:∀h',h'.IsTupleIter it t (i+1)->Heap.SameBut it s.heap h'->Q x {s with heap:=h'}) :
  wpAny (model prog w) A (Builtin.SmallTypes.nextOf (.ref it)) Q E s:=by
 obtain⟨o,ho,hc,hd⟩:=id hit
 obtain⟨ol,hol,_,nl,hdl⟩:=ht
 unfold Builtin.SmallTypes.nextOf
 refine wpAny_bind (wpAny_callSpecial?_slot (name:=Str.ofString "__next__") hit.typeIs F.slot_tuple_iterator_next
  (wpAny_call_entry F.slot_tuple_iterator_next hit.typeIs F.entry_tuple_iterator_next ?_ (F.args_tuple_iterator_next_1 _)))
 show wpAny _ _ (field (.ref it) 0 >>= _) _ _ s
 refine wpAny_bind (wpAny_field ho hd (x:=.ref t) rfl ?_)
 show wpAny _ _ (if(Value.ref t==Value.none)=true then _ else _) _ _ s
 rw[if_neg (show ¬((Value.ref t==Value.none)=true) from Bool.false_ne_true)]
 show wpAny _ _ (field (.ref it) 1 >>= _) _ _ s
 refine wpAny_bind (wpAny_field ho hd (x:=.int i 0) rfl ?_)
 show wpAny _ _ (seqItems? (.ref t) >>= _) _ _ s
 refine wpAny_bind (wpAny_seqItems hol hdl ?_)
 simp only[aU,hx]
 refine wpAny_bind (wpAny_setField ho hd (by simp) (wpAny_pure ⟨x,rfl,wpAny_pure (hQ _ ?_ (Heap.SameBut.update ..))⟩))
 exact⟨_,b9 _ ho (Obj.isFreed_of_fields (Obj.data_mapFields hd _)),(Obj.cls_mapFields ..).trans hc,by
  rw[Obj.data_mapFields hd];simp[rawInt]⟩
theorem rD{it t:Addr}{i:Nat}{items}{Q:Value->Shared->Prop}(hh:A.handled=none)
  (hit:s.heap.IsTupleIter it t i) (ht:s.heap.IsTuple t items) (hx:items[i]?=none)
  (hE:∀h' e,Heap.ExtBut it s.heap h'->(∃o,h'.get? e=some o/\o.cls=.type "StopIteration")->E (.ref e) {s with heap:=h'}):wpAny (model prog w) A (Builtin.SmallTypes.nextOf (.ref it)) Q E s:=by
 obtain⟨o,ho,hc,hd⟩:=id hit
 obtain⟨ol,hol,_,nl,hdl⟩:=ht
 unfold Builtin.SmallTypes.nextOf
 refine wpAny_bind (wpAny_callSpecial?_slot (name:=Str.ofString "__next__") hit.typeIs F.slot_tuple_iterator_next
  (wpAny_call_entry F.slot_tuple_iterator_next hit.typeIs F.entry_tuple_iterator_next ?_ (F.args_tuple_iterator_next_1 _)))
 show wpAny _ _ (field (.ref it) 0 >>= _) _ _ s
 refine wpAny_bind (wpAny_field ho hd (x:=.ref t) rfl ?_)
 show wpAny _ _ (if(Value.ref t==Value.none)=true then _ else _) _ _ s
 rw[if_neg (show ¬((Value.ref t==Value.none)=true) from Bool.false_ne_true)]
 show wpAny _ _ (field (.ref it) 1 >>= _) _ _ s
 refine wpAny_bind (wpAny_field ho hd (x:=.int i 0) rfl ?_)
 show wpAny _ _ (seqItems? (.ref t) >>= _) _ _ s
 refine wpAny_bind (wpAny_seqItems hol hdl ?_)
 simp only[aU,hx]
 refine wpAny_bind (wpAny_rule (wpAny_bind (wpAny_setField ho hd (by simp) ?_)))
 show wpAny _ _ (newExc (.type "StopIteration") [] >>= _) _ _ _
 refine wpAny_bind ?_
 simp only[newExc,newTuple]
 refine wpAny_bind (wpAny_newObj_type ?_ (by size_fits))
 refine wpAny_bind (m:=firstArgMember _ _) (wpAny_of_eq (a:=Value.none) (by first|rfl|(simp only[firstArgMember];rfl)) ?_)
 refine wpAny_newObj_type ?_ (by size_fits)
 simp only[raiseNew]
 refine wpAny_bind (wpAny_handled ?_)
 first|rw[show A.in1.handled=none from hh]|rw[hh]
 refine wpAny_bind (wpAny_pure (wpAny_throw ?_))
 exact hE _ _ (((Heap.SameBut.update ..).extBut.push _).push _) ⟨_,az _ rfl,rfl⟩
theorem sy{tp:Bool}{it l:Addr}{i:Nat}{xs:Array Value}{x:Value}{Q:Value->Shared->Prop}(hit:eK tp s.heap it l i)(hl:fb tp s.heap l xs)(hx:xs[i]?=some x)
  (hQ:∀h',eK tp h' it l (i+1)->Heap.SameBut it s.heap h'->Q x {s with heap:=h'}):wpAny (model prog w) A (Builtin.SmallTypes.nextOf (.ref it)) Q E s:=by
 cases tp with
 |true=>exact ql hit hl hx hQ
 |false=>exact wpAny_nextOf_list_item hit hl hx hQ
theorem uA{tp:Bool}{it l:Addr}{i:Nat}{xs:Array Value}{Q:Value->Shared->Prop}(hh:A.handled=none)(hit:eK tp s.heap it l i)(hl:fb tp s.heap l xs)(hx:xs[i]?=none)
  (hE:∀h' e,Heap.ExtBut it s.heap h'->(∃o,h'.get? e=some o/\o.cls=.type "StopIteration")->E (.ref e) {s with heap:=h'}):wpAny (model prog w) A (Builtin.SmallTypes.nextOf (.ref it)) Q E s:=by
 cases tp with
 |true=>exact rD hh hit hl hx hE
 |false=>exact wpAny_nextOf_list_end hh hit hl hx hE
end
abbrev xP(h:Heap)(z TI TO T0:Addr)(b:Bool):Prop:=
 h.get? z=some {cls:=.type "zip",dict:=none,data:=.fields #[rawInt T0,.bool b,.bool false,.ref TI,.ref TO],slots:=#[]}
section
variable{prog:Program}{w:World}{A:Around}{E:Value->Shared->Prop}{s:Shared}{t1 t2:Bool}
theorem FE{a:Addr}{Q:Option Obj->Shared->Prop}(h:Q (s.heap.get? a) s):wpAny (model prog w) A (loadIfAlive a) Q E s:=λΓ p hin=>by
 show wp _ Γ (Sem.loadIfAlive a Sem.pure) _ _ p s
 rw[Sem.wp_loadIfAlive]
 exact wpAny_pure (M:=model prog w) (A:=A) (E:=E) h Γ p hin
theorem Je{z TI TO T0 i1 i2 l1 l2:Addr}{k1 k2:Nat}{xs ys:Array Value}{b:Bool}{oT:Obj}{Q:Fin->Shared->Prop}(hh:A.handled=none)(D:ZipApart z TI TO i1 i2 l1 l2)
  (hz:xP s.heap z TI TO T0 b) (hTI:IsPair s.heap TI (.ref i1) (.ref i2)) (hT0:s.heap.get? T0=some oT)
  (h1:eK t1 s.heap i1 l1 k1) (h2:eK t2 s.heap i2 l2 k2) (hl1:fb t1 s.heap l1 xs) (hl2:fb t2 s.heap l2 ys) (hend:xs[k1]?=none)
  (hE:∀h' e,(∀c o,c≠z->c≠i1->c≠i2->s.heap.get? c=some o->h'.get? c=some o)->(∃o,h'.get? e=some o/\o.cls=.type "StopIteration")->E (.ref e) {s with heap:=h'}) :
  wpAny (model prog w) A (Builtin.«zip.__next__» ⟨[.ref z],[]⟩) Q E s:=by
 show wpAny _ _ (field (.ref z) 2 >>= _) _ _ _
 refine wpAny_bind (wpAny_field hz rfl (x:=.bool false) rfl ?_)
 show wpAny _ _ (field (.ref z) 3 >>= _) _ _ _
 refine wpAny_bind (wpAny_field hz rfl (x:=.ref TI) rfl ?_)
 refine wpAny_bind (wpAny_seqItems hTI rfl ?_)
 show wpAny _ _ (Builtin.SmallTypes.ownedTupleIsFree (.ref z) >>= _) _ _ _
 refine wpAny_bind ?_
 unfold Builtin.SmallTypes.ownedTupleIsFree
 refine wpAny_bind (wpAny_field hz rfl (x:=rawInt T0) rfl ?_)
 show wpAny _ _ (loadIfAlive (T0:Int).toNat >>= _) _ _ _
 have hn:(T0:Int).toNat=T0:=by lia
 rw[hn]
 refine wpAny_bind (FE ?_)
 rw[hT0]
 show wpAny _ _ (field (.ref z) 1 >>= _) _ _ _
 refine wpAny_bind (wpAny_field hz rfl (x:=.bool b) rfl ?_)
 have key:∀(h₁:Heap) (Q':Value->Shared->Prop),Heap.SameBut z s.heap h₁->wpAny (model prog w) A (Builtin.SmallTypes.nextOf (.ref i1)) Q' E {s with heap:=h₁}:=by
  intro h₁ Q' hs₁
  refine uA hh (h1.extBut hs₁.extBut D.i1z) (hl1.extBut hs₁.extBut D.l1z) hend λh₂ e hs₂ he=>?_
  exact hE h₂ e (λc o c1 c2 _ x=>hs₂ _ _ c2 (hs₁.extBut _ _ c1 x)) he
 cases b with
 |true=>
  rw[if_neg (by decide)]
  refine wpAny_pure ?_
  rw[if_neg (by decide)]
  simp only[List.forIn_toArray,e8,gP]
  refine wpAny_bind (wpAny_bind (wpAny_bind (wpAny_holding ?_)))
  show wpAny _ _ (Builtin.SmallTypes.nextOf (.ref i1) >>= _) _ _ _
  exact wpAny_bind (key s.heap _ (Heap.SameBut.refl ..))
 |false=>
  rw[if_pos (by decide)]
  refine wpAny_bind (wpAny_setField_rec hz (by simp) λh₁ hz₁ hs₁=>?_)
  refine wpAny_pure ?_
  rw[if_neg (by decide)]
  simp only[List.forIn_toArray,e8,gP]
  refine wpAny_bind (wpAny_bind (wpAny_bind (wpAny_holding ?_)))
  show wpAny _ _ (Builtin.SmallTypes.nextOf (.ref i1) >>= _) _ _ _
  exact wpAny_bind (key h₁ _ hs₁)
end
structure LB(z TI TO:Addr)(f:Value)(b:Bool)(h h':Heap):Prop where
 at_:h'.get? z=some {cls:=.type "zip",dict:=none,data:=.fields #[f,.bool b,.bool false,.ref TI,.ref TO],slots:=#[]}
 sm:Heap.SameBut z h h'
section
variable{prog:Program}{w:World}{A:Around}{E:Value->Shared->Prop}{s:Shared}{t1 t2:Bool}
theorem D3{z TI TO:Addr}{f f':Value}{b:Bool}{Q:Unit->Shared->Prop}(hz:s.heap.get? z=some {cls:=.type "zip",dict:=none,data:=.fields #[f,.bool b,.bool false,.ref TI,.ref TO],slots:=#[]})
  (k:∀h',LB z TI TO f' b s.heap h'->Q () {s with heap:=h'}):wpAny (model prog w) A (setField (.ref z) 0 f') Q E s:=
 wpAny_setField_rec hz (by simp) λh' a e=>k h' ⟨a,e⟩
theorem FF{z TI TO i1 i2 l1 l2:Addr}{k1 k2:Nat}{xs ys:Array Value}{x y a b:Value}{Q:Value->Shared->Prop}(D:ZipApart z TI TO i1 i2 l1 l2)
  (hz:IsZip s.heap z TI TO .none) (hTI:IsPair s.heap TI (.ref i1) (.ref i2)) (hTO:IsPair s.heap TO a b)
  (h1:eK t1 s.heap i1 l1 k1) (h2:eK t2 s.heap i2 l2 k2) (hl1:fb t1 s.heap l1 xs) (hl2:fb t2 s.heap l2 ys) (hx:xs[k1]?=some x) (hy:ys[k2]?=some y)
  (k:∀h',xP h' z TI TO s.heap.objs.size false->eK t1 h' i1 l1 (k1+1)->eK t2 h' i2 l2 (k2+1)->IsPair h' s.heap.objs.size x y->IsPair h' TO x y->
   (∀c o,c≠z->c≠TO->c≠i1->c≠i2->s.heap.get? c=some o->h'.get? c=some o)->Q (.ref s.heap.objs.size) {s with heap:=h'}) :
  wpAny (model prog w) A (Builtin.«zip.__next__» ⟨[.ref z],[]⟩) (λfin s'=>∃v,fin=.done (.ret v)/\Q v s') E s:=by
 refine wpAny_bind (m:=field (.ref z) 2) (wpAny_field hz rfl (x:=.bool false) rfl ?_)
 refine wpAny_bind (m:=field (.ref z) 3) (wpAny_field hz rfl (x:=.ref TI) rfl (wpAny_bind (wpAny_seqItems hTI rfl ?_)))
 refine wpAny_bind (m:=Builtin.SmallTypes.ownedTupleIsFree (.ref z)) (wpAny_bind (wpAny_field hz rfl (x:=.none) rfl (wpAny_pure ?_)))
 refine wpAny_bind (wpAny_rule (wpAny_bind (wpAny_field hz rfl (x:=.ref TO) rfl (wpAny_bind (D3 hz λg1 m1=>?_)))))
 simp only[List.zipIdx_cons,List.zipIdx_nil,e8,gP]
 have e1:=m1.sm.extBut
 refine wpAny_bind (wpAny_bind (wpAny_bind (wpAny_onRaise (wpAny_bind (m:=Builtin.SmallTypes.nextOf (.ref i1)) (sy (h1.extBut e1 D.i1z) (hl1.extBut e1 D.l1z) hx λg2 i1' s2=>wpAny_pure ?_)))))
 have e2:=s2.extBut
 have o2:IsPair g2 TO a b:=e2 _ _ D.TOi1 (e1 _ _ D.TOz hTO)
 refine wpAny_bind (wpAny_seqItems o2 rfl (wpAny_bind (wpAny_updateSeq_pair o2 λg3 o3 s3=>wpAny_bind (wpAny_letGo (wpAny_pure ?_)))))
 have e3:=s3.extBut
 replace o3:IsPair g3 TO x b:=o3
 refine wpAny_bind (wpAny_bind (wpAny_onRaise (wpAny_bind (m:=Builtin.SmallTypes.nextOf (.ref i2)) (sy (((h2.extBut e1 D.i2z).extBut e2 D.i12.symm).extBut e3 D.TOi2.symm) (((hl2.extBut e1 D.l2z).extBut e2 D.l2i1).extBut e3 D.l2TO) hy λg4 i2' s4=>wpAny_pure ?_))))
 have e4:=s4.extBut
 have o4:IsPair g4 TO x b:=e4 _ _ D.TOi2 o3
 refine wpAny_bind (wpAny_seqItems o4 rfl (wpAny_bind (wpAny_updateSeq_pair o4 λg5 o5 s5=>wpAny_bind (wpAny_letGo (wpAny_pure (wpAny_pure ?_))))))
 have e5:=s5.extBut
 replace o5:IsPair g5 TO x y:=o5
 refine wpAny_bind (wpAny_seqItems o5 rfl (wpAny_bind (wpAny_newTuple ?_)))
 have size:g5.objs.size=s.heap.objs.size:=(s5.1.trans (s4.1.trans (s3.1.trans (s2.1.trans m1.sm.1))))
 have z5:=ag {cls:=.type "tuple",data:=.seq #[x,y]} (e5 _ _ D.TOz.symm (e4 _ _ D.i2z.symm (e3 _ _ D.TOz.symm (e2 _ _ D.i1z.symm m1.at_))))
 have zl:z≠g5.objs.size:=by rw[size];exact aO (aF hz)
 refine wpAny_bind (m:=Builtin.SmallTypes.ownedTupleHandOut (.ref z) (.ref g5.objs.size)) (wpAny_bind (D3 z5 λg6 m6=>wpAny_setField_rec m6.at_ (by simp) λg7 z7 s7=>wpAny_pure ⟨_,rfl,?_⟩))
 have up:∀c o,c≠z->g5.get? c=some o->g7.get? c=some o:=λc o n e=>s7.extBut _ _ n (m6.sm.extBut _ _ n (ag _ e))
 have pr:IsPair g7 g5.objs.size x y:=s7.extBut _ _ (Ne.symm zl) (m6.sm.extBut _ _ (Ne.symm zl) (az _ rfl))
 rw[size] at pr
 show Q (.ref g5.objs.size) _
 have z7':xP g7 z TI TO g5.objs.size false:=z7
 rw[size] at z7' ⊢
 refine k g7 z7' ?_ ?_ pr (up _ _ D.TOz o5) λc o c1 c2 c3 c4 e=>up c o c1 (e5 _ _ c2 (e4 _ _ c4 (e3 _ _ c2 (e2 _ _ c3 (e1 _ _ c1 e)))))
 ·exact(((i1'.extBut e3 D.TOi1.symm).extBut e4 D.i12).extBut e5 D.TOi1.symm).at λo e=>up _ o D.i1z e
 ·exact(i2'.extBut e5 D.TOi2.symm).at λo e=>up _ o D.i2z e
theorem Jd{z TI TO i1 i2 l1 l2:Addr}{k1 k2:Nat}{xs ys:Array Value}{Q:Fin->Shared->Prop}(hh:A.handled=none)(D:ZipApart z TI TO i1 i2 l1 l2)
  (hz:IsZip s.heap z TI TO .none) (hTI:IsPair s.heap TI (.ref i1) (.ref i2)) (h1:eK t1 s.heap i1 l1 k1) (hl1:fb t1 s.heap l1 xs) (hx:xs[k1]?=none)
  (k:∀h' e,(∀c o,c≠z->c≠i1->c≠i2->s.heap.get? c=some o->h'.get? c=some o)->(∃o,h'.get? e=some o/\o.cls=.type "StopIteration")->E (.ref e) {s with heap:=h'}) :
  wpAny (model prog w) A (Builtin.«zip.__next__» ⟨[.ref z],[]⟩) Q E s:=by
 refine wpAny_bind (m:=field (.ref z) 2) (wpAny_field hz rfl (x:=.bool false) rfl ?_)
 refine wpAny_bind (m:=field (.ref z) 3) (wpAny_field hz rfl (x:=.ref TI) rfl (wpAny_bind (wpAny_seqItems hTI rfl ?_)))
 refine wpAny_bind (m:=Builtin.SmallTypes.ownedTupleIsFree (.ref z)) (wpAny_bind (wpAny_field hz rfl (x:=.none) rfl (wpAny_pure ?_)))
 refine wpAny_bind (wpAny_rule (wpAny_bind (wpAny_field hz rfl (x:=.ref TO) rfl (wpAny_bind (D3 hz λg1 m1=>?_)))))
 simp only[List.zipIdx_cons,List.zipIdx_nil,e8,gP]
 have e1:=m1.sm.extBut
 refine wpAny_bind (wpAny_bind (wpAny_bind (wpAny_onRaise (wpAny_bind (m:=Builtin.SmallTypes.nextOf (.ref i1)) (uA hh (h1.extBut e1 D.i1z) (hl1.extBut e1 D.l1z) hx λg2 e x2 ⟨oe,he,ce⟩=>?_)))))
 have z2:=x2 _ _ D.i1z.symm m1.at_
 have ne:e≠z:=λq=>by subst q;rw[z2] at he;cases he;simp at ce
 exact D3 z2 λg3 m3=>k g3 e (λc o c1 c2 _ q=>m3.sm.extBut _ _ c1 (x2 _ _ c2 (e1 _ _ c1 q))) ⟨oe,m3.sm.extBut _ _ ne he,ce⟩
end
abbrev M6(t1:Bool)(h:Heap)(l1:Addr):Heap:=h.push (wW t1 l1)
abbrev N4(t1 t2:Bool)(h:Heap)(l1 l2:Addr):Heap:=(M6 t1 h l1).push (wW t2 l2)
abbrev N5(t1 t2:Bool)(h:Heap)(l1 l2:Addr):Heap:=(N4 t1 t2 h l1 l2).push {cls:=.type "tuple",data:=.seq #[.ref h.objs.size,.ref (M6 t1 h l1).objs.size]}
abbrev N6(t1 t2:Bool)(h:Heap)(l1 l2:Addr):Heap:=(N5 t1 t2 h l1 l2).push {cls:=.type "tuple",data:=.seq #[.none,.none]}
abbrev M7(t1 t2:Bool)(h:Heap)(l1 l2:Addr):Heap:=(N6 t1 t2 h l1 l2).push {cls:=.type "zip",data:=.fields #[.none,.bool false,.bool false,.ref (N4 t1 t2 h l1 l2).objs.size,.ref (N5 t1 t2 h l1 l2).objs.size]}
theorem v3{t1 t2:Bool}(l1 l2:Addr)(xs ys:Array Value) :
  Meets (Builtin.«zip.__new__» ⟨[.type "zip",.ref l1,.ref l2],[]⟩) (λ_ R s=>fb t1 s.heap l1 xs/\fb t2 s.heap l2 ys/\
   R (.ok (.ret (.ref (N6 t1 t2 s.heap l1 l2).objs.size))) {s with heap:=M7 t1 t2 s.heap l1 l2}):=
 .of_wp λprog w A R s h=>by
  obtain⟨hp,g,d,tk,os⟩:=s
  obtain⟨a1,a2,h⟩:=h
  have hsub:=sub_zip
  have b1:fb t1 (Shared.heap ⟨hp,g,d,tk,os⟩) l1 xs:=a1
  have b2:fb t2 (Shared.heap ⟨hp.push (wW t1 l1),g,d,tk,os⟩) l2 ys:=a2.at λo e=>ag _ e
  wp_walk using uF b1,uF b2
  exact⟨_,rfl,h⟩
section
variable{prog:Program}{w:World}{A:Around}{R:Result->Shared->Prop}{t1 t2:Bool}{K:Type}[DecidableEq K]{knd:KeyKind prog w K}
structure Gf(t1 t2:Bool)(z TI TO i1 i2 l1 l2:Addr)(xs ys:Array Value)(i:Nat)(h:Heap):Prop where
 ti:IsPair h TI (.ref i1) (.ref i2)
 a1:eK t1 h i1 l1 i
 a2:eK t2 h i2 l2 i
 s1:fb t1 h l1 xs
 s2:fb t2 h l2 ys
 st:(IsZip h z TI TO .none/\∃a b,IsPair h TO a b)\/∃T0 b o,xP h z TI TO T0 b/\h.get? T0=some o/\o.cls=.type "tuple"
theorem Gf.typeIs{z TI TO i1 i2 l1 l2:Addr}{xs ys:Array Value}{i:Nat}{s:Shared}(st:Gf t1 t2 z TI TO i1 i2 l1 l2 xs ys i s.heap):s.TypeIs (.ref z) "zip":=by
 rcases st.st with⟨h,_⟩|⟨_,_,_,h,_⟩<;>exact⟨_,h,rfl⟩
theorem Jf{E:Value->Shared->Prop}{z TI TO i1 i2 l1 l2:Addr}{xs ys:Array Value}{i:Nat}{s:Shared}{Q:Option Value->Shared->Prop}(hh:A.handled=none)(D:ZipApart z TI TO i1 i2 l1 l2)(st:Gf t1 t2 z TI TO i1 i2 l1 l2 xs ys i s.heap)(hx:xs[i]?=none)
  (k:∀h',(∀c o,c≠z->c≠i1->c≠i2->s.heap.get? c=some o->h'.get? c=some o)->Q none {s with heap:=h'}):wpAny (model prog w) A (pyNext (.ref z)) Q E s:=by
 have hT:=st.typeIs
 have fin:∀(h':Heap) (e:Addr),(∀c o,c≠z->c≠i1->c≠i2->s.heap.get? c=some o->h'.get? c=some o)->(∃o,h'.get? e=some o/\o.cls=.type "StopIteration")->
   wpAny (model prog w) A (isInstance (.ref e) (.type "StopIteration")) (λa s'=>a=true/\Q none s') E {s with heap:=h'}:=λh' e kp ⟨o,ho,hc⟩=>wpAny_isInstance (T:="StopIteration") (b:=true) ⟨o,ho,hc⟩ isSubtype_stop ⟨rfl,k h' kp⟩
 unfold pyNext
 refine wpAny_bind (wpAny_attempt (wpAny_callSpecial?_slot (name:=Str.ofString "__next__") hT F.slot_zip_next (wpAny_call_entry F.slot_zip_next hT F.entry_zip_next ?_ (F.args_zip_next_1 _))))
 rcases st.st with⟨hz,a,b,ho⟩|⟨T0,b,o,hz,h0,hc⟩
 ·refine Jd (ys:=ys) (k2:=0) hh D hz st.ti st.a1 st.s1 hx λh' e kp he=>wpAny_bind (wpAny_mono (fin h' e kp he) (λa s' q=>?_) λ_ _ z=>z)
  obtain⟨rfl,q⟩:=q
  exact wpAny_pure q
 ·refine Je hh D hz st.ti h0 st.a1 st.a2 st.s1 st.s2 hx λh' e kp he=>wpAny_bind (wpAny_mono (fin h' e kp he) (λa s' q=>?_) λ_ _ z=>z)
  obtain⟨rfl,q⟩:=q
  exact wpAny_pure q
end
section
variable{prog:Program}{w:World}{A:Around}{E:Value->Shared->Prop}{s:Shared}{t1 t2:Bool}{K:Type}[DecidableEq K]{knd:KeyKind prog w K}
theorem yh{l1 l2:Addr}{xs ys:Array Value}{Q:Value->Shared->Prop}(a1:fb t1 s.heap l1 xs)(a2:fb t2 s.heap l2 ys)
  (h:∀h' z TI TO i1 i2,s.heap.objs.size<=TI->ZipApart z TI TO i1 i2 l1 l2->s.heap.objs.size<=z->s.heap.objs.size<=TO->s.heap.objs.size<=i1->s.heap.objs.size<=i2->IsZip h' z TI TO .none->IsPair h' TO .none .none->IsPair h' TI (.ref i1) (.ref i2)->eK t1 h' i1 l1 0->eK t2 h' i2 l2 0->
   (∀c o,s.heap.get? c=some o->h'.get? c=some o)->Q (.ref z) {s with heap:=h'}) :
  wpAny (model prog w) A (call (.type "zip") [.ref l1,.ref l2]) Q E s:=by
 refine callType_new F.called_zip (by decide) (F.typeCall_zip_2 _ _) (F.newCall_zip_2 _ _) (λobj=>F.args_object_init_3 obj _ _) F.entry_zip_new (v3 (t1:=t1) (t2:=t2) l1 l2 xs ys) ⟨a1,a2,?_⟩
 have zA:(M6 t1 s.heap l1).objs.size=s.heap.objs.size+1:=bF ..
 have zB:(N4 t1 t2 s.heap l1 l2).objs.size=s.heap.objs.size+2:=(bF ..).trans (by rw[zA])
 have zC:(N5 t1 t2 s.heap l1 l2).objs.size=s.heap.objs.size+3:=(bF ..).trans (by rw[zB])
 have zD:(N6 t1 t2 s.heap l1 l2).objs.size=s.heap.objs.size+4:=(bF ..).trans (by rw[zC])
 have q1:=a1.lt
 have q2:=a2.lt
 have pz:(M7 t1 t2 s.heap l1 l2).get? (N6 t1 t2 s.heap l1 l2).objs.size=some _:=az _ rfl
 have po:(M7 t1 t2 s.heap l1 l2).get? (N5 t1 t2 s.heap l1 l2).objs.size=some _:=ag _ (az _ rfl)
 have pi:(M7 t1 t2 s.heap l1 l2).get? (N4 t1 t2 s.heap l1 l2).objs.size=some _:=ag _ (ag _ (az _ rfl))
 have b2:eK t2 (M7 t1 t2 s.heap l1 l2) (M6 t1 s.heap l1).objs.size l2 0:=(Am (M6 t1 s.heap l1)).at λo e=>ag _ (ag _ (ag _ e))
 have b1:eK t1 (M7 t1 t2 s.heap l1 l2) s.heap.objs.size l1 0:=(Am s.heap).at λo e=>ag _ (ag _ (ag _ (ag _ e)))
 refine⟨⟨_,pz,rfl⟩,h _ (N6 t1 t2 s.heap l1 l2).objs.size (N4 t1 t2 s.heap l1 l2).objs.size (N5 t1 t2 s.heap l1 l2).objs.size s.heap.objs.size (M6 t1 s.heap l1).objs.size (by lia) ?_ (by lia) (by lia) (by lia) (by lia) pz po pi b1 b2 λc o e=>
  ag _ (ag _ (ag _ (ag _ (ag _ e))))⟩
 rw[zD,zB,zC,zA]
 exact PyProof.Rows.zipApart_new q1 q2
end
end PySem
namespace L2
open PySem PySem.Spec PyProof.Rows
section
variable{X:Cx}
end
section
variable{X:Cx}{C:Addr}{m x:Str}{ps:List Str}{k:Nat}{sp:Sp}{e o:Expr}{es:List Expr}{ta:TE}{t:TA}{p pos apos:Pos}
theorem jR{d i:Expr}{td ty:TE}(hu:X.A.units+1<cLine)(ho:QE X d td)(hi:QE X i ty)(hs:F1 i):QE X (.Subscript d i pos) (oB td ty):=⟨Ke hu ho.up hi.up hs⟩
end
section
variable{X:Cx}
theorem Ab{es:List Bool}{us vs:List Value}(h1:us.length=es.length)(h2:vs.length=es.length):((bZ (min us.toArray.size vs.toArray.size)).all (λj=>(es[j]?).getD false)&&us.toArray.size==vs.toArray.size)=es.all id:=by
 rw[au,au,h1,h2,Nat.min_self,BZ]
 simp
end
inductive BI(K:Fg)(H:Hp):Nat->V->V->Bool->Prop where
 |flat {d:Nat} {x y:V} (hx:gZ x=true) (hy:gZ y=true):BI K H d x y (vU x y)
 |same {d:Nat} {a:Addr}:BI K H d (.ref a) (.ref a) true
 |lists {d:Nat} {a b:Addr} {us vs:List V} {es:List Bool} (n:a≠b) (ha:cq K H a us) (hb:cq K H b vs) (l1:us.length=vs.length) (l2:es.length=us.length) (h:∀(j:Nat) x y e,us[j]?=some x->vs[j]?=some y->es[j]?=some e->BI K H d x y e):BI K H (d+1) (.ref a) (.ref b) (es.all id)
 |listsL {d:Nat} {a b:Addr} {us vs:List V} (n:a≠b) (ha:cq K H a us) (hb:cq K H b vs) (l1:us.length≠vs.length):BI K H (d+1) (.ref a) (.ref b) false
 |tups {d:Nat} {a b:Addr} {us vs:List V} {es:List Bool} (n:a≠b) (ha:cE K H a us) (hb:cE K H b vs) (l1:us.length=vs.length) (l2:es.length=us.length) (h:∀(j:Nat) x y e,us[j]?=some x->vs[j]?=some y->es[j]?=some e->BI K H d x y e):BI K H (d+1) (.ref a) (.ref b) (es.all id)
section
variable{X:Cx}
theorem JO{A:Around}{s:Shared}{kb:List (ky×V)}{vb:List (ky×Value)}(rb:KV kb vb){ka:List (ky×V)}{va:List (ky×Value)}(ra:KV ka va):∀(f:Nat->V),(∀(j:Nat) k v,ka[j]?=some (k,v)->cW kb k=some (f j))->(∀(j:Nat) k v u w,ka[j]?=some (k,v)->b7 v u->b7 (f j) w->SeqAt.EqAt A s u w true)->PySem.W.KeqHits A s vb va true:=by
 induction ra with
 |nil=>intro f _ _;exact .nil
 |@cons p q ps qs r _ ih=>
  intro f h1 h2
  obtain⟨k,v⟩:=p
  obtain⟨k',u⟩:=q
  obtain⟨e,rv⟩:=r
  have e':k=k':=e
  subst e'
  have hv:=h1 0 k v rfl
  have rel:=rb.val k
  rw[hv] at rel
  obtain⟨w,hw,rw'⟩:=nN.some_of rel
  have hh:=ih (λj=>f (j+1)) (λj k v e=>h1 (j+1) k v e) λj k v u w e=>h2 (j+1) k v u w e
  exact .hit hw (h2 0 k v u w rfl rv rw') hh
theorem sY{A:Around}{s:Shared}{xs ys:List V}{us vs:List Value}{es:List Bool}(r1:b5 xs us)(r2:b5 ys vs)(hl:xs.length=ys.length)(he:es.length=xs.length)
  (h:∀(j:Nat) a b e u v,xs[j]?=some a->ys[j]?=some b->es[j]?=some e->b7 a u->b7 b v->SeqAt.EqAt A s u v e) :
  ∀j (h1:j<us.toArray.size) (h2:j<vs.toArray.size),SeqAt.EqAt A s us.toArray[j] vs.toArray[j] ((es[j]?).getD false):=by
 intro j h1 h2
 have l1:=r1.length
 have l2:=r2.length
 rw[au] at h1 h2
 have j1:j<xs.length:=by lia
 have j2:j<ys.length:=by lia
 have j3:j<es.length:=by lia
 obtain⟨u,hu',ru⟩:=r1.get (aa j1)
 obtain⟨v,hv,rv⟩:=r2.get (aa j2)
 have eu:us.toArray[j]=u:=by
  have:=aa h1
  rw[hu'] at this
  simpa using(Option.some.inj this).symm
 have ev:vs.toArray[j]=v:=by
  have:=aa h2
  rw[hv] at this
  simpa using(Option.some.inj this).symm
 rw[eu,ev,aa j3,eS]
 exact h j _ _ _ _ _ (aa j1) (aa j2) (aa j3) ru rv
theorem Ae{es:List Bool}{us:List Value}(h1:us.length=es.length):(bZ us.toArray.size).all (λj=>(es[j]?).getD false)=es.all id:=by
 rw[au,h1,BZ]
theorem Cv{pins:List (Addr×Obj)}{σ:St}{H:Hp}{s:Shared}(I:bu X pins σ H s){d:Nat}{x y:V}{b:Bool}(h:BI X.K H d x y b):∀{A:Around} {u v:Value},A.units+d<cLine->b7 x u->b7 y v->SeqAt.EqAt A s u v b:=by
 induction h with
 |flat hx hy=>exact λ_ rx ry=>Cu rx ry hx hy
 |same=>
  intro A u v _ rx ry
  cases rx
  cases ry
  exact SeqAt.EqAt.same _
 |@lists d a b us vs es n ha hb hl he h ih=>
  intro A u v hu rx ry
  cases rx
  cases ry
  obtain⟨us',r1,t1,_⟩:=I.list ha
  obtain⟨vs',r2,t2,_⟩:=I.list hb
  have l1:=r1.length
  have l2:=r2.length
  have:=SeqAt.EqAt.of_refs n (SeqAt.RcAt.lists (A:=A) t1.isList t2.isList (by rw[au,au];lia) (by lia) (sY (A:=A.in1) r1 r2 hl he λj a b e u v e1 e2 e3 ru rv=>ih j a b e e1 e2 e3 (by show A.units+1+d<cLine;lia) ru rv))
  rw[Ae (by lia)] at this
  exact this
 |@listsL d a b us vs n ha hb hl=>
  intro A u v hu rx ry
  cases rx
  cases ry
  obtain⟨us',r1,t1,_⟩:=I.list ha
  obtain⟨vs',r2,t2,_⟩:=I.list hb
  have l1:=r1.length
  have l2:=r2.length
  exact SeqAt.EqAt.of_refs n (SeqAt.RcAt.lists_lengths (A:=A) t1.isList t2.isList (by rw[au,au];simp;lia) (by lia))
 |@tups d a b us vs es n ha hb hl he h ih=>
  intro A u v hu rx ry
  cases rx
  cases ry
  obtain⟨us',r1,t1,_⟩:=I.tuple ha
  obtain⟨vs',r2,t2,_⟩:=I.tuple hb
  have l1:=r1.length
  have l2:=r2.length
  have:=SeqAt.EqAt.of_refs n (SeqAt.RcAt.tuples (A:=A) (show s.heap.IsTuple a us'.toArray from t1) (show s.heap.IsTuple b vs'.toArray from t2) (by lia) (sY (A:=A.in1) r1 r2 hl he λj a b e u v e1 e2 e3 ru rv=>ih j a b e e1 e2 e3 (by show A.units+1+d<cLine;lia) ru rv))
  rw[Ab (by lia) (by lia)] at this
  exact this
def NT(K:Fg)(neg:Bool):R2:=λx y H Q=>∃(p q:Addr) (xs ys:List V),x=.ref p/\y=.ref q/\((cq K H p xs/\cq K H q ys)\/(cE K H p xs/\cE K H q ys/\xs.length=ys.length))/\
 ((xs.length≠ys.length/\Q (.bl neg) H)\/∃es:List Bool,xs.length=ys.length/\es.length=xs.length/\(∀(j:Nat) a b e,xs[j]?=some a->ys[j]?=some b->es[j]?=some e->BI K H 4 a b e)/\Q (.bl (if neg then !es.all id else es.all id)) H)
theorem Md(hu:X.A.units+5<cLine):jf X (compareOp .Eq) (NT X.K false):=by
 intro pins s σ H x y v u Q I rx ry h
 obtain⟨p,q,xs,ys,rfl,rfl,hk,hc⟩:=h
 cases rx
 cases ry
 have hu':X.A.units<cLine:=by lia
 rcases hk with⟨h1,h2⟩|⟨h1,h2,hl0⟩
 ·obtain⟨us,r1,t1,_⟩:=I.list h1
  obtain⟨vs,r2,t2,_⟩:=I.list h2
  have l1:=r1.length
  have l2:=r2.length
  rcases hc with⟨hl,qq⟩|⟨es,hl,he,hE,qq⟩
  ·exact SeqAt.eq_list_lengthsAt t1.isList t2.isList (by rw[au,au];simp;lia) hu' ⟨.bl false,H,I,rfl,qq⟩
  ·refine SeqAt.eq_listAt t1.isList t2.isList (by rw[au,au];lia) hu' (sY (A:=X.A.in1) r1 r2 hl he λj a b e u v e1 e2 e3 ru rv=>Cv I (hE j a b e e1 e2 e3) (by show X.A.units+1+4<cLine;lia) ru rv) ⟨.bl (es.all id),H,I,?_,qq⟩
   show Value.bool _=Value.bool _
   rw[Ae (by lia)]
 ·obtain⟨us,r1,t1,_⟩:=I.tuple h1
  obtain⟨vs,r2,t2,_⟩:=I.tuple h2
  have l1:=r1.length
  have l2:=r2.length
  rcases hc with⟨hl,_⟩|⟨es,hl,he,hE,qq⟩
  ·exact absurd hl0 hl
  ·refine SeqAt.eq_tupleAt (show s.heap.IsTuple p us.toArray from t1) (show s.heap.IsTuple q vs.toArray from t2) hu' (sY (A:=X.A.in1) r1 r2 hl he λj a b e u v e1 e2 e3 ru rv=>Cv I (hE j a b e e1 e2 e3) (by show X.A.units+1+4<cLine;lia) ru rv) ⟨.bl (es.all id),H,I,?_,qq⟩
   show Value.bool _=Value.bool _
   rw[Ab (by lia) (by lia)]
def Ll(K:Fg)(neg:Bool):R2:=λx y H Q=>∃(a b:Addr) (ka kb:List (ky×V)) (f:Nat->V),x=.ref a/\y=.ref b/\H a=some (.dK ka)/\H b=some (.dK kb)/\ka.length=kb.length/\(∀(j:Nat) k v,ka[j]?=some (k,v)->cW kb k=some (f j))/\(∀(j:Nat) k v,ka[j]?=some (k,v)->BI K H 4 v (f j) true)/\Q (.bl (!neg)) H
theorem J6(hu:X.A.units+5<cLine):jf X (compareOp .Eq) (Ll X.K false):=by
 intro pins s σ H x y v u Q I rx ry h
 obtain⟨a,b,ka,kb,f,rfl,rfl,ha,hb,hl,hf,hE,qq⟩:=h
 cases rx
 cases ry
 obtain⟨_,la,va,ra,da⟩:=Ad I.hok ha
 obtain⟨_,lb,vb,rb,db⟩:=Ad I.hok hb
 refine PySem.W.keq_eq (r:=true) la lb da db (by lia) (λ_=>JO rb ra f hf λj k v u w e ru rw'=>Cv I (hE j k v e) (by show X.A.units+1+4<cLine;lia) ru rw') ⟨.bl true,H,I,?_,qq⟩
 show Value.bool _=Value.bool _
 rw[<-ra.length,<-rb.length,hl];simp
def HP(K:Fg):R2:=λx y H Q=>NT K false x y H Q\/(Ll K false x y H Q\/v7 K x y H Q)
theorem CO(hu:X.A.units+5<cLine):jf X (compareOp .Eq) (HP X.K):=(Md hu).or ((J6 hu).or (k8 (by lia)))
end
section
variable{X:Cx}{pins:List (Addr×Obj)}{σ:St}{H:Hp}{s:Shared}{d:Addr}{kvs:List (ky×V)}{u u':HO}
theorem bu.retell(I:bu X pins σ H s)(e:H d=some u)(new:d4 X.prog X.w (aN H d u') s.heap d u')(ht:∀xs,u≠.tup xs)(ho:∀x,u≠.own x)(hb:∀ps,u≠.tbl ps)(hf:∀o v,X.H₀ d≠some (.frz o v)):bu X pins σ (aN H d u') s:=by
 have ne:∀b,H b=none->b≠d:=λb q z=>by rw[z,e] at q;cases q
 refine⟨I.ok,I.os,I.bare,⟨I.base.keep,I.base.slot,λb o q n x=>?_,I.base.there,λb xs q=>?_,λb o v q=>?_,λb ps q=>?_⟩,I.loc,I.cell,?_,λx c q=>?_,λp hp=>?_,λb v q=>?_,I.len⟩
 ·have z:=I.base.free b o q n x
  rw[aA (ne b z)];exact z
 ·have z:=I.base.tups b xs q
  rw[aA (λc=>by rw[c,e] at z;exact ht xs (Option.some.inj z))];exact z
 ·have z:=I.base.frzs b o v q
  rw[aA (λc=>hf o v (by rw[<-c];exact q))];exact z
 ·obtain⟨more,z⟩:=I.base.tbls b ps q
  exact⟨more,by rw[aA (λc=>by rw[c,e] at z;exact hb _ (Option.some.inj z))];exact z⟩
 ·rw[aA (ne _ I.free)];exact I.free
 ·rw[aA (ne _ (I.freeC x c q))];exact I.freeC x c q
 ·obtain⟨h1,h2,h3⟩:=I.pin p hp
  exact⟨h1,by rw[aA (ne _ h2)];exact h2,h3⟩
 ·by_cases c:b=d
  ·subst c
   rw[ak] at q;cases q
   exact new
  ·rw[aA c] at q
   refine(I.hok b v q).stay (λ_ _ _ z=>z) (λa z=>?_) λa xs z=>?_
   ·rw[aA (λc'=>by rw[c',e] at z;exact ho _ (Option.some.inj z))];exact z
   ·rw[aA (λc'=>by rw[c',e] at z;exact ht _ (Option.some.inj z))];exact z
end
section
variable{X:Cx}{tg:Expr}
end
end L2
end
section
namespace PySem
open Sem (wp)
section
variable{prog:Program}{w:World}{A:Around}{R:Result->Shared->Prop}{K:Type}[DecidableEq K]{knd:KeyKind prog w K}
end
section
variable{prog:Program}{w:World}{A:Around}{E:Value->Shared->Prop}{s:Shared}{K:Type}[DecidableEq K]{knd:KeyKind prog w K}
end
end PySem
end
section
namespace L2
open PySem PySem.Spec PyProof.Rows
section
variable{X:Cx}
end
section
variable{X:Cx}
theorem rT:∀{us:List Value} {ss:List Str},StrsAre us ss->b5 (ss.map V.str) us
 |_,_,.nil=>.nil
 |_,_,.cons x t r=>.cons ⟨t,rfl⟩ (rT r)
def D9(K:Fg):List V->Hp->VK->Prop:=λxs H Q=>∃(p:Addr) (ss:List Str),xs=[.ref p]/\cq K H p (ss.map V.str)/\ss.length<64/\∀(l:Addr) (ss':List Str),H l=none->ss'.Perm ss->sortedS ss'=true->Q (.ref l) (aN H l (.lst (ss'.map V.str)))
theorem zO:iO X (.builtin "sorted") (D9 X.K):=by
 intro pins s σ H xs us Q I r h
 obtain⟨p,ss,rfl,hq,h64,q⟩:=h
 obtain⟨u,rfl,rx⟩:=kM r
 cases rx
 obtain⟨its,r',pl,hz⟩:=I.list hq
 have hl:=r'.length
 rw[af] at hl
 refine sorted_strs pl.isList (qG r') (by rw[<-hl];exact h64) λout ss' a1 a2 a3=>?_
 obtain⟨e,he⟩:=sortedAll_at s.heap its out
 have hn:=rT a1
 have hlen:ss'.length=ss.length:=a2.length_eq
 refine⟨.ref (s.heap.objs.size+1),_,I.laid (t':=s.toks) (λb u q=>sortedAll_old q) (eD _) (show d4 X.prog X.w _ _ _ (.lst (ss'.map V.str)) from⟨?_,out.toList,e,hn,?_⟩),rfl,q _ _ (I.hok.fresh (eD _)) a2 a3⟩
 ·rw[af,hlen];exact br (bW h64) (by decide)
 ·rw[iL];exact he
def u5(td ty tx:TE):TE:=λσ H Q=>td σ H λx H1=>∃a,x=.ref a/\N8 H1 a/\ty σ H1 λy H2=>tx σ H2 λz H3=>∃kvs k,H3 a=some (.dK kvs)/\y=kV k/\kvs.length<sizeLine/\(∀v,cW kvs k=some v->Q v H3)/\(cW kvs k=none->Q z (aN H3 a (.dK (iU kvs k z))))
theorem Ho{o e f:Expr}{apos cpos:Pos}{td ty tx:TE}(ho:PE X o td)(he:PE X e ty)(hf:PE X f tx)(m:M2 X o "setdefault" apos e f cpos):PE X (.Call (.Attribute o "setdefault" apos) [e,f] [] cpos) (u5 td ty tx):=by
 intro pins s σ H Q I h
 refine wpAny_Call_method m.base m.few m.line eT PySem.F.slot_dict_setdefault PySem.F.type_dict_setdefault (eJ (ho pins s σ H _ I h) λu s1 ⟨x,H1,I1,rx,a,ex,d,q1⟩=>?_)
 subst ex
 obtain rfl:u=Value.ref a:=rx
 obtain⟨t1,t2,_⟩:=yu I1 d
 refine⟨t1,t2,?_⟩
 rw[m.trees]
 refine Calls.callWith_builtin rfl (Calls.evalArgs_plain (Calls.spliced_cons (eJ (he pins s1 σ H1 _ I1 q1) λiv s2 ⟨y,H2,I2,ry,q2⟩=>
  Calls.spliced_cons (eJ (hf pins s2 σ H2 _ I2 q2) λfv s3 ⟨z,H3,I3,rz,kvs,k,e3,ey,hl,qs,qn⟩=>Calls.spliced_nil ?_))))
 subst ey
 obtain⟨z1,l1,vs,rel,dd⟩:=Ad I3.hok e3
 refine call_meetsIn PySem.F.slot_dict_setdefault dd.typeIs PySem.F.entry_dict_setdefault (PySem.F.args_dict_setdefault_3 _ _ _) (kt_meets_setdefault (eF X.prog X.w) a (sv ry) l1 fv) ⟨vs,dd,by rw[<-rel.length];exact z1,λv hv=>?_,λhv h' d' hs=>?_⟩
 ·have:=rel.val k
  rw[hv] at this
  cases ev:cW kvs k with
  |none=>rw[ev] at this;exact(show False from this).elim
  |some v'=>
   rw[ev] at this
   exact⟨v',H3,I3.tok _,this,qs v' ev⟩
 ·have:=rel.val k
  rw[hv] at this
  cases ev:cW kvs k with
  |some v'=>rw[ev] at this;exact(show False from this).elim
  |none=>
   have hlen:(iU kvs k z).length<=sizeLine:=by have:=gL kvs k z;lia
   refine⟨z,_,nj (t':=s3.toks+1) (ob:=.dK (iU kvs k z)) I3 (by rw[e3];exact True.intro) hs (let⟨ob,_,_,h1,_⟩:=d';⟨ob,h1⟩) (Cr hlen l1 (rel.put k rz) d'),rz,qn ev⟩
end
end L2
end
section
namespace L2
open PySem PyProof.Rows
def BR(a b:Str):Prop:=¬(b.cps.toList<a.cps.toList)
theorem BR.trans{a b c:Str}(h:BR a b)(k:BR b c):BR a c:=λz=>by
 have h1:=jK.mp h
 have h2:=jK.mp k
 exact jK.mpr (List.le_trans h1 h2) z
theorem BR.anti{a b:Str}(h:BR a b)(k:BR b a):a=b:=by
 have:=List.le_antisymm (jK.mp h) (jK.mp k)
 cases a;cases b
 simp only[Str.mk.injEq]
 exact Array.toList_inj.mp this
theorem xn:∀(r:List Str) (p:Str),risingS p r=true->(p::r).Pairwise BR
 |[],p,_=>gJ _ _
 |x::r,p,h=>by
  have h':(!PySem.Spec.ltCps x.cps.toList p.cps.toList&&risingS x r)=true:=h
  rw[Bool.and_eq_true,ltCps_eq] at h'
  have hx:BR p x:=by simpa[BR] using h'.1
  have ih:=xn r x h'.2
  refine eX.mpr ⟨λy hy=>?_,ih⟩
  rcases aM.mp hy with rfl|hy
  ·exact hx
  ·exact hx.trans ((eX.mp ih).1 y hy)
theorem rL:∀{l:List Str},sortedS l=true->l.Pairwise BR
 |[],_=>List.Pairwise.nil
 |x::r,h=>xn r x h
theorem Hy:∀{l m:List Str},l.Pairwise BR->m.Pairwise BR->l.Nodup->m.Nodup->(∀x,x∈l↔x∈m)->l=m
 |[],[],_,_,_,_,_=>rfl
 |[],y::m,_,_,_,_,h=>absurd ((h y).mpr aZ) (by simp)
 |x::l,[],_,_,_,_,h=>absurd ((h x).mp aZ) (by simp)
 |x::l,y::m,hl,hm,nl,nm,h=>by
  have hl':=eX.mp hl
  have hm':=eX.mp hm
  have nl':=bS.mp nl
  have nm':=bS.mp nm
  have e:x=y:=by
   rcases aM.mp ((h x).mp aZ) with e|hx
   ·exact e
   ·rcases aM.mp ((h y).mpr aZ) with e|hy
    ·exact e.symm
    ·exact BR.anti (hl'.1 y hy) (hm'.1 x hx)
  subst e
  have:l=m:=Hy hl'.2 hm'.2 nl'.2 nm'.2 λz=>by
   constructor
   ·intro hz
    rcases aM.mp ((h z).mp (aY _ hz)) with rfl|q
    ·exact absurd hz nl'.1
    ·exact q
   ·intro hz
    rcases aM.mp ((h z).mpr (aY _ hz)) with rfl|q
    ·exact absurd hz nm'.1
    ·exact q
  rw[this]
end L2
end
section
namespace Bg
open PySem L2
def Tp(H H':Hp):Prop:=∀p xs,H p=some (.tup xs)->H' p=some (.tup xs)
theorem Tp.refl(H:Hp):Tp H H:=λ_ _ h=>h
theorem Tp.trans{H H1 H2:Hp}(x:Tp H H1)(y:Tp H1 H2):Tp H H2:=λp xs h=>y p xs (x p xs h)
theorem Tp.of_same{H H':Hp}(x:aJ H H'):Tp H H':=λp xs h=>x p _ h
theorem Tp.lst{p:Addr}{H H1:Hp}{ys:List V}{o:HO}(x:Tp H H1)(hp:H1 p=some (.lst ys)):Tp H (aN H1 p o):=λb xs h=>by
 have h1:=x b xs h
 rw[aA (by rintro rfl;rw[h1] at hp;cases hp)];exact h1
structure bo{α:Type}(R:V->α->Prop)(vs:List V)(rs:List α):Prop where
 len:vs.length=rs.length
 at_:∀(i:Nat) v r,vs[i]?=some v->rs[i]?=some r->R v r
theorem bo.nil{α:Type}{R:V->α->Prop}:bo R [] []:=⟨rfl,λi v r h=>by simp at h⟩
theorem bo.imp{α:Type}{R R':V->α->Prop}{vs:List V}{rs:List α}(h:bo R vs rs)(f:∀v r,R v r->R' v r):bo R' vs rs:=⟨h.len,λi v r a b=>f v r (h.at_ i v r a b)⟩
theorem bo.snoc{α:Type}{R:V->α->Prop}{vs:List V}{rs:List α}{v:V}{r:α}(h:bo R vs rs)(q:R v r):bo R (vs++[v]) (rs++[r]):=by
 refine⟨by simp[h.len],λi w t a b=>?_⟩
 by_cases hi:i<vs.length
 ·rw[av hi] at a
  rw[av (by rw[<-h.len];exact hi)] at b
  exact h.at_ i w t a b
 ·rw[ao (by omega)] at a
  rw[ao (by rw[<-h.len];omega)] at b
  have e:i-vs.length=0:=by
   have:=(ae.mp a).1
   simp at this;omega
  rw[e] at a
  rw[<-h.len,e] at b
  simp at a b
  rw[<-a,<-b];exact q
theorem bo.get{α:Type}{R:V->α->Prop}{vs:List V}{rs:List α}(h:bo R vs rs){i:Nat}(hi:i<rs.length):∃v r,vs[i]?=some v/\rs[i]?=some r/\R v r:=by
 have h1:i<vs.length:=by rw[h.len];exact hi
 exact⟨vs[i],rs[i],aa h1,aa hi,h.at_ i _ _ (aa h1) (aa hi)⟩
theorem bo.of_v{α:Type}{R:V->α->Prop}{vs:List V}{rs:List α}(h:bo R vs rs){i:Nat}{v:V}(e:vs[i]?=some v):∃r,rs[i]?=some r/\R v r:=by
 have h1:=(ae.mp e).1
 obtain⟨v',r,e1,e2,q⟩:=h.get (i:=i) (by rw[<-h.len];exact h1)
 rw[e] at e1;cases e1
 exact⟨r,e2,q⟩
def jO(K:Fg)(H:Hp)(a:Addr)(ns:List Int):Prop:=
 (∃o,H a=some (.frz o (.lst (ns.map V.int))))\/∃(o:Obj) (its:Array Value) (n:Nat),K.lookup a=some o/\o.cls=.type "list"/\o.dict=none/\o.data=.seq its n/\its.size<=sizeLine/\b5 (ns.map V.int) its.toList
theorem jO.sq{K:Fg}{H:Hp}{a:Addr}{ns:List Int}(h:jO K H a ns):cq K H a (ns.map V.int):=by
 rcases h with⟨o,h⟩|h
 ·exact .inl (.inr ⟨o,h⟩)
 ·exact .inr h
def Fz(H H':Hp):Prop:=∀p o u,H p=some (.frz o u)->H' p=some (.frz o u)
theorem Fz.of_but{a:Addr}{ys:List V}{H H':Hp}(x:iY a H H')(ha:H a=some (.lst ys)):Fz H H':=λp o u h=>x p _ (by rintro rfl;rw[h] at ha;cases ha) h
theorem Fz.of_same{H H':Hp}(x:aJ H H'):Fz H H':=λp o u h=>x p _ h
theorem jO.mono{K:Fg}{H H':Hp}{a:Addr}{ns:List Int}(h:jO K H a ns)(f:Fz H H'):jO K H' a ns:=by
 rcases h with⟨o,h⟩|h
 ·exact .inl ⟨o,f _ _ _ h⟩
 ·exact .inr h
def ma(K:Fg)(H:Hp)(st:Addr)(k:Nat):Prop:=∃scr ns c,H st=some (.lst [.ref scr,.int (k:Nat),.int c])/\jO K H scr ns/\ns.length<=63
theorem ma.lst{K:Fg}{H:Hp}{st:Addr}{k:Nat}(h:ma K H st k):∃ys,H st=some (.lst ys):=by
 obtain⟨scr,ns,c,e,_⟩:=h;exact⟨_,e⟩
theorem ma.mono{K:Fg}{H H':Hp}{a st:Addr}{k:Nat}{ys:List V}(h:ma K H st k)(x:iY a H H')(ha:H a=some (.lst ys))(n:st≠a):ma K H' st k:=by
 obtain⟨scr,ns,c,e,q,l⟩:=h
 exact⟨scr,ns,c,x _ _ n e,q.mono (.of_but x ha),l⟩
theorem ma.same{K:Fg}{H H':Hp}{st:Addr}{k:Nat}(h:ma K H st k)(x:aJ H H'):ma K H' st k:=by
 obtain⟨scr,ns,c,e,q,l⟩:=h
 exact⟨scr,ns,c,x _ _ e,q.mono (.of_same x),l⟩
theorem ma.new{K:Fg}{H:Hp}{st p:Addr}{o:HO}{k:Nat}(h:ma K H st k)(hp:H p=none):ma K (aN H p o) st k:=h.same ((aJ.refl H).new hp)
def eQ(K:Fg):Sp:=λvs H Q _=>∃(st:Addr) (m:Int) (k:Nat),vs=[.ref st,.int m]/\ma K H st k/\k<=1000000/\0<m/\m<2 ^ 64/\
 ∀(d:Int) (H':Hp),0<=d->d<m->ma K H' st (k+1)->iY st H H'->Q (.int d) H'
def Ij:List Str:=["part","call","say","jump","test","give"]
structure Nm(y:Str):Prop where
 l1:1<=y.length
 l8:y.length<=8
 Jz:∀c∈y.cps.toList,97<=c/\c<=122
 no:y∉Ij
def uZ(K:Fg):Sp:=λvs H Q _=>∃(st:Addr) (n k:Nat),vs=[.ref st,.int (n:Nat)]/\ma K H st k/\k<=900000/\n<=20/\
 ∀(l:Addr) (ys:List Str) (k':Nat) (H':Hp),H l=none->ys.length=n->ys.Nodup->(∀y∈ys,Nm y)->H' l=some (.lst (ys.map V.str))->ma K H' st k'->k'<=k+11->iY st H H'->Q (.ref l) H'
def yX(K:Fg):Sp:=λvs H Q _=>∃(scr:Addr) (ns:List Int),vs=[.ref scr]/\jO K H scr ns/\ns.length<=63/\∀H',Q (.bl true) H'
abbrev LV:Nat:=0
abbrev Lx:Nat:=1
abbrev JU:Nat:=1
abbrev Jp:Nat:=2
theorem dy{c:Prop}[Decidable c]{A B:Prop}(h1:c->A)(h2:¬c->B):if decide c=true then A else B:=by
 by_cases h:c
 ·rw[decide_eq_true h];exact nS (h1 h)
 ·rw[decide_eq_false h];exact jo (h2 h)
theorem mz{c:Prop}[Decidable c]{A B:Prop}(h1:¬c->A)(h2:c->B):if(!decide c)=true then A else B:=by
 by_cases h:c
 ·rw[decide_eq_true h];exact jo (h2 h)
 ·rw[decide_eq_false h];exact nS (h1 h)
theorem Nt{b:Bool}{A B:Prop}(h1:b=true->A)(h2:b=false->B):if b=true then A else B:=by
 cases b with
 |true=>exact nS (h1 rfl)
 |false=>exact jo (h2 rfl)
theorem yd{α:Type}{xs:List α}{i:Int}{v:α}(h0:0<=i)(e:xs[i.toNat]?=some v):JB xs i=some v:=by
 have h1:=(ae.mp e).1
 unfold JB JQ
 rw[if_pos h0,if_pos (by lia)]
 exact e
theorem lD{K:Fg}{p:Addr}{xs:List V}{i:Int}{v:V}{H:Hp}{Q:VK}(h:cq K H p xs)(h0:0<=i)(e:xs[i.toNat]?=some v)(q:Q v H):fF K (.ref p) (.int i) H Q:=
 .inl ⟨p,xs,i,v,rfl,rfl,h,yd h0 e,q⟩
theorem D1{K:Fg}{p:Addr}{xs:List V}{i:Int}{v:V}{H:Hp}{Q:VK}(h:H p=some (.tup xs))(h0:0<=i)(e:xs[i.toNat]?=some v)(q:Q v H):fF K (.ref p) (.int i) H Q:=
 .inr (.inl ⟨p,xs,i,v,rfl,rfl,cE.of h,yd h0 e,q⟩)
theorem OF{K:Fg}{z:Str}{i:Int}{c:Nat}{H:Hp}{Q:VK}(hz:z.length<=sizeLine)(h0:0<=i)(e:z.cps.toList[i.toNat]?=some c)(q:Q (.str ⟨#[c]⟩) H):fF K (.str z) (.int i) H Q:=
 .inr (.inr ⟨z,i,c,rfl,rfl,hz,yd h0 e,q⟩)
theorem MW{p:Addr}{xs:List V}{i:Int}{v:V}{H:Hp}{Q:Hp->Prop}(h:H p=some (.lst xs))(h0:0<=i)(h1:i.toNat<xs.length)(q:Q (aN H p (.lst (xs.set i.toNat v)))):AN (.ref p) (.int i) v H Q:=by
 refine⟨p,xs,i,i.toNat,rfl,rfl,h,?_,q⟩
 unfold JQ
 rw[if_pos h0,if_pos (by lia)]
theorem bG{n:Nat}(h:n<=100000):n<sizeLine:=cU h (by decide)
theorem fB{D:Addr}{te:TE}{E:lT}{σ:St}{H:Hp}(h:te σ H λy H2=>∃ys,H2 D=some (.lst ys)/\ys.length<sizeLine/\E.nx σ (aN H2 D (.lst (ys++[y])))):jr D jE te E σ H:=by
 unfold jr jE
 dsimp only
 rw[if_pos rfl]
 exact h
theorem ui(xs:List V)(c:Nat):nO xs none (some (c:Int))=xs.take c:=by
 unfold nO
 rw[HT.sIx_none,HT.sIx_nat,jw,Nat.sub_zero,<-List.take_eq_take_min]
theorem zU(xs:List V)(c:Nat):nO xs (some (c:Int)) none=xs.drop c:=by
 unfold nO
 rw[HT.sIx_none,HT.sIx_nat]
 by_cases h:c<=xs.length
 ·rw[Nat.min_eq_left h];exact dS (by rw[eR];lia)
 ·rw[Nat.min_eq_right (by lia),iu,List.drop_of_length_le (by lia),List.take_nil]
theorem wQ(ys:List Str):(ys.map V.str).all gZ=true:=by
 rw[dX]
 intro v hv
 obtain⟨y,_,rfl⟩:=aD.mp hv
 rfl
theorem Aj(y:Str)(ls:List Str):sr (.str y) (ls.map V.str)=decide (y∈ls):=by
 unfold sr
 rw[List.any_map,Bool.eq_iff_iff,fW,decide_eq_true_eq]
 constructor
 ·rintro⟨z,hz,e⟩
  have e':(z==y)=true:=e
  have:z=y:=by simpa using e'
  rw[<-this];exact hz
 ·intro h
  exact⟨y,h,by show(y==y)=true;simp⟩
structure Wk where
 ins:List Str
 out:Option Str
def gB:Option Str->V
 |none=>.non
 |some y=>.str y
def Ge(H:Hp)(v:V)(w:Wk):Prop:=∃p t,v=.ref p/\H p=some (.tup [.ref t,gB w.out])/\H t=some (.tup (w.ins.map V.str))
theorem Ge.tp{H H':Hp}{v:V}{w:Wk}(h:Ge H v w)(x:∀b xs,H b=some (.tup xs)->H' b=some (.tup xs)):Ge H' v w:=by
 obtain⟨p,t,e,a,b⟩:=h
 exact⟨p,t,e,x _ _ a,x _ _ b⟩
def wn(last:List Str):List Wk->Str->Bool
 |[],y=>decide (y∈last)
 |w::r,y=>decide (y∈w.ins) || (!decide (w.out=some y)&&wn last r y)
def Gd(H:Hp)(v:V)(ss:List Str):Prop:=∃p,v=.ref p/\H p=some (.tup (ss.map V.str))
structure BW(last:List Str)(ws:List Wk)(k:Nat)(ss:List Str):Prop where
 srt:ss.Pairwise BR
 nd:ss.Nodup
 mem:∀y,y∈ss↔wn last (ws.drop k) y=true
structure rj(last:List Str)(ws:List Wk)(pss:List (List Str)):Prop where
 len:pss.length=ws.length+1
 at_:∀(k:Nat) ss,pss[k]?=some ss->BW last ws k ss
theorem rj.one{last:List Str}{ws:List Wk}{pss qss:List (List Str)}(h:rj last ws pss)(h':rj last ws qss):pss=qss:=by
 refine eA λk=>?_
 rcases cB k (ws.length+1) with lt|ge
 ·obtain⟨a,ea⟩:∃a,pss[k]?=some a:=⟨_,aa (by rw[h.len];exact lt)⟩
  obtain⟨b,eb⟩:∃b,qss[k]?=some b:=⟨_,aa (by rw[h'.len];exact lt)⟩
  have A:=h.at_ k a ea
  have B:=h'.at_ k b eb
  rw[ea,eb,Hy A.srt B.srt A.nd B.nd λx=>by rw[A.mem,B.mem]]
 ·rw[bg (by rw[h.len];exact ge),bg (by rw[h'.len];exact ge)]
structure Lb(dd last:List Str)(ws:List Wk):Prop where
 d64:dd.length<64
 w100:ws.length<=100
 l100:last.length<=100
 ins:∀w∈ws,w.ins.length<=100/\∀y∈w.ins,y∈dd
 lst:∀y∈last,y∈dd
def p9(H:Hp)(wp lt:Addr)(ws:List Wk)(last:List Str):Prop:=(∃wvs,H wp=some (.tup wvs)/\bo (Ge H) wvs ws)/\H lt=some (.tup (last.map V.str))
def jt(_:Fg):Sp:=λvs H Q _=>∃(t:Addr) (m:Option Str) (ss:List Str),vs=[.ref t,gB m]/\H t=some (.tup (ss.map V.str))/\ss.length<=1000/\
 ∀(p:Addr) (H':Hp),H' p=some (.tup ((ss.filter λy=>!decide (m=some y)).map V.str))->aJ H H'->Q (.ref p) H'
def fP(_:Fg):Sp:=λvs H Q _=>∃(wp lt:Addr) (ws:List Wk) (last dd:List Str),vs=[.ref wp,.ref lt]/\p9 H wp lt ws last/\Lb dd last ws/\
 ∀(l:Addr) (tvs:List V) (pss:List (List Str)) (H':Hp),H l=none->H' l=some (.lst tvs)->bo (Gd H') tvs pss->rj last ws pss->aJ H H'->Q (.ref l) H'
def BF(pl:Int)(ws:List Wk)(pss:List (List Str)):Nat->Nat->Option (Str×Nat×List Str)
 |0,_=>none
 |f+1,k=>
  if pl<((pss.getD k []).length:Int) then some ("ahead",k,pss.getD k []) else
  match(ws[k]?).bind (·.out) with
  |some y=>if pl-1<(((pss.getD (k+1) []).filter λz=>!decide (some y=some z)).length:Int) then some ("behind",k,(pss.getD (k+1) []).filter λz=>!decide (some y=some z)) else BF pl ws pss f (k+1)
  |none=>BF pl ws pss f (k+1)
def OL(H:Hp)(v:V):Option (Str×Nat×List Str)->Prop
 |none=>v=.non
 |some (wd,k,ss)=>∃p t,v=.ref p/\H p=some (.tup [.str wd,.int (k:Nat),.ref t])/\H t=some (.tup (ss.map V.str))
def lq(_:Fg):Sp:=λvs H Q _=>∃(pl:Int) (wp lt:Addr) (ws:List Wk) (last dd:List Str) (pss:List (List Str)),vs=[.int pl,.ref wp,.ref lt]/\p9 H wp lt ws last/\Lb dd last ws/\rj last ws pss/\
 ∀(v:V) (H':Hp),OL H' v (BF pl ws pss (ws.length+1) 0)->aJ H H'->Q v H'
def qF(K:Fg):Sp:=λvs H Q _=>∃(st nm:Addr) (k:Nat) (ys:List Str),vs=[.ref st,.ref nm]/\ma K H st k/\k<=900000/\nm≠st/\H nm=some (.lst (ys.map V.str))/\ys.length<=20/\
 ∀(m:Option Str) (H':Hp),(∀y,m=some y->y∈ys)->ma K H' st (k+1)->iY st H H'->Q (gB m) H'
def u0(K:Fg):Sp:=λvs H Q _=>∃(st nm:Addr) (m k:Nat) (ys:List Str),vs=[.ref st,.ref nm,.int (m:Nat)]/\ma K H st k/\k<=500000/\nm≠st/\H nm=some (.lst (ys.map V.str))/\1<=ys.length/\ys.length<=20/\m<=100/\
 ∀(wp:Addr) (wvs:List V) (ws:List Wk) (k':Nat) (H':Hp),H' wp=some (.tup wvs)->bo (Ge H') wvs ws->ws.length<=m->(∀w∈ws,w.ins.length<=8/\(∀y∈w.ins,y∈ys))->ma K H' st k'->k'<=k+2000->iY st H H'->Q (.ref wp) H'
def lh(_:Fg):Sp:=λvs H Q _=>∃(wp lt:Addr) (k:Nat) (y:Str) (ws:List Wk) (last:List Str),vs=[.ref wp,.ref lt,.int (k:Nat),.str y]/\p9 H wp lt ws last/\k<=ws.length/\
 ∀(H':Hp),aJ H H'->Q (.bl (wn last (ws.drop k) y)) H'
def rN(_:Fg):Sp:=λvs H Q _=>∃(wp lt nm:Addr) (ws:List Wk) (last ys:List Str),vs=[.ref wp,.ref lt,.ref nm]/\p9 H wp lt ws last/\Lb ys last ws/\H nm=some (.lst (ys.map V.str))/\ys.Nodup/\
 ∀(l:Addr) (tvs:List V) (pss:List (List Str)) (H':Hp),H l=none->H' l=some (.lst tvs)->bo (Gd H') tvs pss->rj last ws pss->aJ H H'->Q (.ref l) H'
def yW(K:Fg):Sp:=λvs H Q _=>∃(st nm:Addr) (m k:Nat) (ys:List Str),vs=[.ref st,.ref nm,.int (m:Nat)]/\ma K H st k/\k<=500000/\nm≠st/\H nm=some (.lst (ys.map V.str))/\ys.length<=20/\m<=100/\
 ∀(lt:Addr) (last:List Str) (k':Nat) (H':Hp),H' lt=some (.tup (last.map V.str))->last.length<=20->last.length<=m->(∀y∈last,y∈ys)->ma K H' st k'->k'<=k+100->iY st H H'->Q (.ref lt) H'
abbrev Ay:Nat:=0
abbrev zt:Nat:=1
abbrev vZ:Nat:=1
abbrev vK:Nat:=2
abbrev Aw:Nat:=2
abbrev zp:Nat:=3
abbrev JV:Nat:=1
abbrev Jq:Nat:=2
abbrev JW:Nat:=2
abbrev Jr:Nat:=3
abbrev Au:Nat:=0
abbrev zk:Nat:=1
abbrev GW:Nat:=1
abbrev FV:Nat:=2
abbrev LX:Nat:=1
abbrev Lz:Nat:=2
def D7(b:List V)(x:V):List V:=(x::b).take b.length
def mQ(_:Fg):Sp:=λvs H Q _=>∃(b:Addr) (x:V) (xs:List V),vs=[.ref b,x]/\H b=some (.tup xs)/\xs≠[]/\xs.length<=1000/\
 ∀(p:Addr) (H':Hp),H' p=some (.tup (D7 xs x))->aJ H H'->Q (.ref p) H'
abbrev CF:Nat:=0
abbrev BL:Nat:=1
section
variable(f:Nat->Nat)(p:Nat->Bool)
variable{f p}
end
def oV:Option Str->V
 |none=>.non
 |some y=>.str y
def cw(os:List (Option Str)):List V:=os.map oV
theorem yC(o:Option Str):gZ (oV o)=true:=by cases o<;>rfl
theorem iS(os:List (Option Str)):(cw os).all gZ=true:=by
 rw[dX]
 intro v hv
 obtain⟨y,_,rfl⟩:=aD.mp hv
 exact yC y
theorem cC(os:List (Option Str)):(cw os).length=os.length:=af ..
theorem yE{os:List (Option Str)}{i:Nat}{o:Option Str}(h:os[i]?=some o):(cw os)[i]?=some (oV o):=by
 unfold cw;rw[aH,h];rfl
theorem mF{os:List (Option Str)}{i:Nat}{v:V}(h:(cw os)[i]?=some v):∃o,os[i]?=some o/\v=oV o:=by
 unfold cw at h
 rw[aH] at h
 cases e:os[i]? with
 |none=>rw[e] at h;cases h
 |some o=>rw[e] at h;exact⟨o,rfl,(Option.some.inj h).symm⟩
theorem DS(a b:Option Str):vU (oV a) (oV b)=decide (a=b):=by
 cases a with
 |none=>cases b with
  |none=>rfl
  |some y=>rfl
 |some x=>cases b with
  |none=>rfl
  |some y=>
   show(x==y)=decide (some x=some y)
   rw[Bool.eq_iff_iff,beq_iff_eq,decide_eq_true_eq]
   exact⟨λh=>by rw[h],λh=>Option.some.inj h⟩
theorem yD{a b:Option Str}(h:oV a=oV b):a=b:=by
 cases a with
 |none=>cases b with
  |none=>rfl
  |some y=>cases h
 |some x=>cases b with
  |none=>cases h
  |some y=>injection h with h;rw[h]
theorem G6{a:Option Str}:oV a=.non↔a=none:=⟨λh=>yD (b:=none) h,λh=>by rw[h];rfl⟩
def qu(os:List (Option Str))(x:Option Str):List (Option Str):=(x::os).take os.length
theorem MF(os:List (Option Str))(x:Option Str):D7 (cw os) (oV x)=cw (qu os x):=by
 unfold D7 qu cw
 rw[af,j5,bz]
def blank(x:Str)(o:Option Str):Option Str:=if o=some x then none else o
def jj(os:List (Option Str))(x:Str):List (Option Str):=qu (os.map (blank x)) (some x)
def Lv(p:Option Str×Option Str):Bool:=decide (p.1=none) || decide (p.1=p.2)
def Bz(as bs:List (Option Str)):Bool:=((as.zip bs).map Lv).all id
def mR(_:Fg):Sp:=λvs H Q _=>∃(a b:Addr) (as bs:List (Option Str)),vs=[.ref a,.ref b]/\H a=some (.tup (cw as))/\H b=some (.tup (cw bs))/\as.length=bs.length/\as.length<=1000/\
 ∀H',aJ H H'->Q (.bl (Bz as bs)) H'
def iK(_:Fg):Sp:=λvs H Q _=>∃(a:Addr) (os:List (Option Str)) (x:Str),vs=[.ref a,.str x]/\H a=some (.tup (cw os))/\os≠[]/\os.length<=1000/\
 ∀(p:Addr) (H':Hp),H' p=some (.tup (cw (jj os x)))->aJ H H'->Q (.ref p) H'
abbrev CI:Nat:=0
abbrev BO:Nat:=1
abbrev yz:Nat:=1
abbrev xS:Nat:=2
def dA(ns:List Str)(acc:List (Option Str))(o:Option Str):List (Option Str):=acc++[if o∈ns.map some/\o∉acc then o else none]
def bq(os:List (Option Str))(ns:List Str):List (Option Str):=os.foldl (dA ns) []
def ju(_:Fg):Sp:=λvs H Q _=>∃(b n:Addr) (os:List (Option Str)) (ns:List Str),vs=[.ref b,.ref n]/\H b=some (.tup (cw os))/\H n=some (.tup (ns.map V.str))/\os.length<=1000/\
 ∀(p:Addr) (H':Hp),H' p=some (.tup (cw (bq os ns)))->aJ H H'->Q (.ref p) H'
abbrev GU:Nat:=0
abbrev FT:Nat:=1
theorem mO(ns:List Str):∀(os acc:List (Option Str)),(os.foldl (dA ns) acc).length=acc.length+os.length
 |[],acc=>by simp
 |o::r,acc=>by
  rw[gn,mO ns r]
  unfold dA
  rw[ai,aI,bf]
  omega
theorem dE(os:List (Option Str))(ns:List Str):(bq os ns).length=os.length:=by unfold bq;rw[mO];simp
def pY(os:List (Option Str))(k:Nat):Prop:=∀j,j<k->os[j]?≠os[k]?
def LF(os:List (Option Str))(ns:List Str)(k:Nat)(o w:Option Str):Prop:=((o∈ns.map some/\pY os k)->w=o)/\(¬(o∈ns.map some/\pY os k)->w=none)
theorem xp(os:List (Option Str))(ns:List Str):∀i,i<=os.length->(((os.take i).foldl (dA ns) []).length=i/\∀k o,k<i->os[k]?=some o->∃w,((os.take i).foldl (dA ns) [])[k]?=some w/\LF os ns k o w)
 |0,_=>⟨by simp,λk o h=>absurd h (dv _)⟩
 |i+1,hi=>by
  obtain⟨hl,ih⟩:=xp os ns i (by omega)
  have hx:os[i]?=some os[i]:=aa (by omega)
  have et:os.take (i+1)=os.take i++[os[i]]:=by rw[fz,hx];rfl
  rw[et,jJ]
  generalize hacc:(os.take i).foldl (dA ns) []=acc at hl ih
  show(dA ns acc os[i]).length=i+1/\∀k o,k<i+1->os[k]?=some o->∃w,(dA ns acc os[i])[k]?=some w/\LF os ns k o w
  unfold dA
  refine⟨by rw[ai,hl];rfl,λk o hk ho=>?_⟩
  by_cases hki:k<i
  ·rw[av (by omega)]
   exact ih k o hki ho
  ·have:k=i:=by omega
   subst this
   rw[ao (by omega),hl,bj]
   rw[hx] at ho
   cases ho
   refine⟨_,rfl,?_⟩
   have key:os[k]∈ns.map some->(os[k]∈acc↔¬pY os k):=λhm=>by
    constructor
    ·intro hin hf
     obtain⟨j,hj,e⟩:=aR.mp hin
     have hj':j<k:=by omega
     obtain⟨w,hw,pk⟩:=ih j os[j] hj' (aa (by omega))
     rw[aa hj] at hw
     have hw':acc[j]=w:=Option.some.inj hw
     by_cases c:os[j]∈ns.map some/\pY os j
     ·have:=pk.1 c
      refine hf j hj' ?_
      rw[hx,aa (show j<os.length by omega),<-this,<-hw',e]
     ·have:=pk.2 c
      rw[<-e,hw',this] at hm
      simp at hm
    ·intro hf
     have hex:∃j,j<k/\os[j]?=os[k]?:=by
      apply Classical.byContradiction
      intro hn
      exact hf λj hj e=>hn ⟨j,hj,e⟩
     have least:∀m:Nat,(∃j:Nat,j<m/\os[j]?=os[k]?)->∃j:Nat,os[j]?=os[k]?/\j<m/\∀j',j'<j->os[j']?≠os[k]?:=by
      intro m
      induction m with
      |zero=>rintro⟨j,hj,_⟩;exact absurd hj (dv _)
      |succ m ihm=>
       rintro⟨j,hj,e⟩
       by_cases c:∃j,j<m/\os[j]?=os[k]?
       ·obtain⟨j2,e2,l2,n2⟩:=ihm c
        exact⟨j2,e2,by omega,n2⟩
       ·have:j=m:=by
         apply Classical.byContradiction
         intro z
         exact c ⟨j,by omega,e⟩
        subst this
        exact⟨j,e,by omega,λj' h' e'=>c ⟨j',h',e'⟩⟩
     obtain⟨j,e,hj,hn⟩:=least k hex
     have hj0:os[j]?=some os[k]:=by rw[e,hx]
     obtain⟨w,hw,pk⟩:=ih j os[k] hj hj0
     have:=pk.1 ⟨hm,λj' h' z=>hn j' h' (z.trans e)⟩
     rw[this] at hw
     exact aC hw
   constructor
   ·rintro⟨h1,h2⟩
    rw[if_pos ⟨h1,λz=>(key h1).mp z h2⟩]
   ·intro h
    rw[if_neg λz=>h ⟨z.1,Classical.byContradiction λy=>z.2 ((key z.1).mpr y)⟩]
theorem tu{os:List (Option Str)}{ns:List Str}{k:Nat}{o:Option Str}(h:os[k]?=some o):∃w,(bq os ns)[k]?=some w/\LF os ns k o w:=by
 have hk:=(ae.mp h).1
 have:=(xp os ns os.length (aw _)).2 k o hk h
 rw[a7] at this
 exact this
theorem wV(o:Option Str)(os:List (Option Str)):sr (oV o) (cw os)=decide (o∈os):=by
 unfold sr cw
 rw[List.any_map,Bool.eq_iff_iff,fW,decide_eq_true_eq]
 constructor
 ·rintro⟨z,hz,e⟩
  have e':vU (oV z) (oV o)=true:=e
  rw[DS,decide_eq_true_eq] at e'
  rw[<-e'];exact hz
 ·intro h
  exact⟨o,h,by show vU (oV o) (oV o)=true;rw[DS];exact decide_eq_true rfl⟩
theorem rP(ns:List Str):ns.map V.str=cw (ns.map some):=by unfold cw;rw[de];rfl
end Bg
end
section
namespace L2
open PySem PySem.Spec PyProof.Rows
theorem L8{kvs:List (ky×V)}{vs:List (ky×Value)}(r:KV kvs vs):∀{i:Nat} {p:ky×V} {q:ky×Value},kvs[i]?=some p->vs[i]?=some q->p.1=q.1/\b7 p.2 q.2:=by
 induction r with
 |nil=>intro i p q e _;simp at e
 |@cons a b as bs h _ ih=>
  intro i p q e1 e2
  match i with
  |0=>cases e1;cases e2;exact h
  |i+1=>exact ih e1 e2
section
variable{X:Cx}{tg:Expr}
structure M0(X:Cx)(o:Expr)(m:Str)(apos cpos:Pos):Prop where
 base:attributeBase o m X.env (eval o X.env)=eval o X.env
 line:(apos.endLine==cpos.line)=true
end
section
variable{X:Cx}{tg l o e f:Expr}{tl td ty tx:TE}{apos cpos:Pos}
theorem AK(ho:QE X o td)(he:QE X e ty)(hf:QE X f tx)(m:M2 X o "setdefault" apos e f cpos):QE X (.Call (.Attribute o "setdefault" apos) [e,f] [] cpos) (u5 td ty tx):=⟨Ho ho.up he.up hf.up m⟩
theorem kX{A:Around}{k:Nat}(hr:ix k A):A.units+5<cLine:=cU (Nat.add_le_add_left (by decide:5<=64) _) hr.units
end
def x9(h:Heap)(d:Addr)(es:Array DictEntry)(ep:Nat):Prop:=∃o,h.get? d=some o/\o.ExactDict/\o.data=.dict es ep
section
variable{prog:Program}{w:World}{A:Around}{E:Value->Shared->Prop}{s:Shared}{it d:Addr}{i ep:Nat}{es:Array DictEntry}
theorem AW{Q:Value->Shared->Prop}(lo:(d==sysModules)=false)(x:x9 s.heap d es ep)
  (q:Q (.ref s.heap.objs.size) {s with heap:=s.heap.push {cls:=.type "dict_keyiterator",data:=.fields #[.ref d,.int 0 0,.int es.size 0,.int ep 0]}}):wpAny (model prog w) A (pyIter (.ref d)) Q E s:=by
 obtain⟨o,ho,hc,hd⟩:=x
 have hT:s.TypeIs (.ref d) "dict":=⟨o,ho,hc.1⟩
 refine wpAny_pyIter_slot hT F.slot_dict_iter (wpAny_call_entry F.slot_dict_iter hT F.entry_dict_iter ?_ (F.args_dict_iter_1 _))
 unfold Builtin.«dict.__iter__» Builtin.Dict.dictSlotNone
 refine wpAny_bind (wpAny_bind (wpAny_notOrdered_dict hT ?_))
 refine wpAny_pure (?_:wpAny _ _ (Builtin.Dict.showsAll d >>= _) _ _ s)
 unfold Builtin.Dict.showsAll
 rw[if_neg (by rw[lo];exact Bool.false_ne_true)]
 refine wpAny_bind (wpAny_pure (wpAny_bind (wpAny_dictEntries ho hd (wpAny_bind (wpAny_dictEpoch ho hd ?_)))))
 refine wpAny_bind (wpAny_newObj_type (wpAny_pure ⟨_,rfl,"dict_keyiterator",_,⟨_,az _ rfl,rfl⟩,F.slot_dict_keyiterator_next.lookup,?_⟩))
 simpa[rawInt] using q
theorem AX{Q:Option Value->Shared->Prop}(hit:s.heap.IsKeyIter it d i es.size ep)(x:x9 s.heap d es ep)(hi:i<es.size)
  (q:∀h',h'.IsKeyIter it d (i+1) es.size ep->Heap.SameBut it s.heap h'->Q (some es[i].key) {s with heap:=h'}):wpAny (model prog w) A (pyNext (.ref it)) Q E s:=by
 obtain⟨o,ho,hc,hd⟩:=id hit
 obtain⟨od,hod,_,hdd⟩:=x
 unfold pyNext
 refine wpAny_bind (wpAny_attempt (wpAny_callSpecial?_slot (name:=Str.ofString "__next__") hit.typeIs F.slot_dict_keyiterator_next (wpAny_call_entry F.slot_dict_keyiterator_next hit.typeIs F.entry_dict_keyiterator_next ?_ (F.args_dict_keyiterator_next_1 _))))
 refine wpAny_bind (wpAny_pure (wpAny_bind (wpAny_bind ?_)))
 first|refine wpAny_bind (wpAny_typeNameOfWhole_keyiter hit.typeIs (wpAny_pure ?_))|refine wpAny_bind (wpAny_typeNameOf_keyiter hit.typeIs (wpAny_pure ?_))
 refine wpAny_bind (wpAny_fieldsOf ho hd ?_)
 simp only[show Builtin.Dict_items.ownsTuple "dict_keyiterator"=false by decide,Bool.false_eq_true,if_false]
 show wpAny _ _ (if(Value.ref d==Value.none)=true then _ else _) _ _ s
 rw[if_neg (show ¬((Value.ref d==Value.none)=true) from Bool.false_ne_true)]
 refine wpAny_bind (wpAny_pure (wpAny_bind (wpAny_dictEntries hod hdd ?_)))
 rw[if_neg (by simp)]
 refine wpAny_bind (wpAny_pure (wpAny_bind (wpAny_dictEpoch hod hdd ?_)))
 rw[if_neg (by simp)]
 refine wpAny_pure ?_
 simp only[show ¬((i:Int)<0) from by omega,if_false,aU,aW hi]
 refine wpAny_bind ?_
 first|refine wpAny_bind (wpAny_typeNameOfWhole_keyiter hit.typeIs (wpAny_pure ?_))|refine wpAny_bind (wpAny_typeNameOf_keyiter hit.typeIs (wpAny_pure ?_))
 refine wpAny_bind (wpAny_isOneOf_keyiter hit.typeIs ?_)
 show wpAny _ _ (setField (.ref it) 1 (rawInt ((i:Int)+1)) >>= _) _ _ s
 refine wpAny_bind (wpAny_setField ho hd (by simp) ?_)
 have hit':(s.heap.update it (Obj.mapFields (·.setIfInBounds 1 (rawInt ((i:Int)+1))))).IsKeyIter it d (i+1) es.size ep:=
  ⟨_,b9 _ ho (Obj.isFreed_of_fields (Obj.data_mapFields hd _)),(Obj.cls_mapFields ..).trans hc,by rw[Obj.data_mapFields hd];simp[rawInt]⟩
 refine wpAny_bind (wpAny_holding (wpAny_bind (wpAny_isOneOf_keyiter (s:={s with heap:=s.heap.update it (Obj.mapFields (·.setIfInBounds 1 (rawInt ((i:Int)+1))))}) hit'.typeIs ?_)))
 show wpAny _ _ (pure es[i].key) _ _ _
 exact wpAny_pure (wpAny_pure ⟨_,rfl,wpAny_pure (q _ hit' (Heap.SameBut.update ..))⟩)
theorem Ea{Q:Option Value->Shared->Prop}(hh:A.handled=none)(hit:s.heap.IsKeyIter it d i es.size ep)(x:x9 s.heap d es ep)(hi:es.size<=i)
  (q:∀h',Heap.ExtBut it s.heap h'->Q none {s with heap:=h'}):wpAny (model prog w) A (pyNext (.ref it)) Q E s:=by
 obtain⟨o,ho,hc,hd⟩:=id hit
 obtain⟨od,hod,_,hdd⟩:=x
 unfold pyNext
 refine wpAny_bind (wpAny_attempt (wpAny_callSpecial?_slot (name:=Str.ofString "__next__") hit.typeIs F.slot_dict_keyiterator_next (wpAny_call_entry F.slot_dict_keyiterator_next hit.typeIs F.entry_dict_keyiterator_next ?_ (F.args_dict_keyiterator_next_1 _))))
 refine wpAny_bind (wpAny_pure (wpAny_bind (wpAny_bind ?_)))
 first|refine wpAny_bind (wpAny_typeNameOfWhole_keyiter hit.typeIs (wpAny_pure ?_))|refine wpAny_bind (wpAny_typeNameOf_keyiter hit.typeIs (wpAny_pure ?_))
 refine wpAny_bind (wpAny_fieldsOf ho hd ?_)
 simp only[show Builtin.Dict_items.ownsTuple "dict_keyiterator"=false by decide,Bool.false_eq_true,if_false]
 show wpAny _ _ (if(Value.ref d==Value.none)=true then _ else _) _ _ s
 rw[if_neg (show ¬((Value.ref d==Value.none)=true) from Bool.false_ne_true)]
 refine wpAny_bind (wpAny_pure (wpAny_bind (wpAny_dictEntries hod hdd ?_)))
 rw[if_neg (by simp)]
 refine wpAny_bind (wpAny_pure (wpAny_bind (wpAny_dictEpoch hod hdd ?_)))
 rw[if_neg (by simp)]
 refine wpAny_pure ?_
 simp only[show ¬((i:Int)<0) from by omega,if_false,aU,dR hi]
 refine wpAny_bind ?_
 first|refine wpAny_bind (wpAny_typeNameOfWhole_keyiter hit.typeIs (wpAny_pure ?_))|refine wpAny_bind (wpAny_typeNameOf_keyiter hit.typeIs (wpAny_pure ?_))
 show wpAny _ _ (setField (.ref it) 0 .none >>= _) _ _ s
 refine wpAny_bind (wpAny_setField ho hd (by simp) ?_)
 show wpAny _ _ (newExc (.type "StopIteration") [] >>= _) _ _ _
 refine wpAny_bind ?_
 simp only[newExc,newTuple]
 refine wpAny_bind (wpAny_newObj_type ?_ (by size_fits))
 refine wpAny_bind (m:=firstArgMember _ _) (wpAny_of_eq (a:=Value.none) (by first|rfl|(simp only[firstArgMember];rfl)) (wpAny_newObj_type ?_ (by size_fits)))
 simp only[raiseNew]
 refine wpAny_bind (wpAny_handled ?_)
 rw[show A.in1.handled=none from hh]
 refine wpAny_bind (wpAny_pure (wpAny_throw ?_))
 refine wpAny_bind (wpAny_isInstance (T:="StopIteration") (b:=true) ⟨_,az _ rfl,rfl⟩ isSubtype_stop ?_)
 exact wpAny_pure (q _ (((Heap.SameBut.update ..).extBut.push _).push _))
end
section
variable{prog:Program}{w:World}{A:Around}{E:Value->Shared->Prop}{s:Shared}{it d:Addr}{i ep:Nat}{es:Array DictEntry}
theorem Ff(d:Addr)(lo:(d==sysModules)=false):MeetsIn prog w (Builtin.«dict.items» ⟨[.ref d],[]⟩) (λ_ R s=>(∃es ep,x9 s.heap d es ep)/\R (.ok (.ret (.ref s.heap.objs.size))) {s with heap:=s.heap.push {cls:=.type "dict_items",data:=.fields #[.ref d]}}):=
 .of_wp λA R s ⟨⟨es,ep,o,ho,hc,_⟩,h⟩=>by
  unfold Builtin.«dict.items» Builtin.Dict.noArgs
  refine wpAny_bind (wpAny_bind (wpAny_notOrdered_dict ⟨o,ho,hc.1⟩ ?_))
  refine wpAny_pure (?_:wpAny _ _ (Builtin.Dict.showsAll d >>= _) _ _ s)
  unfold Builtin.Dict.showsAll
  rw[if_neg (by rw[lo];exact Bool.false_ne_true)]
  exact wpAny_bind (wpAny_pure (wpAny_bind (wpAny_newObj_type (wpAny_pure ⟨_,rfl,h⟩))))
theorem uM{v:Addr}{Q:Value->Shared->Prop}(hv:s.heap.IsItemsView v d)(x:x9 s.heap d es ep)
  (q:Q (.ref s.heap.objs.size) {s with heap:=s.heap.push {cls:=.type "dict_itemiterator",data:=.fields #[.none,.bool false,.ref d,.int 0 0,.int es.size 0,.int ep 0,.none,.none]}}):wpAny (model prog w) A (pyIter (.ref v)) Q E s:=by
 obtain⟨ov,hov,hcv,hdv⟩:=id hv
 obtain⟨o,ho,_,hd⟩:=x
 refine wpAny_pyIter_slot hv.typeIs F.slot_dict_items_iter (wpAny_call_entry F.slot_dict_items_iter hv.typeIs F.entry_dict_items_iter ?_ (F.args_dict_items_iter_1 _))
 unfold Builtin.«dict_items.__iter__»
 refine wpAny_bind (wpAny_pure (wpAny_bind ?_))
 unfold Builtin.Dict_items.dictOf
 refine wpAny_bind (wpAny_field hov hdv (x:=.ref d) rfl (wpAny_pure (wpAny_bind ?_)))
 unfold Builtin.Dict_items.newIterator
 refine wpAny_bind (wpAny_dictEntries ho hd (wpAny_bind (wpAny_dictEpoch ho hd ?_)))
 simp only[show Builtin.Dict_items.ownsTuple "dict_itemiterator"=true by decide,if_true]
 refine wpAny_newObj_type (wpAny_pure ⟨_,rfl,"dict_itemiterator",_,⟨_,az _ rfl,rfl⟩,F.slot_dict_itemiterator_next.lookup,?_⟩)
  (by simp only[sizeOk,Builtin.Dict_items.ownedTupleFields,au,ai,bf,gq,sizeLine_eq];omega)
 simpa[rawInt,Builtin.Dict_items.ownedTupleFields] using q
theorem uN{ok ov:Value}{Q:Option Value->Shared->Prop}(hit:IsItemIter s.heap it d i es.size ep ok ov)(x:x9 s.heap d es ep)(hi:i<es.size)
  (q:∀h',IsItemIterOut h' it d (i+1) es.size ep es[i].key es[i].val s.heap.objs.size->h'.get? s.heap.objs.size=some {cls:=.type "tuple",data:=.seq #[es[i].key,es[i].val]}->h'.objs.size=s.heap.objs.size+1->
   (∀b o,b≠it->s.heap.get? b=some o->h'.get? b=some o)->Q (some (.ref s.heap.objs.size)) {s with heap:=h'}):wpAny (model prog w) A (pyNext (.ref it)) Q E s:=by
 obtain⟨hp,g,dr,tk,os⟩:=s
 obtain⟨od,hod,_,hdd⟩:=x
 have hT:Shared.TypeIs ⟨hp,g,dr,tk,os⟩ (.ref it) "dict_itemiterator":=⟨_,hit,rfl⟩
 unfold pyNext
 refine wpAny_bind (wpAny_attempt (wpAny_callSpecial?_slot (name:=Str.ofString "__next__") hT F.slot_dict_itemiterator_next (wpAny_call_entry F.slot_dict_itemiterator_next hT F.entry_dict_itemiterator_next ?_ (F.args_dict_itemiterator_next_1 _))))
 refine wpAny_bind (wpAny_pure (wpAny_bind (wpAny_bind ?_)))
 first|refine wpAny_bind (wpAny_typeNameOfWhole_itemiter hT (wpAny_pure ?_))|refine wpAny_bind (wpAny_typeNameOf_itemiter hT (wpAny_pure ?_))
 refine wpAny_bind (wpAny_fieldsOf hit rfl ?_)
 simp only[show Builtin.Dict_items.ownsTuple "dict_itemiterator"=true by decide,if_true]
 show wpAny _ _ (if(Value.ref d==Value.none)=true then _ else _) _ _ _
 rw[if_neg (show ¬((Value.ref d==Value.none)=true) from Bool.false_ne_true)]
 refine wpAny_bind (wpAny_pure (wpAny_bind (wpAny_dictEntries hod hdd ?_)))
 rw[if_neg (by simp)]
 refine wpAny_bind (wpAny_pure (wpAny_bind (wpAny_dictEpoch hod hdd ?_)))
 rw[if_neg (by simp)]
 refine wpAny_pure ?_
 simp only[show ¬((i:Int)<0) from by omega,if_false,aU,aW hi]
 refine wpAny_bind ?_
 first|refine wpAny_bind (wpAny_typeNameOfWhole_itemiter hT (wpAny_pure ?_))|refine wpAny_bind (wpAny_typeNameOf_itemiter hT (wpAny_pure ?_))
 refine wpAny_bind (wpAny_isOneOf_itemiter hT ?_)
 show wpAny _ _ (setField (.ref it) 3 (rawInt ((i:Int)+1)) >>= _) _ _ ⟨hp,g,dr,tk,os⟩
 refine wpAny_bind (wpAny_setField_rec hit (by simp) λh₁ he₁ hs₁=>?_)
 replace hs₁:Heap.SameBut it hp h₁:=hs₁
 replace he₁:IsItemIter h₁ it d (i+1) es.size ep ok ov:=by
  have e:((i+1:Nat):Int)=(i:Int)+1:=by omega
  unfold IsItemIter;rw[e];simpa[rawInt] using he₁
 have hT₁:Shared.TypeIs ⟨h₁,g,dr,tk,os⟩ (.ref it) "dict_itemiterator":=⟨_,he₁,rfl⟩
 refine wpAny_bind (wpAny_holding (wpAny_bind (wpAny_isOneOf_itemiter hT₁ ?_)))
 refine wpAny_bind (wpAny_isOneOf_itemiter hT₁ ?_)
 show wpAny _ _ (Builtin.Dict_items.pairFromOwner (.ref it) 6 es[i].key es[i].val) _ _ ⟨h₁,g,dr,tk,os⟩
 generalize es[i].key=kk at q ⊢
 generalize es[i].val=vv at q ⊢
 unfold Builtin.Dict_items.pairFromOwner
 refine wpAny_bind (wpAny_newTuple ?_)
 have he₂:IsItemIter (h₁.push {cls:=.type "tuple",data:=.seq #[kk,vv]}) it d (i+1) es.size ep ok ov:=ag _ he₁
 generalize hh₂:h₁.push {cls:=.type "tuple",data:=.seq #[kk,vv]}=h₂ at he₂
 have hz₁:h₁.objs.size=hp.objs.size:=hs₁.1
 have hil:it<hp.objs.size:=aF hit
 have ht₂:h₂.get? hp.objs.size=some {cls:=.type "tuple",data:=.seq #[kk,vv]}:=by rw[<-hh₂,<-hz₁];exact az _ rfl
 have hz₂:h₂.objs.size=hp.objs.size+1:=by rw[<-hh₂,bF,hz₁]
 have hk₂:∀b o,b≠it->hp.get? b=some o->h₂.get? b=some o:=λb o hb e=>by rw[<-hh₂];exact ag _ (hs₁.extBut b o hb e)
 show wpAny _ _ (Builtin.Dict_items.ownedTupleIsFree (.ref it) >>= _) _ _ ⟨h₂,g,dr,tk,os⟩
 rw[hz₁]
 clear hh₂ he₁ hs₁ hT₁ hz₁ h₁
 refine wpAny_bind ?_
 unfold Builtin.Dict_items.ownedTupleIsFree
 refine wpAny_bind (wpAny_field he₂ rfl (x:=.none) rfl (wpAny_pure ?_))
 simp only[if_true]
 refine wpAny_bind (wpAny_field he₂ rfl (x:=ok) rfl (wpAny_bind (wpAny_field he₂ rfl (x:=ov) rfl ?_)))
 refine wpAny_bind (wpAny_setField_rec he₂ (by simp) λh₃ he₃ hs₃=>?_)
 replace hs₃:Heap.SameBut it h₂ h₃:=hs₃
 replace he₃:IsItemIter h₃ it d (i+1) es.size ep kk ov:=he₃
 refine wpAny_bind (wpAny_setField_rec he₃ (by simp) λh₄ he₄ hs₄=>?_)
 replace hs₄:Heap.SameBut it h₃ h₄:=hs₄
 replace he₄:IsItemIter h₄ it d (i+1) es.size ep kk vv:=he₄
 refine wpAny_bind (wpAny_setField_rec he₄ (by simp) λh₅ he₅ hs₅=>?_)
 replace hs₅:Heap.SameBut it h₄ h₅:=hs₅
 replace he₅:IsItemIterOut h₅ it d (i+1) es.size ep kk vv hp.objs.size:=he₅
 refine wpAny_bind (wpAny_setField_rec he₅ (by simp) λh₆ he₆ hs₆=>?_)
 replace hs₆:Heap.SameBut it h₅ h₆:=hs₆
 replace he₆:IsItemIterOut h₆ it d (i+1) es.size ep kk vv hp.objs.size:=he₆
 have up:∀b o,b≠it->h₂.get? b=some o->h₆.get? b=some o:=λb o n e=>hs₆.extBut b o n (hs₅.extBut b o n (hs₄.extBut b o n (hs₃.extBut b o n e)))
 refine wpAny_bind (wpAny_letGo (wpAny_pure (wpAny_pure ⟨_,rfl,wpAny_pure (q h₆ he₆ (up _ _ (cT hil) ht₂) ?_ λb o hb e=>up b o hb (hk₂ b o hb e))⟩)))
 show h₆.objs.size=hp.objs.size+1
 rw[hs₆.1,hs₅.1,hs₄.1,hs₃.1,hz₂]
theorem wg{ok ov:Value}{Q:Option Value->Shared->Prop}(hh:A.handled=none)(hit:IsItemIter s.heap it d i es.size ep ok ov)(x:x9 s.heap d es ep)(hi:es.size<=i)
  (q:∀h',Heap.ExtBut it s.heap h'->Q none {s with heap:=h'}):wpAny (model prog w) A (pyNext (.ref it)) Q E s:=by
 obtain⟨od,hod,_,hdd⟩:=x
 have hT:s.TypeIs (.ref it) "dict_itemiterator":=⟨_,hit,rfl⟩
 unfold pyNext
 refine wpAny_bind (wpAny_attempt (wpAny_callSpecial?_slot (name:=Str.ofString "__next__") hT F.slot_dict_itemiterator_next (wpAny_call_entry F.slot_dict_itemiterator_next hT F.entry_dict_itemiterator_next ?_ (F.args_dict_itemiterator_next_1 _))))
 refine wpAny_bind (wpAny_pure (wpAny_bind (wpAny_bind ?_)))
 first|refine wpAny_bind (wpAny_typeNameOfWhole_itemiter hT (wpAny_pure ?_))|refine wpAny_bind (wpAny_typeNameOf_itemiter hT (wpAny_pure ?_))
 refine wpAny_bind (wpAny_fieldsOf hit rfl ?_)
 simp only[show Builtin.Dict_items.ownsTuple "dict_itemiterator"=true by decide,if_true]
 show wpAny _ _ (if(Value.ref d==Value.none)=true then _ else _) _ _ s
 rw[if_neg (show ¬((Value.ref d==Value.none)=true) from Bool.false_ne_true)]
 refine wpAny_bind (wpAny_pure (wpAny_bind (wpAny_dictEntries hod hdd ?_)))
 rw[if_neg (by simp)]
 refine wpAny_bind (wpAny_pure (wpAny_bind (wpAny_dictEpoch hod hdd ?_)))
 rw[if_neg (by simp)]
 refine wpAny_pure ?_
 simp only[show ¬((i:Int)<0) from by omega,if_false,aU,dR hi]
 refine wpAny_bind ?_
 first|refine wpAny_bind (wpAny_typeNameOfWhole_itemiter hT (wpAny_pure ?_))|refine wpAny_bind (wpAny_typeNameOf_itemiter hT (wpAny_pure ?_))
 show wpAny _ _ (setField (.ref it) 2 .none >>= _) _ _ s
 refine wpAny_bind (wpAny_setField hit rfl (by simp) ?_)
 show wpAny _ _ (newExc (.type "StopIteration") [] >>= _) _ _ _
 refine wpAny_bind ?_
 simp only[newExc,newTuple]
 refine wpAny_bind (wpAny_newObj_type ?_ (by size_fits))
 refine wpAny_bind (m:=firstArgMember _ _) (wpAny_of_eq (a:=Value.none) (by first|rfl|(simp only[firstArgMember];rfl)) (wpAny_newObj_type ?_ (by size_fits)))
 simp only[raiseNew]
 refine wpAny_bind (wpAny_handled ?_)
 rw[show A.in1.handled=none from hh]
 refine wpAny_bind (wpAny_pure (wpAny_throw ?_))
 refine wpAny_bind (wpAny_isInstance (T:="StopIteration") (b:=true) ⟨_,az _ rfl,rfl⟩ isSubtype_stop ?_)
 exact wpAny_pure (q _ (((Heap.SameBut.update ..).extBut.push _).push _))
end
section
variable{X:Cx}{pins:List (Addr×Obj)}{σ:St}{H:Hp}{s:Shared}{d:Addr}{kvs:List (List b8×V)}{o:Obj}
theorem bu.unfrzT(I:bu X pins σ H s)(e:H d=some (.dT kvs)):∀o v,X.H₀ d≠some (.frz o v):=λo v q=>by
 have:=I.base.frzs d o v q
 rw[e] at this;cases this
theorem bu.freezeT(I:bu X pins σ H s)(e:H d=some (.dT kvs)):∃o es ep,o.data=.dict es ep/\bu X pins σ (aN H d (.frz o (.dT kvs))) s:=by
 have k:=I.hok d _ e
 obtain⟨z,lo,xs,r,o,es,ep,h1,h2,h3,h4⟩:=id k
 refine⟨o,es,ep,h3,I.retell e ⟨h1,z,lo,xs,Paired.mapP r λp q z=>⟨z.1,?_,z.2.2⟩,o,es,ep,h1,h2,h3,h4⟩ (λ_ q=>by cases q) (λ_ q=>by cases q) (λ_ q=>by cases q) (I.unfrzT e)⟩
 rw[aA (λc=>by have:=z.2.1;rw[c,e] at this;cases this)];exact z.2.1
theorem bu.thawT(I:bu X pins σ H s)(e:H d=some (.frz o (.dT kvs)))(hf:∀o v,X.H₀ d≠some (.frz o v)):bu X pins σ (aN H d (.dT kvs)) s:=by
 have k:=I.hok d _ e
 exact I.retell e (k.2.stay (λ_ _ _ z=>z) (λa z=>by rw[aA (λc'=>by rw[c',e] at z;cases z)];exact z) λa xs z=>by rw[aA (λc'=>by rw[c',e] at z;cases z)];exact z) (λ_ q=>by cases q) (λ_ q=>by cases q) (λ_ q=>by cases q) hf
theorem nv{es:Array DictEntry}{ep:Nat}(I:bu X pins σ H s)(e:H d=some (.frz o (.dT kvs)))(hep:o.data=.dict es ep):(d==sysModules)=false/\x9 s.heap d es ep/\es.size=kvs.length/\
  ∀(i:Nat) (hi:i<es.size) k v,kvs[i]?=some (k,v)->∃b,es[i].key=.ref b/\H b=some (.tup (k.map kN))/\b7 v es[i].val:=by
 obtain⟨ho,z,lo,xs,r,o',es',ep',h1,h2,h3,h4,h5⟩:=I.hok d _ e
 rw[ho] at h1;cases h1
 rw[hep] at h3;cases h3
 have sz:es.size=xs.length:=size_of_entries h4
 refine⟨lo,⟨o,ho,h2,hep⟩,sz.trans (Paired.length r).symm,λi hi k v hk=>?_⟩
 have hx:xs[i]?=some (xs[i]'(by rw[<-sz];exact hi)):=aa _
 generalize xs[i]'(by rw[<-sz];exact hi)=x at hx
 have get:∀{l:List (List b8×V)} {m:List (List b8×Addr×Value)},KT H l m->∀{i:Nat} {p q},l[i]?=some p->m[i]?=some q->p.1=q.1/\H q.2.1=some (.tup (p.1.map kN))/\b7 p.2 q.2.2:=by
  intro l m q
  induction q with
  |nil=>intro i p q h;simp at h
  |cons hq t ih=>
   intro i p q h1 h2
   cases i with
   |zero=>simp at h1 h2;rw[<-h1,<-h2];exact hq
   |succ i=>exact ih (by simpa using h1) (by simpa using h2)
 obtain⟨e1,e2,e3⟩:=get r hk hx
 have ent:=entry_at h4 i
 rw[hx,aW hi] at ent
 have ent:es[i]=entryOfKey (tupleKind (cL X.prog X.w)) x:=Option.some.inj ent
 exact⟨x.2.1,by rw[ent];rfl,e2,by rw[ent];exact e3⟩
def zh(d:Addr)(kvs:List (List b8×V))(o:Obj):It:=⟨λi H=>H d=some (.frz o (.dT kvs))/\i<kvs.length,λi H x H'=>H'=H/\∃k v b,kvs[i]?=some (k,v)/\x=.ref b/\H b=some (.tup (k.map kN)),λi H=>H d=some (.frz o (.dT kvs))/\kvs.length<=i⟩
theorem Du{P:Program}{w:World}{K:Fg}{tg:Expr}(d it:Addr)(kvs:List (List b8×V))(o:Obj)(es:Array DictEntry)(ep:Nat)(hep:o.data=.dict es ep):rk P w K tg (zh d kvs o) [it] it (λi h=>h.IsKeyIter it d i es.size ep) where
 mem:=by simp
 obj:=λi h st b hb=>by
  have e:b=it:=by simpa using hb
  subst e
  obtain⟨o,e,c,d⟩:=st
  exact⟨o,e,λv z=>by rw[d] at z;cases z⟩
 keep:=λi h h' st k=>st.at λo e=>k it (by simp) o e
 item:=by
  intro X hP hw hK hc i pins s σ H E I hf st hg
  subst hP hw hK
  obtain⟨e,hi⟩:=hg
  obtain⟨lo,rd,sz,at_⟩:=nv I e hep
  obtain⟨f0,f1,f2,f3,f4,f5⟩:=hf it (by simp)
  have hi':i<es.size:=by lia
  obtain⟨b,ek,hb,_⟩:=at_ i hi' kvs[i].1 kvs[i].2 (aa hi)
  refine AX st rd hi' λh' st' sb=>?_
  have I1:bu X pins σ H {s with heap:=h'}:=I.turned (t':=s.toks) (λb o hb e=>(sb.2 b hb).trans e) f0 f1 f3 f4 f5
  obtain⟨o',e',c',d'⟩:=id st'
  exact⟨es[i].key,rfl,uu (s:={s with heap:=h'}) e' c' d' (by decide) ⟨.ref b,H,I1,ek,⟨rfl,_,_,b,aa hi,rfl,hb⟩,st',λb hb=>(hf b hb).1⟩⟩
 done:=by
  intro X hP hw hK hc i pins s σ H E I hf st hg
  subst hP hw hK
  obtain⟨e,hi⟩:=hg
  obtain⟨lo,rd,sz,_⟩:=nv I e hep
  obtain⟨f0,f1,f2,f3,f4,f5⟩:=hf it (by simp)
  exact Ea (I.ok.hd hc) st rd (by lia) λh' eb=>⟨rfl,I.turned (t':=s.toks) (λb o hb e=>eb b o hb e) f0 f1 f3 f4 f5⟩
 self:=λ_ _ _ _ _ st h=>wpAny_pyIter_keyiter st h
def FO(d:Addr)(kvs:List (List b8×V))(o:Obj):It:=⟨λi H=>H d=some (.frz o (.dT kvs))/\i<kvs.length,λi H x H'=>∃p k v b,H p=none/\x=.ref p/\H'=aN H p (.tup [.ref b,v])/\kvs[i]?=some (k,v)/\H b=some (.tup (k.map kN)),λi H=>H d=some (.frz o (.dT kvs))/\kvs.length<=i⟩
theorem By{P:Program}{w:World}{K:Fg}{elts:List Expr}{k:Nat}{pos:Pos}(d it:Addr)(kvs:List (List b8×V))(o:Obj)(es:Array DictEntry)(ep:Nat)(hep:o.data=.dict es ep):rk P w K (.Tuple elts k pos) (FO d kvs o) [it] it (λi h=>∃ok ov,IsItemIter h it d i es.size ep ok ov) where
 mem:=by simp
 obj:=λi h st b hb=>by
  have e:b=it:=by simpa using hb
  subst e
  obtain⟨ok,ov,e⟩:=st
  exact⟨_,e,λv z=>by have z':Data.fields _=Data.cell v:=z;cases z'⟩
 keep:=λi h h' st k=>let⟨ok,ov,e⟩:=st;⟨ok,ov,k it (by simp) _ e⟩
 item:=by
  intro X hP hw hK hc i pins s σ H E I hf st hg
  subst hP hw hK
  obtain⟨ok,ov,st⟩:=st
  obtain⟨e,hi⟩:=hg
  obtain⟨lo,rd,sz,at_⟩:=nv I e hep
  have hi':i<es.size:=by lia
  obtain⟨bk,ek,hbk,rv⟩:=at_ i hi' kvs[i].1 kvs[i].2 (aa hi)
  refine uN st rd hi' λh1 ho hT hsz hkp=>?_
  refine⟨_,rfl,?_⟩
  have fT:px X pins H s.heap.objs.size:=I.fpOk (aw _) (I.hok.fresh (aw _))
  have itlt:it<s.heap.objs.size:=aF st
  refine wpAny_letOwnedTupleGo_items (s:={s with heap:=h1}) ho λh2 he2 hs2=>?_
  have I1:bu X pins σ H {s with heap:=h2,toks:=s.toks}:=I.turnedL (t':=s.toks) (ch:=[it]) (λb o hb q=>by
   have b1:b≠it:=λz=>hb (by simp[z])
   exact(hs2.2 b b1).trans (hkp b o b1 q)) hf
  have gT:h2.get? s.heap.objs.size=some {cls:=.type "tuple",data:=.seq #[es[i].key,es[i].val]}:=(hs2.2 _ (cT itlt)).trans hT
  have I2:=I1.adopt (T:=s.heap.objs.size) (o:=.tup [.ref bk,kvs[i].2]) fT (tH (X:=X) gT (show b7 (.ref bk) _ from ek) rv)
  refine⟨.ref s.heap.objs.size,_,I2,rfl,⟨s.heap.objs.size,kvs[i].1,kvs[i].2,bk,fT.1,rfl,rfl,aa hi,hbk⟩,⟨es[i].key,es[i].val,he2⟩,λb hb=>?_⟩
  have nT:b≠s.heap.objs.size:=by rw[aj.mp hb];exact aO itlt
  rw[aA nT];exact(hf b hb).1
 done:=by
  intro X hP hw hK hc i pins s σ H E I hf st hg
  subst hP hw hK
  obtain⟨ok,ov,st⟩:=st
  obtain⟨e,hi⟩:=hg
  obtain⟨lo,rd,sz,_⟩:=nv I e hep
  obtain⟨f0,f1,f2,f3,f4,f5⟩:=hf it (by simp)
  exact wg (I.ok.hd hc) st rd (by lia) λh' eb=>⟨rfl,I.turned (t':=s.toks) (λb o hb e=>eb b o hb e) f0 f1 f3 f4 f5⟩
 self:=λ_ _ _ _ _ st h=>by
  obtain⟨ok,ov,st⟩:=st
  exact PySem.W.kcp_self st h
end
section
variable{X:Cx}{tg:Expr}
def uw(te:TE):TI:=λσ H R=>te σ H λx H1=>∃d kvs,x=.ref d/\H1 d=some (.dT kvs)/\∀o,R (zh d kvs o) (aN H1 d (.frz o (.dT kvs)))
theorem qw{l:Expr}{tl:TE}(hl:QE X l tl):QI X tg l (uw tl):=⟨by
 intro pins s σ H R I h
 refine eJ (hl.up pins s σ H _ I h) λv s1 ⟨x,H1,I1,r1,q1⟩=>?_
 obtain⟨d,kvs,rfl,e,q⟩:=q1
 cases r1
 obtain⟨o,es,ep,hep,I2⟩:=I1.freezeT e
 obtain⟨lo,rd,sz,_⟩:=nv I2 ak hep
 refine AW lo rd ?_
 refine⟨s1.heap.objs.size,[s1.heap.objs.size],_,_,_,rfl,I2.kept (t':=s1.toks) λb o e=>ag _ e,Du d _ kvs o es ep hep,⟨_,az _ rfl,rfl,rfl⟩,λb hb=>?_,q o⟩
 have e:b=s1.heap.objs.size:=by simpa using hb
 subst e
 exact I2.fpOk (aw _) (I2.hok.fresh (aw _))⟩
def yt(te:TE):TI:=λσ H R=>te σ H λx H1=>∃d kvs,x=.ref d/\H1 d=some (.dT kvs)/\∀o,R (FO d kvs o) (aN H1 d (.frz o (.dT kvs)))
theorem xj{l:Expr}{tl:TE}{apos cpos:Pos}{elts:List Expr}{k:Nat}{pos:Pos}(hl:QE X l tl)(m:M0 X l "items" apos cpos):QI X (.Tuple elts k pos) (.Call (.Attribute l "items" apos) [] [] cpos) (yt tl):=⟨by
 intro pins s σ H R I h
 refine wpAny_Call_method (T:="dict") (id:="dict.items") m.base rfl m.line eT PySem.F.slot_dict_items PySem.F.type_dict_items (eJ (hl.up pins s σ H _ I h) λv s1 ⟨x,H1,I1,r1,q1⟩=>?_)
 obtain⟨d,kvs,rfl,e,q⟩:=q1
 cases r1
 obtain⟨t1,t2,_⟩:=yu I1 (.inr ⟨kvs,.inl e⟩)
 refine⟨t1,t2,?_⟩
 obtain⟨z,lo,xs0,r0,o0,es0,ep0,h1,h2,h3,_⟩:=I1.hok d _ e
 show wpAny _ _ (callWith cpos (.builtin "dict.items") [.ref d] [] []) _ _ s1
 refine method_meetsIn PySem.F.slot_dict_items PySem.F.entry_dict_items rfl (PySem.evalArgs_none ⟨rfl,⟨o0,h1,h2.1⟩,PySem.F.args_dict_items_1 _,_,Ff d lo,⟨es0,ep0,o0,h1,h2,h3⟩,?_⟩)
 have I1':bu X pins σ H1 {s1 with heap:=s1.heap.push {cls:=.type "dict_items",data:=.fields #[.ref d]}}:=I1.kept (t':=s1.toks) λb o e=>ag _ e
 obtain⟨o,es,ep,hep,I2⟩:=I1'.freezeT e
 obtain⟨_,rd,sz,_⟩:=nv I2 ak hep
 refine uM (s:={s1 with heap:=s1.heap.push {cls:=.type "dict_items",data:=.fields #[.ref d]}}) ⟨_,az _ rfl,rfl,rfl⟩ rd ?_
 refine⟨_,[_],_,_,_,rfl,I2.kept (t':=s1.toks) λb o e=>ag _ e,By d _ kvs o es ep hep,⟨.none,.none,az _ rfl⟩,λb hb=>?_,q o⟩
 have e:b=(s1.heap.push {cls:=.type "dict_items",data:=.fields #[.ref d]}).objs.size:=by simpa using hb
 subst e
 exact I2.fpOk (aw _) (I2.hok.fresh (aw _))⟩
def Ni(H H':Hp)(R:Hp->Prop):Prop:=R H'\/∃d kvs kvs' o,H d=some (.dT kvs)/\H' d=some (.frz o (.dT kvs'))/\R (aN H' d (.dT kvs'))
def IE(te:TE):TE:=λσ H Q=>te σ H λv H'=>Ni H H' (Q v)
theorem HK{e:Expr}{te:TE}(h:QE X e te):QE X e (IE te):=⟨by
 intro pins s σ H Q I q
 refine eJ (h.up pins s σ H _ I q) λv s1 ⟨x,H1,I1,r1,q1⟩=>?_
 rcases q1 with q1|⟨d,kvs,kvs',o,e1,e2,q1⟩
 ·exact⟨x,H1,I1,r1,q1⟩
 ·exact⟨x,_,I1.thawT e2 (I.unfrzT e1),r1,q1⟩⟩
def rR(ts:TS):TS:=λD σ H=>ts {D with nx:=λσ' H'=>Ni H H' (D.nx σ')} σ H
theorem mL{st:Stmt}{ts:TS}(h:QS X st ts):QS X st (rR ts):=⟨by
 intro pins s σ H D I q
 refine eJ (h.up pins s σ H _ I q) λf s1 h1=>?_
 cases f with
 |next=>
  obtain⟨σ',H1,I1,q1⟩:=h1
  rcases q1 with q1|⟨d,kvs,kvs',o,e1,e2,q1⟩
  ·exact⟨σ',H1,I1,q1⟩
  ·exact⟨σ',_,I1.thawT e2 (I.unfrzT e1),q1⟩
 |ret u=>exact h1
 |brk=>exact h1
 |cont=>exact h1⟩
end
theorem nJ{prog:Program}{w:World}{h h':Heap}{k:List b8}{a:Addr}(x:(tupleKind (cL prog w)).is h k a)(f:∀o,o.cls=.type "tuple"->h.get? a=some o->h'.get? a=some o):(tupleKind (cL prog w)).is h' k a:=by
 obtain⟨o,its,n,h1,h2,r⟩:=x
 exact⟨o,its,n,f o h2 h1,h2,r⟩
def kZ(kvs more:List (List b8×V)):List (List b8×V):=more.foldl (λacc kv=>iU acc kv.1 kv.2) kvs
theorem oo:∀(more kvs:List (List b8×V)),(kZ kvs more).length<=kvs.length+more.length
 |[],kvs=>aw _
 |p::r,kvs=>by
  have h1:=oo r (iU kvs p.1 p.2)
  have h2:=gL kvs p.1 p.2
  show(kZ (iU kvs p.1 p.2) r).length<=kvs.length+(r.length+1)
  lia
section
variable{prog:Program}{w:World}{A:Around}{R:Result->Shared->Prop}
def Ng(prog:Program)(w:World)(H:Hp)(h:Heap)(xs:Array Value)(kvs:List (List b8×V)):Prop:=∀(j:Nat) k v x,kvs[j]?=some (k,v)->xs[j]?=some x->∃t a u,x=.ref t/\h.IsTuple t #[.ref a,u]/\(tupleKind (cL prog w)).is h k a/\H a=some (.tup (k.map kN))/\b7 v u
theorem Ng.keep{H:Hp}{h h':Heap}{xs:Array Value}{kvs:List (List b8×V)}(p:Ng prog w H h xs kvs)(f:∀c o,o.cls=.type "tuple"->h.get? c=some o->h'.get? c=some o):Ng prog w H h' xs kvs:=λj k v x e1 e2=>by
 obtain⟨t,a,u,e,⟨o,ho,hc,r⟩,i,z⟩:=p j k v x e1 e2
 exact⟨t,a,u,e,⟨o,f t o hc ho,hc,r⟩,nJ i (f a),z⟩
theorem FB{H:Hp}{d it l:Addr}{xs:Array Value}{more:List (List b8×V)}{res:Value}(hh:A.handled=none)(hu:A.units+2<cLine)(n1:d≠it)(n2:d≠l)(n3:it≠l)(hk:more.length=xs.size)(hz:xs.size<=100000) :
  ∀(m i:Nat) (s:Shared) (kvs:List (List b8×V)) (ys:List (List b8×Addr×Value)),xs.size-i=m->i<=xs.size->s.heap.IsListIter it l i->s.heap.IsList l xs->Ng prog w H s.heap xs more->KT H kvs ys->s.heap.DictOfH (tupleKind (cL prog w)) d ys->ys.length<=i->
   (∀h' tk ys',KT H (kZ kvs (more.drop i)) ys'->h'.DictOfH (tupleKind (cL prog w)) d ys'->(∀c o,c≠d->c≠it->s.heap.get? c=some o->h'.get? c=some o)->R (.ok (.ret res)) {s with heap:=h',toks:=tk})->
   codeAny (model prog w) A (.builtin "dict.update.loop" ⟨[.ref d,.ref it,rawInt i,res],[]⟩) R s:=by
 intro m
 induction m with
 |zero=>
  intro i s kvs ys hm hi hit hl P kt dd hlen hR
  have ei:i=xs.size:=by lia
  refine codeAny_builtin F.entry_dict_update_loop ?_
  rw[Around.under_plainId F.plain_dict_update_loop _]
  show wpAny _ A.in1 (pyNext (.ref it) >>= _) _ _ s
  refine wpAny_bind (wpAny_pyNext_list_end (A:=A.in1) hh hit hl (by rw[ei];simp) λh' eb=>?_)
  rw[show more.drop i=[] from List.drop_of_length_le (by lia)] at hR
  obtain⟨o,es,ep,ho,hc,hd,he,his,hn⟩:=dd
  refine wpAny_bind (wpAny_pure (wpAny_pure (hR h' s.toks ys kt ⟨o,es,ep,eb d o n1 ho,hc,hd,he,λx hx=>nJ (his x hx) λo' hc' e=>eb _ o' (λz=>?_) e,hn⟩ λc o _ c2 e=>eb c o c2 e)))
  obtain⟨o2,ho2,hc2,_⟩:=hit
  rw[z,ho2] at e;cases e
  rw[hc2] at hc'
  injection hc' with hc'
  exact absurd hc' (by decide)
 |succ m ih=>
  intro i s kvs ys hm hi hit hl P kt dd hlen hR
  refine codeAny_builtin F.entry_dict_update_loop ?_
  rw[Around.under_plainId F.plain_dict_update_loop _]
  show wpAny _ A.in1 (pyNext (.ref it) >>= _) _ _ s
  have il:i<xs.size:=by lia
  have hx:xs[i]?=some xs[i]:=aW il
  have kl:i<more.length:=by lia
  obtain⟨t,a,u,et,⟨ot,hot,hct,nt,hdt⟩,his,ha,ru⟩:=P i more[i].1 more[i].2 _ (aa kl) hx
  refine wpAny_bind (wpAny_pyNext_list_item hit hl (x:=.ref t) (by rw[hx,et]) λh' hit' sb=>?_)
  have kp:∀c o,c≠it->s.heap.get? c=some o->h'.get? c=some o:=λc o n e=>(sb.2 c n).trans e
  have nit:∀c o,o.cls=.type "tuple"->s.heap.get? c=some o->c≠it:=λc o hc e z=>by
   obtain⟨o',ho',hc',_⟩:=hit
   rw[z,ho'] at e;cases e
   rw[hc'] at hc
   injection hc with hc
   exact absurd hc (by decide)
  have hot':=kp t ot (nit t ot hct hot) hot
  refine wpAny_bind (wpAny_holding (wpAny_bind (wpAny_tryCatch ?_)))
  unfold Builtin.Dict.pairItems
  refine wpAny_bind (wpAny_typeOf (T:="tuple") ⟨_,hot',hct⟩ ?_)
  rw[if_pos (by decide)]
  refine wpAny_bind (wpAny_seqItems hot' hdt (wpAny_pure ?_))
  have dd':h'.DictOfH (tupleKind (cL prog w)) d ys:=by
   obtain⟨o,es,ep,ho,hc,hd,he,hi2,hn⟩:=dd
   exact⟨o,es,ep,kp d o n1 ho,hc,hd,he,λx hx=>nJ (hi2 x hx) λo' hc' e=>kp _ o' (nit _ o' hc' e) e,hn⟩
  refine wpAny_holding (wpAny_dictSet_heap (s:={s with heap:=h'}) (show(tupleKind (cL prog w)).room A.in1 from(by show A.units+1<cLine;lia)) (nJ his λo' hc' e=>kp _ o' (nit _ o' hc' e) e) dd' (λh2 d2 s2=>?_) (hsz:=bW (cU (br hlen (br hi hz)) (by decide))))
  have e1:(i:Int)+1=((i+1:Nat):Int):=by lia
  refine wpAny_pure ⟨plainId_quiet F.plain_dict_update_loop _,?_⟩
  rw[e1]
  rw[cy kl] at hR
  have nd:∀c o,o.cls=.type "tuple"->h'.get? c=some o->c≠d:=λc o hc e z=>by
   obtain⟨o',_,_,e',x,_⟩:=dd'
   rw[z,e'] at e;cases e
   rw[x.1] at hc
   injection hc with hc
   exact absurd hc (by decide)
  have kt2:=kt.put more[i].1 (b:=a) ha ru
  refine ih (i+1) _ (iU kvs more[i].1 more[i].2) (storedH ys more[i].1 a u) (by lia) (by lia) (hit'.at λo e=>s2.extBut it o (Ne.symm n1) e) ((hl.at λo e=>kp l o (Ne.symm n3) e).at λo e=>s2.extBut l o (Ne.symm n2) e) (P.keep λc o hc e=>s2.extBut c o (nd c o hc (kp c o (nit c o hc e) e)) (kp c o (nit c o hc e) e)) kt2 d2 ?_ λh3 tk3 ys3 kt3 d3 kp3=>?_
  ·have h1:=Paired.length kt2
   have h2:=Paired.length kt
   have h3:=gL kvs more[i].1 more[i].2
   lia
  ·exact hR h3 tk3 ys3 kt3 d3 λc o c1 c2 e=>kp3 c o c1 c2 (s2.extBut c o c1 (kp c o c2 e))
end
section
variable{prog:Program}{w:World}{A:Around}{E:Value->Shared->Prop}{s:Shared}
theorem Cq{H:Hp}{l:Addr}{xs:Array Value}{n:Nat}{more:List (List b8×V)}{Q:Value->Shared->Prop}(hh:A.handled=none)(hu:A.units+5<cLine)(hl:s.heap.get? l=some {cls:=.type "list",dict:=none,data:=.seq xs n,slots:=#[]})(hk:more.length=xs.size)(hz:xs.size<=100000)(P:Ng prog w H s.heap xs more)
  (hQ:∀h' tk ys',KT H (kZ [] more) ys'->h'.DictOfH (tupleKind (cL prog w)) s.heap.objs.size ys'->(∀c o,s.heap.get? c=some o->h'.get? c=some o)->Q (.ref s.heap.objs.size) {s with heap:=h',toks:=tk}) :
  wpAny (model prog w) A (call (.type "dict") [.ref l]) Q E s:=by
 refine callType_codes (Q₁:=λobj s₁=>obj=.ref s.heap.objs.size/\s₁={s with heap:=s.heap.push {cls:=.type "dict",data:=.dict #[]}}) F.kt_called_dict (F.kt_typeCall_dict_1 _) F.entry_dict_init (kt_code_dict_new _ ⟨rfl,rfl⟩) ?_
 rintro obj s₁ ⟨rfl,rfl⟩
 have dn:(s.heap.push {cls:=.type "dict",data:=.dict #[]}).DictOfH (tupleKind (cL prog w)) s.heap.objs.size []:=Heap.DictOfH.new s.heap
 have up:∀c o,s.heap.get? c=some o->(s.heap.push {cls:=.type "dict",data:=.dict #[]}).get? c=some o:=λc o e=>ag _ e
 refine⟨dn.typeIs,F.args_dict_init_2 _ _,?_⟩
 refine wpAny_bind (m:=Builtin.Dict.selfAndRest _ _) (wpAny_bind (wpAny_notOrdered_dict dn.typeIs (wpAny_pure ?_)))
 show wpAny _ _ (Builtin.Dict.updateFrom "dict.__init__" s.heap.objs.size (.ref l) [] .none) _ _ _
 refine wpAny_bind (wpAny_typeOf (T:="list") ⟨_,up _ _ hl,rfl⟩ ?_)
 rw[if_pos (by decide)]
 refine wpAny_bind (E5 (up _ _ hl) hh λh1 tk1 k1=>?_)
 have k2:∀c o,s.heap.get? c=some o->h1.get? c=some o:=λc o e=>k1 c o (up c o e)
 rw[if_pos (show(none:Option Value).isNone=true from rfl)]
 have hl1:h1.IsList l xs:=⟨_,k2 _ _ hl,rfl,n,rfl⟩
 refine wpAny_bind (wpAny_rule (wpAny_bind (wpAny_pyIter_list (s:={s with heap:=h1,toks:=tk1}) hl1 (wpAny_pure ⟨plainId_quiet F.plain_dict_update_loop _,?_⟩))))
 have dn1:∀{h2:Heap},(∀c o,h1.get? c=some o->h2.get? c=some o)->h2.DictOfH (tupleKind (cL prog w)) s.heap.objs.size []:=λf=>by
  obtain⟨o,es,ep,ho,hc,hd,he,_,hn⟩:=dn
  exact⟨o,es,ep,f _ _ (k1 _ _ ho),hc,hd,he,λx hx=>(nomatch hx),hn⟩
 have up2:∀c o,h1.get? c=some o->(h1.push (wW false l)).get? c=some o:=λc o e=>ag _ e
 have llt:l<s.heap.objs.size:=aF hl
 have dlt:s.heap.objs.size<h1.objs.size:=let⟨_,_,_,e,_⟩:=dn1 (h2:=h1) λ_ _ e=>e;aF e
 refine FB (A:=A.in1) (H:=H) (more:=more) hh (by show A.units+1+2<cLine;lia) (it:=h1.objs.size) (aO dlt) (cT llt) (cT (jh llt dlt)) hk hz xs.size 0 _ [] [] rfl (a8 _) ⟨_,az _ rfl,rfl,rfl⟩ (hl1.at λo e=>up2 _ o e) (P.keep λc o _ e=>up2 c o (k2 c o e)) .nil (dn1 up2) (a8 _) λh' tk ys' kt d' kp=>⟨rfl,?_⟩
 exact hQ h' tk ys' kt d' λc o e=>by
  have lt:=aF e
  exact kp c o (aO lt) (aO (jh lt dlt)) (up2 c o (k2 c o e))
end
section
variable{X:Cx}
def uK(K:Fg):List V->Hp->VK->Prop:=λxs H Q=>∃(l:Addr) (ps:List V) (kvs:List (List b8×V)),xs=[.ref l]/\H l=some (.lst ps)/\ps.length=kvs.length/\kvs.length<=100000/\(∀(j:Nat) x k v,ps[j]?=some x->kvs[j]?=some (k,v)->∃t a,x=.ref t/\H t=some (.tup [.ref a,v])/\H a=some (.tup (k.map kN)))/\∀d,H d=none->Q (.ref d) (aN H d (.dT (kZ [] kvs)))
theorem qd(hc:X.calm=true)(hu:X.A.units+5<cLine):iO X (.type "dict") (uK X.K):=by
 intro pins s σ H xs us Q I r h
 obtain⟨l,ps,kvs,rfl,hl,hlen,hz,hp,q⟩:=h
 obtain⟨u,rfl,rx⟩:=kM r
 cases rx
 obtain⟨z,its,n,rv,el,e⟩:=I.lstM hl
 have l1:=rv.length
 refine Cq (H:=H) (more:=kvs) (I.ok.hd hc) hu e (by rw[au];lia) (by rw[au];lia) (λj k v x e1 e2=>?_) λh' tk ys kt d' kp=>?_
 ·have jl:j<ps.length:=by have:=(ae.mp e1).1;lia
  obtain⟨t,a,et,ht,ha⟩:=hp j _ k v (aa jl) e1
  obtain⟨u,hu',ru⟩:=rv.get (i:=j) (x:=ps[j]) (aa jl)
  rw[fi,hu'] at e2;cases e2
  rw[et] at ru
  cases ru
  obtain⟨its2,r2,t2,_⟩:=I.tuple (cE.of (K:=X.K) ht)
  obtain⟨a',w',rfl,ra,rw'⟩:=Ja r2
  obtain rfl:a'=Value.ref a:=ra
  exact⟨t,a,w',rfl,t2,mC I.hok ha,ha,rw'⟩
 ·have hn:H s.heap.objs.size=none:=I.hok.fresh (aw _)
  have hlen2:(kZ [] kvs).length<=sizeLine:=br (oo _ _) (br (show[].length+kvs.length<=100000 by rw[gq];lia) (show 100000<=sizeLine by decide))
  obtain⟨o,es,ep,ho,hc',hd,he,_,hnd⟩:=d'
  refine⟨.ref s.heap.objs.size,_,I.laid (t':=tk) (o:=.dT (kZ [] kvs)) kp (aw _) ⟨hlen2,beq_eq_false_iff_ne.mpr (cT I.big),ys,Paired.mapP kt λp q z=>⟨z.1,?_,z.2.2⟩,o,es,ep,ho,hc',hd,he,hnd⟩,rfl,q _ hn⟩
  rw[aA (λc=>by have:=z.2.1;rw[c,hn] at this;cases this)];exact z.2.1
end
section
variable{X:Cx}
def HV:List V->Hp->VK->Prop:=λxs H Q=>∃(d:Addr) (kvs:List (ky×V)),xs=[.ref d]/\Rd H d (.dK kvs)/\kvs≠[]/\(∀kv∈kvs,∃i,kv.1=Sum.inl i)/\
 ∀m:Int,(∃v,(Sum.inl m,v)∈kvs)->(∀i v,(Sum.inl i,v)∈kvs->m<=i)->Q (.int m) H
theorem Ce(hc:X.calm=true):iO X (.builtin "min") HV:=by
 intro pins s σ H xs us Q I r h
 obtain⟨d,kvs,rfl,hd,ne,ik,q⟩:=h
 obtain⟨u,rfl,rx⟩:=kM r
 cases rx
 obtain⟨z,lo,vs,rel,dd⟩:=qe I.hok hd
 obtain⟨o,es,ep,ho,hx,hdat,r2⟩:=dd
 have da:s.heap.DictAt (eF X.prog X.w) d vs ep:=⟨o,es,ho,hx,hdat,r2⟩
 have kl:=rel.length
 have pos:0<vs.length:=by rw[<-kl];exact dN.mpr ne
 have hh:X.A.in1.handled=none:=I.ok.hd hc
 have nd:d≠s.heap.objs.size:=aO (aF ho)
 have num:∀i,i<kvs.length->∃n:Int,∃v,kvs[i]?=some (Sum.inl n,v):=λi hi=>by
  obtain⟨n,e⟩:=ik kvs[i] (cf hi)
  exact⟨n,kvs[i].2,by rw[aa hi,<-e]⟩
 let val:Nat->Int:=λi=>match kvs[i]? with
  |some (Sum.inl n,_)=>n
  |_=>0
 have vis:∀i n v,kvs[i]?=some (Sum.inl n,v)->val i=n:=λi n v e=>by show(match kvs[i]? with|some (Sum.inl n,_)=>n|_=>0)=n;rw[e]
 have hv:∀i v,(∃k x,vs[i]?=some (k,x)/\(eF X.prog X.w).is k v=true)->∃t,v=.int (val i) t:=λi v ⟨k,x,e,hk⟩=>by
  have il:i<kvs.length:=by have:=(ae.mp e).1;lia
  obtain⟨n,v',en⟩:=num i il
  have:=(L8 rel en e).1
  have ek:k=Sum.inl n:=this.symm
  subst ek
  obtain⟨t,rfl⟩:=Value.isInt_shape (k:=n) (v:=v) hk
  exact⟨t,by rw[vis i n v' en]⟩
 refine call_min_walk (wpAny_pyIter_dict lo da ⟨_,_,_,_,_,_,_,rfl,Walks.dictKeys (A:=X.A.in1) hh s.heap.objs.size d nd vs ep,⟨⟨_,az _ rfl,rfl,rfl⟩,da.push _⟩,λb hb=>?_,pos,CmpOf.ints_lt val hv,λv h' tk p k=>?_⟩)
 ·rw[bF]
  simp only[aM,cF,or_false] at hb
  rcases hb with rfl|rfl
  ·exact cZ _
  ·exact dh (aF ho)
 ·obtain⟨t,rfl⟩:=hv _ _ p
  obtain⟨b1,b2⟩:=argBest_lt val (vs.length-1)
  generalize argBest (λi j=>decide (val i<val j)) (vs.length-1)=j at b1 b2 p
  have jl:j<kvs.length:=by lia
  obtain⟨n,v',en⟩:=num j jl
  have I1:bu X pins σ H {s with heap:=h',toks:=tk}:=I.kept (t':=tk) λb o e=>k b o (λz=>by
   have:=aj.mp z
   have:=aF e
   lia) (ag _ e)
  refine⟨.int (val j),H,I1,⟨t,rfl⟩,?_⟩
  rw[vis j n v' en] at b2 ⊢
  refine q n ⟨v',aC en⟩ λi v hm=>?_
  obtain⟨m,hm',e⟩:=aR.mp hm
  have:=b2 m (by lia)
  rw[vis m i v (by rw[aa hm',e])] at this
  exact this
end
section
variable{X:Cx}{o e:Expr}{td ty:TE}{pos apos cpos:Pos}
def Lp:List V->Hp->VK->Prop:=λxs H Q=>∃a kvs,xs=[V.ref a]/\H a=some (.dK kvs)/\Q (.int kvs.length) H
theorem Cd:iO X (.builtin "len") Lp:=ER
theorem uH:QE X (.Dict [] [] pos) u4:=⟨Hm⟩
theorem HH(ho:QE X o td)(he:QE X e ty)(m:M1 X o "pop" apos e cpos):QE X (.Call (.Attribute o "pop" apos) [e] [] cpos) (Dl td ty):=⟨Hn ho.up he.up m⟩
theorem HC(hu:X.A.units+1<cLine)(ho:QE X o td)(he:QE X e ty)(m:M1 X o "get" apos e cpos):QE X (.Call (.Attribute o "get" apos) [e] [] cpos) (Dh td ty):=⟨Hi hu ho.up he.up m⟩
end
end L2
end
section
namespace Bg
open PySem L2
abbrev Bt:=List (Option Str)
def cK(b:Bt):List b8:=b.map λo=>o.map Sum.inr
theorem d5(b:Bt):(cK b).map kN=cw b:=by
 unfold cK cw
 rw[de]
 exact du λo _=>by cases o<;>rfl
theorem mB{a b:Bt}(h:cK a=cK b):a=b:=by
 unfold cK at h
 refine(List.map_inj_right (f:=λo:Option Str=>o.map (Sum.inr:Str->ky)) λx y e=>?_).mp h
 cases x with
 |none=>cases y with
  |none=>rfl
  |some y=>cases e
 |some x=>cases y with
  |none=>cases e
  |some y=>injection e with e;injection e with e;rw[e]
def iN(H:Hp)(v:V)(b:Bt):Prop:=∃p,v=.ref p/\H p=some (.tup (cw b))
def mI(b:Bt):List Nat:=match b.getLast? with
 |some (some _)=>[b.length-1]
 |_=>(bZ b.length).filter λi=>((b[i]?).getD none).isSome
def nB(b:Bt)(i:Nat):Bt:=match(b[i]?).getD none with
 |some x=>jj b x
 |none=>b
def kts(b:Bt):List Bt:=(mI b).map (nB b)
def iZ(b:Bt)(x:Option Str)(ns:List Str):Bt:=bq (match x with
 |none=>b
 |some y=>jj b y) ns
def jH(b:Bt)(ns:List Str):Bool:=ns.all λy=>decide (some y∈b)
structure kQ(n:Nat)(ns:List Str)(b:Bt):Prop where
 len:b.length=n
 mem:∀x,some x∈b->x∈ns
structure Jk(n:Nat)(ns:List Str):Prop where
 pos:1<=n
 n5:n<=5
 s5:ns.length<=5
def N9(H:Hp)(v:V)(bs:List Bt):Prop:=∃l us,v=.ref l/\H l=some (.lst us)/\bo (iN H) us bs
def jy(H:Hp)(v:V)(ks:List Bt):Prop:=∃D kvs,v=.ref D/\H D=some (.dT kvs)/\kvs.map (·.1)=ks.map cK/\∀(i:Nat) k u b,kvs[i]?=some (k,u)->ks[i]?=some b->N9 H u (kts b)
structure mr(n:Nat)(ns:List Str)(ebs ks:List Bt):Prop where
 nd:ks.Nodup
 few:ks.length<=7776
 inn:∀b∈ks,kQ n ns b
 ent:∀b∈ebs,b∈ks
 cl:∀b∈ks,∀c∈kts b,c∈ks
 ind:∀P:Bt->Prop,(∀b∈ebs,P b)->(∀b,P b->∀c∈kts b,P c)->∀b∈ks,P b
def p6(H:Hp)(v:V)(t:List (Bt×Nat)):Prop:=∃D,v=.ref D/\H D=some (.dT (t.map λp=>(cK p.1,V.int (p.2:Nat))))
structure kg(ks:List Bt)(t0 t:List (Bt×Nat)):Prop where
 nd:(t.map (·.1)).Nodup
 sub:∀b n,(b,n)∈t->b∈ks
 s1:∀b n,(b,n)∈t0->∃m,m<=n/\(b,m)∈t
 s2:∀b∈ks,∀c∈kts b,∀n,(c,n)∈t->∃m,m<=n+1/\(b,m)∈t
 s3:∀b n,(b,n)∈t->(b,n)∈t0\/∃c∈kts b,∃m,(c,m)∈t/\n=m+1
structure Cm(n:Nat)(b0:Bt)(ws:List Wk)(pss:List (List Str))(kss:List (List Bt)):Prop where
 len:kss.length=ws.length+1
 dim:∀ss∈pss,Jk n ss
 fst:∀ks ss,kss[0]?=some ks->pss[0]?=some ss->mr n ss [bq b0 ss] ks
 nxt:∀(k:Nat) ks ks' w ss,kss[k]?=some ks->kss[k+1]?=some ks'->ws[k]?=some w->pss[k+1]?=some ss->mr n ss ((ks.map λb=>iZ b w.out ss).filter λb=>jH b ss) ks'
structure p7(n:Nat)(b0:Bt)(ws:List Wk)(pss:List (List Str))(ord:Bt)(kss:List (List Bt))(ts:List (List (Bt×Nat))):Prop where
 cm:Cm n b0 ws pss kss
 len:ts.length=ws.length+1
 fin:∀ks t,kss[ws.length]?=some ks->ts[ws.length]?=some t->∃t0,kg ks t0 t/\∀b m,(b,m)∈t0↔b∈ks/\Bz ord b=true/\m=0
 mid:∀(k:Nat) ks t t' w ss,kss[k]?=some ks->ts[k]?=some t->ts[k+1]?=some t'->ws[k]?=some w->pss[k+1]?=some ss->∃t0,kg ks t0 t/\∀b m,(b,m)∈t0↔b∈ks/\(iZ b w.out ss,m)∈t'
def dI(b:Bt):List Nat->Prop
 |[]=>True
 |p::r=>p∈mI b/\dI (nB b p) r
def iB(b:Bt)(ps:List Nat):Bt:=ps.foldl nB b
structure OA(ws:List Wk)(pss:List (List Str))(kss:List (List Bt))(ord b:Bt)(gs:List (List Nat))(bs:List Bt):Prop where
 len:gs.length=ws.length+1
 ln2:bs.length=ws.length+1
 fst:bs[0]?=some b
 ok:∀(k:Nat) ps c,gs[k]?=some ps->bs[k]?=some c->dI c ps
 nxt:∀(k:Nat) ps c c' w ss,gs[k]?=some ps->bs[k]?=some c->bs[k+1]?=some c'->ws[k]?=some w->pss[k+1]?=some ss->c'=iZ (iB c ps) w.out ss
 fin:∀ps c,gs[ws.length]?=some ps->bs[ws.length]?=some c->Bz ord (iB c ps)=true
 mem:∀(k:Nat) c ks,bs[k]?=some c->kss[k]?=some ks->c∈ks
def dQ(_:Fg):Sp:=λvs H Q _=>∃(p:Addr) (b:Bt),vs=[.ref p]/\H p=some (.tup (cw b))/\b≠[]/\b.length<=5/\∀(l:Addr) (H':Hp),H l=none->H' l=some (.lst ((mI b).map λi=>V.int (i:Nat)))->aJ H H'->Q (.ref l) H'
def gM(_:Fg):Sp:=λvs H Q _=>∃(p:Addr) (b:Bt) (i:Nat),vs=[.ref p,.int (i:Nat)]/\H p=some (.tup (cw b))/\b.length<=5/\i∈mI b/\∀(r:Addr) (H':Hp),H' r=some (.tup (cw (nB b i)))->aJ H H'->Q (.ref r) H'
def gN(_:Fg):Sp:=λvs H Q _=>∃(p n:Addr) (v:V) (b:Bt) (w:Wk) (ss:List Str),vs=[.ref p,v,.ref n]/\H p=some (.tup (cw b))/\Ge H v w/\H n=some (.tup (ss.map V.str))/\b≠[]/\b.length<=5/\∀(r:Addr) (H':Hp),H' r=some (.tup (cw (iZ b w.out ss)))->aJ H H'->Q (.ref r) H'
def lu(_:Fg):Sp:=λvs H Q _=>∃(p n:Addr) (b:Bt) (ss:List Str),vs=[.ref p,.ref n]/\H p=some (.tup (cw b))/\H n=some (.tup (ss.map V.str))/\ss.length<=100/\b.length<=5/\∀(H':Hp),aJ H H'->Q (.bl (jH b ss)) H'
def jW(_:Fg):Sp:=λvs H Q _=>∃(e:Addr) (us:List V) (ebs:List Bt) (n:Nat) (ss:List Str),vs=[.ref e]/\H e=some (.lst us)/\bo (iN H) us ebs/\Jk n ss/\(∀b∈ebs,kQ n ss b)/\ebs.length<=7776/\
 ∀(v:V) (ks:List Bt) (H':Hp),jy H' v ks->mr n ss ebs ks->aJ H H'->Q v H'
structure Gc(H:Hp)(n:Nat)(b0:Bt)(ws:List Wk)(bp wp:Addr):Prop where
 bp:H bp=some (.tup (cw b0))
 len:b0.length=n
 wks:∃wvs,H wp=some (.tup wvs)/\bo (Ge H) wvs ws
 few:ws.length<=100
def fN(_:Fg):Sp:=λvs H Q _=>∃(bp wp pt:Addr) (tvs:List V) (n:Nat) (b0:Bt) (ws:List Wk) (pss:List (List Str)),vs=[.ref bp,.ref wp,.ref pt]/\Gc H n b0 ws bp wp/\H pt=some (.lst tvs)/\bo (Gd H) tvs pss/\pss.length=ws.length+1/\(∀ss∈pss,Jk n ss)/\
 ∀(l:Addr) (cvs:List V) (kss:List (List Bt)) (H':Hp),H' l=some (.lst cvs)->bo (jy H') cvs kss->Cm n b0 ws pss kss->aJ H H'->Q (.ref l) H'
def iV(n:Nat)(g:Nat->Nat):Nat:=((bZ n).map g).sum
def Lw(H0 H:Hp)(v:V)(ks:List Bt):Prop:=∃(D:Addr) (kvs:List (List b8×V)) (g:Nat->Nat),v=.ref D/\H D=some (.dT kvs)/\H0 D=none/\kvs.map (·.1)=ks.map cK/\iV ks.length g<=40000/\∀(i:Nat) k u c,kvs[i]?=some (k,u)->ks[i]?=some c->∃l us bs,u=.ref l/\H l=some (.lst us)/\H0 l=none/\bo (iN H) us bs/\bs.length=g i/\∀b,b∈bs↔b∈ks/\c∈kts b
def iC(_:Fg):Sp:=λvs H Q _=>∃(v:V) (ks:List Bt) (n:Nat),vs=[v]/\jy H v ks/\ks.Nodup/\ks.length<=7776/\(∀b∈ks,b.length=n)/\1<=n/\n<=5/\(∀b∈ks,∀c∈kts b,c∈ks)/\
 ∀(r:V) (H':Hp),Lw H H' r ks->aJ H H'->Q r H'
def jV(_:Fg):Sp:=λvs H Q _=>∃(v0 v:V) (ks:List Bt) (t0:List (Bt×Nat)) (n:Nat),vs=[v0,v]/\p6 H v0 t0/\jy H v ks/\ks.Nodup/\ks.length<=7776/\(∀b∈ks,b.length=n)/\1<=n/\n<=5/\(∀b∈ks,∀c∈kts b,c∈ks)/\(∀b m,(b,m)∈t0->b∈ks)/\t0.length<=7776/\
 ∀(r:V) (t:List (Bt×Nat)) (H':Hp),p6 H' r t->kg ks t0 t->aJ H H'->Q r H'
def lp(_:Fg):Sp:=λvs H Q _=>∃(bp wp lt op:Addr) (n:Nat) (b0 ord:Bt) (ws:List Wk) (last dd:List Str),vs=[.ref bp,.ref wp,.ref lt,.ref op]/\Gc H n b0 ws bp wp/\p9 H wp lt ws last/\Lb dd last ws/\H op=some (.tup (cw ord))/\ord.length=n/\(∀pss,rj last ws pss->∀ss∈pss,Jk n ss)/\
 ∀(l:Addr) (tvs:List V) (pss:List (List Str)) (kss:List (List Bt)) (ts:List (List (Bt×Nat))) (H':Hp),H' l=some (.lst tvs)->bo (p6 H') tvs ts->rj last ws pss->p7 n b0 ws pss ord kss ts->aJ H H'->Q (.ref l) H'
def fO(_:Fg):Sp:=λvs H Q _=>∃(v:V) (p:Addr) (b:Bt) (t:List (Bt×Nat)) (m:Nat),vs=[v,.ref p]/\p6 H v t/\(t.map (·.1)).Nodup/\H p=some (.tup (cw b))/\b≠[]/\b.length<=5/\(b,m+1)∈t/\(∀c∈kts b,∃k,(c,k)∈t)/\(∃c∈kts b,(c,m)∈t)/\
 ∀(i:Nat) (H':Hp),i∈mI b->(nB b i,m)∈t->aJ H H'->Q (.int (i:Nat)) H'
def BB(H:Hp)(v:V)(ps:List Nat):Prop:=∃p,v=.ref p/\H p=some (.tup (ps.map λi=>V.int (i:Nat)))
def kr(_:Fg):Sp:=λvs H Q _=>∃(bp wp lt op:Addr) (n:Nat) (b0 ord:Bt) (ws:List Wk) (last dd:List Str),vs=[.ref bp,.ref wp,.ref lt,.ref op]/\Gc H n b0 ws bp wp/\p9 H wp lt ws last/\Lb dd last ws/\H op=some (.tup (cw ord))/\ord.length=n/\(∀pss,rj last ws pss->∀ss∈pss,Jk n ss)/\
 (∀pss kss ts,rj last ws pss->p7 n b0 ws pss ord kss ts->∀(k:Nat) ks t,kss[k]?=some ks->ts[k]?=some t->∀b∈ks,∃m,(b,m)∈t)/\
 ∀(r:Addr) (gvs:List V) (gs:List (List Nat)) (bs:List Bt) (pss:List (List Str)) (kss:List (List Bt)) (ts:List (List (Bt×Nat))) (ss:List Str) (t:List (Bt×Nat)) (m:Nat) (H':Hp),H' r=some (.tup gvs)->bo (BB H') gvs gs->rj last ws pss->p7 n b0 ws pss ord kss ts->pss[0]?=some ss->ts[0]?=some t->(bq b0 ss,m)∈t->OA ws pss kss ord (bq b0 ss) gs bs->(gs.map (·.length)).sum=m->aJ H H'->Q (.ref r) H'
def jC(_:Fg):Sp:=λvs H Q _=>∃(bp:Addr) (b0:Bt),vs=[.ref bp]/\H bp=some (.tup (cw b0))/\b0≠[]/\b0.length<=5/\∀(r:Addr) (H':Hp),H' r=some (.tup (cw (aV b0.length none)))->aJ H H'->Q (.ref r) H'
def mP(_:Fg):Sp:=λvs H Q _=>∃(bp wp lt:Addr) (n:Nat) (b0:Bt) (ws:List Wk) (last dd:List Str),vs=[.ref bp,.ref wp,.ref lt]/\Gc H n b0 ws bp wp/\1<=n/\n<=5/\p9 H wp lt ws last/\Lb dd last ws/\(∀pss,rj last ws pss->∀ss∈pss,Jk n ss)/\
 (∀pss kss ts,rj last ws pss->p7 n b0 ws pss (aV n none) kss ts->∀(k:Nat) ks t,kss[k]?=some ks->ts[k]?=some t->∀b∈ks,∃m,(b,m)∈t)/\
 ∀(r:Addr) (gvs:List V) (gs:List (List Nat)) (bs:List Bt) (pss:List (List Str)) (kss:List (List Bt)) (ts:List (List (Bt×Nat))) (ss:List Str) (t:List (Bt×Nat)) (m:Nat) (H':Hp),H' r=some (.tup gvs)->bo (BB H') gvs gs->rj last ws pss->p7 n b0 ws pss (aV n none) kss ts->pss[0]?=some ss->ts[0]?=some t->(bq b0 ss,m)∈t->OA ws pss kss (aV n none) (bq b0 ss) gs bs->(gs.map (·.length)).sum=m->aJ H H'->Q (.ref r) H'
abbrev pJ:Nat:=0
abbrev pA:Nat:=1
abbrev GT:Nat:=2
abbrev FS:Nat:=3
abbrev CJ:Nat:=2
abbrev BP:Nat:=3
abbrev Ax:Nat:=0
abbrev zq:Nat:=1
abbrev CH:Nat:=3
abbrev BN:Nat:=4
abbrev nU:Nat:=4
abbrev nK:Nat:=5
abbrev sS:Nat:=0
abbrev sO:Nat:=1
abbrev CG:Nat:=1
abbrev BM:Nat:=2
abbrev Av:Nat:=5
abbrev zo:Nat:=6
abbrev vY:Nat:=3
abbrev vJ:Nat:=4
abbrev yy:Nat:=6
abbrev xR:Nat:=7
abbrev vX:Nat:=0
abbrev vI:Nat:=1
abbrev CD:Nat:=7
abbrev BK:Nat:=8
end Bg
end
section
namespace L2
open PySem PySem.Spec PyProof.Rows
def BD(K:Fg)(tp:Bool)(H:Hp)(a:Addr)(xs:List V):Prop:=match tp with
 |true=>cE K H a xs
 |false=>cq K H a xs
theorem bu.seqB{X:Cx}{pins:List (Addr×Obj)}{σ:St}{H:Hp}{s:Shared}{tp:Bool}{a:Addr}{xs:List V}(I:bu X pins σ H s)(h:BD X.K tp H a xs):∃its:List Value,b5 xs its/\fb tp s.heap a its.toArray:=by
 cases tp with
 |true=>obtain⟨its,r,p,_⟩:=I.tuple h;exact⟨its,r,p⟩
 |false=>obtain⟨its,r,p,_⟩:=I.list h;exact⟨its,r,p.isList⟩
theorem bu.seqB_inj{X:Cx}{pins:List (Addr×Obj)}{σ:St}{H:Hp}{s:Shared}{tp:Bool}{a:Addr}{xs ys:List V}(I:bu X pins σ H s)(h:BD X.K tp H a xs)(h':BD X.K tp H a ys):xs=ys:=by
 cases tp with
 |true=>exact I.tuple_inj h h'
 |false=>exact I.list_inj h h'
theorem An{tp:Bool}{h:Heap}{i l:Addr}{k:Nat}(x:eK tp h i l k):∃o,h.get? i=some o/\∀v,o.data=.cell v->False:=by
 cases tp with
 |true=>obtain⟨o,e,c,d⟩:=(show h.IsTupleIter i l k from x);exact⟨o,e,λv q=>by rw[d] at q;cases q⟩
 |false=>obtain⟨o,e,c,d⟩:=(show h.IsListIter i l k from x);exact⟨o,e,λv q=>by rw[d] at q;cases q⟩
def zi(K:Fg)(t1 t2:Bool)(a b:Addr):It:=
 ⟨λi H=>∃xs x ys y,BD K t1 H a xs/\xs[i]?=some x/\BD K t2 H b ys/\ys[i]?=some y,
  λi H x H'=>∃p v u,H p=none/\x=.ref p/\H'=aN H p (.tup [v,u])/\(∀xs,BD K t1 H a xs->xs[i]?=some v)/\∀ys,BD K t2 H b ys->ys[i]?=some u,
  λi H=>∃xs ys,BD K t1 H a xs/\BD K t2 H b ys/\xs.length<=i⟩
theorem FA{P:Program}{w:World}{K:Fg}{elts:List Expr}{k:Nat}{pos:Pos}(t1 t2:Bool)(z TI TO i1 i2 l1 l2:Addr)(D:ZipApart z TI TO i1 i2 l1 l2) :
  rk P w K (.Tuple elts k pos) (zi K t1 t2 l1 l2) [z,TI,TO,i1,i2] z (λi h=>IsZip h z TI TO .none/\IsPair h TI (.ref i1) (.ref i2)/\(∃a b,IsPair h TO a b)/\eK t1 h i1 l1 i/\eK t2 h i2 l2 i) where
 mem:=by simp
 obj:=λi h st b hb=>by
  obtain⟨hz,hTI,⟨a',b',hTO⟩,h1,h2⟩:=st
  obtain⟨o1,e1,d1⟩:=An h1
  obtain⟨o2,e2,d2⟩:=An h2
  simp only[aM,cF,or_false] at hb
  rcases hb with rfl|rfl|rfl|rfl|rfl
  ·exact⟨_,hz,λv q=>by have q':Data.fields _=Data.cell v:=q;cases q'⟩
  ·exact⟨_,hTI,λv q=>by have q':Data.seq _ _=Data.cell v:=q;cases q'⟩
  ·exact⟨_,hTO,λv q=>by have q':Data.seq _ _=Data.cell v:=q;cases q'⟩
  ·exact⟨o1,e1,λv q=>d1 v q⟩
  ·exact⟨o2,e2,λv q=>d2 v q⟩
 keep:=λi h h' st k=>by
  obtain⟨hz,hTI,⟨a',b',hTO⟩,h1,h2⟩:=st
  exact⟨k z (by simp) _ hz,k TI (by simp) _ hTI,⟨a',b',k TO (by simp) _ hTO⟩,h1.at λo q=>k i1 (by simp) o q,h2.at λo q=>k i2 (by simp) o q⟩
 item:=by
  intro X hP hw hK hc i pins s σ H E I hf st hg
  subst hP hw hK
  obtain⟨hz,hTI,⟨a',b',hTO⟩,h1,h2⟩:=st
  obtain⟨xs,x,ys,y,hq1,hx,hq2,hy⟩:=hg
  obtain⟨its1,rv1,p1⟩:=I.seqB hq1
  obtain⟨its2,rv2,p2⟩:=I.seqB hq2
  obtain⟨u,hu,ru⟩:=rv1.get hx
  obtain⟨v,hv,rv⟩:=rv2.get hy
  have hT:s.TypeIs (.ref z) "zip":=⟨_,hz,rfl⟩
  unfold pyNext
  refine wpAny_bind (wpAny_attempt (wpAny_callSpecial?_slot (name:=Str.ofString "__next__") hT F.slot_zip_next (wpAny_call_entry F.slot_zip_next hT F.entry_zip_next ?_ (F.args_zip_next_1 _))))
  refine FF D hz hTI hTO h1 h2 p1 p2 (x:=u) (y:=v) (by simpa using hu) (by simpa using hv) λh3 a1 a3 a4 a5 a2 hk=>wpAny_pure ?_
  refine⟨_,rfl,?_⟩
  have fT:px X pins H s.heap.objs.size:=I.fpOk (aw _) (I.hok.fresh (aw _))
  have lt:∀{c o},s.heap.get? c=some o->c≠s.heap.objs.size:=λe=>aO (aF e)
  refine wpAny_letOwnedTupleGo_zip a1 λh4 hz4 hs4=>?_
  have I1:bu X pins σ H {s with heap:=h4,toks:=s.toks}:=I.turnedL (t':=s.toks) (ch:=[z,TI,TO,i1,i2]) (λb o hb q=>by
   have b1:b≠z:=λe=>hb (by simp[e])
   exact(hs4.2 b b1).trans (hk b o b1 (λe=>hb (by simp[e])) (λe=>hb (by simp[e])) (λe=>hb (by simp[e])) q)) hf
  have gT:h4.get? s.heap.objs.size=some {cls:=.type "tuple",data:=.seq #[u,v]}:=(hs4.2 _ (Ne.symm (lt hz))).trans a5
  have I2:=I1.adopt (T:=s.heap.objs.size) (o:=.tup [x,y]) fT (tH (X:=X) gT ru rv)
  have ext:∀c o,c≠z->h3.get? c=some o->h4.get? c=some o:=λc o hc q=>(hs4.2 c hc).trans q
  refine⟨.ref s.heap.objs.size,_,I2,rfl,⟨s.heap.objs.size,x,y,fT.1,rfl,rfl,λzs hz=>by rw[I.seqB_inj hz hq1];exact hx,λzs hz=>by rw[I.seqB_inj hz hq2];exact hy⟩,
   ⟨hz4,ext _ _ D.TIz (hk _ _ D.TIz D.TITO D.TIi1 D.TIi2 hTI),⟨_,_,ext _ _ D.TOz a2⟩,a3.at λo q=>ext _ o D.i1z q,a4.at λo q=>ext _ o D.i2z q⟩,λb hb=>?_⟩
  have nT:b≠s.heap.objs.size:=by
   simp only[aM,cF,or_false] at hb
   rcases hb with rfl|rfl|rfl|rfl|rfl
   ·exact lt hz
   ·exact lt hTI
   ·exact lt hTO
   ·exact aO h1.lt
   ·exact aO h2.lt
  rw[aA nT];exact(hf b hb).1
 done:=by
  intro X hP hw hK hc i pins s σ H E I hf st hg
  subst hP hw hK
  obtain⟨hz,hTI,⟨a',b',hTO⟩,h1,h2⟩:=st
  obtain⟨xs,ys,hq1,hq2,hend⟩:=hg
  obtain⟨its1,rv1,p1⟩:=I.seqB hq1
  obtain⟨its2,rv2,p2⟩:=I.seqB hq2
  have l1':=rv1.length
  refine Jf (I.ok.hd hc) D ⟨hTI,h1,h2,p1,p2,.inl ⟨hz,a',b',hTO⟩⟩ (by simp;lia) λh3 hk=>⟨rfl,?_⟩
  exact I.turnedL (t':=s.toks) (ch:=[z,TI,TO,i1,i2]) (λb o hb q=>hk b o (λe=>hb (by simp[e])) (λe=>hb (by simp[e])) (λe=>hb (by simp[e])) q) hf
 self:=λ_ _ _ _ _ st h=>wpAny_pyIter_zip st.1 h
def GQ(K:Fg)(tl:TA):TI:=λσ H R=>tl σ H λvs H1=>∃t1 t2 a b,vs=[.ref a,.ref b]/\(∃xs,BD K t1 H1 a xs)/\(∃xs,BD K t2 H1 b xs)/\R (zi K t1 t2 a b) H1
section
variable{X:Cx}{elts:List Expr}{k:Nat}{tpos:Pos}
theorem Kl{a b:Expr}{ta:TA}{p pos:Pos}(hg:Gl X "zip")(hm:X.mg "zip"=none)(ha:PA X [a,b] ta)(hs:starEach [a,b] X.env=[(false,eval a X.env),(false,eval b X.env)]:=by rfl)(hs2:starEach [b] X.env=[(false,eval b X.env)]:=by rfl) :
  PI X (.Tuple elts k tpos) (.Call (.Name "zip" p) [a,b] [] pos) (GQ X.K ta):=by
 intro pins s σ H R I h
 refine Call_ (i8 I hg hm boot_zip (bw (eJ (ha pos pins s σ H _ I h) λus s1 ⟨vs,H1,I1,r1,q1⟩=>?_) (by rw[hs,hs2]) (by rw[hs2];rfl)))
 obtain⟨t1,t2,l1,l2,e,⟨xs,hq1⟩,⟨ys,hq2⟩,q⟩:=q1
 subst e
 cases r1 with
 |cons r rr=>
  cases rr with
  |cons r' rr=>
   cases rr
   cases r
   cases r'
   obtain⟨its1,rv1,p1⟩:=I1.seqB hq1
   obtain⟨its2,rv2,p2⟩:=I1.seqB hq2
   refine yh (t1:=t1) (t2:=t2) p1 p2 λh1 z TI TO i1 i2 gI D gz gO g1 g2 hz hTO hTI hi1 hi2 hk=>?_
   refine wpAny_pyIter_zip hz ?_
   have I2:bu X pins σ H1 {s1 with heap:=h1}:=I1.kept (t':=s1.toks) hk
   refine⟨_,_,_,_,H1,rfl,I2,FA t1 t2 z TI TO i1 i2 l1 l2 D,⟨hz,hTI,⟨_,_,hTO⟩,hi1,hi2⟩,λb hb=>?_,q⟩
   have hb':s1.heap.objs.size<=b:=by
    simp only[aM,cF,or_false] at hb
    rcases hb with rfl|rfl|rfl|rfl|rfl<;>assumption
   exact I1.fpOk hb' (I1.hok.fresh hb')
theorem KC{a b:Expr}{ta:TA}{p pos:Pos}(hg:Gl X "zip")(hm:X.mg "zip"=none)(ha:QA X [a,b] ta)(hs:starEach [a,b] X.env=[(false,eval a X.env),(false,eval b X.env)]:=by rfl)(hs2:starEach [b] X.env=[(false,eval b X.env)]:=by rfl):QI X (.Tuple elts k tpos) (.Call (.Name "zip" p) [a,b] [] pos) (GQ X.K ta):=
 ⟨Kl hg hm ha.up hs hs2⟩
end
theorem GG{K:Fg}{t1 t2:Bool}{a b:Addr}{xs ys:List V}{g:TG}{tb:TS}{D:lT}{σ:St}{H:Hp}(el:xs.length<=ys.length)(Pv:Nat->St->Hp->Prop)(h0:Pv 0 σ H)(hl:∀i σ H,i<=xs.length->Pv i σ H->BD K t1 H a xs/\BD K t2 H b ys)
  (hs:∀i x y σ H p,xs[i]?=some x->ys[i]?=some y->H p=none->Pv i σ H->g (.ref p) σ (aN H p (.tup [x,y])) λσ2 H2=>tb {D with nx:=Pv (i+1),ct:=Pv (i+1),bk:=D.nx} σ2 H2) (hd:∀σ H,Pv xs.length σ H->D.nx σ H) :
  ∃W:Nat->Nat->St->Hp->Prop,(∃m,W 0 m σ H)/\∀i m σ H,W i m σ H->
   ((zi K t1 t2 a b).stop i H/\D.nx σ H)\/((zi K t1 t2 a b).go i H/\∃N:St->Hp->Prop,(∀σ' H',N σ' H'->∃m',m'<m/\W (i+1) m' σ' H')/\∀x H',(zi K t1 t2 a b).yld i H x H'->g x σ H' λσ2 H2=>tb {D with nx:=N,ct:=N,bk:=D.nx} σ2 H2):=by
 refine⟨λi m σ H=>m=xs.length-i/\i<=xs.length/\Pv i σ H,⟨xs.length,by simp,a8 _,h0⟩,?_⟩
 rintro i m σ H ⟨rfl,hi,p⟩
 obtain⟨q1,q2⟩:=hl i σ H hi p
 by_cases hlt:i<xs.length
 ·have hlt2:i<ys.length:=by lia
  refine .inr ⟨⟨xs,xs[i],ys,ys[i],q1,by simp[hlt],q2,by simp[hlt2]⟩,Pv (i+1),λσ' H' p'=>⟨xs.length-(i+1),by lia,rfl,hlt,p'⟩,λx H' y=>?_⟩
  obtain⟨pp,v,u,e1,rfl,rfl,y1,y2⟩:=y
  exact hs i v u σ H pp (y1 xs q1) (y2 ys q2) e1 p
 ·have e:i=xs.length:=by lia
  subst e
  exact .inl ⟨⟨xs,ys,q1,q2,aw _⟩,hd σ H p⟩
theorem EU{js:List Nat}{k:Nat}{K:Fg}{t1 t2:Bool}{a b:Addr}{xs ys:List V}{g:TG}{tc:TT}{te:TE}{R:Hp->Prop}{σ:St}{H:Hp}{D:Addr}(el:xs.length<=ys.length)(Pv:Nat->St->Hp->Prop)(h0:Pv 0 (um js k σ) (aN H D (.lst [])))(hl:∀i σ H,i<=xs.length->Pv i σ H->BD K t1 H a xs/\BD K t2 H b ys)
  (hs:∀i x y σ H p,xs[i]?=some x->ys[i]?=some y->H p=none->Pv i σ H->g (.ref p) σ (aN H p (.tup [x,y])) λσ2 H2=>jr D tc te {nx:=Pv (i+1),rt:=λ_ _=>False,ct:=Pv (i+1),bk:=λ_ H'=>R H'} σ2 H2) (hd:∀σ H,Pv xs.length σ H->R H) :
  ∃W:Nat->Nat->St->Hp->Prop,(∃m,W 0 m (um js k σ) (aN H D (.lst [])))/\∀i m σ H,W i m σ H->
   ((zi K t1 t2 a b).stop i H/\R H)\/((zi K t1 t2 a b).go i H/\∃N:St->Hp->Prop,(∀σ' H',N σ' H'->∃m',m'<m/\W (i+1) m' σ' H')/\∀x H',(zi K t1 t2 a b).yld i H x H'->g x σ H' λσ2 H2=>jr D tc te {nx:=N,rt:=λ_ _=>False,ct:=N,bk:=λ_ H'=>R H'} σ2 H2):=
 GG (D:={nx:=λ_ H'=>R H',rt:=λ_ _=>False}) el Pv h0 hl hs hd
end L2
end
section
namespace PySem.SeqAt
open AutoSeq1 (wpAny_loadPart')
open MeetsSeq MeetsSeq2 MeetsSeq3 SeqRoads2
end PySem.SeqAt
namespace L2
open PySem PySem.Spec PyProof.Rows
section
variable{X:Cx}{o e:Expr}{es:List Expr}{to ta tb:TE}{t:TA}{apos cpos:Pos}
end
section
variable{X:Cx}{C:Addr}{m x:Str}{ps:List Str}{k:Nat}{sp:Sp}{e:Expr}{es:List Expr}{t:TA}{p pos apos:Pos}
end
end L2
end
section
namespace Bg
open PySem PySem.Spec PyProof.Rows L2
end Bg
end
section
namespace BgSet
open PySem
def BC(ps:Array Nat):Prop:=ps.toList.Pairwise (·<·)
theorem BC.at{ps:Array Nat}(hr:BC ps){i j a b:Nat}(hij:i<j)(ha:ps[i]?=some a)(hb:ps[j]?=some b):a<b:=by
 rw[<-bM] at ha hb
 obtain⟨hi,rfl⟩:=ae.mp ha
 obtain⟨hj,rfl⟩:=ae.mp hb
 exact fX.mp hr i j hi hj hij
theorem Gh{ps:Array Nat}{j:Nat}(hr:BC ps):∀fl lo hi,hi-lo<=fl->hi<=ps.size->lo<=hi->
  (∀i a,i<lo->ps[i]?=some a->a<j)->(∀i a,hi<=i->ps[i]?=some a->j<=a)->
  SetTable.below.go ps j fl lo hi<=ps.size/\(∀i a,i<SetTable.below.go ps j fl lo hi->ps[i]?=some a->a<j)
   /\(∀i a,SetTable.below.go ps j fl lo hi<=i->ps[i]?=some a->j<=a):=by
 intro fl
 induction fl with
 |zero=>
  intro lo hi hf hs hl h1 h2
  have:lo=hi:=by lia
  subst this
  exact⟨hs,h1,h2⟩
 |succ fl ih=>
  intro lo hi hf hs hl h1 h2
  unfold SetTable.below.go
  by_cases hlt:lo<hi
  ·rw[if_pos hlt]
   have hm:(lo+hi) / 2<ps.size:=by lia
   have hg:ps[(lo+hi) / 2]?=some (ps.getD ((lo+hi) / 2) j):=by
    simp[Array.getD,hm]
   dsimp only
   by_cases hc:ps.getD ((lo+hi) / 2) j<j
   ·rw[if_pos hc]
    refine ih _ _ (by lia) hs (by lia) (λi a hi' ha=>?_) h2
    rcases cB i ((lo+hi) / 2) with hq|hq
    ·exact jh (hr.at hq ha hg) hc
    ·have:i=(lo+hi) / 2:=by lia
     subst this;rw[hg] at ha;cases ha;exact hc
   ·rw[if_neg hc]
    refine ih _ _ (by lia) (by lia) (by lia) h1 (λi a hi' ha=>?_)
    rcases cB ((lo+hi) / 2) i with hq|hq
    ·exact bW (cU (pq.mp hc) (hr.at hq hg ha))
    ·have:i=(lo+hi) / 2:=by lia
     subst this;rw[hg] at ha;cases ha;exact pq.mp hc
  ·rw[if_neg hlt]
   have:lo=hi:=by lia
   subst this
   exact⟨hs,h1,h2⟩
theorem qb{ps:Array Nat}(hr:BC ps)(j:Nat):SetTable.below ps j<=ps.size/\(∀i a,i<SetTable.below ps j->ps[i]?=some a->a<j)
  /\(∀i a,SetTable.below ps j<=i->ps[i]?=some a->j<=a):=by
 refine Gh hr ps.size 0 ps.size (aw _) (aw _) (a8 _) (λi a h=>absurd h (dv _)) (λi a h ha=>?_)
 rw[dR h] at ha;cases ha
theorem Ca{ps:Array Nat}(hr:BC ps):SetTable.below ps 0=0:=by
 obtain⟨h1,h2,-⟩:=qb hr 0
 rcases Nat.eq_zero_or_pos (SetTable.below ps 0) with h|h
 ·exact h
 ·have hlt:0<ps.size:=by lia
  exact absurd (h2 0 ps[0] h (aW hlt)) (dv _)
theorem B9{ps:Array Nat}(hr:BC ps){i p:Nat}(hp:ps[i]?=some p):SetTable.below ps (p+1)=i+1:=by
 obtain⟨h1,h2,h3⟩:=qb hr (p+1)
 have hlo:i<SetTable.below ps (p+1):=by
  rcases cB i (SetTable.below ps (p+1)) with h|h
  ·exact h
  ·exact absurd (h3 i p h hp) (by lia)
 rcases cB (i+1) (SetTable.below ps (p+1)) with h|h
 ·have hlt:i+1<ps.size:=by lia
  have hq:=aW hlt
  have a1:=h2 _ _ h hq
  have a2:=hr.at (cZ i) hp hq
  lia
 ·lia
theorem C7{ps:Array Nat}(hr:BC ps){j:Nat}(hn:∀i:Nat,ps[i]?≠some j):BC (SetTable.insertAt ps (SetTable.below ps j) j):=by
 obtain⟨h1,h2,h3⟩:=qb hr j
 unfold BC
 rw[SetTable.toList_insertAt]
 have hlow:∀a∈ps.toList.take (SetTable.below ps j),a<j:=λa ha=>by
  obtain⟨i,hi⟩:=fG ha
  rw[jx] at hi
  split at hi
  ·rename_i hlt;exact h2 i a hlt (by rw[<-bM];exact hi)
  ·cases hi
 have hhigh:∀a∈ps.toList.drop (SetTable.below ps j),j<a:=λa ha=>by
  obtain⟨i,hi⟩:=fG ha
  rw[List.getElem?_drop,bM] at hi
  have:=h3 _ a (Nat.le_add_right _ _) hi
  rcases Nat.lt_or_eq_of_le this with h|h
  ·exact h
  ·subst h;exact absurd hi (hn _)
 refine List.pairwise_append.mpr ⟨hr.sublist (List.take_sublist _ _),eX.mpr ⟨hhigh,hr.sublist (List.drop_sublist _ _)⟩,λa ha b hb=>?_⟩
 rcases aM.mp hb with rfl|hb
 ·exact hlow a ha
 ·exact jh (hlow a ha) (hhigh b hb)
structure pQ(led:Bool)(t:SetTable):Prop where
 led:t.led=led
 dum:t.dummies=#[]
 ris:t.plain=true->BC t.place
theorem pQ.fresh(a b:Nat)(led:Bool):pQ led (SetTable.fresh a b led):=⟨rfl,rfl,λ_=>List.Pairwise.nil⟩
theorem pQ.standIn{led:Bool}{t:SetTable}(h:pQ led t)(n:Nat):pQ led (t.standIn n):=
 ⟨h.led,rfl,λhp=>by simp[SetTable.standIn] at hp⟩
theorem pQ.orStandIn{led:Bool}{t:SetTable}(h:pQ led t)(n:Nat):pQ led (t.orStandIn n):=by
 unfold SetTable.orStandIn
 split
 ·exact h
 ·exact h.standIn n
theorem Ai(j:Nat):SetTable.has #[] j=false:=by
 unfold SetTable.has;simp
theorem De{t:SetTable}(hd:t.dummies=#[]){j:Nat}:t.slot j≠.dummy:=by
 unfold SetTable.slot
 rw[hd,Ai]
 dsimp only
 split<;>simp
theorem CU{t:SetTable}(hd:t.dummies=#[]){f:Nat->Int}{h:Int}:∀fl (p:SetTable.Probe) (j:Nat) (d:Option Nat),p.dummy=none->
  SetTable.probe.go t f h fl p=some (.empty j d)->d=none/\t.slot j=.empty:=by
 intro fl
 induction fl with
 |zero=>intro p j d hp hq;unfold SetTable.probe.go at hq;cases hq
 |succ fl ih=>
  intro p j d hp hq
  unfold SetTable.probe.go at hq
  have hadv:(t.advance p).dummy=none:=by
   unfold SetTable.advance;split<;>exact hp
  cases hs:t.slot p.j with
  |empty=>rw[hs] at hq;simp only[Option.some.injEq,SetTable.Met.empty.injEq] at hq;obtain⟨rfl,rfl⟩:=hq;exact⟨hp,hs⟩
  |dummy=>exact absurd hs (De hd)
  |live i=>
   rw[hs] at hq
   simp only at hq
   split at hq
   ·cases hq
   ·exact ih _ j d hadv hq
theorem EZ{t:SetTable}(hd:t.dummies=#[]){h:Int}{sl:Nat}{wd:Bool}(hq:t.freeSlot h=some (sl,wd)):t.slot sl=.empty:=by
 unfold SetTable.freeSlot SetTable.probe at hq
 split at hq
 ·rename_i j d he
  obtain⟨rfl,hs⟩:=CU hd _ _ j d rfl he
  simp only[kx,Option.some.injEq,Prod.mk.injEq] at hq
  rw[<-hq.1];exact hs
 ·cases hq
theorem Iz{t:SetTable}(hr:BC t.place){j:Nat}(hs:t.slot j=.empty):∀i:Nat,t.place[i]?≠some j:=by
 intro i hi
 obtain⟨h1,h2,h3⟩:=qb hr j
 have hb:SetTable.below t.place j=i:=by
  rcases Nat.lt_trichotomy (SetTable.below t.place j) i with h|h|h
  ·have hlt:SetTable.below t.place j<t.place.size:=by
    have:=(dZ.mp hi).1;lia
   have hq:=aW hlt
   have a1:=h3 _ _ (aw _) hq
   have a2:=hr.at h hq hi
   lia
  ·exact h
  ·exact absurd (h2 i j h hi) (c7 _)
 unfold SetTable.slot at hs
 rw[hb] at hs
 dsimp only at hs
 rw[hi] at hs
 simp at hs
theorem pQ.put{led:Bool}{t:SetTable}(h:pQ led t){sl:Nat}(hs:t.slot sl=.empty):pQ led (t.put sl).1:=by
 refine⟨h.led,?_,λhp=>?_⟩
 ·show(if SetTable.has t.dummies sl=true then _ else t.dummies)=#[]
  rw[h.dum,Ai];rfl
 ·exact C7 (h.ris hp) (Iz (h.ris hp) hs)
theorem pQ.layNew{led:Bool}{t:SetTable}(h:pQ led t)(es:Array (Int×Value))(hs:Int)(x:Value):pQ led (layNew t es hs x).2.1:=by
 unfold PySem.layNew
 split
 ·rename_i sl wd hq
  exact(h.put (EZ h.dum hq)).orStandIn _
 ·exact h.standIn _
theorem pQ.off{led:Bool}{t:SetTable}(h:pQ led t):pQ led {t with plain:=false}:=⟨h.led,h.dum,λhp=>by simp at hp⟩
theorem uz(g:Nat->Option Nat):∀l:List Nat,((l.filterMap λj=>(g j).map (j,·)).map (·.1)).Sublist l
 |[]=>List.Sublist.refl _
 |j::l=>by
  rw[f6]
  cases hg:g j with
  |none=>simpa using(uz g l).cons j
  |some b=>simpa using(uz g l).cons_cons j
theorem pQ.relaid{led:Bool}{t t':SetTable}{hs:Array Int}{n:Nat}{o:Array Nat}(h:pQ led t)(hq:t.relaid hs n=some (t',o)):pQ led t':=by
 unfold SetTable.relaid SetTable.laid at hq
 cases ho:SetTable.layClean (SetTable.sizeAbove n-1) hs with
 |none=>rw[ho] at hq;simp at hq
 |some ow=>
  rw[ho] at hq
  simp only[Option.bind_eq_bind,Option.bind_some,Option.pure_def,Option.some.injEq,Prod.mk.injEq] at hq
  rw[<-hq.1]
  refine⟨h.led,rfl,λ_=>?_⟩
  unfold BC
  rw[List.toList_toArray]
  exact(List.pairwise_lt_range).sublist (uz (λj=>ow.getD j none) _)
theorem pQ.relay{led:Bool}{t:SetTable}(h:pQ led t)(es:Array (Int×Value))(n:Nat):pQ led (relayAll t es n).2.1:=by
 unfold relayAll
 split
 ·rename_i t' o hq
  dsimp only
  split
  ·exact h.relaid hq
  ·exact h.standIn _
 ·exact h.standIn _
theorem AI{t:SetTable}(h:t.plain=false)(es:Array (Int×Value))(n:Nat):(relayAll t es n).2.1.plain=false:=by
 unfold relayAll
 split
 ·rename_i t' o hq
  dsimp only
  split
  ·unfold SetTable.relaid SetTable.laid at hq
   cases ho:SetTable.layClean (SetTable.sizeAbove n-1) (es.map (·.1)) with
   |none=>rw[ho] at hq;simp at hq
   |some ow=>
    rw[ho] at hq
    simp only[Option.bind_eq_bind,Option.bind_some,Option.pure_def,Option.some.injEq,Prod.mk.injEq] at hq
    rw[<-hq.1];exact h
  ·rfl
 ·rfl
section
variable{prog:Program}{w:World}{K:Type}[DecidableEq K]
def tK(kd:KeyKind prog w K)(l:List (Int×Value)):Prop:=
 l.Pairwise λe e'=>∀k,kd.is k e.2=true->kd.is k e'.2=false
theorem tK.perm{kd:KeyKind prog w K}{l l':List (Int×Value)}(h:tK kd l)(p:l'.Perm l):tK kd l':=by
 refine(p.pairwise_iff (λ{x y} hxy k hk=>?_)).mpr h
 cases hx:kd.is k x.2 with
 |false=>rfl
 |true=>have:=hxy k hx;rw[hk] at this;cases this
def SetTb(kd:KeyKind prog w K)(h:Heap)(a:Addr)(S:K->Bool)(n:Nat)(led np:Bool):Prop:=
 ∃o es ep t,h.get? a=some o/\o.ExactSet/\o.data=.set es ep t/\ElemsOf kd es.toList/\(∀k,S k=true↔∃e∈es.toList,kd.is k e.2=true)
  /\es.size<scanBound/\t.fits es.size=true/\es.size=n/\pQ led t/\(np=true->n≠0->t.plain=false)/\tK kd es.toList
variable{kd:KeyKind prog w K}{A:Around}{E:Value->Shared->Prop}{s:Shared}
theorem SetTb.congr{h:Heap}{a:Addr}{S S':K->Bool}{n n':Nat}{led np:Bool}(hS:SetTb kd h a S n led np)(e:∀k,S k=S' k)(en:n=n'):SetTb kd h a S' n' led np:=by
 cases(funext e:S=S');cases en;exact hS
theorem SetTb.keep{h h':Heap}{a:Addr}{S:K->Bool}{n:Nat}{led np:Bool}(hS:SetTb kd h a S n led np)(e:∀o,h.get? a=some o->h'.get? a=some o):SetTb kd h' a S n led np:=by
 obtain⟨o,es,ep,t,ho,r⟩:=hS
 exact⟨o,es,ep,t,e o ho,r⟩
theorem SetTb.fresh{h:Heap}{a:Addr}{led np:Bool}{x y:Nat}(hg:h.get? a=some {cls:=.type "set",dict:=none,data:=.set #[] 0 (.fresh x y led)}) :
  SetTb kd h a (λ_=>false) 0 led np:=
 ⟨_,#[],0,_,hg,⟨rfl,rfl,rfl⟩,rfl,λe he=>by simp at he,λk=>by simp,by decide,rfl,rfl,pQ.fresh x y led,λ_ hn=>absurd rfl hn,List.Pairwise.nil⟩
structure BQ(kd:KeyKind prog w K)(S:K->Bool)(n:Nat)(led np:Bool)(es:Array (Int×Value))(t:SetTable):Prop where
 el:ElemsOf kd es.toList
 mem:∀k,S k=true↔∃e∈es.toList,kd.is k e.2=true
 few:es.size<scanBound
 fit:t.fits es.size=true
 many:es.size=n
 tab:pQ led t
 off:np=true->t.plain=false
 apart:tK kd es.toList
theorem BQ.relay{S:K->Bool}{n:Nat}{led np:Bool}{es:Array (Int×Value)}{t:SetTable}(h:BQ kd S n led np es t)(wn:Nat) :
  BQ kd S n led np (relayAll t es wn).1 (relayAll t es wn).2.1:=by
 have hp:=relayAll_perm t es wn
 have hz:(relayAll t es wn).1.size=es.size:=by rw[<-bH,hp.length_eq,bH]
 exact⟨h.el.perm hp,λk=>(h.mem k).trans ⟨λ⟨e,he,q⟩=>⟨e,hp.mem_iff.mpr he,q⟩,λ⟨e,he,q⟩=>⟨e,hp.mem_iff.mp he,q⟩⟩,
  by rw[hz];exact h.few,relayAll_fits t es wn,by rw[hz];exact h.many,h.tab.relay es wn,λe=>AI (h.off e) es wn,h.apart.perm hp⟩
theorem BQ.stored{S:K->Bool}{n:Nat}{led np:Bool}{es':Array (Int×Value)}{t':SetTable}(L:BQ kd S n led np es' t')
  {h:Heap} {a:Addr} {o:Obj} {es:Array (Int×Value)} {ep:Nat} {t:SetTable} (ho:h.get? a=some o) (hex:o.ExactSet) (hd:o.data=.set es ep t) :
  (h.update a (Obj.putSet es' t')).get? a=some {o with data:=.set es' (ep+1) t'}/\SetTb kd (h.update a (Obj.putSet es' t')) a S n led np:=by
 have hg:=(SetOf_store (knd:=kd) ho hex hd L.el L.mem L.few L.fit).1
 exact⟨hg,_,es',ep+1,t',hg,hex,rfl,L.el,L.mem,L.few,L.fit,L.many,L.tab,λe _=>L.off e,L.apart⟩
theorem zK{g:Bool->Sem Unit}(hg:∀(b:Bool) (s₁:Shared) (Q':Unit->Shared->Prop),Q' () s₁->wpAny (model prog w) A (g b) Q' E s₁)
  {a:Addr} {o:Obj} {es:Array (Int×Value)} {ep:Nat} {t:SetTable} (ho:s.heap.get? a=some o) (hex:o.ExactSet) (hd:o.data=.set es ep t)
  {es1:Array (Int×Value)} {t2:SetTable} {S:K->Bool} {n:Nat} {led np:Bool} (L:BQ kd S n led np es1 t2) {wd:Bool} {R:Option Bool->Shared->Prop}
  (hR:∀h',Heap.SameBut a s.heap h'->SetTb kd h' a S n led np->R (some true) {s with heap:=h'}) :
  wpAny (model prog w) A (do
    storeSet a es1 t2
    if(!wd&&t2.tooFull)=true then do
      g (relayAll t2 es1 (SetTable.grown es1.size)).2.2
      storeSet a (relayAll t2 es1 (SetTable.grown es1.size)).1 (relayAll t2 es1 (SetTable.grown es1.size)).2.1
      pure (some true)
     else pure (some true)) R E s:=by
 refine wpAny_bind (wpAny_storeSet_of ho hd ?_ (fits_of_scanBound L.few))
 obtain⟨g1,T1⟩:=L.stored ho hex hd
 have sb:=Heap.SameBut.update s.heap a (Obj.putSet es1 t2)
 split
 ·have L2:=L.relay (SetTable.grown es1.size)
  refine wpAny_bind (hg _ _ _ ?_)
  refine wpAny_bind (wpAny_storeSet_of g1 rfl ?_ (fits_of_scanBound L2.few))
  obtain⟨-,T2⟩:=L2.stored g1 hex rfl
  exact wpAny_pure (hR _ (sb.trans (Heap.SameBut.update _ a _)) T2)
 ·exact wpAny_pure (hR _ sb T1)
theorem KZ{a:Addr}{S:K->Bool}{n:Nat}{led np:Bool}{k:K}{x:Value}{Q:Bool->Shared->Prop}(hkey:kd.is k x=true)(hsc:x.scannable=true)
  (hnp:np=true->plainKind x=false) (hS:SetTb kd s.heap a S n led np) (hroom:n+1<scanBound)
  (hQ:∀h',Heap.SameBut a s.heap h'->SetTb kd h' a (λk'=>S k' || decide (k'=k)) (if S k then n else n+1) led np->Q (!S k) {s with heap:=h'}) :
  wpAny (model prog w) A (setAddHashed a x (kd.hash k)) Q E s:=by
 obtain⟨o,es,ep,t,ho,hex,hd,hel,hmem,hb,hf,hn,htab,hoff,hap⟩:=hS
 have hb1:es.size+1<scanBound:=by rw[hn];exact hroom
 unfold setAddHashed setAddHashedIn
 refine wpAny_holding (wpAny_bind (wpAny_setState_of ho hd hf ?_))
 dsimp only
 rw[byScan_of hsc hb hel]
 simp only[↓reduceIte]
 unfold setAddByScan
 refine wpAny_bind ?_
 refine wpAny_bind (wpAny_rule ?_)
 refine wpAny_bind (wpAny_setScan_of hkey ho hd hf hel ?_)
 cases hr:List.findIdx? (λe=>kd.is k e.2) es.toList with
 |some j=>
  dsimp only
  obtain⟨hj,hpj,-⟩:=List.findIdx?_eq_some_iff_getElem.mp hr
  have hk:S k=true:=(hmem k).mpr ⟨_,cf hj,hpj⟩
  refine wpAny_pure (wpAny_pure ?_)
  have es0:s={s with heap:=s.heap}:=by cases s;rfl
  have done:=hQ s.heap (Heap.SameBut.refl a s.heap) (SetTb.congr (S:=S) (n:=n) ⟨o,es,ep,t,ho,hex,hd,hel,hmem,hb,hf,hn,htab,hoff,hap⟩
   (λk'=>by by_cases e:k'=k<;>simp[e,hk]) (by rw[hk];rfl))
  rw[hk] at done;rw[es0];exact done
 |none=>
  dsimp only
  have hall:=List.findIdx?_eq_none_iff.mp hr
  have hk:S k=false:=by
   cases hk:S k with
   |false=>rfl
   |true=>obtain⟨e,he,hp⟩:=(hmem k).mp hk;rw[hall e he] at hp;cases hp
  have hper:=layNew_perm t es (kd.hash k) x
  have hfit:=layNew_fits t es (kd.hash k) x
  have htb:=htab.layNew es (kd.hash k) x
  generalize layNew t es (kd.hash k) x=L at hper hfit htb ⊢
  obtain⟨es1,t1,wd,gv⟩:=L
  dsimp only at hper hfit htb ⊢
  rw[Array.toList_push] at hper
  have hz:es1.size=n+1:=by rw[<-bH,hper.length_eq,ai,bH,hn];rfl
  have hap1:tK kd es1.toList:=by
   refine tK.perm (List.pairwise_append.mpr ⟨hap,gJ _ _,λe he e' he' k' hk'=>?_⟩) hper
   rw[aj] at he';subst he'
   cases hq:kd.is k' x with
   |false=>rfl
   |true=>cases kd.inj x k' k hq hkey;rw[hall e he] at hk';cases hk'
  have hL:∀t2:SetTable,t2.fits es1.size=true->pQ led t2->(np=true->t2.plain=false)->BQ kd (λk'=>S k' || decide (k'=k)) (n+1) led np es1 t2:=
   λt2 f2 tb2 o2=>⟨(hel.push hkey hsc).perm hper,mem_push_iff hkey hmem hper,by rw[hz];exact hroom,f2,hz,tb2,o2,hap1⟩
  have hend:∀h',Heap.SameBut a s.heap h'->SetTb kd h' a (λk'=>S k' || decide (k'=k)) (n+1) led np->Q true {s with heap:=h'}:=by
   intro h' sb T;have q:=hQ h' sb;rw[hk] at q;exact q T
  have gw:∀(c:Bool) {s₁:Shared} {Q₁:Unit->Shared->Prop},Q₁ () s₁->
    wpAny (model prog w) A (match c with|true=>rule "set.scan.the-table-gave-way"|false=>pure ()) Q₁ E s₁:=λc s₁ Q₁ hq=>by
   cases c<;>first|exact wpAny_pure hq|exact wpAny_rule hq
  refine wpAny_bind (gw _ ?_)
  split
  ·refine wpAny_bind ?_
   rw[hashByValue_scannable 8 hsc]
   refine wpAny_pure ?_
   refine zK (n:=n+1) (led:=led) (np:=np) ?_ ho hex hd (hL _ ?_ ?_ ?_) ?_
   ·exact λb s₁ Q' hq=>gw b hq
   ·split
    ·exact hfit
    ·exact SetTable.fits_plain_off hfit
   ·split
    ·exact htb
    ·exact htb.off
   ·intro e;rw[hnp e];rfl
   ·intro h' sb T;dsimp only;exact wpAny_pure (hend h' sb T)
  ·rename_i hpl
   refine wpAny_bind (wpAny_pure ?_)
   simp only[↓reduceIte]
   refine zK (n:=n+1) (led:=led) (np:=np) ?_ ho hex hd (hL _ hfit htb (λ_=>by simpa using hpl)) ?_
   ·exact λb s₁ Q' hq=>gw b hq
   ·intro h' sb T;dsimp only;exact wpAny_pure (hend h' sb T)
end
theorem Aq:Manifest.owners.lookup (String.ofList ['r','o','t','a','r','e','t','i','_','t','e','s'].reverse)=some Manifest.sig_set_iterator:=by kernel_rfl
theorem g0:Slot "set_iterator" "__next__" "set_iterator.__next__":=
 .of (owner:="set_iterator") (n:="__next__") (by rw[typeLookup_type,builtinLookup_eq_fast];kernel_rfl) (by decide +kernel) (by decide +kernel)
  (by decide +kernel) (by first|exact .inl (by decide +kernel)|exact .inr (by decide +kernel))
  (by rw[isSubtype_type];kernel_rfl)
theorem iH:entryFor table "set_iterator.__next__"=some Builtin.«set_iterator.__next__»:=entryFor_of_tree (by kernel_rfl)
theorem jn(v:Value):argsOk "set_iterator.__next__" ⟨[v],[]⟩:=by
 unfold argsOk
 rw[signature?_of (id:="set_iterator.__next__") (n:=['_','_','t','x','e','n','_','_']) (o:=['r','o','t','a','r','e','t','i','_','t','e','s']) (by kernel_rfl) Aq]
 kernel_rfl
theorem DX:Slot "set_iterator" "__iter__" "set_iterator.__iter__":=
 .of (owner:="set_iterator") (n:="__iter__") (by rw[typeLookup_type,builtinLookup_eq_fast];kernel_rfl) (by decide +kernel) (by decide +kernel)
  (by decide +kernel) (by first|exact .inl (by decide +kernel)|exact .inr (by decide +kernel))
  (by rw[isSubtype_type];kernel_rfl)
theorem vV:entryFor table "set_iterator.__iter__"=some Builtin.«dict_keyiterator.__iter__»:=
 entryFor_alias (id':="dict_keyiterator.__iter__") (by kernel_rfl) rfl (by decide +kernel) (by kernel_rfl)
theorem yv(v:Value):argsOk "set_iterator.__iter__" ⟨[v],[]⟩:=by
 unfold argsOk
 rw[signature?_of (id:="set_iterator.__iter__") (n:=['_','_','r','e','t','i','_','_']) (o:=['r','o','t','a','r','e','t','i','_','t','e','s']) (by kernel_rfl) Aq]
 kernel_rfl
theorem uV:entryFor table "set.__iter__"=some Builtin.«frozenset.__iter__»:=
 entryFor_alias (id':="frozenset.__iter__") (by kernel_rfl) rfl (by decide +kernel) (by kernel_rfl)
def byText(w:World):Bool:=w.params.followText "set-order"
theorem pH{α:Type}:∀{l:List α} {i:Nat} (hi:i<l.length),(l[i]::l.eraseIdx i).Perm l
 |x::l,0,_=>List.Perm.refl _
 |x::l,i+1,hi=>by
  have hi':i<l.length:=by simpa using hi
  have h:=pH hi'
  simp only[List.getElem_cons_succ,List.eraseIdx_cons_succ]
  exact(List.Perm.swap _ _ _).trans (h.cons x)
theorem Km{α:Type}(nx:Nat->Nat):∀(fl k:Nat) (left:List α) (out:Array α),left.length<=fl->(pickOrder.go nx fl k left out).toList.Perm (out.toList++left):=by
 intro fl
 induction fl with
 |zero=>intro k left out h;cases left with
  |nil=>simp[pickOrder.go]
  |cons x l=>simp at h
 |succ fl ih=>
  intro k left out h
  unfold pickOrder.go
  cases hl:left[nx k % left.length]? with
  |none=>
   have:left=[]:=by
    cases left with
    |nil=>rfl
    |cons x l=>rw[aa (Nat.mod_lt _ (by simp))] at hl;cases hl
   subst this;simp
  |some x=>
   obtain⟨hi,hx⟩:=ae.mp hl
   have hp:=pH hi
   rw[hx] at hp
   refine(ih (k+1) _ _ (by rw[fH];split<;>lia)).trans ?_
   rw[Array.toList_push,ft]
   exact hp.append_left out.toList
theorem rG{α:Type}(nx:Nat->Nat)(xs:Array α):(pickOrder nx xs).toList.Perm xs.toList:=by
 have:=Km nx xs.size 0 xs.toList #[] (by simp)
 simpa[pickOrder] using this
section
variable{prog:Program}{w:World}{A:Around}{E:Value->Shared->Prop}{s:Shared}
theorem K8{src:Source}{n:Nat}{Q:Nat->Shared->Prop}(hn:n≠0)(h:∀i d,i<n->Q i {s with drawn:=d}):wpAny (model prog w) A (choose src n) Q E s:=λΓ p hΓ=>by
 show Sem.wp _ _ (Sem.choose src n Sem.pure) _ _ _ _
 rw[Sem.wp_choose]
 refine⟨hn,?_⟩
 rw[Sem.wp_pure]
 exact h _ _ (Nat.mod_lt _ (Nat.pos_of_ne_zero hn))
theorem Jb{α:Type}:∀(n:Nat) (xs:List α) {s:Shared} {Q:List α->Shared->Prop},xs.length=n->(∀ys d,ys.Perm xs->Q ys {s with drawn:=d})->wpAny (model prog w) A (drawOrder n xs) Q E s:=by
 intro n
 induction n with
 |zero=>
  intro xs s Q hl h
  have:xs=[]:=by simpa using hl
  subst this
  unfold drawOrder
  exact wpAny_pure (h [] s.drawn (List.Perm.refl _))
 |succ n ih=>
  intro xs s Q hl h
  cases xs with
  |nil=>simp at hl
  |cons x l=>
   unfold drawOrder
   refine wpAny_bind (K8 (by simp) λi d hi=>?_)
   rw[aa hi]
   dsimp only
   refine wpAny_bind (ih _ (by rw[fH,if_pos hi];lia) λys d' hp=>?_)
   exact wpAny_pure (h _ d' ((hp.cons _).trans (pH hi)))
end
def eK(h:Heap)(I:Addr)(f:Value)(i:Nat)(a:Addr)(n ep:Nat):Prop:=
 h.get? I=some {cls:=.type "set_iterator",dict:=none,data:=.fields #[f,.int (i:Int) 0,.ref a,.int (n:Int) 0,.int (ep:Int) 0],slots:=#[]}
theorem eK.type{s:Shared}{I a:Addr}{f:Value}{i n ep:Nat}(h:eK s.heap I f i a n ep):s.TypeIs (.ref I) "set_iterator":=⟨_,h,rfl⟩
structure fY(h:Heap)(a:Addr)(es:Array (Int×Value))(ep:Nat)(t:SetTable):Prop where
 at_:∃o,h.get? a=some o/\o.cls=.type "set"/\o.data=.set es ep t
 fit:t.fits es.size=true
theorem fY.keep{h h':Heap}{a:Addr}{es:Array (Int×Value)}{ep:Nat}{t:SetTable}(x:fY h a es ep t)(k:∀o,h.get? a=some o->h'.get? a=some o):fY h' a es ep t:=by
 obtain⟨⟨o,ho,r⟩,f⟩:=x
 exact⟨⟨o,k o ho,r⟩,f⟩
section
variable{prog:Program}{w:World}{A:Around}{E:Value->Shared->Prop}{s:Shared}{I a:Addr}{i n ep:Nat}{es:Array (Int×Value)}{t:SetTable}
theorem fY.state{Q:(Array (Int×Value)×Nat×SetTable)->Shared->Prop}(x:fY s.heap a es ep t)(h:Q (es,ep,t) s):wpAny (model prog w) A (setState a) Q E s:=by
 obtain⟨⟨o,ho,-,hd⟩,f⟩:=x
 exact wpAny_setState_of ho hd f h
theorem fY.entries{Q:Array (Int×Value)->Shared->Prop}(x:fY s.heap a es ep t)(h:Q es s):wpAny (model prog w) A (setEntries a) Q E s:=by
 unfold setEntries
 exact wpAny_bind (x.state (wpAny_pure h))
theorem fY.epoch{Q:Nat->Shared->Prop}(x:fY s.heap a es ep t)(h:Q ep s):wpAny (model prog w) A (setEpoch a) Q E s:=by
 unfold setEpoch
 exact wpAny_bind (x.state (wpAny_pure h))
theorem sX{Q:Bool->Shared->Prop}(h:Q (byText w) s):wpAny (model prog w) A setsByText Q E s:=by
 unfold setsByText
 exact wpAny_bind (wpAny_askSetting (wpAny_pure h))
theorem xf{sl:Nat}{Q:Option (Value×Nat)->Shared->Prop}(hb:byText w=true)(x:fY s.heap a es ep t)
  (h:Q (((pickOrder (w.params.setOrder a ep) es)[i]?).map λe=>(e.2,sl)) s):wpAny (model prog w) A (setNext a sl i ep) Q E s:=by
 unfold setNext
 refine wpAny_bind (x.state ?_)
 dsimp only
 refine wpAny_bind (sX ?_)
 rw[hb]
 simp only[bne_self_eq_false,Bool.false_eq_true,↓reduceIte]
 refine wpAny_bind ?_
 unfold setWalk
 refine wpAny_bind (x.state ?_)
 dsimp only
 refine wpAny_bind (sX ?_)
 rw[hb]
 simp only[↓reduceIte]
 exact wpAny_bind (wpAny_askSetting (wpAny_pure (wpAny_pure h)))
theorem uB{sl:Nat}{Q:Option (Value×Nat)->Shared->Prop}(hb:byText w=false)(x:fY s.heap a es ep t)(hl:t.led=true)(hp:t.plain=true\/es.size<=1)
  (h:Q (match es[SetTable.below t.place sl]?,t.place[SetTable.below t.place sl]? with|some (_,x),some j=>some (x,j+1)|_,_=>none) s) :
  wpAny (model prog w) A (setNext a sl i ep) Q E s:=by
 unfold setNext
 refine wpAny_bind (x.state ?_)
 dsimp only
 refine wpAny_bind (sX ?_)
 rw[hb]
 simp only[Bool.false_eq_true,↓reduceIte]
 refine wpAny_ite_split (λhd=>?_) (λ_=>?_)
 ·change (!t.plain&&decide (es.size>1))=true at hd
  rcases hp with hp|hp
  ·rw[hp] at hd;cases hd
  ·rw[Bool.and_eq_true,decide_eq_true_eq] at hd;omega
 ·refine wpAny_bind ?_
  show wpAny _ _ (if(!t.led && !es.isEmpty)=true then _ else _) _ _ _
  rw[hl]
  simp only[Bool.not_true,Bool.false_and,Bool.false_eq_true,↓reduceIte]
  exact wpAny_pure (wpAny_pure h)
theorem Ap{sl nx:Nat}{x:Value}{Q:Option Value->Shared->Prop}(hI:eK s.heap I (.int (sl:Int) 0) i a n ep)(S:fY s.heap a es ep t)(hn:es.size=n)
  (hx:∀{E':Value->Shared->Prop} {Q':Option (Value×Nat)->Shared->Prop},Q' (some (x,nx)) s->wpAny (model prog w) A.in1 (setNext a sl i ep) Q' E' s)
  (hQ:∀h',eK h' I (.int (nx:Int) 0) (i+1) a n ep->Heap.SameBut I s.heap h'->Q (some x) {s with heap:=h'}) :
  wpAny (model prog w) A (pyNext (.ref I)) Q E s:=by
 unfold pyNext
 refine wpAny_bind (wpAny_attempt (wpAny_callSpecial?_slot (name:=Str.ofString "__next__") hI.type g0 (wpAny_call_entry g0 hI.type iH ?_ (jn _))))
 unfold Builtin.«set_iterator.__next__»
 refine wpAny_bind (m:=slotArgs _ _ _) (wpAny_pure ?_)
 refine wpAny_bind (wpAny_fieldsOf hI rfl ?_)
 dsimp only
 refine wpAny_bind (S.entries ?_)
 rw[hn]
 simp only[bne_self_eq_false,Bool.false_eq_true,↓reduceIte,aU]
 refine wpAny_bind (hx ?_)
 dsimp only
 refine wpAny_bind (cN hI (by simp) λh1 g1 sb1=>?_)
 refine wpAny_bind (cN g1 (by simp) λh2 g2 sb2=>?_)
 refine wpAny_pure ⟨_,rfl,wpAny_pure (hQ h2 ?_ (sb1.trans sb2))⟩
 unfold eK
 rw[g2]
 simp[rawInt]
theorem DY{Q:Option Value->Shared->Prop}{h1:Heap}(hh:A.handled=none)(sb:Heap.SameBut I s.heap h1)
  (hQ:∀h',Heap.ExtBut I s.heap h'->Q none {s with heap:=h'}) :
  wpAny (model prog w) A.in1 (newExc (.type "StopIteration") [] >>= λe=>(raiseNew e:Sem Fin)) (λfin s'=>∃v,fin=.done (.ret v)/\wpAny (model prog w) A (pure (some v)) Q E s')
   (λe s'=>wpAny (model prog w) A (do if <-isInstance e (.type "StopIteration") then pure none else throw e) Q E s') {s with heap:=h1}:=by
 refine wpAny_bind ?_
 simp only[newExc,newTuple]
 refine wpAny_bind (wpAny_newObj_type ?_ (by size_fits))
 refine wpAny_bind (m:=firstArgMember _ _) (wpAny_of_eq (a:=Value.none) (by first|rfl|(simp only[firstArgMember];rfl)) ?_)
 refine wpAny_newObj_type ?_ (by size_fits)
 simp only[raiseNew]
 refine wpAny_bind (wpAny_handled ?_)
 rw[show A.in1.handled=none from hh]
 refine wpAny_bind (wpAny_pure (wpAny_throw ?_))
 refine wpAny_bind (wpAny_isInstance (T:="StopIteration") (b:=true) ⟨_,az _ rfl,rfl⟩ isSubtype_stop ?_)
 exact wpAny_pure (hQ _ ((sb.extBut.push _).push _))
theorem Ao{sl:Nat}{Q:Option Value->Shared->Prop}(hh:A.handled=none)(hI:eK s.heap I (.int (sl:Int) 0) i a n ep)(S:fY s.heap a es ep t)(hn:es.size=n)
  (hx:∀{E':Value->Shared->Prop} {Q':Option (Value×Nat)->Shared->Prop},Q' none s->wpAny (model prog w) A.in1 (setNext a sl i ep) Q' E' s)
  (hQ:∀h',Heap.ExtBut I s.heap h'->Q none {s with heap:=h'}) :
  wpAny (model prog w) A (pyNext (.ref I)) Q E s:=by
 unfold pyNext
 refine wpAny_bind (wpAny_attempt (wpAny_callSpecial?_slot (name:=Str.ofString "__next__") hI.type g0 (wpAny_call_entry g0 hI.type iH ?_ (jn _))))
 unfold Builtin.«set_iterator.__next__»
 refine wpAny_bind (m:=slotArgs _ _ _) (wpAny_pure ?_)
 refine wpAny_bind (wpAny_fieldsOf hI rfl ?_)
 dsimp only
 refine wpAny_bind (S.entries ?_)
 rw[hn]
 simp only[bne_self_eq_false,Bool.false_eq_true,↓reduceIte,aU]
 refine wpAny_bind (hx ?_)
 dsimp only
 refine wpAny_bind (cN hI (by simp) λh1 g1 sb1=>?_)
 exact DY hh sb1 hQ
theorem GS{T:Addr}{ord:List Nat}{q:Nat}{e:Int×Value}{Q:Option Value->Shared->Prop}(hI:eK s.heap I (.ref T) i a n ep)(S:fY s.heap a es ep t)(hn:es.size=n)
  (hT:∃o c,s.heap.get? T=some o/\o.data=.seq (ord.map λ(i:Nat)=>rawInt i).toArray c) (hq:ord[i]?=some q) (he:es[q]?=some e)
  (hQ:∀h',eK h' I (.ref T) (i+1) a n ep->Heap.SameBut I s.heap h'->Q (some e.2) {s with heap:=h'}) :
  wpAny (model prog w) A (pyNext (.ref I)) Q E s:=by
 obtain⟨oT,c,hoT,hdT⟩:=hT
 unfold pyNext
 refine wpAny_bind (wpAny_attempt (wpAny_callSpecial?_slot (name:=Str.ofString "__next__") hI.type g0 (wpAny_call_entry g0 hI.type iH ?_ (jn _))))
 unfold Builtin.«set_iterator.__next__»
 refine wpAny_bind (m:=slotArgs _ _ _) (wpAny_pure ?_)
 refine wpAny_bind (wpAny_fieldsOf hI rfl ?_)
 dsimp only
 refine wpAny_bind (S.entries ?_)
 rw[hn]
 simp only[bne_self_eq_false,Bool.false_eq_true,↓reduceIte,aU]
 refine wpAny_bind (wpAny_seqItems hoT hdT ?_)
 have hg:(ord.map λ(i:Nat)=>rawInt i).toArray[i]?=some (.int (q:Int) 0):=by
  rw[fi,aH,hq];rfl
 dsimp only
 rw[hg]
 dsimp only
 simp only[aU]
 refine wpAny_bind ?_
 unfold setNextDrawn
 refine wpAny_bind (S.state ?_)
 dsimp only
 simp only[bne_self_eq_false,Bool.false_eq_true,↓reduceIte]
 rw[he]
 dsimp only
 refine wpAny_pure ?_
 refine wpAny_bind (cN hI (by simp) λh1 g1 sb1=>?_)
 refine wpAny_pure ⟨_,rfl,wpAny_pure (hQ h1 ?_ sb1)⟩
 unfold eK
 rw[g1]
 simp[rawInt]
theorem GR{T:Addr}{ord:List Nat}{Q:Option Value->Shared->Prop}(hh:A.handled=none)(hI:eK s.heap I (.ref T) i a n ep)(S:fY s.heap a es ep t)(hn:es.size=n)
  (hT:∃o c,s.heap.get? T=some o/\o.data=.seq (ord.map λ(i:Nat)=>rawInt i).toArray c) (hq:ord[i]?=none)
  (hQ:∀h',Heap.ExtBut I s.heap h'->Q none {s with heap:=h'}) :
  wpAny (model prog w) A (pyNext (.ref I)) Q E s:=by
 obtain⟨oT,c,hoT,hdT⟩:=hT
 unfold pyNext
 refine wpAny_bind (wpAny_attempt (wpAny_callSpecial?_slot (name:=Str.ofString "__next__") hI.type g0 (wpAny_call_entry g0 hI.type iH ?_ (jn _))))
 unfold Builtin.«set_iterator.__next__»
 refine wpAny_bind (m:=slotArgs _ _ _) (wpAny_pure ?_)
 refine wpAny_bind (wpAny_fieldsOf hI rfl ?_)
 dsimp only
 refine wpAny_bind (S.entries ?_)
 rw[hn]
 simp only[bne_self_eq_false,Bool.false_eq_true,↓reduceIte,aU]
 refine wpAny_bind (wpAny_seqItems hoT hdT ?_)
 have hg:(ord.map λ(i:Nat)=>rawInt i).toArray[i]?=none:=by
  rw[fi,aH,hq];rfl
 dsimp only
 rw[hg]
 dsimp only
 refine wpAny_bind (cN hI (by simp) λh1 g1 sb1=>?_)
 refine wpAny_bind (cN g1 (by simp) λh2 g2 sb2=>?_)
 exact DY (s:=s) hh (sb1.trans sb2) hQ
theorem yw{f:Value}{Q:Value->Shared->Prop}(hI:eK s.heap I f i a n ep)(h:Q (.ref I) s):wpAny (model prog w) A (pyIter (.ref I)) Q E s:=by
 refine wpAny_pyIter_slot hI.type DX (wpAny_call_entry DX hI.type vV ?_ (yv _))
 show wpAny _ _ (ret (.ref I)) _ _ s
 exact wpAny_pure ⟨_,rfl,"set_iterator",_,hI.type,g0.lookup,h⟩
theorem FD(hh:A.handled=none)(hb:byText w=true)(hne:a≠I) :
  Walks prog w A I [I,a] [I] es.size (λi v=>∃e,(pickOrder (w.params.setOrder a ep) es).toList[i]?=some e/\v=e.2) (λi h=>eK h I (.int ((0:Nat):Int) 0) i a es.size ep/\fY h a es ep t) where
 sub:=λb hb=>by simp at hb;simp[hb]
 frame:=λi h h' st hk=>⟨hk I (by simp) _ st.1,st.2.keep λo e=>hk a (by simp) o e⟩
 item:=λi s Q E hi st hQ=>by
  have hz:=(rG (w.params.setOrder a ep) es).length_eq
  have hg:(pickOrder (w.params.setOrder a ep) es).toList[i]?=some ((pickOrder (w.params.setOrder a ep) es).toList[i]'(by rw[hz,bH];exact hi)):=aa _
  refine Ap (x:=((pickOrder (w.params.setOrder a ep) es).toList[i]'(by rw[hz,bH];exact hi)).2) (nx:=0) st.1 st.2 rfl (λhq=>xf hb st.2 ?_) λh' hI' sb=>?_
  ·rw[<-bM,hg];exact hq
  ·exact hQ _ h' s.toks ⟨_,hg,rfl⟩ ⟨hI',st.2.keep λo e=>by rw[sb.2 a hne];exact e⟩ λb o hb e=>by rw[sb.2 b (by simpa using hb)];exact e
 done:=λs Q E st hQ=>by
  have hz:=(rG (w.params.setOrder a ep) es).length_eq
  refine Ao hh st.1 st.2 rfl (λhq=>xf hb st.2 ?_) λh' hx=>?_
  ·rw[<-bM,bg (by rw[hz,bH];exact aw _)];exact hq
  ·exact hQ h' s.toks λb o hb e=>hx b o (by simpa using hb) e
 self:=λi s Q E st hQ=>yw st.1 hQ
theorem Dz(hh:A.handled=none)(hb:byText w=false)(hne:a≠I)(hl:t.led=true)(hp:t.plain=true\/es.size<=1)(hr:BC t.place)(hz:t.place.size=es.size) :
  Walks prog w A I [I,a] [I] es.size (λi v=>∃e,es.toList[i]?=some e/\v=e.2) (λi h=>∃sl:Nat,eK h I (.int (sl:Int) 0) i a es.size ep/\fY h a es ep t/\SetTable.below t.place sl=i) where
 sub:=λb hb=>by simp at hb;simp[hb]
 frame:=λi h h' ⟨sl,x1,x2,x3⟩ hk=>⟨sl,hk I (by simp) _ x1,x2.keep λo e=>hk a (by simp) o e,x3⟩
 item:=λi s Q E hi ⟨sl,x1,x2,x3⟩ hQ=>by
  have g1:es[i]?=some es[i]:=aW hi
  have hi':i<t.place.size:=by rw[hz];exact hi
  have g2:t.place[i]?=some t.place[i]:=aW hi'
  refine Ap (x:=es[i].2) (nx:=t.place[i]+1) x1 x2 rfl (λhq=>uB hb x2 hl hp ?_) λh' hI' sb=>?_
  ·rw[x3,g1,g2];exact hq
  ·exact hQ _ h' s.toks ⟨_,by rw[bM];exact g1,rfl⟩ ⟨_,hI',x2.keep λo e=>by rw[sb.2 a hne];exact e,B9 hr g2⟩ λb o hb e=>by rw[sb.2 b (by simpa using hb)];exact e
 done:=λs Q E ⟨sl,x1,x2,x3⟩ hQ=>by
  refine Ao hh x1 x2 rfl (λhq=>uB hb x2 hl hp ?_) λh' hx=>?_
  ·rw[x3,dR (aw _)];exact hq
  ·exact hQ h' s.toks λb o hb e=>hx b o (by simpa using hb) e
 self:=λi s Q E ⟨sl,x1,x2,x3⟩ hQ=>yw x1 hQ
def zL(es:Array (Int×Value))(ord:List Nat):List (Int×Value):=ord.map λq=>(es[q]?).getD (0,.none)
theorem B0{ord:List Nat}(hp:ord.Perm (bZ es.size)):(zL es ord).Perm es.toList:=by
 refine(hp.map _).trans (List.Perm.of_eq ?_)
 refine eA λi=>?_
 rw[aH]
 rcases cB i es.size with h|h
 ·rw[jd h,bM,aW h]
  simp[h]
 ·rw[bg (by simpa using h),bg (by simpa using h)];rfl
theorem Dy{T:Addr}{ord:List Nat}(hh:A.handled=none)(hne:a≠I)(hTI:T≠I)(hp:ord.Perm (bZ es.size)) :
  Walks prog w A I [I,a,T] [I] es.size (λi v=>∃e,(zL es ord)[i]?=some e/\v=e.2)
   (λi h=>eK h I (.ref T) i a es.size ep/\fY h a es ep t/\∃o c,h.get? T=some o/\o.data=.seq (ord.map λ(i:Nat)=>rawInt i).toArray c) where
 sub:=λb hb=>by simp at hb;simp[hb]
 frame:=λi h h' ⟨x1,x2,o,c,x3,x4⟩ hk=>⟨hk I (by simp) _ x1,x2.keep λo e=>hk a (by simp) o e,o,c,hk T (by simp) _ x3,x4⟩
 item:=λi s Q E hi ⟨x1,x2,x3⟩ hQ=>by
  have hlen:ord.length=es.size:=by rw[hp.length_eq,c9]
  have hi':i<ord.length:=by rw[hlen];exact hi
  have hq:ord[i]?=some ord[i]:=aa hi'
  have hlt:ord[i]<es.size:=by simpa using hp.mem_iff.mp (cf hi')
  have he:es[ord[i]]?=some es[ord[i]]:=aW hlt
  have hg:(zL es ord)[i]?=some es[ord[i]]:=by unfold zL;rw[aH,hq];simp[he]
  refine GS x1 x2 rfl x3 hq he λh' hI' sb=>?_
  obtain⟨o,c,y1,y2⟩:=x3
  exact hQ _ h' s.toks ⟨_,hg,rfl⟩ ⟨hI',x2.keep λo e=>by rw[sb.2 a hne];exact e,o,c,by rw[sb.2 T hTI];exact y1,y2⟩ λb o hb e=>by rw[sb.2 b (by simpa using hb)];exact e
 done:=λs Q E ⟨x1,x2,x3⟩ hQ=>by
  have hlen:ord.length=es.size:=by rw[hp.length_eq,c9]
  refine GR hh x1 x2 rfl x3 (bg (by omega)) λh' hx=>?_
  exact hQ h' s.toks λb o hb e=>hx b o (by simpa using hb) e
 self:=λi s Q E ⟨x1,x2,x3⟩ hQ=>yw x1 hQ
theorem KS{ps:Array Nat}(h:ps.size<=1):BC ps:=by
 unfold BC
 obtain⟨l⟩:=ps
 match l,h with
 |[],_=>exact List.Pairwise.nil
 |[x],_=>exact gJ _ _
theorem Iv{Q:Value->Shared->Prop}(hh:A.handled=none)(S:fY s.heap a es ep t)(hT:pQ (!byText w) t)(hz:es.size<=sizeLine)
  (hQ:∀(I:Addr) (h':Heap) d (fp:List Addr) (L:List (Int×Value)) (St:Nat->Heap->Prop),L.Perm es.toList->(∀b o,s.heap.get? b=some o->h'.get? b=some o)->
   (∀b∈fp,b=a\/s.heap.objs.size<=b)->s.heap.objs.size<=I->Walks prog w A I fp [I] es.size (λi v=>∃e,L[i]?=some e/\v=e.2) St->St 0 h'->Q (.ref I) {s with heap:=h',drawn:=d}) :
  wpAny (model prog w) A (pyIter (.ref a)) Q E s:=by
 obtain⟨⟨o,ho,hc,hd⟩,hf⟩:=id S
 have lt:=aF ho
 have hps:t.place.size=es.size:=by
  simp only[SetTable.fits,Bool.and_eq_true,beq_iff_eq] at hf;exact hf.1
 have hty:s.TypeIs (.ref a) "set":=⟨o,ho,hc⟩
 refine wpAny_pyIter_slot hty F.slot_set_iter (wpAny_call_entry F.slot_set_iter hty uV ?_ (F.args_set_iter_1 _))
 unfold Builtin.«frozenset.__iter__»
 refine wpAny_bind (m:=Builtin.Frozenset.slot0 _ _) (wpAny_pure ?_)
 refine wpAny_bind ?_
 unfold Builtin.Frozenset.sizeOf
 refine wpAny_bind (S.entries (wpAny_pure ?_))
 refine wpAny_bind ?_
 unfold setDrawn
 refine wpAny_bind (S.state ?_)
 dsimp only
 refine wpAny_bind (sX (wpAny_pure ?_))
 refine wpAny_ite_split (λhdr=>?_) (λhdr=>?_)
 ·change (!byText w&&(!t.plain&&decide (es.size>1)))=true at hdr
  refine wpAny_bind (Jb _ _ (c9) λys d hp=>?_)
  have hyl:ys.length=es.size:=by rw[hp.length_eq,c9]
  refine wpAny_bind (wpAny_newTuple ?_ (by rw[af,hyl];exact hz))
  refine wpAny_bind (fY.epoch (es:=es) (t:=t) (ep:=ep) (S.keep λo e=>ag _ e) ?_)
  refine wpAny_bind (wpAny_newObj_type (wpAny_pure ⟨_,rfl,"set_iterator",_,⟨_,az _ rfl,rfl⟩,g0.lookup,?_⟩))
  refine hQ _ _ d [_,a,s.heap.objs.size] (zL es ys) _ (B0 hp) (λb o e=>ag _ (ag _ e)) (λb hb=>?_) ?_
   (Dy (T:=s.heap.objs.size) (ep:=ep) (t:=t) (by exact hh) ?_ ?_ hp) ⟨az _ rfl,S.keep λo e=>ag _ (ag _ e),_,_,ag _ (az _ rfl),rfl⟩
  ·rw[bF] at hb
   simp only[aM,cF,or_false] at hb
   rcases hb with rfl|rfl|rfl
   ·exact .inr (by omega)
   ·exact .inl rfl
   ·exact .inr (aw _)
  ·rw[bF];exact eD _
  ·rw[bF];exact aO (dh lt)
  ·rw[bF];exact aO (cZ _)
 ·change ¬((!byText w&&(!t.plain&&decide (es.size>1)))=true) at hdr
  refine wpAny_bind (wpAny_pure ?_)
  refine wpAny_bind (S.epoch ?_)
  refine wpAny_bind (wpAny_newObj_type (wpAny_pure ⟨_,rfl,"set_iterator",_,⟨_,az _ rfl,rfl⟩,g0.lookup,?_⟩))
  have hfp:∀b∈[s.heap.objs.size,a],b=a\/s.heap.objs.size<=b:=λb hb=>by
   simp only[aM,cF,or_false] at hb
   rcases hb with rfl|rfl
   ·exact .inr (aw _)
   ·exact .inl rfl
  cases hbt:byText w with
  |true=>
   refine hQ _ _ s.drawn [_,a] _ _ (rG (w.params.setOrder a ep) es) (λb o e=>ag _ e) hfp (aw _)
    (FD (t:=t) hh hbt (aO lt)) ⟨az _ rfl,S.keep λo e=>ag _ e⟩
  |false=>
   rw[hbt] at hdr
   have hl:t.led=true:=by rw[hT.led,hbt];rfl
   have hpl:t.plain=true\/es.size<=1:=by
    cases hq:t.plain with
    |true=>exact .inl rfl
    |false=>rw[hq] at hdr;simp at hdr;exact .inr (by omega)
   have hr:BC t.place:=by
    rcases hpl with h|h
    ·exact hT.ris h
    ·exact KS (by rw[hps];exact h)
   refine hQ _ _ s.drawn [_,a] _ _ (List.Perm.refl _) (λb o e=>ag _ e) hfp (aw _)
    (Dz (t:=t) (ep:=ep) hh hbt (aO lt) hl hpl hr hps) ⟨0,az _ rfl,S.keep λo e=>ag _ e,Ca hr⟩
end
end BgSet
end
section
namespace BgSet
open PySem PyProof.Rows
section
variable{prog:Program}{w:World}{A:Around}{R:Result->Shared->Prop}{I:Addr}{fp wr:List Addr}{G:Array GenState->Array GenState->Prop}{n:Nat}{P:Nat->Value->Prop}{St:Nat->Shared->Prop}
variable{K:Type}[DecidableEq K]{kd:KeyKind prog w K}
def met(val:Nat->K)(i:Nat)(k:K):Bool:=decide (k∈(bZ i).map val)
theorem G2(val:Nat->K)(i:Nat)(k:K):(met val i k || decide (k=val i))=met val (i+1) k:=by
 unfold met
 rw[Bool.eq_iff_iff,Bool.or_eq_true,decide_eq_true_eq,decide_eq_true_eq,decide_eq_true_eq,i5,aB,ax]
 simp
theorem A8(W:WalksS prog w A.in1 I fp wr G n P St)(S:Addr)(hSf:S∉fp)(val:Nat->K)(led np:Bool)
  (hval:∀i v,P i v->kd.is (val i) v=true/\v.scannable=true/\(np=true->plainKind v=false)) (hb:n+1<scanBound) :
  ∀(k i m:Nat) (s:Shared),n-i=k->i<=n->m<=i->St i s->SetTb kd s.heap S (met val i) m led np->
   (∀s' m',Moved (S::wr) G s s'->m'<=n->SetTb kd s'.heap S (met val n) m' led np->R (.ok (.ret .none)) s')->
   codeAny (model prog w) A (.builtin "set.update.loop" ⟨[.ref S,.ref I],[]⟩) R s:=by
 have hSw:S∉wr:=λh=>hSf (W.sub _ h)
 have more:∀b∈wr,b∈S::wr:=λb hb=>aY _ hb
 intro k
 induction k with
 |zero=>
  intro i m s hk hi hm st T hR
  cases(by lia:i=n)
  refine codeAny_builtin PyProof.Rows.F.entry_set_update_loop ?_
  rw[Around.under_plainId PyProof.Rows.F.plain_set_update_loop _]
  show wpAny _ A.in1 (pyNext (.ref I) >>= _) _ _ s
  refine wpAny_bind (W.done s _ _ st λs' mv=>?_)
  show wpAny _ A.in1 (ret Value.none) _ _ s'
  exact wpAny_pure (hR s' m (mv.mono more) hm (T.keep λo e=>mv.heap S _ hSw e))
 |succ k ih=>
  intro i m s hk hi hm st T hR
  have lt:i<n:=by lia
  refine codeAny_builtin PyProof.Rows.F.entry_set_update_loop ?_
  rw[Around.under_plainId PyProof.Rows.F.plain_set_update_loop _]
  show wpAny _ A.in1 (pyNext (.ref I) >>= _) _ _ s
  refine wpAny_bind (W.item i s _ _ lt st λv s' hP st' mv=>?_)
  obtain⟨h1,h2,h3⟩:=hval i v hP
  have T':=T.keep (h':=s'.heap) λo e=>mv.heap S _ hSw e
  show wpAny _ A.in1 (holding [v] (setAdd S v) >>= _) _ _ s'
  refine wpAny_bind (wpAny_holding ?_)
  unfold setAdd
  refine wpAny_holding ?_
  refine wpAny_bind (kd.pyHash (k:=val i) h1 ?_)
  refine KZ (s:={s' with toks:=s'.toks+1}) h1 h2 h3 T' (by lia) λh' sb T2=>?_
  have hm2:(if met val i (val i)=true then m else m+1)<=i+1:=by split<;>lia
  refine wpAny_pure ⟨plainId_quiet PyProof.Rows.F.plain_set_update_loop _,ih (i+1) _ _ (by lia) lt hm2 (W.frame _ s' _ _ st' (eD _) λb hb o e=>?_)
   (T2.congr (λk'=>G2 val i k') rfl) λs'' m' mv2 hm' T3=>?_⟩
  ·rw[sb.2 b (λh:b=S=>hSf (by rw[<-h];exact hb))];exact e
  ·refine hR s'' m' (Moved.trans W.gtrans ((mv.mono more).then_heap (eD _) λb o hb e=>?_) mv2) hm' T3
   rw[sb.2 b (λh:b=S=>hb (by rw[h];exact aZ))];exact e
end
section
variable{prog:Program}{w:World}{A:Around}{E:Value->Shared->Prop}{s:Shared}{K:Type}[DecidableEq K]{kd:KeyKind prog w K}
def di(w:World):Obj:={cls:=.type "set",dict:=none,data:=.set #[] 0 (.fresh 0 0 (!byText w))}
theorem Ef(v:Value){Q:Value->Shared->Prop}(h:Q (.ref s.heap.objs.size) {s with heap:=s.heap.push (di w)}) :
  codeAny (model prog w) A (.call (.builtin "set.__new__") ⟨[.type "set",v],[]⟩) (wants Q E) s:=by
 refine codeAny_of_tree ?_
 show wpAny _ A.in1 (checkBuiltinCall "set.__new__" ⟨[.type "set",v],[]⟩ >>= λ_=>again (.builtin "set.__new__" ⟨[.type "set",v],[]⟩)) _ _ s
 refine wpAny_bind (wpAny_of_eq (PySem.F.newCall_set_1 v) (wpAny_pure ⟨plainId_quiet PySem.F.plain_set_new _,codeAny_builtin PySem.F.entry_set_new ?_⟩))
 rw[Around.under_plainId PySem.F.plain_set_new _]
 unfold Builtin.«set.__new__» Builtin.Frozenset.newClass
 have hsub:=sub_set_self
 obtain⟨hp,g,d,tk,os⟩:=s
 dsimp only
 wp_walk
 refine wpAny_askSetting (wpAny_pure ?_)
 dsimp only
 simp only[newObj]
 refine wpAny_bind (wpAny_alloc (wpAny_pure ?_))
 exact wpAny_pure h
end
section
variable{prog:Program}{w:World}{A:Around}{E:Value->Shared->Prop}{s:Shared}{K:Type}[DecidableEq K][Inhabited K]{kd:KeyKind prog w K}
theorem set_of_list{l:Addr}{its:Array Value}(ks:List K)(np:Bool){Q:Value->Shared->Prop}(hh:A.handled=none)(hl:s.heap.IsList l its)(hk:ks.length=its.size)
  (hv:∀(i:Nat) k v,ks[i]?=some k->its[i]?=some v->kd.is k v=true/\v.scannable=true/\(np=true->plainKind v=false)) (hb:its.size+1<scanBound)
  (hQ:∀(h':Heap) (tk m:Nat),m<=its.size->SetTb kd h' s.heap.objs.size (λk=>decide (k∈ks)) m (!byText w) np->
   (∀b o,b<s.heap.objs.size->s.heap.get? b=some o->h'.get? b=some o)->Q (.ref s.heap.objs.size) {s with heap:=h',toks:=tk}) :
  wpAny (model prog w) A (call (.type "set") [.ref l]) Q E s:=by
 obtain⟨c,tl,mro⟩:=PySem.F.called_set.mro
 have made:=PySem.F.called_set.made
 have sub0:=PySem.F.called_set.sub
 refine wpAny_call (codeAny_of_tree ?_)
 show wpAny _ _ (callAny (.type "set") _) _ _ _
 refine wpAny_pure ⟨Code.quiet_builtin _ (by decide +kernel),codeAny_builtin PySem.F.entry_type_call ?_⟩
 rw[Around.under_plain (weight_type_call_type "set" [.ref l] []) rfl]
 have f1:=PySem.F.called_set.notType
 have f2:=PySem.F.called_set.canCreate
 have f3:=PySem.F.typeCall_set_1 (.ref l)
 repeat (any_goals (first|assumption|wp_step))
 refine codeAny_mono (Ef (.ref l) (E:=E) (Q:=λv s1=>v=.ref s.heap.objs.size/\s1={s with heap:=s.heap.push (di w)}) ⟨rfl,rfl⟩) λr s1 hr=>?_
 cases r with
 |error e=>exact hr
 |ok fl=>
  cases fl with
  |ret v=>
   obtain⟨rfl,rfl⟩:=hr
   have gS:(s.heap.push (di w)).get? s.heap.objs.size=some (di w):=az _ rfl
   have tS:Shared.TypeIs {s with heap:=s.heap.push (di w)} (.ref s.heap.objs.size) "set":=⟨_,gS,rfl⟩
   have li:=PySem.F.called_set.init.lookup
   have bi:=PySem.F.called_set.init.bind (.ref s.heap.objs.size)
   repeat (any_goals (first|assumption|wp_step))
   refine codeAny_mono (codeAny_call_builtin (R:=wants (λr s2=>r=.none/\∃h' tk m,s2={s with heap:=h',toks:=tk}/\m<=its.size/\
     SetTb kd h' s.heap.objs.size (λk=>decide (k∈ks)) m (!byText w) np/\(∀b o,b<s.heap.objs.size->s.heap.get? b=some o->h'.get? b=some o)) E)
     PySem.F.called_set.init.plain PySem.F.entry_set_init (check_set_init_1 tS ?_)) λr2 s2 hr2=>?_
   ·obtain⟨ol,gl,hcl,nl,hdl⟩:=hl
    obtain⟨ocls,odict,odata,oslots⟩:=ol
    simp only at hcl hdl
    subst hcl;subst hdl
    have gl2:(s.heap.push (di w)).get? l=some {cls:=.type "list",dict:=odict,data:=.seq its nl,slots:=oslots}:=ag _ gl
    have u1:=PySem.F.sub_list_set
    have u2:=PySem.F.sub_list_frozenset
    have u3:(Value.type "list"==Value.type "dict")=false:=by decide
    have hl1:(s.heap.push (di w)).IsList l its:=⟨_,gl2,rfl,nl,rfl⟩
    unfold Builtin.«set.__init__» noKeywords Builtin.Frozenset.updateFrom
    generalize hPI:pyIter=PI
    wp_walk
    subst hPI
    refine wpAny_pyIter_list hl1 ?_
    refine wpAny_bind (wpAny_runValue ?_)
    have lt:l<s.heap.objs.size:=aF gl
    have hh3:A.in1.in1.in1.handled=none:=by simp[hh]
    have ne:l≠(s.heap.push (di w)).objs.size:=by
     rw[bF];exact aO (dh lt)
    have nf:s.heap.objs.size∉[(s.heap.push (di w)).objs.size,l]:=by
     rw[bF]
     simp only[aM,cF,or_false,not_or]
     exact⟨aO (cZ _),cT lt⟩
    have hval:∀(i:Nat) (v:Value),its[i]?=some v->kd.is (ks.getD i default) v=true/\v.scannable=true/\(np=true->plainKind v=false):=λi v hi=>by
     have hlt:i<ks.length:=by rw[hk];exact(dZ.mp hi).1
     refine hv i _ v ?_ hi
     rw[bU,aa hlt];rfl
    refine A8 ((Walks.list hh3 _ l ne its).toS) s.heap.objs.size nf (λi=>ks.getD i default) (!byText w) np hval hb (its.size-0) 0 0 _ (by lia) (a8 _) (aw _)
     ⟨⟨_,az _ rfl,rfl,rfl⟩,(hl1.push _)⟩ (SetTb.congr (SetTb.fresh (x:=0) (y:=0) (ag _ gS)) (λk=>rfl) rfl) λs' m mv hm T=>?_
    obtain⟨h',g',d',tk',os'⟩:=s'
    have eg:g'=s.gens:=mv.gens
    have ed:d'=s.drawn:=mv.drawn
    have eo:os'=s.os:=mv.os
    subst eg;subst ed;subst eo
    show wpAny _ _ _ _ _ _
    refine wpAny_pure ?_
    show wpAny _ _ (ret Value.none) _ _ _
    refine wpAny_pure ⟨rfl,h',tk',m,rfl,hm,T.congr (λk=>?_) rfl,λb o hb e=>?_⟩
    ·unfold met
     rw[Bool.eq_iff_iff,decide_eq_true_eq,decide_eq_true_eq]
     have:(bZ its.size).map (λi=>ks.getD i default)=ks:=by
      refine eA λi=>?_
      rw[aH]
      rcases cB i its.size with h|h
      ·rw[jd h,aa (by rw[hk];exact h)]
       simp[bU,hk,h]
      ·rw[bg (by simpa using h),bg (by rw[hk];exact h)];rfl
     rw[this]
    ·have n1:b≠s.heap.objs.size:=aO hb
     have n2:b≠(s.heap.push (di w)).objs.size:=by
      rw[bF];exact aO (dh hb)
     refine mv.heap b o ?_ (ag _ (ag _ e))
     simp only[aM,cF,or_false,not_or]
     exact⟨n1,n2⟩
   ·cases r2 with
    |error e=>exact hr2
    |ok fl2=>
     cases fl2 with
     |ret r=>
      obtain⟨rfl,h',tk,m,rfl,hm,T,kp⟩:=hr2
      repeat (any_goals (first|assumption|wp_step))
      exact hQ _ _ m hm T kp
     |_=>exact hr2.elim
  |_=>exact hr.elim
theorem set_of_tuple{l:Addr}{its:Array Value}(ks:List K)(np:Bool){Q:Value->Shared->Prop}(hh:A.handled=none)(hl:s.heap.IsTuple l its)(hk:ks.length=its.size)
  (hv:∀(i:Nat) k v,ks[i]?=some k->its[i]?=some v->kd.is k v=true/\v.scannable=true/\(np=true->plainKind v=false)) (hb:its.size+1<scanBound)
  (hQ:∀(h':Heap) (tk m:Nat),m<=its.size->SetTb kd h' s.heap.objs.size (λk=>decide (k∈ks)) m (!byText w) np->
   (∀b o,b<s.heap.objs.size->s.heap.get? b=some o->h'.get? b=some o)->Q (.ref s.heap.objs.size) {s with heap:=h',toks:=tk}) :
  wpAny (model prog w) A (call (.type "set") [.ref l]) Q E s:=by
 obtain⟨c,tl,mro⟩:=PySem.F.called_set.mro
 have made:=PySem.F.called_set.made
 have sub0:=PySem.F.called_set.sub
 refine wpAny_call (codeAny_of_tree ?_)
 show wpAny _ _ (callAny (.type "set") _) _ _ _
 refine wpAny_pure ⟨Code.quiet_builtin _ (by decide +kernel),codeAny_builtin PySem.F.entry_type_call ?_⟩
 rw[Around.under_plain (weight_type_call_type "set" [.ref l] []) rfl]
 have f1:=PySem.F.called_set.notType
 have f2:=PySem.F.called_set.canCreate
 have f3:=PySem.F.typeCall_set_1 (.ref l)
 repeat (any_goals (first|assumption|wp_step))
 refine codeAny_mono (Ef (.ref l) (E:=E) (Q:=λv s1=>v=.ref s.heap.objs.size/\s1={s with heap:=s.heap.push (di w)}) ⟨rfl,rfl⟩) λr s1 hr=>?_
 cases r with
 |error e=>exact hr
 |ok fl=>
  cases fl with
  |ret v=>
   obtain⟨rfl,rfl⟩:=hr
   have gS:(s.heap.push (di w)).get? s.heap.objs.size=some (di w):=az _ rfl
   have tS:Shared.TypeIs {s with heap:=s.heap.push (di w)} (.ref s.heap.objs.size) "set":=⟨_,gS,rfl⟩
   have li:=PySem.F.called_set.init.lookup
   have bi:=PySem.F.called_set.init.bind (.ref s.heap.objs.size)
   repeat (any_goals (first|assumption|wp_step))
   refine codeAny_mono (codeAny_call_builtin (R:=wants (λr s2=>r=.none/\∃h' tk m,s2={s with heap:=h',toks:=tk}/\m<=its.size/\
     SetTb kd h' s.heap.objs.size (λk=>decide (k∈ks)) m (!byText w) np/\(∀b o,b<s.heap.objs.size->s.heap.get? b=some o->h'.get? b=some o)) E)
     PySem.F.called_set.init.plain PySem.F.entry_set_init (check_set_init_1 tS ?_)) λr2 s2 hr2=>?_
   ·obtain⟨ol,gl,hcl,nl,hdl⟩:=hl
    obtain⟨ocls,odict,odata,oslots⟩:=ol
    simp only at hcl hdl
    subst hcl;subst hdl
    have gl2:(s.heap.push (di w)).get? l=some {cls:=.type "tuple",dict:=odict,data:=.seq its nl,slots:=oslots}:=ag _ gl
    have u1:=PySem.F.sub_tuple_set
    have u2:=PySem.F.sub_tuple_frozenset
    have u3:(Value.type "tuple"==Value.type "dict")=false:=by decide
    have hl1:(s.heap.push (di w)).IsTuple l its:=⟨_,gl2,rfl,nl,rfl⟩
    unfold Builtin.«set.__init__» noKeywords Builtin.Frozenset.updateFrom
    generalize hPI:pyIter=PI
    wp_walk
    subst hPI
    refine wpAny_pyIter_tuple hl1 ?_
    refine wpAny_bind (wpAny_runValue ?_)
    have lt:l<s.heap.objs.size:=aF gl
    have hh3:A.in1.in1.in1.handled=none:=by simp[hh]
    have ne:l≠(s.heap.push (di w)).objs.size:=by
     rw[bF];exact aO (dh lt)
    have nf:s.heap.objs.size∉[(s.heap.push (di w)).objs.size,l]:=by
     rw[bF]
     simp only[aM,cF,or_false,not_or]
     exact⟨aO (cZ _),cT lt⟩
    have hval:∀(i:Nat) (v:Value),its[i]?=some v->kd.is (ks.getD i default) v=true/\v.scannable=true/\(np=true->plainKind v=false):=λi v hi=>by
     have hlt:i<ks.length:=by rw[hk];exact(dZ.mp hi).1
     refine hv i _ v ?_ hi
     rw[bU,aa hlt];rfl
    refine A8 ((Walks.tuple hh3 _ l ne its).toS) s.heap.objs.size nf (λi=>ks.getD i default) (!byText w) np hval hb (its.size-0) 0 0 _ (by lia) (a8 _) (aw _)
     ⟨⟨_,az _ rfl,rfl,rfl⟩,(hl1.push _)⟩ (SetTb.congr (SetTb.fresh (x:=0) (y:=0) (ag _ gS)) (λk=>rfl) rfl) λs' m mv hm T=>?_
    obtain⟨h',g',d',tk',os'⟩:=s'
    have eg:g'=s.gens:=mv.gens
    have ed:d'=s.drawn:=mv.drawn
    have eo:os'=s.os:=mv.os
    subst eg;subst ed;subst eo
    show wpAny _ _ _ _ _ _
    refine wpAny_pure ?_
    show wpAny _ _ (ret Value.none) _ _ _
    refine wpAny_pure ⟨rfl,h',tk',m,rfl,hm,T.congr (λk=>?_) rfl,λb o hb e=>?_⟩
    ·unfold met
     rw[Bool.eq_iff_iff,decide_eq_true_eq,decide_eq_true_eq]
     have:(bZ its.size).map (λi=>ks.getD i default)=ks:=by
      refine eA λi=>?_
      rw[aH]
      rcases cB i its.size with h|h
      ·rw[jd h,aa (by rw[hk];exact h)]
       simp[bU,hk,h]
      ·rw[bg (by simpa using h),bg (by rw[hk];exact h)];rfl
     rw[this]
    ·have n1:b≠s.heap.objs.size:=aO hb
     have n2:b≠(s.heap.push (di w)).objs.size:=by
      rw[bF];exact aO (dh hb)
     refine mv.heap b o ?_ (ag _ (ag _ e))
     simp only[aM,cF,or_false,not_or]
     exact⟨n1,n2⟩
   ·cases r2 with
    |error e=>exact hr2
    |ok fl2=>
     cases fl2 with
     |ret r=>
      obtain⟨rfl,h',tk,m,rfl,hm,T,kp⟩:=hr2
      repeat (any_goals (first|assumption|wp_step))
      exact hQ _ _ m hm T kp
     |_=>exact hr2.elim
  |_=>exact hr.elim
end
section
variable{prog:Program}{w:World}{A:Around}{E:Value->Shared->Prop}{s:Shared}{a:Addr}{es:Array (Int×Value)}{ep:Nat}{t:SetTable}
theorem Iu{Q:Bool->Shared->Prop}(ht:s.TypeIs (.ref a) "set")(h:Q false s):wpAny (model prog w) A (Builtin.List.listLengthHint (.ref a)) Q E s:=by
 unfold Builtin.List.listLengthHint
 refine wpAny_bind (wpAny_specialOf ht PySem.F.slot_set_len.lookup ?_)
 generalize hid:("set.__len__":String)=nm
 wp_delta
 rw[show splitId nm=some ("set","__len__") from by subst hid;decide +kernel]
 subst hid
 refine wpAny_bind (wpAny_isInstance (T:="set") (b:=true) ht (by rw[isSubtype_type];kernel_rfl) ?_)
 refine wpAny_ite_split (λc=>absurd c (by decide)) (λ_=>?_)
 refine wpAny_ite_split (λ_=>?_) (λc=>absurd (by decide +kernel) c)
 exact wpAny_bind (wpAny_typeOf ht (wpAny_pure h))
def Oh(s:Shared)(S:Addr)(es:Array (Int×Value))(s':Shared):Prop:=
 ∃(h':Heap) (d:Drawn) (tk:Nat) (L:List (Int×Value)) (c:Nat),s'={s with heap:=h',drawn:=d,toks:=tk}/\L.Perm es.toList/\(∀b o,b≠S->s.heap.get? b=some o->h'.get? b=some o)/\
  h'.get? S=some {cls:=.type "list",dict:=none,data:=.seq (L.map (·.2)).toArray c,slots:=#[]}
theorem Ar{L:List (Int×Value)}{acc:Array Value}(h:ItemsOf (λi v=>∃e,L[i]?=some e/\v=e.2) acc L.length):acc=(L.map (·.2)).toArray:=by
 apply Array.toList_inj.mp
 rw[List.toList_toArray]
 refine eA λi=>?_
 rw[bM,aH]
 rcases cB i acc.size with hi|hi
 ·obtain⟨e,he,hv⟩:=h.2 i _ (aW hi)
  rw[aW hi,he,hv];rfl
 ·rw[dR hi,bg (by rw[<-h.1];exact hi)];rfl
theorem Dd(hh:A.handled=none)(X:fY s.heap a es ep t)(hT:pQ (!byText w) t)(hz:es.size<=sizeLine)(S:Addr)(hne:S≠a)(res:Value)(c0:Nat)
  (gS:s.heap.get? S=some {cls:=.type "list",data:=.seq #[] c0}) {R:Result->Shared->Prop} (hR:∀s',Oh s S es s'->R (.ok (.ret res)) s') :
  wpAny (model prog w) A.in1 (Builtin.List.listExtendWith (.ref S) (.ref a) res)
   (λfin s'=>match fin with|.done f=>R (.ok f) s'|.again c'=>c'.quiet=true/\codeAny (model prog w) A c' R s') (λe s'=>R (.error e) s') s:=by
 have ltS:=aF gS
 obtain⟨o,ho,hc,hd⟩:=X.at_
 have lta:=aF ho
 unfold Builtin.List.listExtendWith
 refine wpAny_bind (wpAny_typeOf (T:="set") ⟨o,ho,hc⟩ ?_)
 have h1:Builtin.List.listSameRef (.ref S) (.ref a)=false:=by simp[Builtin.List.listSameRef,hne]
 have h2:(Value.type "set"==Value.type "list")=false:=by decide
 have h3:(Value.type "set"==Value.type "tuple")=false:=by decide
 simp only[h1,h2,h3,Bool.or_false,Bool.false_eq_true,if_false]
 refine wpAny_bind (Iv (A:=A.in1) hh X hT hz λI h' d fp L St hp kp hfp hI W st=>?_)
 have hSf:S∉fp:=λhm=>(hfp S hm).elim hne λe=>absurd ltS (pq.mpr e)
 have hlen:L.length=es.size:=by rw[hp.length_eq,bH]
 have key:∀(h:Heap) (c1:Nat),St 0 h->(∀b o,b≠S->s.heap.get? b=some o->h.get? b=some o)->
   h.get? S=some {cls:=.type "list",data:=.seq #[] c1}->codeAny (model prog w) A (.builtin "list.extend.loop" ⟨[.ref S,.ref I,res],[]⟩) R {s with heap:=h,drawn:=d}:=by
  intro h c1 st1 k1 g1
  refine codeAny_extend_loopS W.toS hz S hSf res es.size 0 _ #[] c1 rfl (a8 _) st1 g1 (ItemsOf.nil _) λs' acc' c' mv g' hacc=>?_
  refine hR s' ⟨s'.heap,d,s'.toks,L,c',by rw[Moved.eq_with mv],hp,λb o hb e=>mv.heap b o (λhm=>?_) (k1 b o hb e),?_⟩
  ·rcases aM.mp hm with e'|hm
   ·exact hb e'
   ·have:=aF e;rw[aj.mp hm] at this;exact absurd this (pq.mpr hI)
  ·rw[<-Ar (by rw[hlen];exact hacc)];exact g'
 have gS':=kp S _ gS
 refine wpAny_bind (wpAny_holding (Iu ⟨o,kp a o ho,hc⟩ ?_))
 refine wpAny_ite_split (λ_=>?_) (λ_=>wpAny_pure ⟨plainId_quiet d9 _,key _ c0 st (λb o _ e=>kp b o e) gS'⟩)
 refine wpAny_bind (wpAny_rule ?_)
 refine wpAny_bind ?_
 show wpAny _ _ (updateSeq S (·.push .none) >>= λ_=>updateSeq S (·.pop)) _ _ _
 refine wpAny_bind (wpAny_updateSeq gS' rfl ?_)
 have g2:=b9 (Obj.mapSeq (·.push Value.none)) gS' rfl
 refine wpAny_updateSeq (hz:=by seq_fits) g2 rfl ?_
 have g3:=b9 (Obj.mapSeq (·.pop)) g2 rfl
 refine wpAny_pure ⟨plainId_quiet d9 _,key _ _ (W.frame 0 _ _ st λb hb o e=>?_) (λb o hb e=>?_) g3⟩
 ·have n:b≠S:=λh=>hSf (h ▸ hb)
  exact(bI _ _ (Ne.symm n)).trans ((bI _ _ (Ne.symm n)).trans e)
 ·exact(bI _ _ (Ne.symm hb)).trans ((bI _ _ (Ne.symm hb)).trans (kp b o e))
theorem set_collect(hh:A.handled=none)(X:fY s.heap a es ep t)(hT:pQ (!byText w) t)(hz:es.size<=sizeLine){R:List Value->Shared->Prop}
  (hR:∀(h':Heap) (d:Drawn) (tk:Nat) (L:List (Int×Value)),L.Perm es.toList->(∀b o,s.heap.get? b=some o->h'.get? b=some o)->R (L.map (·.2)) {s with heap:=h',drawn:=d,toks:=tk}) :
  wpAny (model prog w) A (collect (.ref a)) R E s:=by
 obtain⟨o,ho,hc,hd⟩:=X.at_
 have lta:=aF ho
 unfold collect
 refine wpAny_bind (wpAny_runValue (codeAny_builtin entry_proto_collect' ?_))
 rw[Around.under_plainId PySem.F.plain_proto_collect _]
 show wpAny _ A.in1 (newList [] >>= λl=>again (.builtin "list.__iadd__" ⟨[l,.ref a],[]⟩)) _ _ s
 refine wpAny_bind (wpAny_newObj_type ?_)
 refine wpAny_pure ⟨plainId_quiet PySem.F.plain_list_iadd _,codeAny_builtin entry_list_iadd' ?_⟩
 rw[Around.under_plainId PySem.F.plain_list_iadd _]
 show wpAny _ A.in1 (Builtin.List.listExtendWith (.ref s.heap.objs.size) (.ref a) (.ref s.heap.objs.size)) _ _ _
 have g1:(s.heap.push {cls:=.type "list",data:=.seq ([]:List Value).toArray}).get? s.heap.objs.size=some {cls:=.type "list",data:=.seq #[]}:=az _ rfl
 have go:=Dd (prog:=prog) (w:=w) (A:=A) (s:={s with heap:=s.heap.push {cls:=.type "list",data:=.seq ([]:List Value).toArray}}) hh (X.keep λo e=>ag _ e) hT hz s.heap.objs.size
  (cT lta) (.ref s.heap.objs.size) 0 g1 (R:=λq s'=>q=.ok (.ret (.ref s.heap.objs.size))/\∃(h':Heap) (d:Drawn) (tk:Nat) (L:List (Int×Value)) (c:Nat),
   s'={s with heap:=h',drawn:=d,toks:=tk}/\L.Perm es.toList/\(∀b o,s.heap.get? b=some o->h'.get? b=some o)/\
   h'.get? s.heap.objs.size=some {cls:=.type "list",dict:=none,data:=.seq (L.map (·.2)).toArray c,slots:=#[]}) (λs' ⟨h',d,tk,L,c,e,hp,kp,g⟩=>
    ⟨rfl,h',d,tk,L,c,e,hp,λb o e=>kp b o (aO (aF e)) (ag _ e),g⟩)
 refine wpAny_mono go (λfin s' x=>?_) λe s' x=>?_
 ·cases fin with
  |done f=>
   obtain⟨e,h',d,tk,L,c,rfl,hp,kp,g⟩:=x
   cases e
   show wpAny _ A (load s.heap.objs.size >>= _) _ _ _
   refine wpAny_bind (wpAny_load g ?_)
   refine wpAny_pure ?_
   have:=hR h' d tk L hp kp
   simpa using this
  |again c1=>
   refine⟨x.1,codeAny_mono x.2 λq s2 y=>?_⟩
   obtain⟨rfl,h',d,tk,L,c,rfl,hp,kp,g⟩:=y
   show wpAny _ A (load s.heap.objs.size >>= _) _ _ _
   refine wpAny_bind (wpAny_load g ?_)
   refine wpAny_pure ?_
   have:=hR h' d tk L hp kp
   simpa using this
 ·cases x.1
end
end BgSet
end
section
namespace Bg
open PySem PySem.Spec PyProof.Rows L2
abbrev Jt:List Str:=["_law_state","_law_many"]
abbrev FY:List Str:=["_law_state","_law_many","_law_script","_law_k","_law_digit","_law_cell"]
def IG(K:Fg):TS:=(dz (bN (kG) (bN (kG) (bN (jB K) (ay 5) (ay 5)) (tC (.int 1999999973))) (ay 1)))
def IH(K:Fg):TS:=(bt (bP (bN (kG) (bN (jB K) (ay 5) (ay 5)) (tC (.int 2147483587))) (aQ 5)) (IG K))
def Bc(K:Fg):TS:=(bt (bP (bN (kG) (bN (jB K) (bN (kG) (ay 5) (tC (.int 2147483629))) (bN (dq K) (ay 3) (tC (.int 3)))) (tC (.int 2147483629))) (aQ 5)) (IH K))
def II(K:Fg):TS:=(bt (gb (cH (bN (uL) (fQ (gF K) (ar (ay 2) aP)) (tC (.int 0)))) (bP (bN (dq K) (ay 5) (bN (jB K) (bN (fF K) (ay 2) (bN (kG) (bN (jB K) (ay 3) (tC (.int 7))) (fQ (gF K) (ar (ay 2) aP)))) (bN (dq K) (tC (.int 48271)) (ay 3)))) (aQ 5)) dW) (Bc K))
def qK(K:Fg):TS:=(bt (bP (bN (dq K) (bN (jB K) (ay 3) (tC (.int 7919))) (tC (.int 5))) (aQ 5)) (II K))
def IJ(K:Fg):TS:=(dz (ay 4))
def Bd(K:Fg):TS:=(gb (cH (bN ((y8 K true)) (bN (fF K) (ay 0) (tC (.int 2))) (jD (ar (tC (.int 0)) (ar (vF kH (tC (.int 1))) aP))))) (bt (bP (fQ (KF) (ar (bN (fF K) (ay 0) (tC (.int 2))) (ar (ay 1) aP))) (my K 2 (dG (yp (ay 0) (tC (.int 2)) AN) (dG (aQ 4) lX)))) (IJ K)) dW)
def Be(K:Fg):TS:=(bt (gb (Dg (cH (bN (Fe) (bN (dq K) (bN (HQ) (ay 3) (tC (.int 12))) (tC (.int 1))) (fQ (gF K) (ar (ay 2) aP)))) (cH (bN (v7 K) (bN (kG) (bN (fF K) (ay 2) (tC (.int 0))) (tC (.int 2))) (tC (.int 1))))) (bt (gb (cH (bN (v7 K) (bN (kG) (ay 3) (tC (.int 12))) (tC (.int 0)))) (bP (bN (fF K) (ay 2) (bN (dq K) (bN (HQ) (ay 3) (tC (.int 12))) (tC (.int 1)))) (yp (ay 0) (tC (.int 2)) AN)) dW) (Bd K)) (gb (cH (bN (Fe) (ay 3) (fQ (gF K) (ar (ay 2) aP)))) (dz (bN (kG) (bN (fF K) (ay 2) (ay 3)) (ay 1))) dW)) (qK K))
def IK(K:Fg):TS:=(bt (bP (bN (dq K) (ay 3) (tC (.int 1))) (yp (ay 0) (tC (.int 1)) AN)) (Be K))
def IF(K:Fg):TS:=(bt (bP (FI (FH K) (ay 0) gx (lE (tC (.int 2)))) (GJ K 2 (dG (aQ 2) (dG (aQ 3) lX)))) (IK K))
abbrev F5:List Str:=["_law_state","_law_many"]
abbrev xU:List Str:=["_law_state","_law_many","_law_letters","_law_size","_law_at","_law_first","_law_base","_law_found","_law_k","_law_some","_law_name"]
def xD(K:Fg):TS:=(dz (ay 7))
def xE(K:Fg):TS:=(fZ (rQ K "list" dH (ay 7) (ar (ay 10) aP)))
def xF(K:Fg):TS:=(bt (gb (Ox (cH (bN ((y8 K false)) (ay 10) (jD (ar (tC (.str "part")) (ar (tC (.str "call")) (ar (tC (.str "say")) (ar (tC (.str "jump")) (ar (tC (.str "test")) (ar (tC (.str "give")) aP))))))))) (Dg (cH (bN (Fe) (ay 3) (tC (.int 8)))) (cH (bN (v7 K) (bN (kG) (bN (dq K) (ay 3) (ay 8)) (tC (.int 3))) (tC (.int 1)))))) (bP (bN (dq K) (ay 10) (tC (.str "x"))) (aQ 10)) dW) (xE K))
def Fn(K:Fg):TS:=(bt (bP (rQ K "str" (HU K) (tC (.str "")) (ar (ay 9) aP)) (aQ 10)) (xF K))
def Fo(K:Fg):TS:=(bt (bP (bN (dq K) (bN (dq K) (FI (FH K) (ay 6) gx (lE (ay 4))) (fR (ar (bN (fF K) (ay 2) (bN (kG) (bN (dq K) (ay 5) (bN (jB K) (tC (.int 5)) (ay 8))) (tC (.int 26)))) aP))) (FI (FH K) (ay 6) (lE (bN (dq K) (ay 4) (tC (.int 1)))) gx)) (aQ 9)) (Fn K))
def xG(K:Fg):TS:=(bt (jI (qj (ar (ay 1) aP)) (aQ 8) (Fo K)) (xD K))
def Fp(K:Fg):TS:=(bt (bP (fR aP) (aQ 7)) (xG K))
def Fq(K:Fg):TS:=(bt (bP (d6 [] 1 (qj (ar (ay 3) aP)) (aQ 11) jE (bN (fF K) (ay 2) (bN (kG) (bN (dq K) (ay 5) (bN (jB K) (bN (jB K) (tC (.int 7)) (ay 11)) (bA (eQ K) [] E0 (ar (ay 0) (ar (tC (.int 4)) aP))))) (tC (.int 26))))) (aQ 6)) (Fp K))
def Fs(K:Fg):TS:=(bt (bP (bA (eQ K) [] E0 (ar (ay 0) (ar (tC (.int 26)) aP))) (aQ 5)) (Fq K))
def u7(K:Fg):TS:=(bt (bP (bA (eQ K) [] E0 (ar (ay 0) (ar (ay 3) aP))) (aQ 4)) (Fs K))
def Dm(K:Fg):TS:=(bt (bP (bN (dq K) (tC (.int 1)) (bA (eQ K) [] E0 (ar (ay 0) (ar (tC (.int 8)) aP)))) (aQ 3)) (u7 K))
def Eu(K:Fg):TS:=(bt (bP (tC (.str "abcdefghijklmnopqrstuvwxyz")) (aQ 2)) (Dm K))
end Bg
end
section
namespace Bg
open PySem L2
abbrev Jz:Str:="abcdefghijklmnopqrstuvwxyz"
theorem DI:Jz.length<=sizeLine:=by decide +kernel
def one(c:Nat):Str:=⟨#[c]⟩
theorem zQ:∀cs:List Nat,(Txt.join "" (cs.map one)).cps.toList=cs
 |[]=>by decide +kernel
 |c::r=>by
  unfold Txt.join
  rw[StrLaws.glued_eq_join]
  induction r generalizing c with
  |nil=>rfl
  |cons d r ih=>
   show(one c++("":Str)++Str.join "" ((d::r).map one)).cps.toList=_
   have e:(one c++("":Str)++Str.join "" ((d::r).map one)).cps.toList=(one c).cps.toList++("":Str).cps.toList++(Str.join "" ((d::r).map one)).cps.toList:=by
    show((one c).cps++("":Str).cps++(Str.join "" ((d::r).map one)).cps).toList=_
    rw[jc,jc]
   rw[e,ih d]
   rfl
theorem kF(y:Str):y.length=y.cps.toList.length:=by
 show y.cps.size=_
 rw[bH]
theorem zJ:∀j:Nat,j<26->Jz.cps.toList[j]?=some (97+j):=by decide +kernel
theorem Ik:∀y∈Ij,y.length<=4:=by decide +kernel
theorem Fi:∀y∈Ij,y.cps.toList.getLast?≠some 120:=by decide +kernel
theorem DN(y:Str):(y++"x").cps.toList=y.cps.toList++[120]:=by
 show(y.cps++("x":Str).cps).toList=_
 rw[jc]
 rfl
theorem AE{y:Str}{cs:List Nat}(h:y.cps.toList=cs)(l1:1<=cs.length)(l8:cs.length<=8)(a:∀c∈cs,97<=c/\c<=122)(n:y∉Ij):Nm y:=
 ⟨by rw[kF,h];exact l1,by rw[kF,h];exact l8,by rw[h];exact a,n⟩
theorem Ny{y:Str}{cs:List Nat}(h:y.cps.toList=cs)(l8:cs.length<=7)(a:∀c∈cs,97<=c/\c<=122):Nm (y++"x"):=by
 have e:=DN y
 rw[h] at e
 refine⟨by rw[kF,e,ai];simp,by rw[kF,e,ai];simp;lia,λc hc=>?_,λhm=>?_⟩
 ·rw[e] at hc
  rcases ax.mp hc with z|z
  ·exact a c z
  ·rw[aj.mp z];decide
 ·have:=Fi _ hm
  rw[e,List.getLast?_append] at this
  exact this rfl
def Ol(st b l:Addr)(n sz at':Nat)(f:Int)(H4:Hp)(i:Nat):St->Hp->Prop:=λσ' H'=>∃(ys:List Str) (o1 o2 o3:Option V),σ'=[some (.ref st),some (.int (n:Nat)),some (.str Jz),some (.int (sz:Nat)),some (.int (at':Nat)),some (.int f),some (.ref b),some (.ref l),o1,o2,o3]/\H' l=some (.lst (ys.map V.str))/\ys.length=i/\(∀y∈ys,Nm y)/\(∀(j:Nat) y,ys[j]?=some y->y.cps.toList[at']?=some (97+((f+5*(j:Int)) % 26).toNat))/\iY l (aN H4 l (.lst [])) H'
theorem KN{K:Fg}{vs:List V}{H:Hp}{Q:VK}{E:XK}(h:uZ K vs H Q E):Eu K {nx:=λ_ H'=>Q .non H',rt:=Q} (start xU vs) H:=by
 obtain⟨st,n,k,rfl,S,hk,hn,q⟩:=h
 refine⟨_,rfl,st,8,k,rfl,S,by lia,by decide,by decide,λd H1 d0 d1 S1 B1=>.inl ⟨_,_,rfl,rfl,?_⟩⟩
 obtain⟨sz,hsz,z1,z8⟩:∃sz:Nat,(1:Int)+d=(sz:Int)/\1<=sz/\sz<=8:=⟨(1+d).toNat,by lia,by lia,by lia⟩
 show u7 K _ [some (.ref st),some (.int (n:Nat)),some (.str Jz),some (.int ((1:Int)+d)),none,none,none,none,none,none,none] H1
 rw[hsz]
 refine⟨_,rfl,_,rfl,st,_,k+1,rfl,S1,by lia,by lia,by lia,λa H2 a0 a1 S2 B2'=>?_⟩
 obtain⟨at',rfl⟩:∃j:Nat,a=(j:Int):=⟨a.toNat,by lia⟩
 have B2:=B1.trans B2'
 refine⟨_,rfl,st,26,k+2,rfl,S2,by lia,by decide,by decide,λf H3 f0 f1 S3 B3'=>?_⟩
 have B3:=B2.trans B3'
 refine⟨_,rfl,_,rfl,by lia,by lia,λb hb=>?_⟩
 obtain⟨ys3,hs3⟩:=S3.lst
 have nb:b≠st:=λz=>by rw[z,hs3] at hb;cases hb
 refine pF (λi σ' H'=>∃(bc:List Nat) (kk:Nat) (o:Option V),σ'=[some (.ref st),some (.int (n:Nat)),some (.str Jz),some (.int (sz:Nat)),some (.int (at':Nat)),some (.int f),none,none,none,none,none,o]/\
  H' b=some (.lst ((bc.map one).map V.str))/\bc.length=i/\(∀c∈bc,97<=c/\c<=122)/\ma K H' st kk/\kk<=k+3+i/\iY st H H') ?_ ?_ ?_
 ·exact⟨[],k+3,none,rfl,ak,rfl,by simp,S3.new hb,by lia,B3.new hb⟩
 ·rintro i σ' H' hi ⟨bs,kk,o,rfl,hbl,hlen,hone,S4,hkk,B4⟩
  have hi:i<sz:=by simpa using hi
  refine fB ?_
  refine⟨_,rfl,_,rfl,_,rfl,.inl ⟨_,_,rfl,rfl,.inl ⟨by decide,by decide⟩,_,rfl,st,4,kk,rfl,S4,by lia,by decide,by decide,λe H5 e0 e1 S5 B5=>.inl ⟨_,_,rfl,rfl,.inr ⟨by lia,by lia⟩,.inl ⟨_,_,rfl,rfl,_,_,rfl,rfl,(by show(0:Int)<26;decide),?_⟩⟩⟩⟩
  have x0:0<=(f+7*(0+(i:Int))*e) % 26:=cJ _ (by decide)
  have x1:(f+7*(0+(i:Int))*e) % 26<26:=cI _ (by decide)
  refine OF DI x0 (zJ _ (by lia)) ?_
  have x2:((f+7*(0+(i:Int))*e) % 26).toNat<26:=by lia
  generalize ((f+7*(0+(i:Int))*e) % 26).toNat=x at x2
  have h5:=B5 b _ nb hbl
  refine⟨_,h5,bG (by rw[af,af];lia),bs++[97+x],kk+1,_,rfl,?_,by simp[hlen],?_,?_,by lia,?_⟩
  ·rw[ak,aB,aB];rfl
  ·intro y hy
   rcases ax.mp hy with z|z
   ·exact hone y z
   ·rw[aj.mp z];lia
  ·exact S5.mono .upd_at h5 (Ne.symm nb)
  ·exact λc' u n' h'=>by
    have w:=(B4.trans B5) c' u n' h'
    have ncb:c'≠b:=λz=>by
     have:H c'=none:=(B3.free (λz'=>n' z') (by rw[z];exact hb))
     rw[this] at h';cases h'
    rw[aA ncb];exact w
 ·rintro σ' H4 ⟨bs,kk,o,rfl,hbl,hlen,hone,S4,hkk,B4⟩
  have hlen:bs.length=sz:=by simpa using hlen
  have hkk:kk<=k+3+sz:=by simpa using hkk
  refine⟨(by show 0<=sizeLine;decide),λl hl=>?_⟩
  have nlb:b≠l:=aL hbl hl
  obtain⟨ys4,hs4⟩:=S4.lst
  have nls:st≠l:=aL hs4 hl
  have Hl:H l=none:=B4.free (Ne.symm nls) hl
  show xG K _ [some (.ref st),some (.int (n:Nat)),some (.str Jz),some (.int (sz:Nat)),some (.int (at':Nat)),some (.int f),some (.ref b),some (.ref l),none,none,none] (aN H4 l (.lst []))
  refine⟨_,rfl,_,rfl,by lia,by lia,kD (Ol st b l n sz at' f H4) ⟨[],none,none,none,rfl,ak,rfl,by simp,by simp,.refl _ _⟩ ?_ ?_⟩
  ·rintro i σ' H5 hi ⟨ys,o1,o2,o3,rfl,hyl,ylen,yok,ycd,B5⟩
   have hi:i<n:=by simpa using hi
   have hb5:H5 b=some (.lst ((bs.map one).map V.str)):=B5 b _ nlb (by rw[aA nlb];exact hbl)
   refine⟨_,rfl,_,rfl,_,rfl,.inl ⟨b,_,rfl,cq.of hb5,λp1 hp1=>?_⟩⟩
   rw[ui,<-j5,<-j5]
   have np1b:b≠p1:=aL hb5 hp1
   have np1l:l≠p1:=aL hyl hp1
   refine⟨_,rfl,_,rfl,_,rfl,.inl ⟨_,_,rfl,rfl,.inl ⟨by decide,by decide⟩,.inl ⟨_,_,rfl,rfl,_,_,rfl,rfl,(by show(0:Int)<26;decide),?_⟩⟩⟩
   have e00:(0:Int)+(i:Int)=(i:Int):=by lia
   rw[e00]
   have x0:0<=(f+5*(i:Int)) % 26:=cJ _ (by decide)
   have x1:(f+5*(i:Int)) % 26<26:=cI _ (by decide)
   obtain⟨c,hc⟩:∃c,c=97+((f+5*(i:Int)) % 26).toNat:=⟨_,rfl⟩
   refine OF DI x0 (by rw[zJ _ (by lia),<-hc]) ⟨(by show 1<=sizeLine;decide),λp2 hp2=>?_⟩
   have np12:p1≠p2:=aL ak hp2
   have np2b:b≠p2:=aL (by rw[aA np1b];exact hb5) hp2
   have np2l:l≠p2:=aL (by rw[aA np1l];exact hyl) hp2
   refine .inr (.inr (.inl ⟨p1,p2,_,_,rfl,rfl,by rw[aA np12,ak],ak,?_,λp3 hp3=>?_⟩))
   ·have:=bG (n:=9) (by decide)
    rw[af,af,aS]
    show min at' bs.length+1<=sizeLine
    lia
   have np13:p1≠p3:=aL (by rw[aA np12];exact ak) hp3
   have np3b:b≠p3:=aL (by rw[aA np2b,aA np1b];exact hb5) hp3
   have np3l:l≠p3:=aL (by rw[aA np2l,aA np1l];exact hyl) hp3
   refine⟨_,rfl,_,rfl,.inl ⟨_,_,rfl,rfl,_,rfl,.inl ⟨b,_,rfl,cq.of (by rw[aA np3b,aA np2b,aA np1b];exact hb5),λp4 hp4=>?_⟩⟩⟩
   rw[show((at':Int)+1)=((at'+1:Nat):Int) by lia,zU,<-List.map_drop,<-List.map_drop]
   have np34:p3≠p4:=aL ak hp4
   have np4l:l≠p4:=aL (by rw[aA np3l,aA np2l,aA np1l];exact hyl) hp4
   refine .inr (.inr (.inl ⟨p3,p4,_,_,rfl,rfl,by rw[aA np34,ak],ak,?_,λp5 hp5=>?_⟩))
   ·have:=bG (n:=100) (by decide)
    rw[ai,af,af,af,af,aS,eR]
    show min at' bs.length+1+(bs.length-(at'+1))<=sizeLine
    lia
   have np5l:l≠p5:=aL (by rw[aA np4l,aA np3l,aA np2l,aA np1l];exact hyl) hp5
   have ew:((bs.take at').map one).map V.str++[V.str ⟨#[c]⟩]++((bs.drop (at'+1)).map one).map V.str=((bs.take at'++[c]++bs.drop (at'+1)).map one).map V.str:=by rw[aB,aB,aB,aB];rfl
   rw[ew]
   have wl:(bs.take at'++[c]++bs.drop (at'+1)).length=sz:=by rw[ai,ai,aS,eR,aI];lia
   have wone:∀y∈bs.take at'++[c]++bs.drop (at'+1),97<=y/\y<=122:=λy hy=>by
    rcases ax.mp hy with z|z
    ·rcases ax.mp z with z|z
     ·exact hone y (List.mem_of_mem_take z)
     ·rw[aj.mp z];lia
    ·exact hone y (eC z)
   have wat:(bs.take at'++[c]++bs.drop (at'+1))[at']?=some c:=by
    have tl:(bs.take at').length=at':=by rw[aS];lia
    rw[ft,ao (by lia),tl,bj]
    rfl
   generalize bs.take at'++[c]++bs.drop (at'+1)=w at wl wone wat ⊢
   have B6:=((((B5.new (o:=.lst (((bs.take at').map one).map V.str)) hp1).new (o:=.lst [V.str ⟨#[c]⟩]) hp2).new (o:=.lst (((bs.take at').map one).map V.str++[V.str ⟨#[c]⟩])) hp3).new (o:=.lst (((bs.drop (at'+1)).map one).map V.str)) hp4).new (o:=.lst ((w.map one).map V.str)) hp5
   have h6:(aN (aN (aN (aN (aN H5 p1 (.lst (((bs.take at').map one).map V.str))) p2 (.lst [V.str ⟨#[c]⟩])) p3 (.lst (((bs.take at').map one).map V.str++[V.str ⟨#[c]⟩]))) p4 (.lst (((bs.drop (at'+1)).map one).map V.str))) p5 (.lst ((w.map one).map V.str))) l=some (.lst (ys.map V.str)):=by
    rw[aA np5l,aA np4l,aA np3l,aA np2l,aA np1l];exact hyl
   have g6:(aN (aN (aN (aN (aN H5 p1 (.lst (((bs.take at').map one).map V.str))) p2 (.lst [V.str ⟨#[c]⟩])) p3 (.lst (((bs.take at').map one).map V.str++[V.str ⟨#[c]⟩]))) p4 (.lst (((bs.drop (at'+1)).map one).map V.str))) p5 (.lst ((w.map one).map V.str))) p5=some (.lst ((w.map one).map V.str)):=ak
   generalize (aN (aN (aN (aN (aN H5 p1 (.lst (((bs.take at').map one).map V.str))) p2 (.lst [V.str ⟨#[c]⟩])) p3 (.lst (((bs.take at').map one).map V.str++[V.str ⟨#[c]⟩]))) p4 (.lst (((bs.drop (at'+1)).map one).map V.str))) p5 (.lst ((w.map one).map V.str)))=H6 at B6 h6 g6 ⊢
   have wsum:((w.map one).map (·.length)).sum=w.length:=by
    rw[de,show((λx:Str=>x.length) ∘ one)=λ_=>1 from rfl,List.map_const',List.sum_replicate_nat,Nat.mul_one]
   refine⟨rfl,_,rfl,"",p5,w.map one,rfl,rfl,cq.of g6,?_,?_⟩
   ·have e:("":Str).length=0:=by decide +kernel
    rw[wsum,e,Nat.mul_zero];lia
   have jl:=zQ w
   generalize Txt.join "" (w.map one)=nmw at jl ⊢
   show xF K _ [some (.ref st),some (.int (n:Nat)),some (.str Jz),some (.int (sz:Nat)),some (.int (at':Nat)),some (.int f),some (.ref b),some (.ref l),some (.int (i:Int)),some (.ref p5),some (.str nmw)] H6
   have nl:nmw.length=sz:=by rw[kF,jl,wl]
   have app:∀(nw:Str) (H7:Hp),Nm nw->nw.cps.toList[at']?=some c->iY l (aN H4 l (.lst [])) H7->H7 l=some (.lst (ys.map V.str))->xE K {nx:=Ol st b l n sz at' f H4 (i+1),rt:=Q,ct:=Ol st b l n sz at' f H4 (i+1),bk:=xD K {nx:=λ_ H'=>Q .non H',rt:=Q}} [some (.ref st),some (.int (n:Nat)),some (.str Jz),some (.int (sz:Nat)),some (.int (at':Nat)),some (.int f),some (.ref b),some (.ref l),some (.int (i:Int)),some (.ref p5),some (.str nw)] H7:=λnw H7 w1 w2 B7 h7=>by
    refine⟨_,rfl,.inl ⟨rfl,_,cq.of h7⟩,_,rfl,l,_,_,rfl,rfl,h7,bG (by rw[af];lia),?_⟩
    refine⟨ys++[nw],_,_,_,rfl,?_,by simp[ylen],?_,?_,B7.trans .upd_at⟩
    ·rw[ak,aB];rfl
    ·intro y hy
     rcases ax.mp hy with z|z
     ·exact yok y z
     ·rw[aj.mp z];exact w1
    ·intro j y hy
     by_cases cj:j<ys.length
     ·rw[av cj] at hy;exact ycd j y hy
     ·have cj2:j=i:=by
       have:=(ae.mp hy).1
       rw[ai,aI] at this
       lia
      subst cj2
      rw[ao (by lia),ylen,bj] at hy
      cases hy
      rw[<-hc];exact w2
   refine⟨_,rfl,(by show 6<=sizeLine;decide),λt ht=>⟨t,_,rfl,.inr (cE.of ak),rfl,rfl,_,rfl,?_⟩⟩
   have ntl:l≠t:=aL h6 ht
   have B7:=B6.new (o:=.tup [V.str "part",V.str "call",V.str "say",V.str "jump",V.str "test",V.str "give"]) ht
   have h7:(aN H6 t (.tup [V.str "part",V.str "call",V.str "say",V.str "jump",V.str "test",V.str "give"])) l=some (.lst (ys.map V.str)):=by rw[aA ntl];exact h6
   have xl:("x":Str).length=1:=by decide +kernel
   have xat:(nmw++"x").cps.toList[at']?=some c:=by
    rw[DN,jl,av (by rw[wl];lia)];exact wat
   show if sr (.str nmw) (Ij.map V.str)=true then _ else _
   rw[Aj]
   refine dy (λhin=>?_) (λhin=>?_)
   ·refine⟨_,rfl,.inr (.inl ⟨_,_,rfl,rfl,by rw[xl];have:=bG (n:=100) (by decide);lia,?_⟩)⟩
    have z4:=Ik _ hin
    exact app _ _ (Ny jl (by rw[wl];lia) wone) xat B7 h7
   ·refine⟨_,rfl,_,_,rfl,rfl,_,rfl,dy (λh8=>?_) (λ_=>?_)⟩
    ·refine⟨_,rfl,_,rfl,.inl ⟨_,_,rfl,rfl,_,_,rfl,rfl,(by show(0:Int)<3;decide),.inl ⟨rfl,_,rfl,dy (λ_=>?_) (λ_=>?_)⟩⟩⟩
     ·refine⟨_,rfl,.inr (.inl ⟨_,_,rfl,rfl,by rw[xl];have:=bG (n:=100) (by decide);lia,?_⟩)⟩
      exact app _ _ (Ny jl (by rw[wl];lia) wone) xat B7 h7
     ·exact app _ _ (AE jl (by lia) (by lia) wone hin) (by rw[jl];exact wat) B7 h7
    ·exact jo (app _ _ (AE jl (by lia) (by lia) wone hin) (by rw[jl];exact wat) B7 h7)
  ·rintro σ' H5 ⟨ys,o1,o2,o3,rfl,hyl,ylen,yok,ycd,B5⟩
   have ylen:ys.length=n:=by simpa using ylen
   have nd:ys.Nodup:=by
    rw[List.Nodup,fX]
    intro i j hi hj lt e
    have e1:=ycd i _ (aa hi)
    have e2:=ycd j _ (aa hj)
    rw[e,e2] at e1
    have e3:=Option.some.inj e1
    have a1:0<=(f+5*(i:Int)) % 26:=cJ _ (by decide)
    have a2:0<=(f+5*(j:Int)) % 26:=cJ _ (by decide)
    lia
   refine⟨_,rfl,q l ys kk H5 Hl ylen nd yok hyl ((S4.new hl).mono B5 ak nls) (by lia) (B4.through hl B5)⟩
end Bg
end
section
namespace L2
open PySem PySem.Spec PyProof.Rows
theorem iz{α:Type}[DecidableEq α]{l:List α}:∀{zs:List α},l.Nodup->(∀y∈l,y∈zs)->l.length<=zs.length:=by
 induction l with
 |nil=>intro zs _ _;exact a8 _
 |cons a r ih=>
  intro zs nd h
  obtain⟨na,nr⟩:=bS.mp nd
  have ha:a∈zs:=h a aZ
  have:=ih (zs:=zs.erase a) nr λy hy=>(List.mem_erase_of_ne (λz=>na (by rw[<-z];exact hy))).mpr (h y (aY _ hy))
  rw[List.length_erase_of_mem ha] at this
  have:0<zs.length:=List.length_pos_of_mem ha
  simp only[bf]
  lia
section
variable{X:Cx}
theorem bu.drawn{pins:List (Addr×Obj)}{σ:St}{H:Hp}{s:Shared}{d:Drawn}(I:bu X pins σ H s):bu X pins σ H {s with drawn:=d}:=
 ⟨I.ok,I.os,I.bare,I.base,I.loc,I.cell,I.free,I.freeC,I.pin,I.hok,I.len⟩
theorem A9{pins:List (Addr×Obj)}{s:Shared}{σ:St}{H:Hp}{a:Addr}{ss dd:List Str}{m:Nat}{Q:VK}(hc:X.calm=true)(I:bu X pins σ H s)
  (T:BgSet.SetTb (iE X.prog X.w) s.heap a (λk=>decide (k∈ss)) m (!BgSet.byText X.w) true) (hd:∀x∈ss,x∈dd) (h64:dd.length<64)
  (q:∀(l:Addr) (ss':List Str),H l=none->ss'.Nodup->(∀x,x∈ss'↔x∈ss)->sortedS ss'=true->Q (.ref l) (aN H l (.lst (ss'.map V.str)))) :
  wpAny (model X.prog X.w) X.A (call (.builtin "sorted") [.ref a]) (EP X pins σ Q) X.xe s:=by
 obtain⟨o,es,ep,t,ho,hex,hdt,hel,hmem,hb,hf,hn,htb,hoff,hap⟩:=T
 have hh:X.A.handled=none:=I.ok.hd hc
 have hz:es.size<=sizeLine:=fits_of_scanBound hb
 refine Calls.call_function_entry kind_sorted plain_sorted entry_sorted (args_sorted1 _) ?_
 unfold Builtin.«sorted»
 refine wpAny_bind (m:=checkCount "sorted" 1 1 _) (wpAny_pure ?_)
 refine wpAny_bind (BgSet.set_collect (A:=X.A.in1) hh ⟨⟨o,ho,hex.1,hdt⟩,hf⟩ htb hz λh' d tk L hp hkp=>?_)
 have hall:∀e∈L,∃x t,e.2=.str x t:=λe he=>by
  obtain⟨⟨k,hk,_⟩,_⟩:=hel e (hp.mem_iff.mp he)
  obtain⟨t,ht⟩:=Value.isStrOf_shape hk
  exact⟨k,t,ht⟩
 have hS:StrsAre (L.map (·.2)) ((L.map (·.2)).map strOf):=strsAre_map _ λv hv=>by
  obtain⟨e,he,rfl⟩:=aD.mp hv
  exact hall e he
 generalize hss:(L.map (·.2)).map strOf=ss0 at hS
 have hmm:∀x,x∈ss0↔x∈ss:=λx=>by
  rw[<-hss,de,aD]
  have:=hmem x
  rw[decide_eq_true_eq] at this
  rw[this]
  constructor
  ·rintro⟨e,he,rfl⟩
   obtain⟨y,t,hy⟩:=hall e he
   refine⟨e,hp.mem_iff.mp he,?_⟩
   show Value.isStrOf (strOf e.2) e.2=true
   rw[hy];simp[strOf,Value.isStrOf]
  ·rintro⟨e,he,hk⟩
   obtain⟨t,ht⟩:=Value.isStrOf_shape hk
   exact⟨e,hp.mem_iff.mpr he,by show strOf e.2=x;rw[ht];rfl⟩
 have hnd:ss0.Nodup:=by
  rw[<-hss,de]
  unfold List.Nodup
  rw[jL]
  refine List.Pairwise.imp_of_mem (λ{e e'} he he' r heq=>?_) (hap.perm hp)
  obtain⟨y,t,hy⟩:=hall e he
  obtain⟨y',t',hy'⟩:=hall e' he'
  have e1:y=y':=by have:strOf e.2=strOf e'.2:=heq;rw[hy,hy'] at this;exact this
  have h1:Value.isStrOf y e.2=true:=by rw[hy];simp[Value.isStrOf]
  have h2:Value.isStrOf y e'.2=false:=r y h1
  rw[hy',e1] at h2;simp[Value.isStrOf] at h2
 have hlen0:ss0.length<64:=cU (iz hnd λy hy=>hd y ((hmm y).mp hy)) h64
 have hl:(L.map (·.2)).length=ss0.length:=by rw[<-hss,af,af,af]
 generalize L.map (·.2)=vs at hS hl ⊢
 have I0:bu X pins σ H {s with drawn:=d}:=I.drawn
 have I1:bu X pins σ H {s with heap:=h',drawn:=d,toks:=tk}:=I0.kept (s:={s with drawn:=d}) hkp
 refine wpAny_bind (wpAny_newList ?_ (by rw[hl];exact br (bW hlen0) (by decide)))
 have hoL:(h'.push (seqObj "list" vs.toArray 0)).get? h'.objs.size=some (seqObj "list" vs.toArray 0):=az _ rfl
 show wpAny _ _ _ _ _ {s with heap:=h'.push (seqObj "list" vs.toArray 0),drawn:=d,toks:=tk}
 refine wpAny_bind (wpAny_holding (wpAny_call_entry slot_list_sort ⟨_,hoL,rfl⟩ entry_list_sort (list_sort_treeK strKind_oneLt hoL hS.keysOf (λv₁ v₂ rest e=>keyKind_strs (by rw[<-e];exact hS)) (by rw[hl];exact hlen0) λst' hp hs=>?_) (args_list_sort _)))
 obtain⟨ss',a1,a2,a3⟩:=sorted_out_str hS hp hs
 refine⟨_,rfl,?_⟩
 refine wpAny_pure ⟨_,rfl,?_⟩
 obtain⟨e,he⟩:=sortedHeap_at (n:=0) (out:=(arrOf st').map (·.2)) hoL
 have hn:=rT a1
 have hlen:ss'.length=ss0.length:=a2.length_eq
 refine⟨.ref h'.objs.size,_,I1.laid (t':=tk) (λb u q1=>?_) (aw _) (show d4 X.prog X.w _ _ _ (.lst (ss'.map V.str)) from⟨?_,((arrOf st').map (·.2)).toList,e,hn,?_⟩),rfl,
  q _ _ (I1.hok.fresh (aw _)) (a2.nodup_iff.mpr hnd) (λx=>by rw[a2.mem_iff];exact hmm x) a3⟩
 ·have lt:=aF q1
  rw[sortedHeap_old (aO lt) (by rw[size_push'];exact dh lt)]
  exact ag _ q1
 ·rw[af,hlen];exact br (bW hlen0) (by decide)
 ·rw[iL];exact he
def nI(K:Fg)(t:TA):TE:=λσ H Q=>t σ H λvs H1=>∃(p:Addr) (tp:Bool) (ss dd:List Str),vs=[.ref p]/\BD K tp H1 p (ss.map V.str)/\ss.length<=4000/\(∀x∈ss,x∈dd)/\dd.length<64/\
 ∀(l:Addr) (ss':List Str),H1 l=none->ss'.Nodup->(∀x,x∈ss'↔x∈ss)->sortedS ss'=true->Q (.ref l) (aN H1 l (.lst (ss'.map V.str)))
theorem AH{a:Expr}{ta:TA}{p1 p2 pos pos2:Pos}(hg:Gl X "sorted")(hg2:Gl X "set")(hm:X.mg "sorted"=none)(hm2:X.mg "set"=none)(hc:X.calm=true)(ha:PA X [a] ta)
  (hs2:starEach [a] X.env=[(false,eval a X.env)]:=by rfl) (hs:starEach [.Call (.Name "set" p2) [a] [] pos2] X.env=[(false,eval (.Call (.Name "set" p2) [a] [] pos2) X.env)]:=by rfl) :
  PE X (.Call (.Name "sorted" p1) [.Call (.Name "set" p2) [a] [] pos2] [] pos) (nI X.K ta):=by
 intro pins s σ H Q I h
 refine wpAny_Call_Name_kw (i8 I hg hm boot_sorted ?_)
 refine PyProof.Rows.callWith_builtin1 ?_ hs rfl
 rw[hs]
 show wpAny _ _ (spliced ((false,eval (.Call (.Name "set" p2) [a] [] pos2) X.env)::backTo pos [])) _ _ s
 refine Calls.spliced_cons ?_
 refine wpAny_Call_Name_kw (i8 I hg2 hm2 (show bootBuiltins "set"=some (.type "set") by kernel_rfl) ?_)
 refine bw (eJ (ha pos2 pins s σ H _ I h) λus s1 ⟨vs,H1,I1,r1,q1⟩=>?_) hs2 rfl
 obtain⟨l,tp,ss,dd,rfl,hq,hlen,hdd,h64,q⟩:=q1
 obtain⟨u,rfl,rx⟩:=kM r1
 cases rx
 obtain⟨its,rv,at_⟩:=I1.seqB hq
 have rl:=rv.length
 rw[af] at rl
 have hS:=qG rv
 have hv:∀(i:Nat) k v,ss[i]?=some k->its.toArray[i]?=some v->(iE X.prog X.w).is k v=true/\v.scannable=true/\(true=true->plainKind v=false):=λi k v h1 h2=>by
  rw[fi] at h2
  have:=hS.strs
  rw[<-this,aH,h2] at h1
  obtain⟨x,t,rfl⟩:=hS.all v (aC h2)
  have e:x=k:=by simpa[strOf] using h1
  subst e
  exact⟨by show Value.isStrOf x (.str x t)=true;simp[Value.isStrOf],rfl,λ_=>rfl⟩
 have hb:its.toArray.size+1<scanBound:=by rw[au,<-rl];unfold scanBound;lia
 have go:∀(h':Heap) (tk m:Nat),m<=its.toArray.size->BgSet.SetTb (iE X.prog X.w) h' s1.heap.objs.size (λk=>decide (k∈ss)) m (!BgSet.byText X.w) true->
   (∀b o,b<s1.heap.objs.size->s1.heap.get? b=some o->h'.get? b=some o)->
   wpAny (model X.prog X.w) X.A (spliced (backTo pos [])) (λvs s'=>wpAny (model X.prog X.w) X.A (call (.builtin "sorted") (.ref s1.heap.objs.size::vs)) (EP X pins σ Q) X.xe s') X.xe {s1 with heap:=h',toks:=tk}:=λh' tk m hm T kp=>by
  have I2:bu X pins σ H1 {s1 with heap:=h',toks:=tk}:=I1.kept λb u e=>kp b u (aF e) e
  exact Calls.spliced_nil (A9 hc I2 T hdd h64 q)
 cases tp with
 |true=>exact BgSet.set_of_tuple (kd:=iE X.prog X.w) ss true (I1.ok.hd hc) at_ (by rw[au];exact rl) hv hb go
 |false=>exact BgSet.set_of_list (kd:=iE X.prog X.w) ss true (I1.ok.hd hc) at_ (by rw[au];exact rl) hv hb go
theorem sA{a:Expr}{ta:TA}{p1 p2 pos pos2:Pos}(hg:Gl X "sorted")(hg2:Gl X "set")(hm:X.mg "sorted"=none)(hm2:X.mg "set"=none)(hc:X.calm=true)(ha:QA X [a] ta)
  (hs2:starEach [a] X.env=[(false,eval a X.env)]:=by rfl) (hs:starEach [.Call (.Name "set" p2) [a] [] pos2] X.env=[(false,eval (.Call (.Name "set" p2) [a] [] pos2) X.env)]:=by rfl) :
  QE X (.Call (.Name "sorted" p1) [.Call (.Name "set" p2) [a] [] pos2] [] pos) (nI X.K ta):=⟨AH hg hg2 hm hm2 hc ha.up hs2 hs⟩
end
section
variable{X:Cx}
end
end L2
end
section
namespace BgRev
open PySem
theorem AY:Manifest.owners.lookup (String.ofList ['d','e','s','r','e','v','e','r'].reverse)=some Manifest.sig_reversed:=by kernel_rfl
theorem qz:Slot "reversed" "__next__" "reversed.__next__":=
 .of (owner:="reversed") (n:="__next__") (by rw[typeLookup_type,builtinLookup_eq_fast];kernel_rfl) (by decide +kernel) (by decide +kernel)
  (by decide +kernel) (by first|exact .inl (by decide +kernel)|exact .inr (by decide +kernel))
  (by rw[isSubtype_type];kernel_rfl)
theorem ou:entryFor table "reversed.__next__"=some Builtin.«reversed.__next__»:=entryFor_of_tree (by kernel_rfl)
theorem qA(v:Value):argsOk "reversed.__next__" ⟨[v],[]⟩:=by
 unfold argsOk
 rw[signature?_of (id:="reversed.__next__") (n:=['_','_','t','x','e','n','_','_']) (o:=['d','e','s','r','e','v','e','r']) (by kernel_rfl) AY]
 kernel_rfl
theorem Eb:Slot "reversed" "__iter__" "reversed.__iter__":=
 .of (owner:="reversed") (n:="__iter__") (by rw[typeLookup_type,builtinLookup_eq_fast];kernel_rfl) (by decide +kernel) (by decide +kernel)
  (by decide +kernel) (by first|exact .inl (by decide +kernel)|exact .inr (by decide +kernel))
  (by rw[isSubtype_type];kernel_rfl)
theorem wj:entryFor table "reversed.__iter__"=some Builtin.«dict_keyiterator.__iter__»:=
 entryFor_alias (id':="dict_keyiterator.__iter__") (by kernel_rfl) rfl (by decide +kernel) (by kernel_rfl)
theorem yQ(v:Value):argsOk "reversed.__iter__" ⟨[v],[]⟩:=by
 unfold argsOk
 rw[signature?_of (id:="reversed.__iter__") (n:=['_','_','r','e','t','i','_','_']) (o:=['d','e','s','r','e','v','e','r']) (by kernel_rfl) AY]
 kernel_rfl
theorem KU:Slot "reversed" "__init__" "object.__init__":=
 .of (owner:="object") (n:="__init__") (by rw[typeLookup_type,builtinLookup_eq_fast];kernel_rfl) (by decide +kernel) (by decide +kernel)
  (by decide +kernel) (by first|exact .inl (by decide +kernel)|exact .inr (by decide +kernel))
  (by rw[isSubtype_type];kernel_rfl)
theorem rJ:TypeCalled "reversed" "reversed.__new__" "object.__init__":=
 ⟨by decide +kernel,by decide +kernel,⟨_,_,F.mro_reversed⟩,F.made_reversed,by decide +kernel,by rw[isSubtype_type];kernel_rfl,KU⟩
theorem K6:typeLookup (.type "tuple") "__reversed__"=pure none:=by rw[typeLookup_type,builtinLookup_eq_fast];kernel_rfl
end BgRev
end
section
namespace BgRev
open PySem PyProof.Rows
section
variable{prog:Program}{w:World}{A:Around}{E:Value->Shared->Prop}{s:Shared}
def rvObj(l:Addr)(i:Int):Obj:={cls:=.type "reversed",data:=.fields #[.ref l,rawInt i]}
theorem J3{l:Addr}{its:Array Value}{Q:Value->Shared->Prop}(hl:IsTup s.heap l its)(hz:(its.size:Int)<2 ^ 63)
  (h:Q (.ref s.heap.objs.size) {s with heap:=s.heap.push (rvObj l ((its.size:Int)-1)),toks:=s.toks+1+1}) :
  codeAny (model prog w) A (.call (.builtin "reversed.__new__") ⟨[.type "reversed",.ref l],[]⟩) (wants Q E) s:=by
 refine codeAny_of_tree ?_
 show wpAny _ A.in1 (checkBuiltinCall "reversed.__new__" ⟨[.type "reversed",.ref l],[]⟩ >>= λ_=>again (.builtin "reversed.__new__" ⟨[.type "reversed",.ref l],[]⟩)) _ _ s
 refine wpAny_bind (wpAny_of_eq (F.newCall_reversed_1 _) (wpAny_pure ⟨plainId_quiet F.plain_reversed_new _,codeAny_builtin F.entry_reversed_new ?_⟩))
 rw[Around.under_plainId F.plain_reversed_new _]
 unfold Builtin.«reversed.__new__»
 refine wpAny_bind (wpAny_of_eq (newClass_reversed _) ?_)
 try dsimp only
 refine wpAny_bind (wpAny_of_eq (a:=()) (by first|rfl|kernel_rfl) ?_)
 refine wpAny_bind (wpAny_of_eq (a:=()) (by first|rfl|kernel_rfl) ?_)
 try dsimp only
 have ht:s.TypeIs (.ref l) "tuple":=hl.typeIs
 refine wpAny_bind (wpAny_specialOf ht K6 ?_)
 refine wpAny_bind ?_
 wp_delta
 refine wpAny_bind (wpAny_isInstance (T:="tuple") (b:=false) ht F.sub_tuple_dict ?_)
 simp only[Bool.false_eq_true,if_false]
 refine wpAny_bind (wpAny_specialOf ht F.slot_tuple_getitem.lookup ?_)
 refine wpAny_ite_split (λ_=>?_) (λc=>absurd (by decide +kernel) c)
 refine wpAny_pure ?_
 simp only[Bool.not_true,Bool.false_eq_true,if_false]
 refine wpAny_bind (len_tuple hl hz ?_)
 refine wpAny_bind (wpAny_of_eq (a:=some (its.size:Int)) rfl ?_)
 dsimp only
 refine wpAny_bind ?_
 unfold Builtin.SmallTypes.newRecord
 exact wpAny_newObj_type (wpAny_pure h)
def RvAt(h:Heap)(it l:Addr)(i:Int):Prop:=h.get? it=some {cls:=.type "reversed",dict:=none,data:=.fields #[.ref l,.int i 0],slots:=#[]}
theorem RvAt.type{it l:Addr}{i:Int}(x:RvAt s.heap it l i):s.TypeIs (.ref it) "reversed":=⟨_,x,rfl⟩
theorem call_rev{l:Addr}{its:Array Value}{Q:Value->Shared->Prop}(hl:IsTup s.heap l its)(hz:(its.size:Int)<2 ^ 63)
  (h:∀tk,Q (.ref s.heap.objs.size) {s with heap:=s.heap.push (rvObj l ((its.size:Int)-1)),toks:=tk}):wpAny (model prog w) A (call (.type "reversed") [.ref l]) Q E s:=by
 refine callType_codes (Q₁:=λv s1=>v=.ref s.heap.objs.size/\s1={s with heap:=s.heap.push (rvObj l ((its.size:Int)-1)),toks:=s.toks+1+1}) rJ (F.typeCall_reversed_1 _) F.entry_object_init
  (J3 hl hz ⟨rfl,rfl⟩) ?_
 rintro obj s1 ⟨rfl,rfl⟩
 have ht:Shared.TypeIs {s with heap:=s.heap.push (rvObj l ((its.size:Int)-1)),toks:=s.toks+1+1} (.ref s.heap.objs.size) "reversed":=⟨_,az _ rfl,rfl⟩
 exact⟨ht,F.args_object_init_2 _ _,object_init_meets rJ.init.lookup rJ.made (by decide) prog w A.in1 _ _ ⟨ht,rfl,h _⟩⟩
theorem next_rev{it l:Addr}{i:Nat}{its:Array Value}{x:Value}{Q:Option Value->Shared->Prop}(hit:RvAt s.heap it l (i:Int))(hl:IsTup s.heap l its)
  (hz:(its.size:Int)<2 ^ 63) (hx:its[i]?=some x) (hQ:∀h' tk,RvAt h' it l ((i:Int)-1)->Heap.SameBut it s.heap h'->Q (some x) {s with heap:=h',toks:=tk}):wpAny (model prog w) A (pyNext (.ref it)) Q E s:=by
 unfold pyNext
 refine wpAny_bind (wpAny_attempt (wpAny_callSpecial?_slot (name:=Str.ofString "__next__") hit.type qz (wpAny_call_entry qz hit.type ou ?_ (qA _))))
 unfold Builtin.«reversed.__next__»
 refine wpAny_bind (m:=slotArgs _ _ _) (wpAny_pure ?_)
 refine wpAny_bind (wpAny_field hit rfl (x:=.ref l) rfl ?_)
 refine wpAny_bind (wpAny_field hit rfl (x:=.int (i:Int) 0) rfl ?_)
 dsimp only
 rw[if_neg (by omega)]
 have ht:s.TypeIs (.ref l) "tuple":=hl.typeIs
 refine wpAny_bind (wpAny_specialOf ht F.slot_tuple_getitem.lookup ?_)
 simp only[Option.isNone_some,Bool.false_eq_true,if_false]
 have hlt:i<its.size:=(dZ.mp hx).1
 refine wpAny_bind (wpAny_mkInt ?_)
 refine wpAny_bind (wpAny_attempt (getItem_tuple (s:={s with toks:=s.toks+1}) (j:=i) hl (by omega) (by omega) (by unfold seqIndex?;rw[if_neg (show ¬((i:Int)<0) by omega)];simp;omega) hx ?_))
 dsimp only
 refine wpAny_bind (wpAny_field hit rfl (x:=.int (i:Int) 0) rfl ?_)
 dsimp only
 refine wpAny_bind (wpAny_setField_rec (s:={s with toks:=s.toks+1}) hit (by simp) λh1 g1 sb1=>?_)
 refine wpAny_pure ⟨_,rfl,wpAny_pure (hQ h1 _ ?_ sb1)⟩
 unfold RvAt
 rw[g1]
 simp[rawInt]
theorem stop_rev{it l:Addr}{Q:Option Value->Shared->Prop}(hh:A.handled=none)(hit:RvAt s.heap it l (-1))(hQ:∀h',Heap.ExtBut it s.heap h'->Q none {s with heap:=h'}):wpAny (model prog w) A (pyNext (.ref it)) Q E s:=by
 unfold pyNext
 refine wpAny_bind (wpAny_attempt (wpAny_callSpecial?_slot (name:=Str.ofString "__next__") hit.type qz (wpAny_call_entry qz hit.type ou ?_ (qA _))))
 unfold Builtin.«reversed.__next__»
 refine wpAny_bind (m:=slotArgs _ _ _) (wpAny_pure ?_)
 refine wpAny_bind (wpAny_field hit rfl (x:=.ref l) rfl ?_)
 refine wpAny_bind (wpAny_field hit rfl (x:=.int (-1) 0) rfl ?_)
 dsimp only
 rw[if_pos (by decide)]
 refine wpAny_bind (wpAny_rule ?_)
 refine wpAny_bind ?_
 wp_delta
 refine wpAny_bind (wpAny_setField_rec hit (by simp) λh1 g1 sb1=>?_)
 refine wpAny_setField_rec g1 (by simp) λh2 g2 sb2=>?_
 refine wpAny_bind ?_
 unfold Builtin.SmallTypes.stopIteration
 refine wpAny_bind ?_
 simp only[newExc,newTuple]
 refine wpAny_bind (wpAny_newObj_type ?_ (by size_fits))
 refine wpAny_bind (m:=firstArgMember _ _) (wpAny_of_eq (a:=Value.none) (by first|rfl|(simp only[firstArgMember];rfl)) ?_)
 refine wpAny_newObj_type ?_ (by size_fits)
 simp only[raiseNew]
 refine wpAny_bind (wpAny_handled ?_)
 rw[show A.in1.handled=none from hh]
 refine wpAny_bind (wpAny_pure (wpAny_throw ?_))
 refine wpAny_bind (wpAny_isInstance (T:="StopIteration") (b:=true) ⟨_,az _ rfl,rfl⟩ isSubtype_stop ?_)
 exact wpAny_pure (hQ _ (((sb1.trans sb2).extBut.push _).push _))
theorem self_rev{it l:Addr}{i:Int}{Q:Value->Shared->Prop}(hit:RvAt s.heap it l i)(h:Q (.ref it) s):wpAny (model prog w) A (pyIter (.ref it)) Q E s:=by
 refine wpAny_pyIter_slot hit.type Eb (wpAny_call_entry Eb hit.type wj ?_ (yQ _))
 show wpAny _ _ (ret (.ref it)) _ _ s
 exact wpAny_pure ⟨_,rfl,"reversed",_,hit.type,qz.lookup,h⟩
end
end BgRev
end
section
namespace L2
open PySem PySem.Spec PyProof.Rows
def FP(K:Fg)(a:Addr)(xs:List V):It:=
 ⟨λi H=>cE K H a xs/\i<xs.length,λi H x H'=>H'=H/\xs.reverse[i]?=some x,λi H=>cE K H a xs/\xs.length<=i⟩
theorem IU{P:Program}{w:World}{K:Fg}{tg:Expr}(a it:Addr)(xs:List V)(hz0:xs.length<=sizeLine):rk P w K tg (FP K a xs) [it] it (λi h=>BgRev.RvAt h it a ((xs.length:Int)-1-(i:Int))/\i<=xs.length) where
 mem:=by simp
 obj:=λi h st b hb=>by
  have e:b=it:=by simpa using hb
  subst e
  exact⟨_,st.1,λv z=>by have z':Data.fields _=Data.cell v:=z;cases z'⟩
 keep:=λi h h' st k=>⟨k it (by simp) _ st.1,st.2⟩
 item:=by
  intro X hP hw hK hc i pins s σ H E I hf st hg
  subst hP hw hK
  obtain⟨hq,hi⟩:=hg
  obtain⟨its,rv,p,hz⟩:=I.tuple hq
  have rl:=rv.length
  obtain⟨x,hx⟩:∃x,xs[xs.length-1-i]?=some x:=⟨_,aa (by lia)⟩
  obtain⟨u,hu,ru⟩:=rv.get hx
  obtain⟨f0,f1,f2,f3,f4,f5⟩:=hf it (by simp)
  have st1:=st.1
  rw[show(xs.length:Int)-1-(i:Int)=((xs.length-1-i:Nat):Int) by lia] at st1
  have hzz:(its.toArray.size:Int)<2 ^ 63:=by
   have:its.toArray.size<=sizeLine:=by rw[au,<-rl];exact hz
   have h2:sizeLine<2 ^ 63:=by decide
   lia
  refine BgRev.next_rev st1 p hzz (x:=u) (by simpa using hu) λh' tk st' sb=>?_
  have I1:bu X pins σ H {s with heap:=h',toks:=tk}:=I.turned (t':=tk) (λb o hb e=>(sb.2 b hb).trans e) f0 f1 f3 f4 f5
  have hrv:xs.reverse[i]?=some x:=by
   rw[bV hi];exact hx
  refine⟨u,rfl,uu (s:={s with heap:=h',toks:=tk}) st' rfl rfl (by decide) ⟨x,H,I1,ru,⟨rfl,hrv⟩,⟨?_,hi⟩,λb hb=>(hf b hb).1⟩⟩
  rw[show(xs.length:Int)-1-((i+1:Nat):Int)=((xs.length-1-i:Nat):Int)-1 by lia]
  exact st'
 done:=by
  intro X hP hw hK hc i pins s σ H E I hf st hg
  subst hP hw hK
  obtain⟨hq,hx⟩:=hg
  obtain⟨f0,f1,f2,f3,f4,f5⟩:=hf it (by simp)
  have st1:=st.1
  have st2:=st.2
  rw[show(xs.length:Int)-1-(i:Int)=-1 by lia] at st1
  exact BgRev.stop_rev (I.ok.hd hc) st1 λh' eb=>⟨rfl,I.turned (t':=s.toks) (λb o hb e=>eb b o hb e) f0 f1 f3 f4 f5⟩
 self:=λ_ _ _ _ _ st h=>BgRev.self_rev st.1 h
section
variable{X:Cx}{tg:Expr}
def GP(K:Fg)(tl:TA):TI:=λσ H R=>tl σ H λvs H1=>∃a xs,vs=[.ref a]/\cE K H1 a xs/\R (FP K a xs) H1
theorem Kk{a:Expr}{ta:TA}{p pos:Pos}(hg:Gl X "reversed")(hm:X.mg "reversed"=none)(ha:PA X [a] ta)(hs:starEach [a] X.env=[(false,eval a X.env)]:=by rfl) :
  PI X tg (.Call (.Name "reversed" p) [a] [] pos) (GP X.K ta):=by
 intro pins s σ H R I h
 refine Call_ (i8 I hg hm boot_reversed (bw (eJ (ha pos pins s σ H _ I h) λus s1 ⟨vs,H1,I1,r1,q1⟩=>?_) hs rfl))
 obtain⟨l,xs,e,hq,q⟩:=q1
 subst e
 cases r1 with
 |cons r rr=>
  cases rr
  cases r
  obtain⟨its,rv,p,hz⟩:=I1.tuple hq
  have rl:=rv.length
  have hzz:(its.toArray.size:Int)<2 ^ 63:=by
   have:its.toArray.size<=sizeLine:=by rw[au,<-rl];exact hz
   have h2:sizeLine<2 ^ 63:=by decide
   lia
  refine BgRev.call_rev p hzz λtk=>?_
  have at_:BgRev.RvAt (s1.heap.push (BgRev.rvObj l ((its.toArray.size:Int)-1))) s1.heap.objs.size l ((xs.length:Int)-1-((0:Nat):Int)):=by
   have:(s1.heap.push (BgRev.rvObj l ((its.toArray.size:Int)-1))).get? s1.heap.objs.size=some (BgRev.rvObj l ((its.toArray.size:Int)-1)):=az _ rfl
   unfold BgRev.RvAt
   rw[this,au,<-rl]
   simp[BgRev.rvObj,rawInt]
  refine BgRev.self_rev (s:={s1 with heap:=s1.heap.push (BgRev.rvObj l ((its.toArray.size:Int)-1)),toks:=tk}) at_ ?_
  refine⟨s1.heap.objs.size,[s1.heap.objs.size],_,_,H1,rfl,I1.kept (t':=tk) λb o e=>ag _ e,IU l _ xs hz,⟨at_,a8 _⟩,λb hb=>?_,q⟩
  have e:b=s1.heap.objs.size:=by simpa using hb
  subst e
  exact I1.fpOk (aw _) (I1.hok.fresh (aw _))
theorem KB{a:Expr}{ta:TA}{p pos:Pos}(hg:Gl X "reversed")(hm:X.mg "reversed"=none)(ha:QA X [a] ta)(hs:starEach [a] X.env=[(false,eval a X.env)]:=by rfl) :
  QI X tg (.Call (.Name "reversed" p) [a] [] pos) (GP X.K ta):=⟨Kk hg hm ha.up hs⟩
end
theorem JN{K:Fg}{a:Addr}{xs:List V}{g:TG}{tb:TS}{D:lT}{σ:St}{H:Hp}(Pv:Nat->St->Hp->Prop)(h0:Pv 0 σ H)(hl:∀i σ H,i<=xs.length->Pv i σ H->cE K H a xs)
  (hs:∀i x σ H,xs.reverse[i]?=some x->Pv i σ H->g x σ H λσ2 H2=>tb {D with nx:=Pv (i+1),ct:=Pv (i+1),bk:=D.nx} σ2 H2) (hd:∀σ H,Pv xs.length σ H->D.nx σ H) :
  ∃W:Nat->Nat->St->Hp->Prop,(∃m,W 0 m σ H)/\∀i m σ H,W i m σ H->
   ((FP K a xs).stop i H/\D.nx σ H)\/((FP K a xs).go i H/\∃N:St->Hp->Prop,(∀σ' H',N σ' H'->∃m',m'<m/\W (i+1) m' σ' H')/\∀x H',(FP K a xs).yld i H x H'->g x σ H' λσ2 H2=>tb {D with nx:=N,ct:=N,bk:=D.nx} σ2 H2):=by
 refine⟨λi m σ H=>m=xs.length-i/\i<=xs.length/\Pv i σ H,⟨xs.length,by simp,a8 _,h0⟩,?_⟩
 rintro i m σ H ⟨rfl,hi,p⟩
 have q:=hl i σ H hi p
 by_cases lt:i<xs.length
 ·refine .inr ⟨⟨q,lt⟩,Pv (i+1),λσ' H' p'=>⟨xs.length-(i+1),by lia,rfl,lt,p'⟩,λx H' y=>?_⟩
  obtain⟨e,y⟩:=y
  subst e
  exact hs i x σ _ y p
 ·have e:i=xs.length:=by lia
  subst e
  exact .inl ⟨⟨q,aw _⟩,hd σ H p⟩
end L2
end
section
namespace Bg
open PySem PySem.Spec PyProof.Rows L2
abbrev uc:List Str:=["works","last"]
abbrev oi:List Str:=["works","last","names","points","work"]
def sV(K:Fg):TS:=(dz (qI K (ar (ay 3) aP)))
def lP(K:Fg):TS:=(fZ (rQ K "list" dH (ay 3) (ar (ay 2) aP)))
def lQ(K:Fg):TS:=(bt (bP (fQ (dO K) (ar (nI K (ar (bN (pL K) (bA (jt K) [] E0 (ar (ay 2) (ar (bN (fF K) (ay 4) (tC (.int 1))) aP))) (fQ (dO K) (ar (bN (fF K) (ay 4) (tC (.int 0))) aP))) aP)) aP)) (aQ 2)) (lP K))
def lR(K:Fg):TS:=(bt (jI (GP K (ar (ay 0) aP)) (aQ 4) (lQ K)) (sV K))
def lS(K:Fg):TS:=(bt (bP (fR (ar (ay 2) aP)) (aQ 3)) (lR K))
def pj(K:Fg):TS:=(bt (bP (fQ (dO K) (ar (nI K (ar (ay 1) aP)) aP)) (aQ 2)) (lS K))
abbrev x6:List Str:=["names","name"]
abbrev ml:List Str:=["names","name"]
def sN(K:Fg):TS:=(dz (fQ (dO K) (ar (d6 [] 1 (jk K (ay 0)) (aQ 2) (cH (bN (HW K) (ay 2) (ay 1))) (ay 2)) aP)))
abbrev xZ:List Str:=["places","works","last"]
abbrev sk:List Str:=["places","works","last","points","k","names","left"]
def wy(K:Fg):TS:=(dz (tC .non))
def oX(K:Fg):TS:=(gb (cH (bN (uL) (fQ (gF K) (ar (ay 6) aP)) (bN (xm) (ay 0) (tC (.int 1))))) (dz (jD (ar (tC (.str "behind")) (ar (ay 4) (ar (ay 6) aP))))) dW)
def wz(K:Fg):TS:=(gb (Dg (cH (bN (Fe) (ay 4) (fQ (gF K) (ar (ay 1) aP)))) (cH (bN (xk) (bN (fF K) (bN (fF K) (ay 1) (ay 4)) (tC (.int 1))) (tC .non)))) (bt (bP (bA (jt K) [] E0 (ar (bN (fF K) (ay 3) (bN (dq K) (ay 4) (tC (.int 1)))) (ar (bN (fF K) (bN (fF K) (ay 1) (ay 4)) (tC (.int 1))) aP))) (aQ 6)) (oX K)) dW)
def oY(K:Fg):TS:=(bt (gb (cH (bN (uL) (fQ (gF K) (ar (ay 5) aP)) (ay 0))) (dz (jD (ar (tC (.str "ahead")) (ar (ay 4) (ar (ay 5) aP))))) dW) (wz K))
def oZ(K:Fg):TS:=(bt (jI (GN K (ar (ay 3) aP)) (my K 2 (dG (aQ 4) (dG (aQ 5) lX))) (oY K)) (wy K))
def sL(K:Fg):TS:=(bt (bP (bA (fP K) [] E0 (ar (ay 1) (ar (ay 2) aP))) (aQ 3)) (oZ K))
abbrev F6:List Str:=["_law_state","_law_names_here"]
abbrev DH:List Str:=["_law_state","_law_names_here"]
def Ew(K:Fg):TS:=(dz (bN (fF K) (bN (dq K) (ay 1) (fR (ar (tC .non) aP))) (bA (eQ K) [] E0 (ar (ay 0) (ar (bN (dq K) (fQ (gF K) (ar (ay 1) aP)) (tC (.int 1))) aP)))))
abbrev F7:List Str:=["_law_state","_law_names_here","_law_most"]
abbrev xV:List Str:=["_law_state","_law_names_here","_law_most","_law_works_here","_law_k","_law_size","_law_some"]
def Ft(K:Fg):TS:=(dz (fQ (dO K) (ar (ay 3) aP)))
def xH(K:Fg):TS:=(fZ (rQ K "list" dH (ay 3) (ar (jD (ar (ay 6) (ar (bN (fF K) (fR (ar (tC .non) (ar (bA (qF K) [] E0 (ar (ay 0) (ar (ay 1) aP))) aP))) (fQ (HS) (ar (bN (uL) (bA (eQ K) [] E0 (ar (ay 0) (ar (tC (.int 4)) aP))) (tC (.int 0))) aP))) aP))) aP)))
def xI(K:Fg):TS:=(bt (bP (fQ (dO K) (ar (d6 [] 1 (qj (ar (ay 5) aP)) (aQ 7) jE (bN (fF K) (ay 1) (bA (eQ K) [] E0 (ar (ay 0) (ar (fQ (gF K) (ar (ay 1) aP)) aP))))) aP)) (aQ 6)) (xH K))
def Fu(K:Fg):TS:=(bt (bP (bN (fF K) (fR (ar (tC (.int 0)) (ar (tC (.int 1)) (ar (tC (.int 2)) (ar (tC (.int 2)) (ar (tC (.int 3)) (ar (tC (.int 8)) aP))))))) (bA (eQ K) [] E0 (ar (ay 0) (ar (tC (.int 6)) aP)))) (aQ 5)) (xI K))
def xJ(K:Fg):TS:=(bt (jI (qj (ar (bA (eQ K) [] E0 (ar (ay 0) (ar (bN (dq K) (ay 2) (tC (.int 1))) aP))) aP)) (aQ 4) (Fu K)) (Ft K))
def Ex(K:Fg):TS:=(bt (bP (fR aP) (aQ 3)) (xJ K))
abbrev xX:List Str:=["_law_works_here","_law_last_here","_law_k","_law_name"]
abbrev sj:List Str:=["_law_works_here","_law_last_here","_law_k","_law_name","_law_some","_law_makes"]
def wu(K:Fg):TS:=(dz (bN ((y8 K false)) (ay 3) (ay 1)))
def wx(K:Fg):TS:=(gb (cH (bN (NU K) (ay 5) (ay 3))) (dz (tC (.bl false))) dW)
def oJ(K:Fg):TS:=(bt (gb (cH (bN ((y8 K false)) (ay 3) (ay 4))) (dz (tC (.bl true))) dW) (wx K))
def sI(K:Fg):TS:=(bt (jI (jk K (FI (MN K) (ay 0) (lE (ay 2)) gx)) (my K 2 (dG (aQ 4) (dG (aQ 5) lX))) (oJ K)) (wu K))
abbrev EK:List Str:=["_law_works_here","_law_last_here","_law_names_here"]
abbrev tW:List Str:=["_law_works_here","_law_last_here","_law_names_here","_law_found","_law_k"]
def Dq(K:Fg):TS:=(dz (ay 3))
def vo(K:Fg):TS:=(fZ (rQ K "list" dH (ay 3) (ar (fQ (dO K) (ar (d6 [] 1 (jk K (fQ (D9 K) (ar (ay 2) aP))) (aQ 5) (tB (bA (lh K) [] E0 (ar (ay 0) (ar (ay 1) (ar (ay 4) (ar (ay 5) aP)))))) (ay 5)) aP)) aP)))
def vp(K:Fg):TS:=(bt (jI (qj (ar (bN (dq K) (fQ (gF K) (ar (ay 0) aP)) (tC (.int 1))) aP)) (aQ 4) (vo K)) (Dq K))
def Bu(K:Fg):TS:=(bt (bP (fR aP) (aQ 3)) (vp K))
abbrev Jv:List Str:=["_law_state","_law_names_here","_law_most"]
abbrev FZ:List Str:=["_law_state","_law_names_here","_law_most","_law_left","_law_found","_law_k"]
def IP(K:Fg):TS:=(dz (fQ (dO K) (ar (ay 4) aP)))
def IQ(K:Fg):TS:=(fZ (rQ K "list" dH (ay 4) (ar (rQ K "list" CW (ay 3) (ar (bA (eQ K) [] E0 (ar (ay 0) (ar (fQ (gF K) (ar (ay 3) aP)) aP))) aP)) aP)))
def Bj(K:Fg):TS:=(bt (jI (qj (ar (fQ (NZ) (ar (fQ (gF K) (ar (ay 1) aP)) (ar (bA (eQ K) [] E0 (ar (ay 0) (ar (bN (dq K) (ay 2) (tC (.int 1))) aP))) aP))) aP)) (aQ 5) (IQ K)) (IP K))
def Bk(K:Fg):TS:=(bt (bP (fR aP) (aQ 4)) (Bj K))
def IM(K:Fg):TS:=(bt (bP (fQ (yK K) (ar (ay 1) aP)) (aQ 3)) (Bk K))
abbrev zE:List Str:=["belt","thing"]
abbrev tT:List Str:=["belt","thing"]
def vh(K:Fg):TS:=(dz (FI (FH K) (bN (dq K) (jD (ar (ay 1) aP)) (ay 0)) gx (lE (fQ (gF K) (ar (ay 0) aP)))))
abbrev zH:List Str:=["one","other"]
abbrev pC:List Str:=["one","other"]
def vm(K:Fg):TS:=(dz (fQ (Fd K) (ar (d6 [] 2 (GQ K (ar (ay 0) (ar (ay 1) aP))) (my K 2 (dG (aQ 2) (dG (aQ 3) lX))) jE (MY (bN (KI) (ay 2) (tC .non)) (bN (v7 K) (ay 2) (ay 3)))) aP)))
abbrev vO:List Str:=["names","x"]
abbrev kT:List Str:=["names","x"]
def qM(K:Fg):TS:=(dz (bA (mQ K) [] E0 (ar (fQ (dO K) (ar (d6 [] 1 (jk K (ay 0)) (aQ 2) jE (Of (cH (bN (v7 K) (ay 2) (ay 1))) (tC .non) (ay 2))) aP)) (ar (ay 1) aP))))
abbrev EI:List Str:=["belt","names"]
abbrev zv:List Str:=["belt","names","told","thing"]
def Do(K:Fg):TS:=(dz (fQ (dO K) (ar (ay 2) aP)))
def Dp(K:Fg):TS:=(fZ (rQ K "list" dH (ay 2) (ar (Of (Dg (cH (bN ((y8 K false)) (ay 3) (ay 1))) (cH (bN ((y8 K true)) (ay 3) (ay 2)))) (ay 3) (tC .non)) aP)))
def vi(K:Fg):TS:=(bt (jI (jk K (ay 0)) (aQ 3) (Dp K)) (Do K))
def Br(K:Fg):TS:=(bt (bP (fR aP) (aQ 2)) (vi K))
end Bg
end
section
namespace PySem
open Sem (wp)
open AutoSeq1 (wpAny_loadPart')
section
variable{prog:Program}{w:World}{A:Around}{E:Value->Shared->Prop}{s:Shared}
theorem CM{ib tb:Addr}{i:Nat}{its:Array Value}{x:Value}{Q:Value->Shared->Prop}(hib:s.heap.IsTupleIter ib tb i)(htb:s.heap.IsTuple tb its)(hx:its[i]?=some x)
  (hQ:∀h',h'.IsTupleIter ib tb (i+1)->Heap.SameBut ib s.heap h'->Q x {s with heap:=h'}):wpAny (model prog w) A (Builtin.SmallTypes.nextOf (.ref ib)) Q E s:=by
 obtain⟨ob,hob,hcb,hdb⟩:=id hib
 obtain⟨ot,hot,_,nt,hdt⟩:=htb
 unfold Builtin.SmallTypes.nextOf
 refine wpAny_bind (wpAny_callSpecial?_slot (name:=Str.ofString "__next__") hib.typeIs F.slot_tuple_iterator_next (wpAny_call_entry F.slot_tuple_iterator_next hib.typeIs F.entry_tuple_iterator_next ?_ (F.args_tuple_iterator_next_1 _)))
 show wpAny _ _ (field (.ref ib) 0 >>= _) _ _ s
 refine wpAny_bind (wpAny_field hob hdb (x:=.ref tb) rfl ?_)
 show wpAny _ _ (if(Value.ref tb==Value.none)=true then _ else _) _ _ s
 rw[if_neg (show ¬((Value.ref tb==Value.none)=true) from Bool.false_ne_true)]
 show wpAny _ _ (field (.ref ib) 1 >>= _) _ _ s
 refine wpAny_bind (wpAny_field hob hdb (x:=.int i 0) rfl ?_)
 show wpAny _ _ (seqItems? (.ref tb) >>= _) _ _ s
 refine wpAny_bind (wpAny_seqItems hot hdt ?_)
 simp only[aU,hx]
 refine wpAny_bind (wpAny_setField hob hdb (by simp) (wpAny_pure ⟨x,rfl,wpAny_pure (hQ _ ?_ (Heap.SameBut.update ..))⟩))
 exact⟨_,b9 _ hob (Obj.isFreed_of_fields (Obj.data_mapFields hdb _)),(Obj.cls_mapFields ..).trans hcb,by rw[Obj.data_mapFields hdb];simp[rawInt]⟩
theorem xc{ib tb:Addr}{i:Nat}{its:Array Value}{Q:Value->Shared->Prop}(hh:A.handled=none)(hib:s.heap.IsTupleIter ib tb i)(htb:s.heap.IsTuple tb its)(hx:its[i]?=none)
  (hE:∀h' e,Heap.ExtBut ib s.heap h'->(∃o,h'.get? e=some o/\o.cls=.type "StopIteration")->E (.ref e) {s with heap:=h'}):wpAny (model prog w) A (Builtin.SmallTypes.nextOf (.ref ib)) Q E s:=by
 obtain⟨ob,hob,hcb,hdb⟩:=id hib
 obtain⟨ot,hot,_,nt,hdt⟩:=htb
 unfold Builtin.SmallTypes.nextOf
 refine wpAny_bind (wpAny_callSpecial?_slot (name:=Str.ofString "__next__") hib.typeIs F.slot_tuple_iterator_next (wpAny_call_entry F.slot_tuple_iterator_next hib.typeIs F.entry_tuple_iterator_next ?_ (F.args_tuple_iterator_next_1 _)))
 show wpAny _ _ (field (.ref ib) 0 >>= _) _ _ s
 refine wpAny_bind (wpAny_field hob hdb (x:=.ref tb) rfl ?_)
 show wpAny _ _ (if(Value.ref tb==Value.none)=true then _ else _) _ _ s
 rw[if_neg (show ¬((Value.ref tb==Value.none)=true) from Bool.false_ne_true)]
 show wpAny _ _ (field (.ref ib) 1 >>= _) _ _ s
 refine wpAny_bind (wpAny_field hob hdb (x:=.int i 0) rfl ?_)
 show wpAny _ _ (seqItems? (.ref tb) >>= _) _ _ s
 refine wpAny_bind (wpAny_seqItems hot hdt ?_)
 simp only[aU,hx]
 refine wpAny_bind (wpAny_rule (wpAny_bind (wpAny_setField hob hdb (by simp) ?_)))
 show wpAny _ _ (newExc (.type "StopIteration") [] >>= _) _ _ _
 refine wpAny_bind ?_
 simp only[newExc,newTuple]
 refine wpAny_bind (wpAny_newObj_type ?_ (by size_fits))
 refine wpAny_bind (m:=firstArgMember _ _) (wpAny_of_eq (a:=Value.none) (by first|rfl|(simp only[firstArgMember];rfl)) ?_)
 refine wpAny_newObj_type ?_ (by size_fits)
 simp only[raiseNew]
 refine wpAny_bind (wpAny_handled ?_)
 first|rw[show A.in1.handled=none from hh]|rw[hh]
 refine wpAny_bind (wpAny_pure (wpAny_throw ?_))
 exact hE _ _ (((Heap.SameBut.update ..).extBut.push _).push _) ⟨_,az _ rfl,rfl⟩
end
theorem LP{prog:Program}{w:World}{A:Around}(hh:A.handled=none)(ib tb:Addr)(hne:tb≠ib)(its:Array Value) :
  Draws prog w A ib [ib,tb] its.size (λi v=>its[i]?=some v) (λi h=>h.IsTupleIter ib tb i/\h.IsTuple tb its) where
 live:=λ_ _ st=>let⟨o,ho,_⟩:=st.1;⟨o,ho⟩
 frame:=λ_ _ _ st hk=>⟨st.1.at λo e=>hk ib (by simp) o e,let⟨o,ho,r⟩:=st.2;⟨o,hk tb (by simp) o ho,r⟩⟩
 item:=λi s Q E hi st hQ=>CM st.1 st.2 (x:=its[i]) (by simp[hi]) λh' hit' hs'=>hQ _ h' s.toks (by simp[hi]) ⟨hit',st.2.extBut hs'.extBut hne⟩ hs'
 done:=λs Q E st hE=>xc hh st.1 st.2 (by simp) hE
theorem AA(tb:Addr)(its:Array Value)(n:Nat)(dct:Option Addr)(sl:Array (Option Value)) :
  Meets (Builtin.«enumerate.__new__» ⟨[.type "enumerate",.ref tb],[]⟩) (λ_ R s=>s.heap.get? tb=some {cls:=.type "tuple",dict:=dct,data:=.seq its n,slots:=sl}/\
   R (.ok (.ret (.ref (s.heap.push {cls:=.type "tuple_iterator",data:=.fields #[.ref tb,.int 0 0]}).objs.size)))
    {s with heap:=(s.heap.push {cls:=.type "tuple_iterator",data:=.fields #[.ref tb,.int 0 0]}).push {cls:=.type "enumerate",data:=.fields #[.none,.bool false,.ref s.heap.objs.size,rawInt 0,.none,.none]}}):=
 .of_wp λprog w A R s h=>by
  obtain⟨hp,g,d,tk,os⟩:=s;obtain⟨hl,h⟩:=h
  have hsub:=sub_enumerate
  have hL:Heap.IsTuple (Shared.heap ⟨hp,g,d,tk,os⟩) tb its:=⟨_,hl,rfl,n,rfl⟩
  wp_walk using wpAny_loadPart' hl
  refine wpAny_stack_any λst=>wpAny_pure ?_
  split
  ·rename_i c _ _ _ _ _
   cases(c==Value.type "enumerate")
   ·wp_walk using wpAny_loadPart' hl,wpAny_pyIter_tuple hL
    exact⟨_,rfl,h⟩
   ·wp_walk using wpAny_loadPart' hl,wpAny_pyIter_tuple hL
    exact⟨_,rfl,h⟩
  ·wp_walk using wpAny_loadPart' hl,wpAny_pyIter_tuple hL
   exact⟨_,rfl,h⟩
theorem Cc{prog:Program}{w:World}{A:Around}{E:Value->Shared->Prop}{s:Shared}{tb:Addr}{its:Array Value}{Q:Value->Shared->Prop}(hL:s.heap.IsTuple tb its)
  (h:∀h',IsEnum h' (s.heap.objs.size+1) s.heap.objs.size 0 .none->h'.IsTupleIter s.heap.objs.size tb 0->h'.objs.size=s.heap.objs.size+2->(∀b o,s.heap.get? b=some o->h'.get? b=some o)->Q (.ref (s.heap.objs.size+1)) {s with heap:=h'}) :
  wpAny (model prog w) A (call (.type "enumerate") [.ref tb]) Q E s:=by
 obtain⟨⟨c,dct,dt,sl⟩,hl,hc,n,hd⟩:=hL
 replace hc:c=.type "tuple":=hc
 replace hd:dt=.seq its n:=hd
 subst hc hd
 refine callType_new F.called_enumerate (by decide) (F.typeCall_enumerate_1 _) (F.newCall_enumerate_1 _) (λobj=>F.args_object_init_2 obj _) F.entry_enumerate_new (AA tb its n dct sl) ⟨hl,?_⟩
 have hz:(s.heap.push {cls:=.type "tuple_iterator",data:=.fields #[.ref tb,.int 0 0]}).objs.size=s.heap.objs.size+1:=bF ..
 show _/\_
 rw[hz]
 have he:IsEnum ((s.heap.push {cls:=.type "tuple_iterator",data:=.fields #[.ref tb,.int 0 0]}).push {cls:=.type "enumerate",data:=.fields #[.none,.bool false,.ref s.heap.objs.size,rawInt 0,.none,.none]}) (s.heap.objs.size+1) s.heap.objs.size 0 .none:=by
  have:=az (s.heap.push {cls:=.type "tuple_iterator",data:=.fields #[.ref tb,.int 0 0]}) (o:={cls:=.type "enumerate",data:=.fields #[.none,.bool false,.ref s.heap.objs.size,rawInt 0,.none,.none]}) rfl
  rw[hz] at this;exact this
 refine⟨⟨_,he,rfl⟩,h _ he ⟨_,ag _ (az _ rfl),rfl,rfl⟩ (by rw[bF,hz]) λb o x=>ag _ (ag _ x)⟩
end PySem
namespace L2
open PySem PySem.Spec PyProof.Rows
def zf(K:Fg)(a:Addr):It:=
 ⟨λi H=>∃xs x,cE K H a xs/\xs[i]?=some x,λi H x H'=>∃p v,H p=none/\x=.ref p/\H'=aN H p (.tup [.int (i:Nat),v])/\∀xs,cE K H a xs->xs[i]?=some v,λi H=>∃xs,cE K H a xs/\xs.length<=i⟩
theorem Dr{P:Program}{w:World}{K:Fg}{elts:List Expr}{k:Nat}{pos:Pos}(a e it:Addr)(hne:e≠it) :
  rk P w K (.Tuple elts k pos) (zf K a) [e,it] e (λi h=>(∃old,IsEnum h e it (i:Nat) old)/\h.IsTupleIter it a i) where
 mem:=by simp
 obj:=λi h st b hb=>by
  obtain⟨⟨old,he⟩,⟨o,ho,c,d⟩⟩:=st
  rcases aM.mp hb with rfl|hb
  ·exact⟨_,he,λv z=>by have z':Data.fields _=Data.cell v:=z;cases z'⟩
  ·rw[aj.mp hb]
   exact⟨o,ho,λv z=>by rw[d] at z;cases z⟩
 keep:=λi h h' st k=>⟨let⟨old,he⟩:=st.1;⟨old,k e (by simp) _ he⟩,st.2.at λo q=>k it (by simp) o q⟩
 item:=by
  intro X hP hw hK hc i pins s σ H E I hf st hg
  subst hP hw hK
  obtain⟨⟨old,he⟩,hit⟩:=st
  obtain⟨xs,x,hq,hx⟩:=hg
  obtain⟨its,rv,p,hz⟩:=I.tuple hq
  obtain⟨u,hu,ru⟩:=rv.get hx
  have p':s.heap.IsTuple a its.toArray:=p
  have hlt:i<its.toArray.size:=by have:=(ae.mp hu).1;simpa using this
  have na:a≠it:=by
   intro z;subst z
   obtain⟨o,e1,c1,_⟩:=p'
   obtain⟨o',e2,c2,_⟩:=hit
   rw[e1] at e2;cases e2;rw[c1] at c2
   injection c2 with c3
   exact absurd c3 (by decide)
  have nb:e≠a:=by
   intro z;subst z
   obtain⟨o,e1,c1,_⟩:=p'
   rw[he] at e1;cases e1
   injection c1 with c3
   exact absurd c3 (by decide)
  have Dw:=LP (prog:=X.prog) (w:=X.w) (A:=X.A.in1) (show X.A.in1.handled=none from I.ok.hd hc) it a na its.toArray
  refine wpAny_pyNext_enum_itemD Dw he ⟨hit,p'⟩ hlt hne (by simp[hne,nb]) λy h1 tk hP ho st1 hT hsz hk=>?_
  have ey:y=u:=by
   have h1:its.toArray[i]?=some y:=hP
   have h2:its[i]?=some y:=by simpa using h1
   rw[hu] at h2;exact(Option.some.inj h2).symm
  subst ey
  refine⟨_,rfl,?_⟩
  have fT:px X pins H s.heap.objs.size:=I.fpOk (aw _) (I.hok.fresh (aw _))
  refine wpAny_letOwnedTupleGo_enum ho λh2 he2 hs2=>?_
  have helt:e<s.heap.objs.size:=aF he
  have I1:bu X pins σ H {s with heap:=h2,toks:=tk+1}:=I.turnedL (t':=tk+1) (ch:=[e,it]) (λb o hb q=>by
   have b1:b≠e:=λz=>hb (by simp[z])
   have b2:b≠it:=λz=>hb (by simp[z])
   exact(hs2.2 b b1).trans (hk b o b1 b2 q)) hf
  have gT:h2.get? s.heap.objs.size=some {cls:=.type "tuple",data:=.seq #[.int i tk,y]}:=(hs2.2 _ (cT helt)).trans hT
  have I2:=I1.adopt (T:=s.heap.objs.size) (o:=.tup [.int (i:Nat),x]) fT (tH (X:=X) gT ⟨tk,rfl⟩ ru)
  refine⟨.ref s.heap.objs.size,_,I2,rfl,⟨s.heap.objs.size,x,fT.1,rfl,rfl,λys hy=>by rw[I.tuple_inj hy hq];exact hx⟩,⟨⟨y,?_⟩,?_⟩,λb hb=>?_⟩
  ·have e2:(((i+1:Nat):Nat):Int)=(i:Int)+1:=by lia
   show IsEnum h2 e it (((i+1:Nat):Nat):Int) y
   rw[e2];exact he2
  ·obtain⟨o,q1,q2⟩:=st1.1
   exact⟨o,(hs2.2 it (Ne.symm hne)).trans q1,q2⟩
  ·have nT:b≠s.heap.objs.size:=by
    rcases aM.mp hb with rfl|hb
    ·exact aO helt
    ·rw[aj.mp hb]
     obtain⟨o,ho,_⟩:=hit
     exact aO (aF ho)
   rw[aA nT];exact(hf b hb).1
 done:=by
  intro X hP hw hK hc i pins s σ H E I hf st hg
  subst hP hw hK
  obtain⟨⟨old,he⟩,hit⟩:=st
  obtain⟨xs,hq,hx⟩:=hg
  obtain⟨its,rv,p,hz⟩:=I.tuple hq
  have hl:=rv.length
  have hT:s.TypeIs (.ref e) "enumerate":=⟨_,he,rfl⟩
  unfold pyNext
  refine wpAny_bind (wpAny_attempt (wpAny_callSpecial?_slot (name:=Str.ofString "__next__") hT F.slot_enumerate_next
   (wpAny_call_entry F.slot_enumerate_next hT F.entry_enumerate_next ?_ (F.args_enumerate_next_1 _))))
  show wpAny _ _ (field (.ref e) 2 >>= _) _ _ _
  refine wpAny_bind (wpAny_field he rfl (x:=.ref it) rfl ?_)
  refine wpAny_bind (xc (show X.A.in1.handled=none from I.ok.hd hc) hit (show s.heap.IsTuple a its.toArray from p) (by simp;lia) λh1 x1 eb hx1=>?_)
  obtain⟨o,ho,hcl⟩:=hx1
  refine wpAny_bind (wpAny_isInstance (T:="StopIteration") (b:=true) ⟨o,ho,hcl⟩ isSubtype_stop ?_)
  exact wpAny_pure ⟨rfl,I.turnedL (t':=s.toks) (ch:=[e,it]) (λb ob hb q=>eb b ob (λz=>hb (by simp[z])) q) hf⟩
 self:=λ_ _ _ _ _ st h=>let⟨_,he⟩:=st.1;wpAny_pyIter_enum he h
section
variable{X:Cx}{elts:List Expr}{k:Nat}{tpos:Pos}
def pI(K:Fg)(tl:TA):TI:=λσ H R=>tl σ H λvs H1=>∃a,vs=[.ref a]/\(∃xs,cE K H1 a xs)/\R (zf K a) H1
theorem Ht{a:Expr}{ta:TA}{p pos:Pos}(hg:Gl X "enumerate")(hm:X.mg "enumerate"=none)(ha:PA X [a] ta)(hs:starEach [a] X.env=[(false,eval a X.env)]:=by rfl) :
  PI X (.Tuple elts k tpos) (.Call (.Name "enumerate" p) [a] [] pos) (pI X.K ta):=by
 intro pins s σ H R I h
 refine Call_ (i8 I hg hm boot_enumerate (bw (eJ (ha pos pins s σ H _ I h) λus s1 ⟨vs,H1,I1,r1,q1⟩=>?_) hs rfl))
 obtain⟨l,e,⟨xs,hq⟩,q⟩:=q1
 subst e
 cases r1 with
 |cons r rr=>
  cases rr
  cases r
  obtain⟨its,rv,pl,hz⟩:=I1.tuple hq
  refine Cc (show s1.heap.IsTuple l its.toArray from pl) λh1 he hit hsz hk=>?_
  refine wpAny_pyIter_enum he ?_
  have I2:bu X pins σ H1 {s1 with heap:=h1}:=I1.kept (t':=s1.toks) hk
  refine⟨s1.heap.objs.size+1,[s1.heap.objs.size+1,s1.heap.objs.size],_,_,H1,rfl,I2,Dr l _ _ (Nat.succ_ne_self _),⟨⟨.none,he⟩,hit⟩,λb hb=>?_,q⟩
  have hb':s1.heap.objs.size<=b:=by
   rcases aM.mp hb with rfl|hb
   ·lia
   ·rw[aj.mp hb];exact aw _
  exact I1.fpOk hb' (I1.hok.fresh hb')
theorem mK{a:Expr}{ta:TA}{p pos:Pos}(hg:Gl X "enumerate")(hm:X.mg "enumerate"=none)(ha:QA X [a] ta)(hs:starEach [a] X.env=[(false,eval a X.env)]:=by rfl):QI X (.Tuple elts k tpos) (.Call (.Name "enumerate" p) [a] [] pos) (pI X.K ta):=
 ⟨Ht hg hm ha.1 hs⟩
end
theorem kC{K:Fg}{a:Addr}{xs:List V}{g:TG}{tb:TS}{D:lT}{σ:St}{H:Hp}(Pv:Nat->St->Hp->Prop)(h0:Pv 0 σ H)(hl:∀i σ H,i<=xs.length->Pv i σ H->cE K H a xs)
  (hs:∀i x σ H p,xs[i]?=some x->H p=none->Pv i σ H->g (.ref p) σ (aN H p (.tup [.int (i:Nat),x])) λσ2 H2=>tb {D with nx:=Pv (i+1),ct:=Pv (i+1),bk:=D.nx} σ2 H2) (hd:∀σ H,Pv xs.length σ H->D.nx σ H) :
  ∃W:Nat->Nat->St->Hp->Prop,(∃m,W 0 m σ H)/\∀i m σ H,W i m σ H->
   ((zf K a).stop i H/\D.nx σ H)\/((zf K a).go i H/\∃N:St->Hp->Prop,(∀σ' H',N σ' H'->∃m',m'<m/\W (i+1) m' σ' H')/\∀x H',(zf K a).yld i H x H'->g x σ H' λσ2 H2=>tb {D with nx:=N,ct:=N,bk:=D.nx} σ2 H2):=by
 refine⟨λi m σ H=>m=xs.length-i/\i<=xs.length/\Pv i σ H,⟨xs.length,by simp,a8 _,h0⟩,?_⟩
 rintro i m σ H ⟨rfl,hi,p⟩
 have q:=hl i σ H hi p
 by_cases hlt:i<xs.length
 ·refine .inr ⟨⟨xs,xs[i],q,by simp[hlt]⟩,Pv (i+1),λσ' H' p'=>⟨xs.length-(i+1),by lia,rfl,hlt,p'⟩,λx H' y=>?_⟩
  obtain⟨pp,v,e1,rfl,rfl,y⟩:=y
  exact hs i v σ H pp (y xs q) e1 p
 ·have e:i=xs.length:=by lia
  subst e
  exact .inl ⟨⟨xs,q,aw _⟩,hd σ H p⟩
theorem xq{a:Int}(h:-1<=a):Builtin.Range.rangeSize a (-1) (-1)=a+1:=by
 unfold Builtin.Range.rangeSize
 simp only[show ¬((-1:Int)>0) by decide,if_false]
 split
 ·simp only[Int.neg_neg,Int.ediv_one];omega
 ·omega
theorem Df{a:Int}(h:-1<=a)(h':a<=100000):Builtin.Range.small a (-1) (-1)=true:=by
 unfold Builtin.Range.small
 rw[xq h]
 simp only[Builtin.Range.rangeFitsLong,Bool.and_eq_true,Bool.or_eq_true,decide_eq_true_eq,beq_iff_eq,show ¬((-1:Int)>0) by decide,if_false]
 omega
def Na(a:Int)(n:Nat):It:=⟨λi _=>i<n,λi H x H'=>H'=H/\x=.int (a-i),λi _=>n<=i⟩
theorem Fv{P:Program}{w:World}{K:Fg}{tg:Expr}(it:Addr)(a:Int)(n:Nat):rk P w K tg (Na a n) [it] it (λi h=>IsRangeIter h it (a+(i:Nat)*(-1)) ((n:Int)-(i:Nat)) (-1)) where
 mem:=by simp
 obj:=λi h st b hb=>by
  have e:b=it:=by simpa using hb
  subst e
  exact⟨_,st,λv z=>by
   have z':Data.fields _=Data.cell v:=z
   cases z'⟩
 keep:=λi h h' st k=>k it (by simp) _ st
 item:=by
  intro X hP hw hK hc i pins s σ H E I hf st hg
  subst hP hw hK
  obtain⟨f0,f1,f2,f3,f4,f5⟩:=hf it (by simp)
  have W:=Walks.range (prog:=X.prog) (w:=X.w) (I.ok.hd hc) it a (-1) n
  refine W.item i s _ _ hg st λv h' tk hv st' kk=>?_
  obtain⟨t,rfl⟩:=hv
  have I1:bu X pins σ H {s with heap:=h',toks:=tk}:=I.turned (λb o hb e=>kk b o (by simpa using hb) e) f0 f1 f3 f4 f5
  refine⟨_,rfl,uu (s:={s with heap:=h',toks:=tk}) (n:="range_iterator") st' rfl rfl (by decide) ⟨.int (a-i),H,I1,⟨t,?_⟩,⟨rfl,rfl⟩,st',λb hb=>(hf b hb).1⟩⟩
  rw[show a+(i:Int)*(-1)=a-i by omega]
 done:=by
  intro X hP hw hK hc i pins s σ H E I hf st hg
  subst hP hw hK
  obtain⟨f0,f1,f2,f3,f4,f5⟩:=hf it (by simp)
  exact wpAny_pyNext_range_end (I.ok.hd hc) st (by have:n<=i:=hg;lia) λh' eb=>⟨rfl,I.turned (t':=s.toks) (λb o hb e=>eb b o hb e) f0 f1 f3 f4 f5⟩
 self:=λ_ _ _ _ _ st h=>wpAny_pyIter_rangeiter st h
section
variable{X:Cx}{tg:Expr}
def Lg(ta:TA):TI:=λσ H R=>ta σ H λvs H1=>∃a:Int,vs=[.int a,.int (-1),.int (-1)]/\-1<=a/\a<=100000/\R (Na a (a+1).toNat) H1
theorem Fc{a b c:Expr}{ta:TA}{p pos:Pos}(hg:Gl X "range")(hm:X.mg "range"=none)(ha:QA X [a,b,c] ta)(hs:starEach [a,b,c] X.env=[(false,eval a X.env),(false,eval b X.env),(false,eval c X.env)]:=by rfl)(hs2:starEach [b,c] X.env=[(false,eval b X.env),(false,eval c X.env)]:=by rfl) :
  QI X tg (.Call (.Name "range" p) [a,b,c] [] pos) (Lg ta):=⟨by
 intro pins s σ H R I h
 refine Call_ (i8 I hg hm boot_range (bw (eJ (ha.up pos pins s σ H _ I h) λus s1 ⟨vs,H1,I1,r1,q1⟩=>?_) (by rw[hs,hs2]) (by rw[hs2];rfl)))
 obtain⟨i,e,q1,q2,q⟩:=q1
 subst e
 cases r1 with
 |cons r rr=>
  cases rr with
  |cons r' rr=>
   cases rr with
   |cons r'' rr=>
    cases rr
    obtain⟨t,rfl⟩:=r
    obtain⟨u,rfl⟩:=r'
    obtain⟨v,rfl⟩:=r''
    refine call_range_3 (by decide) ?_ (.inl (PyProof.noPylong_small (by decide)))
    refine wpAny_pyIter_range (IsRange.new ..) (Df q1 q2) ?_
    have I2:bu X pins σ H1 {s1 with heap:=s1.heap.push {cls:=.type "range",data:=.fields #[.int i t,.int (-1) u,.int (-1) v]}}:=I1.kept (t':=s1.toks) λb o e=>ag _ e
    refine⟨_,[_],_,_,H1,rfl,I2.kept (t':=s1.toks) λb o e=>ag _ e,Fv _ i (i+1).toNat,?_,λb hb=>?_,q⟩
    ·show IsRangeIter _ _ (i+((0:Nat):Int)*(-1)) ((((i+1).toNat:Nat):Int)-((0:Nat):Int)) (-1)
     rw[show i+((0:Nat):Int)*(-1)=i by omega,show(((i+1).toNat:Nat):Int)-((0:Nat):Int)=Builtin.Range.rangeSize i (-1) (-1) by rw[xq q1];omega]
     exact az _ rfl
    ·have e:b=(s1.heap.push {cls:=.type "range",data:=.fields #[.int i t,.int (-1) u,.int (-1) v]}).objs.size:=by simpa using hb
     subst e
     exact I2.fpOk (aw _) (I2.hok.fresh (aw _))⟩
theorem GE{a:Int}{n:Nat}{g:TG}{tb:TS}{D:lT}{σ:St}{H:Hp}(Pv:Nat->St->Hp->Prop)(h0:Pv 0 σ H)
  (hs:∀i σ H,i<n->Pv i σ H->g (.int (a-i)) σ H λσ2 H2=>tb {D with nx:=Pv (i+1),ct:=Pv (i+1),bk:=D.nx} σ2 H2) (hd:∀σ H,Pv n σ H->D.nx σ H) :
  ∃W:Nat->Nat->St->Hp->Prop,(∃m,W 0 m σ H)/\∀i m σ H,W i m σ H->
   ((Na a n).stop i H/\D.nx σ H)\/((Na a n).go i H/\∃N:St->Hp->Prop,(∀σ' H',N σ' H'->∃m',m'<m/\W (i+1) m' σ' H')/\∀x H',(Na a n).yld i H x H'->g x σ H' λσ2 H2=>tb {D with nx:=N,ct:=N,bk:=D.nx} σ2 H2):=by
 refine⟨λi m σ H=>m=n-i/\i<=n/\Pv i σ H,⟨n,by simp,a8 _,h0⟩,?_⟩
 rintro i m σ H ⟨rfl,hi,hp⟩
 rcases cB i n with lt|ge
 ·refine .inr ⟨lt,Pv (i+1),λσ' H' q=>⟨n-(i+1),by lia,rfl,lt,q⟩,?_⟩
  rintro x H' ⟨rfl,rfl⟩
  exact hs i σ H' lt hp
 ·have:i=n:=Nat.le_antisymm hi ge
  subst this
  exact .inl ⟨ge,hd σ H hp⟩
end
end L2
end
section
namespace Bg
open PySem PySem.Spec PyProof.Rows L2
abbrev zz:List Str:=["begin","works","last"]
abbrev tR:List Str:=["begin","works","last"]
def u9(K:Fg):TS:=(dz (bA (kr K) [] E0 (ar (ay 0) (ar (ay 1) (ar (ay 2) (ar (bA (jC K) [] E0 (ar (ay 0) aP)) aP))))))
abbrev tY:List Str:=["begin"]
abbrev oh:List Str:=["begin"]
def oK(K:Fg):TS:=(dz (bN (jB K) (jD (ar (tC .non) aP)) (fQ (gF K) (ar (ay 0) aP))))
abbrev xY:List Str:=["begin","works","last","order"]
abbrev jN:List Str:=["begin","works","last","order","points","come","ends","tables","k","starts","belt","to"]
def oM(K:Fg):TS:=(dz (qI K (ar (ay 7) aP)))
def oN(K:Fg):TS:=(fZ (rQ K "list" dH (ay 7) (ar (bA (jV K) [] E0 (ar (ay 9) (ar (bN (fF K) (ay 5) (ay 8)) aP))) aP)))
def oO(K:Fg):TS:=(gb (cH (bN ((HR false)) (ay 11) (bN (fF K) (ay 7) (vF kH (tC (.int 1)))))) (bP (oB (bN (fF K) (ay 7) (vF kH (tC (.int 1)))) (ay 11)) (yp (ay 9) (ay 10) D8)) dW)
def oP(K:Fg):TS:=(bt (bP (bA (gN K) [] E0 (ar (ay 10) (ar (bN (fF K) (ay 1) (ay 8)) (ar (bN (fF K) (ay 4) (bN (dq K) (ay 8) (tC (.int 1)))) aP)))) (aQ 11)) (oO K))
def oQ(K:Fg):TS:=(bt (rR (jI (uw (bN (fF K) (ay 5) (ay 8))) (aQ 10) (oP K))) (oN K))
def oR(K:Fg):TS:=(bt (bP u4 (aQ 9)) (oQ K))
def oS(K:Fg):TS:=(bt (jI (Lg (ar (bN (xm) (fQ (gF K) (ar (ay 1) aP)) (tC (.int 1))) (ar (vF kH (tC (.int 1))) (ar (vF kH (tC (.int 1))) aP)))) (aQ 8) (oR K)) (oM K))
def oU(K:Fg):TS:=(bt (bP (fR (ar (bA (jV K) [] E0 (ar (fQ (uK K) (ar (d6 [10] 0 (jk K (ay 6)) (aQ 10) jE (jD (ar (ay 10) (ar (tC (.int 0)) aP)))) aP)) (ar (bN (fF K) (ay 5) (vF kH (tC (.int 1)))) aP))) aP)) (aQ 7)) (oS K))
def oW(K:Fg):TS:=(bt (rR (bP (d6 [10] 0 (uw (bN (fF K) (ay 5) (vF kH (tC (.int 1))))) (aQ 10) (tB (bA (mR K) [] E0 (ar (ay 3) (ar (ay 10) aP)))) (ay 10)) (aQ 6))) (oU K))
def mZ(K:Fg):TS:=(bt (bP (bA (fN K) [] E0 (ar (ay 0) (ar (ay 1) (ar (ay 4) aP)))) (aQ 5)) (oW K))
def sJ(K:Fg):TS:=(bt (bP (bA (fP K) [] E0 (ar (ay 1) (ar (ay 2) aP))) (aQ 4)) (mZ K))
abbrev mn:List Str:=["begin","works","points"]
abbrev eM:List Str:=["begin","works","points","come","k","work","names","entered"]
def lY(K:Fg):TS:=(dz (ay 3))
def ig(K:Fg):TS:=(fZ (rQ K "list" dH (ay 3) (ar (bA (jW K) [] E0 (ar (d6 [] 1 (jk K (ay 7)) (aQ 8) (tB (bA (lu K) [] E0 (ar (ay 8) (ar (ay 6) aP)))) (ay 8)) aP)) aP)))
def ip(K:Fg):TS:=(bt (rR (bP (d6 [] 1 (uw (bN (fF K) (ay 3) (ay 4))) (aQ 8) jE (bA (gN K) [] E0 (ar (ay 8) (ar (ay 5) (ar (ay 6) aP))))) (aQ 7))) (ig K))
def iq(K:Fg):TS:=(bt (bP (bN (fF K) (ay 2) (bN (dq K) (ay 4) (tC (.int 1)))) (aQ 6)) (ip K))
def ir(K:Fg):TS:=(bt (jI (pI K (ar (ay 1) aP)) (my K 2 (dG (aQ 4) (dG (aQ 5) lX))) (iq K)) (lY K))
def jg(K:Fg):TS:=(bt (bP (fR (ar (bA (jW K) [] E0 (ar (fR (ar (bA (ju K) [] E0 (ar (ay 0) (ar (bN (fF K) (ay 2) (tC (.int 0))) aP))) aP)) aP)) aP)) (aQ 3)) (ir K))
abbrev zG:List Str:=["entered"]
abbrev pB:List Str:=["entered","come","waiting","belt"]
def qV(K:Fg):TS:=(dz (ay 1))
def qW(K:Fg):TS:=(fZ (rQ K "list" tq (ay 2) (ar (oB (ay 1) (ay 3)) aP)))
def qX(K:Fg):TS:=(gb (cH (bN ((HR true)) (ay 3) (ay 1))) (bt (bP (d6 [] 1 (jk K (bA (dQ K) [] E0 (ar (ay 3) aP))) (aQ 4) jE (bA (gM K) [] E0 (ar (ay 3) (ar (ay 4) aP)))) (yp (ay 1) (ay 3) D8)) (qW K)) dW)
def y0(K:Fg):TS:=(bt (bP (K4 K "list" MM (ay 2)) (aQ 3)) (qX K))
def qY(K:Fg):TS:=(bt (lx (cH (bN (uL) (fQ (gF K) (ar (ay 2) aP)) (tC (.int 0)))) (y0 K)) (qV K))
def qZ(K:Fg):TS:=(bt (bP (fQ (yK K) (ar (ay 0) aP)) (aQ 2)) (qY K))
def vk(K:Fg):TS:=(bt (bP u4 (aQ 1)) (qZ K))
abbrev nM:List Str:=["belt"]
abbrev gA:List Str:=["belt","last"]
def iW(K:Fg):TS:=(dz (d6 [] 2 (pI K (ar (ay 0) aP)) (my K 2 (dG (aQ 2) (dG (aQ 3) lX))) (cH (bN (xk) (ay 3) (tC .non))) (ay 2)))
def iX(K:Fg):TS:=(bt (gb (cH (bN (xk) (bN (fF K) (ay 0) (ay 1)) (tC .non))) (dz (fR (ar (ay 1) aP))) dW) (iW K))
def jG(K:Fg):TS:=(bt (bP (bN (xm) (fQ (gF K) (ar (ay 0) aP)) (tC (.int 1))) (aQ 1)) (iX K))
abbrev EH:List Str:=["belt","place"]
abbrev zu:List Str:=["belt","place"]
def Bq(K:Fg):TS:=(dz (bA (iK K) [] E0 (ar (ay 0) (ar (bN (fF K) (ay 0) (ay 1)) aP))))
abbrev zI:List Str:=["belt","work","names"]
abbrev tV:List Str:=["belt","work","names"]
def y3(K:Fg):TS:=(dz (bA (ju K) [] E0 (ar (bA (iK K) [] E0 (ar (ay 0) (ar (bN (fF K) (ay 1) (tC (.int 1))) aP))) (ar (ay 2) aP))))
def vn(K:Fg):TS:=(bt (gb (cH (bN (KI) (bN (fF K) (ay 1) (tC (.int 1))) (tC .non))) (dz (bA (ju K) [] E0 (ar (ay 0) (ar (ay 2) aP)))) dW) (y3 K))
abbrev x5:List Str:=["belt","names"]
abbrev mj:List Str:=["belt","names"]
def sM(K:Fg):TS:=(dz (fQ (Fd K) (ar (d6 [] 1 (jk K (ay 1)) (aQ 2) jE (bN ((y8 K false)) (ay 2) (ay 0))) aP)))
abbrev zF:List Str:=["starts","come"]
abbrev tU:List Str:=["starts","come","ahead","waiting","belt","number","found","lot"]
def qN(K:Fg):TS:=(dz (ay 6))
def qO(K:Fg):TS:=(fZ (rQ K "list" tq (u5 (ay 3) (bN (dq K) (ay 5) (tC (.int 1))) (fR aP)) (ar (oB (ay 2) (ay 4)) aP)))
def qP(K:Fg):TS:=(gb (cH (bN ((HR true)) (ay 4) (ay 6))) (bt (bP (ay 5) (yp (ay 6) (ay 4) D8)) (qO K)) dW)
def qQ(K:Fg):TS:=(jI (jk K (ay 7)) (aQ 4) (qP K))
def qR(K:Fg):TS:=(bt (bP (Dl (ay 3) (ay 5)) (aQ 7)) (qQ K))
def yZ(K:Fg):TS:=(bt (bP (fQ HV (ar (ay 3) aP)) (aQ 5)) (qR K))
def qS(K:Fg):TS:=(bt (lx (cH (bN (uL) (fQ Lp (ar (ay 3) aP)) (tC (.int 0)))) (yZ K)) (qN K))
def qT(K:Fg):TS:=(bt (bP u4 (aQ 6)) (qS K))
def qU(K:Fg):TS:=(fZ (rQ K "list" dH (u5 (ay 3) (ay 5) (fR aP)) (ar (ay 4) aP)))
def ph(K:Fg):TS:=(bt (rR (jI (yt (ay 0)) (my K 2 (dG (aQ 4) (dG (aQ 5) lX))) (qU K))) (qT K))
def wA(K:Fg):TS:=(bt (bP Dj (aQ 3)) (ph K))
def vj(K:Fg):TS:=(bt (bP (bA (iC K) [] E0 (ar (ay 1) aP)) (aQ 2)) (wA K))
abbrev rh:List Str:=["come"]
abbrev i7:List Str:=["come","ahead","belt","brought","to"]
def jX(K:Fg):TS:=(dz (ay 1))
def jY(K:Fg):TS:=(fZ (rQ K "list" dH (oB (ay 1) (ay 4)) (ar (ay 2) aP)))
def jZ(K:Fg):TS:=(jI (jk K (ay 3)) (aQ 4) (jY K))
def j4(K:Fg):TS:=(bt (rR (jI (yt (ay 0)) (my K 2 (dG (aQ 2) (dG (aQ 3) lX))) (jZ K))) (jX K))
def lI(K:Fg):TS:=(bt (bP (fQ (uK K) (ar (IE (d6 [2] 0 (uw (ay 0)) (aQ 2) jE (jD (ar (ay 2) (ar (fR aP) aP))))) aP)) (aQ 1)) (j4 K))
abbrev vM:List Str:=["begin","works","last","order"]
abbrev pZ:List Str:=["begin","works","last","order","points","tables","belt","told","k","work","done"]
def m4(K:Fg):TS:=(dz (bN (pL K) (fQ (dO K) (ar (ay 7) aP)) (jD (ar (fQ (dO K) (ar (ay 10) aP)) aP))))
def vc(K:Fg):TS:=(bP (bA (gM K) [] E0 (ar (ay 6) (ar (bN (fF K) (ay 10) (vF kH (tC (.int 1)))) aP))) (aQ 6))
def vd(K:Fg):TS:=(bt (fZ (rQ K "list" dH (ay 10) (ar (bA (fO K) [] E0 (ar (bN (fF K) (ay 5) (vF kH (tC (.int 1)))) (ar (ay 6) aP))) aP))) (vc K))
def m5(K:Fg):TS:=(bt (lx (cH (bN (HW K) (oB (bN (fF K) (ay 5) (vF kH (tC (.int 1)))) (ay 6)) (tC (.int 0)))) (vd K)) (m4 K))
def m7(K:Fg):TS:=(bt (bP (fR aP) (aQ 10)) (m5 K))
def m9(K:Fg):TS:=(bP (bA (gN K) [] E0 (ar (ay 6) (ar (ay 9) (ar (bN (fF K) (ay 4) (bN (pL K) (ay 8) (tC (.int 1)))) aP)))) (aQ 6))
def nh(K:Fg):TS:=(bt (fZ (rQ K "list" dH (ay 7) (ar (fQ (dO K) (ar (ay 10) aP)) aP))) (m9 K))
def vf(K:Fg):TS:=(bP (bA (gM K) [] E0 (ar (ay 6) (ar (bN (fF K) (ay 10) (vF kH (tC (.int 1)))) aP))) (aQ 6))
def vg(K:Fg):TS:=(bt (fZ (rQ K "list" dH (ay 10) (ar (bA (fO K) [] E0 (ar (bN (fF K) (ay 5) (ay 8)) (ar (ay 6) aP))) aP))) (vf K))
def lJ(K:Fg):TS:=(bt (lx (cH (bN (HW K) (oB (bN (fF K) (ay 5) (ay 8)) (ay 6)) (Dh (bN (fF K) (ay 5) (bN (pL K) (ay 8) (tC (.int 1)))) (bA (gN K) [] E0 (ar (ay 6) (ar (ay 9) (ar (bN (fF K) (ay 4) (bN (pL K) (ay 8) (tC (.int 1)))) aP))))))) (vg K)) (nh K))
def lK(K:Fg):TS:=(bt (bP (fR aP) (aQ 10)) (lJ K))
def lL(K:Fg):TS:=(bt (jI (pI K (ar (ay 1) aP)) (my K 2 (dG (aQ 8) (dG (aQ 9) lX))) (lK K)) (m7 K))
def lM(K:Fg):TS:=(bt (bP (fR aP) (aQ 7)) (lL K))
def lN(K:Fg):TS:=(bt (bP (bA (ju K) [] E0 (ar (ay 0) (ar (bN (fF K) (ay 4) (tC (.int 0))) aP))) (aQ 6)) (lM K))
def lO(K:Fg):TS:=(bt (bP (bA (lp K) [] E0 (ar (ay 0) (ar (ay 1) (ar (ay 2) (ar (ay 3) aP))))) (aQ 5)) (lN K))
def qL(K:Fg):TS:=(bt (bP (bA (fP K) [] E0 (ar (ay 1) (ar (ay 2) aP))) (aQ 4)) (lO K))
abbrev tZ:List Str:=["table","belt"]
abbrev j9:List Str:=["table","belt"]
def pe(K:Fg):TS:=(dz (bN (fF K) (d6 [] 1 (jk K (bA (dQ K) [] E0 (ar (ay 1) aP))) (aQ 2) (cH (bN (v7 K) (oB (ay 0) (bA (gM K) [] E0 (ar (ay 1) (ar (ay 2) aP)))) (bN (xm) (oB (ay 0) (ay 1)) (tC (.int 1))))) (ay 2)) (tC (.int 0))))
end Bg
end
section
namespace Bg
open PySem L2
theorem Gm{xs:List V}(h:xs≠[]):nO xs none (some (-1))=xs.dropLast:=by
 have hl:0<xs.length:=dN.mpr h
 have e:HT.sIx xs.length xs.length (some (-1))=xs.length-1:=by
  show(if(-1:Int)<0 then((-1:Int)+(xs.length:Int)).toNat else min (-1:Int).toNat xs.length)=xs.length-1
  rw[if_pos (by decide)];omega
 unfold nO
 rw[HT.sIx_none,e,jw,Nat.sub_zero,List.dropLast_eq_take]
theorem CZ{K:Fg}{vs:List V}{H:Hp}{Q:VK}{E:XK}(h:mQ K vs H Q E):vh K {nx:=λ_ H'=>Q .non H',rt:=Q} (start tT vs) H:=by
 obtain⟨b,x,xs,rfl,hb,hne,hl,q⟩:=h
 refine⟨_,rfl,(by show 1<=sizeLine;decide),λt ht=>⟨_,rfl,?_⟩⟩
 have hb1:(aN H t (.tup [x])) b=some (.tup xs):=by rw[aA (aL hb ht)];exact hb
 refine .inr (.inr (.inr ⟨t,b,[x],xs,rfl,rfl,cE.of ak,cE.of hb1,by simp,?_,λz=>absurd z hne,λ_ p hp=>?_⟩))
 ·exact bW (bG (by rw[aI];omega))
 have hb2:(aN (aN H t (.tup [x])) p (.tup ([x]++xs))) b=some (.tup xs):=by rw[aA (aL hb1 hp)];exact hb1
 refine⟨_,rfl,_,_,rfl,.inr ⟨xs,cE.of hb2,rfl⟩,_,rfl,.inr ⟨p,_,rfl,cE.of ak,?_,λp2 hp2=>?_⟩⟩
 ·rintro⟨_,z⟩
  rw[HT.sIx_nat] at z
  simp at z
 ·refine q p2 _ ?_ (((aJ.refl H).new ht).new hp |>.new hp2)
  rw[ak,ui]
  rfl
theorem C9(a b:Option Str):Ir (oV a) (oV b)=true:=by cases a<;>cases b<;>rfl
theorem fh{α:Type}{xs:List α}{i:Nat}{x:α}(h:xs[i]?=some x):xs.take (i+1)=xs.take i++[x]:=by rw[fz,h];rfl
theorem M3{α β:Type}{xs:List α}{ys:List β}{i:Nat}{x:α}{y:β}(h:xs[i]?=some x)(h':ys[i]?=some y):(xs.zip ys)[i]?=some (x,y):=by
 rw[d7];exact⟨h,h'⟩
theorem C2{K:Fg}{vs:List V}{H:Hp}{Q:VK}{E:XK}(h:mR K vs H Q E):vm K {nx:=λ_ H'=>Q .non H',rt:=Q} (start pC vs) H:=by
 obtain⟨a,b,as,bs,rfl,ha,hb,hl,h1000,q⟩:=h
 refine⟨_,rfl,_,rfl,true,true,a,b,rfl,⟨_,cE.of ha⟩,⟨_,cE.of hb⟩,λD hD=>?_⟩
 refine EU (xs:=cw as) (ys:=cw bs) (by rw[cC,cC];omega) (λi σ' H'=>∃o1 o2,σ'=[some (.ref a),some (.ref b),o1,o2]/\H' D=some (.lst ((((as.zip bs).take i).map Lv).map V.bl))/\aJ H H') ?_ ?_ ?_ ?_
 ·exact⟨none,none,rfl,by rw[fI];exact ak,(aJ.refl H).new hD⟩
 ·rintro i σ' H' _ ⟨o1,o2,_,_,s'⟩
  exact⟨cE.of (s' _ _ ha),cE.of (s' _ _ hb)⟩
 ·rintro i x y σ' H' p hx hy hp ⟨o1,o2,rfl,hD',s'⟩
  obtain⟨ox,ex,rfl⟩:=mF hx
  obtain⟨oy,ey,rfl⟩:=mF hy
  refine⟨p,_,rfl,cE.of ak,rfl,_,_,rfl,_,_,rfl,rfl,fB ?_⟩
  have nD:D≠p:=aL hD' hp
  have hD2:aN H' p (.tup [oV ox,oV oy]) D=some (.lst ((((as.zip bs).take i).map Lv).map V.bl)):=by rw[aA nD];exact hD'
  have li:((((as.zip bs).take i).map Lv).map V.bl).length<=1000:=by rw[af,af,aS,lz];omega
  have HD:H D=none:=by
   cases e:H D with
   |none=>rfl
   |some o=>have:=((aJ.refl H).new hD (o:=.lst [])) D o e;rw[ak] at this;rw[hD] at e;cases e
  have app:∀c:Bool,c=Lv (ox,oy)->∃ys,aN H' p (.tup [oV ox,oV oy]) D=some (.lst ys)/\ys.length<sizeLine/\∃o1 o2,[some (V.ref a),some (V.ref b),some (oV ox),some (oV oy)]=[some (.ref a),some (.ref b),o1,o2]/\
    aN (aN H' p (.tup [oV ox,oV oy])) D (.lst (ys++[.bl c])) D=some (.lst ((((as.zip bs).take (i+1)).map Lv).map V.bl))/\aJ H (aN (aN H' p (.tup [oV ox,oV oy])) D (.lst (ys++[.bl c]))):=by
   rintro c rfl
   refine⟨_,hD2,bG (by omega),_,_,rfl,?_,?_⟩
   ·rw[ak,fh (M3 ex ey),aB,aB];rfl
   ·intro c o hc
    have n1:c≠D:=aL hc HD
    rw[aA n1]
    exact(s'.new hp) c o hc
  refine⟨_,rfl,rfl,_,rfl,dy (λe=>?_) (λe=>?_)⟩
  ·refine app true ?_
   unfold Lv
   rw[decide_eq_true (show(ox,oy).1=none from G6.mp e),Bool.true_or]
  ·refine⟨_,rfl,_,rfl,.inl ⟨C9 ox oy,app _ ?_⟩⟩
   unfold Lv
   rw[decide_eq_false (show ¬(ox,oy).1=none from λz=>e (G6.mpr z)),Bool.false_or]
   by_cases c:ox=oy
   ·rw[decide_eq_true (show oV ox=oV oy by rw[c]),decide_eq_true (show(ox,oy).1=(ox,oy).2 from c)]
   ·rw[decide_eq_false (show ¬oV ox=oV oy from λz=>c (yD z)),decide_eq_false (show ¬(ox,oy).1=(ox,oy).2 from c)]
 ·rintro σ' H' ⟨o1,o2,_,hD',s'⟩
  have e:(as.zip bs).take (cw as).length=as.zip bs:=dS (by rw[lz,cC];omega)
  rw[e] at hD'
  exact⟨D,_,rfl,cq.of hD',q _ s'⟩
theorem yN{K:Fg}{vs:List V}{H:Hp}{Q:VK}{E:XK}(h:iK K vs H Q E):qM K {nx:=λ_ H'=>Q .non H',rt:=Q} (start kT vs) H:=by
 obtain⟨a,os,x,rfl,ha,hne,hl,q⟩:=h
 refine .inr ⟨_,rfl,a,rfl,⟨_,cE.of ha⟩,λD hD=>?_⟩
 refine iR (xs:=cw os) (λi σ' H'=>∃o1,σ'=[some (.ref a),some (.str x),o1]/\H' D=some (.lst (cw ((os.take i).map (blank x))))/\aJ H H') ?_ ?_ ?_ ?_
 ·exact⟨none,rfl,by rw[fI];exact ak,(aJ.refl H).new hD⟩
 ·rintro i σ' H' _ ⟨o1,_,_,s'⟩
  exact cE.of (s' _ _ ha)
 ·rintro i y σ' H' hy ⟨o1,rfl,hD',s'⟩
  obtain⟨oy,ey,rfl⟩:=mF hy
  have li:(cw ((os.take i).map (blank x))).length<=1000:=by rw[cC,af,aS];omega
  have app:∀c:V,c=oV (blank x oy)->∃ys,H' D=some (.lst ys)/\ys.length<sizeLine/\∃o1,[some (V.ref a),some (V.str x),some (oV oy)]=[some (.ref a),some (.str x),o1]/\
    aN H' D (.lst (ys++[c])) D=some (.lst (cw ((os.take (i+1)).map (blank x))))/\aJ H (aN H' D (.lst (ys++[c]))):=by
   rintro c rfl
   refine⟨_,hD',bG (by omega),_,rfl,?_,λb o hb=>?_⟩
   ·rw[ak,fh ey,aB];unfold cw;rw[aB];rfl
   ·rw[aA (aL hb hD)];exact s' b o hb
  refine fB ⟨_,rfl,_,rfl,.inl ⟨C9 oy (some x),_,rfl,dy (λe=>?_) (λe=>?_)⟩⟩
  ·refine app _ ?_
   unfold blank
   rw[if_pos (show oy=some x from yD (b:=some x) e)]
   rfl
  ·refine⟨_,rfl,app _ ?_⟩
   unfold blank
   rw[if_neg (show ¬oy=some x from λz=>e (by rw[z];rfl))]
 ·rintro σ' H' ⟨o1,_,hD',s'⟩
  rw[cC,a7] at hD'
  refine⟨D,_,rfl,.inl ⟨cq.of hD',λP nP=>⟨_,rfl,P,.str x,_,rfl,ak,?_,?_,λp H2 h2 s2=>q p H2 ?_ ((s'.new nP).trans s2)⟩⟩⟩
  ·intro z
   have:=congrArg gH z
   rw[cC,af] at this
   exact hne (bD.mp this)
  ·rw[cC,af];exact hl
  ·rw[h2]
   have e:=MF (os.map (blank x)) (some x)
   show some (HO.tup (D7 (cw (os.map (blank x))) (oV (some x))))=_
   rw[e];rfl
theorem HZ{K:Fg}{vs:List V}{H:Hp}{Q:VK}{E:XK}(h:ju K vs H Q E):Br K {nx:=λ_ H'=>Q .non H',rt:=Q} (start zv vs) H:=by
 obtain⟨b,n,os,ns,rfl,hb,hn,ol,q⟩:=h
 refine⟨(by show 0<=sizeLine;decide),λT nT=>?_⟩
 have hb1:aN H T (.lst []) b=some (.tup (cw os)):=by rw[aA (aL hb nT)];exact hb
 show vi K _ [some (.ref b),some (.ref n),some (.ref T),none] (aN H T (.lst []))
 refine .inr ⟨_,rfl,b,rfl,⟨_,cE.of hb1⟩,?_⟩
 refine sZ (xs:=cw os) (λi σ' H'=>∃o,σ'=[some (.ref b),some (.ref n),some (.ref T),o]/\H' T=some (.lst (cw ((os.take i).foldl (dA ns) [])))/\aJ H H') ?_ ?_ ?_ ?_
 ·exact⟨none,rfl,by rw[fI];exact ak,(aJ.refl H).new nT⟩
 ·rintro i σ' H' _ ⟨o,_,_,s'⟩
  exact cE.of (s' _ _ hb)
 ·rintro i x σ' H' hx ⟨o,rfl,hT,s'⟩
  obtain⟨ox,ex,rfl⟩:=mF hx
  have hn':=s' _ _ hn
  have li:(cw ((os.take i).foldl (dA ns) [])).length<=1000:=by rw[cC,mO,aS];simp;omega
  have app:∀w:V,w=oV (if ox∈ns.map some/\ox∉(os.take i).foldl (dA ns) [] then ox else none)->dH (.ref T) [w] H' λ_ H1=>∃o,[some (V.ref b),some (V.ref n),some (V.ref T),some (oV ox)]=[some (.ref b),some (.ref n),some (.ref T),o]/\H1 T=some (.lst (cw ((os.take (i+1)).foldl (dA ns) [])))/\aJ H H1:=by
   rintro w rfl
   refine⟨T,_,_,rfl,rfl,hT,bG (by omega),_,rfl,?_,λc oc hc=>?_⟩
   ·rw[ak,fh ex,jJ]
    show some (HO.lst _)=some (HO.lst (cw (dA ns ((os.take i).foldl (dA ns) []) ox)))
    unfold dA cw
    rw[aB]
    rfl
   ·rw[aA (aL hc nT)];exact s' c oc hc
  refine⟨_,rfl,.inl ⟨rfl,_,cq.of hT⟩,_,rfl,_,rfl,n,_,rfl,.inr (cE.of hn'),yC _,wQ _,_,rfl,?_⟩
  show if sr (oV ox) (ns.map V.str)=true then _ else _
  rw[rP,wV]
  refine dy (λm=>⟨_,rfl,_,rfl,T,_,rfl,.inl (cq.of hT),yC _,iS _,_,rfl,?_⟩) (λm=>jo (app _ ?_))
  ·show if(!sr (oV ox) (cw _))=true then _ else _
   rw[wV]
   refine mz (λm2=>⟨_,rfl,app _ ?_⟩) (λm2=>app _ ?_)
   ·rw[if_pos ⟨m,m2⟩]
   ·rw[if_neg λz=>z.2 m2];rfl
  ·rw[if_neg λz=>m z.1];rfl
 ·rintro σ' H' ⟨o,rfl,hT,s'⟩
  rw[cC,a7] at hT
  exact⟨_,rfl,T,_,rfl,.inl ⟨cq.of hT,λP nP=>q P _ ak (s'.new nP)⟩⟩
end Bg
end
section
namespace Bg
open PySem PySem.Spec PyProof.Rows L2
end Bg
end
section
namespace Bg
open PySem L2
theorem cO{H H1:Hp}{a:Addr}{o:HO}(s:aJ H H1)(h:H a=none):aJ H (aN H1 a o):=λb u e=>by
 rw[aA (aL e h)];exact s b u e
theorem Cf{js:List Nat}{k:Nat}{K:Fg}{a:Addr}{xs:List V}{g:TG}{tc:TT}{te:TE}{R:Hp->Prop}{σ:St}{H:Hp}{D:Addr}(Pv:Nat->St->Hp->Prop)(h0:Pv 0 (um js k σ) (aN H D (.lst [])))(hl:∀i σ H,i<=xs.length->Pv i σ H->cE K H a xs)
  (hs:∀i x σ H p,xs[i]?=some x->H p=none->Pv i σ H->g (.ref p) σ (aN H p (.tup [.int (i:Nat),x])) λσ2 H2=>jr D tc te {nx:=Pv (i+1),rt:=λ_ _=>False,ct:=Pv (i+1),bk:=λ_ H'=>R H'} σ2 H2) (hd:∀σ H,Pv xs.length σ H->R H) :
  ∃W:Nat->Nat->St->Hp->Prop,(∃m,W 0 m (um js k σ) (aN H D (.lst [])))/\∀i m σ H,W i m σ H->
   ((zf K a).stop i H/\R H)\/((zf K a).go i H/\∃N:St->Hp->Prop,(∀σ' H',N σ' H'->∃m',m'<m/\W (i+1) m' σ' H')/\∀x H',(zf K a).yld i H x H'->g x σ H' λσ2 H2=>jr D tc te {nx:=N,rt:=λ_ _=>False,ct:=N,bk:=λ_ H'=>R H'} σ2 H2):=
 kC (D:={nx:=λ_ H'=>R H',rt:=λ_ _=>False}) Pv h0 hl hs hd
theorem qH{ys:List Str}{i:Nat}{x:V}(h:(ys.map V.str)[i]?=some x):∃y,ys[i]?=some y/\x=.str y:=by
 rw[aH] at h
 cases e:ys[i]? with
 |none=>rw[e] at h;cases h
 |some y=>rw[e] at h;exact⟨y,rfl,(Option.some.inj h).symm⟩
theorem qm(o:Option Str):gB o=oV o:=by cases o<;>rfl
theorem CB(y:Str)(b:Bt):sr (.str y) (cw b)=decide (some y∈b):=by
 rw[Bool.eq_iff_iff,decide_eq_true_eq]
 unfold sr
 rw[fW]
 constructor
 ·rintro⟨v,hv,e⟩
  obtain⟨o,ho,rfl⟩:=aD.mp hv
  have:=DS o (some y)
  rw[show vU (oV o) (V.str y)=vU (oV o) (oV (some y)) from rfl,this,decide_eq_true_eq] at e
  rw[<-e];exact ho
 ·intro h
  refine⟨oV (some y),aD.mpr ⟨_,h,rfl⟩,?_⟩
  show vU (oV (some y)) (oV (some y))=true
  rw[DS];exact decide_eq_true rfl
theorem qp{b:Bt}{x:Str}(h:b[b.length-1]?=some (some x)):mI b=[b.length-1]:=by
 unfold mI
 rw[d8,h]
theorem Hv{b:Bt}(h:b[b.length-1]?=some none):mI b=(bZ b.length).filter λi=>((b[i]?).getD none).isSome:=by
 unfold mI
 rw[d8,h]
theorem qr{b:Bt}{i:Nat}(h:i∈mI b):∃x,b[i]?=some (some x):=by
 unfold mI at h
 split at h
 ·rename_i x e
  rw[d8] at e
  rw[aj.mp h];exact⟨x,e⟩
 ·obtain⟨_,h⟩:=a9.mp h
  cases e:b[i]? with
  |none=>rw[e] at h;cases h
  |some o=>
   cases o with
   |none=>rw[e] at h;cases h
   |some x=>exact⟨x,rfl⟩
theorem rA{b:Bt}{i:Nat}{x:Str}(h:b[i]?=some (some x)):nB b i=jj b x:=by unfold nB;rw[h];rfl
theorem xg(o:Option Str):decide (oV o=.non)=!o.isSome:=by cases o<;>rfl
theorem pM{K:Fg}{vs:List V}{H:Hp}{Q:VK}{E:XK}(h:dQ K vs H Q E):jG K {nx:=λ_ H'=>Q .non H',rt:=Q} (start gA vs) H:=by
 obtain⟨p,b,rfl,hp,ne,l5,q⟩:=h
 have pos:0<b.length:=dN.mpr ne
 refine⟨_,rfl,_,_,rfl,.inr ⟨_,cE.of hp,rfl⟩,_,_,rfl,rfl,?_⟩
 rw[cC]
 show iX K _ [some (.ref p),some (.int ((b.length:Int)-1))] H
 have hl:b[b.length-1]?=some b[b.length-1]:=aa (by lia)
 generalize b[b.length-1]'(by lia)=o at hl
 refine⟨_,rfl,_,rfl,D1 hp (by lia) (by rw[show((b.length:Int)-1).toNat=b.length-1 by lia];exact yE hl) ⟨rfl,_,rfl,?_⟩⟩
 rw[xg,Bool.not_not]
 cases o with
 |some x=>
  refine nS ⟨_,rfl,(by show 1<=sizeLine;decide),λl nl=>q l _ nl ?_ ((aJ.refl H).new nl)⟩
  rw[ak,qp hl]
  show some (HO.lst [.int ((b.length:Int)-1)])=some (.lst [.int ((b.length-1:Nat):Int)])
  rw[show((b.length-1:Nat):Int)=(b.length:Int)-1 by lia]
 |none=>
  refine jo ?_
  show iW K _ [some (.ref p),some (.int ((b.length:Int)-1))] H
  refine⟨_,rfl,p,rfl,⟨_,cE.of hp⟩,λD nD=>?_⟩
  refine Cf (xs:=cw b) (λi σ' H'=>∃o2 o3,σ'=[some (.ref p),some (.int ((b.length:Int)-1)),o2,o3]/\H' D=some (.lst (((bZ i).filter λi=>((b[i]?).getD none).isSome).map λi=>V.int (i:Nat)))/\aJ H H') ?_ ?_ ?_ ?_
  ·exact⟨none,none,rfl,ak,(aJ.refl H).new nD⟩
  ·rintro i σ' H' _ ⟨_,_,_,_,s⟩;exact cE.of (s _ _ hp)
  ·rintro i v σ' H1 t hv nt ⟨o2,o3,rfl,hD,s⟩
   obtain⟨o,ho,rfl⟩:=mF hv
   have il:i<b.length:=(ae.mp ho).1
   refine⟨t,_,rfl,cE.of ak,rfl,_,_,rfl,_,_,rfl,rfl,?_⟩
   have s1:aJ H1 (aN H1 t (.tup [.int (i:Nat),oV o])):=(aJ.refl H1).new nt
   show jr D _ _ _ [some (.ref p),some (.int ((b.length:Int)-1)),some (.int (i:Nat)),some (oV o)] _
   generalize aN H1 t (.tup [.int (i:Nat),oV o])=H2 at s1 ⊢
   have fl:(bZ (i+1)).filter (λi=>((b[i]?).getD none).isSome)=(bZ i).filter (λi=>((b[i]?).getD none).isSome)++if o.isSome then[i] else[]:=by
    rw[i5,eW,cX,ho]
    rfl
   refine⟨_,rfl,rfl,_,rfl,?_⟩
   rw[xg,Bool.not_not]
   cases o with
   |none=>
    refine jo ⟨_,_,rfl,?_,s.trans s1⟩
    rw[fl];simpa using s1 _ _ hD
   |some x=>
    refine nS ⟨_,rfl,_,s1 _ _ hD,bG ?_,_,_,rfl,?_,cO (s.trans s1) nD⟩
    ·rw[af]
     have:=bx (λi=>((b[i]?).getD none).isSome) (bZ i)
     rw[c9] at this
     lia
    ·rw[ak,fl,aB];rfl
  ·rintro σ' H1 ⟨_,_,_,hD,s⟩
   rw[cC,<-Hv hl] at hD
   exact q D H1 nD hD s
theorem HY{K:Fg}{vs:List V}{H:Hp}{Q:VK}{E:XK}(h:gM K vs H Q E):Bq K {nx:=λ_ H'=>Q .non H',rt:=Q} (start zu vs) H:=by
 obtain⟨p,b,i,rfl,hp,l5,hi,q⟩:=h
 obtain⟨x,hx⟩:=qr hi
 refine⟨_,rfl,_,rfl,_,rfl,D1 hp (cz _) (by rw[aU];exact yE hx) ⟨p,b,x,rfl,hp,(λz=>by rw[z] at hx;cases hx),by lia,λr H' hr s=>q r H' (by rw[rA hx];exact hr) s⟩⟩
theorem C3{K:Fg}{vs:List V}{H:Hp}{Q:VK}{E:XK}(h:gN K vs H Q E):vn K {nx:=λ_ H'=>Q .non H',rt:=Q} (start tV vs) H:=by
 obtain⟨p,n,v,b,w,ss,rfl,hp,⟨wp,wt,rfl,hw,_⟩,hn,ne,l5,q⟩:=h
 refine⟨_,rfl,D1 hw (by decide) (v:=gB w.out) rfl ⟨rfl,_,rfl,?_⟩⟩
 rw[qm,xg]
 cases ho:w.out with
 |none=>
  refine nS ⟨_,rfl,_,rfl,p,n,b,ss,rfl,hp,hn,by lia,λr H' hr s=>q r H' ?_ s⟩
  unfold iZ;rw[ho];exact hr
 |some y=>
  refine jo ⟨_,rfl,_,rfl,D1 hw (by decide) (v:=gB w.out) rfl ?_⟩
  rw[ho]
  refine⟨p,b,y,rfl,hp,ne,by lia,λr H1 hr s1=>⟨_,rfl,r,n,jj b y,ss,rfl,hr,s1 _ _ hn,?_,λr2 H2 hr2 s2=>q r2 H2 ?_ (s1.trans s2)⟩⟩
  ·unfold jj qu;rw[aS,bf,af];lia
  ·unfold iZ;rw[ho];exact hr2
theorem AU{K:Fg}{vs:List V}{H:Hp}{Q:VK}{E:XK}(h:lu K vs H Q E):sM K {nx:=λ_ H'=>Q .non H',rt:=Q} (start mj vs) H:=by
 obtain⟨p,n,b,ss,rfl,hp,hn,few,l5,q⟩:=h
 refine .inr ⟨_,rfl,n,rfl,⟨_,cE.of hn⟩,λD nD=>?_⟩
 refine iR (xs:=ss.map V.str) (λi σ' H'=>∃o,σ'=[some (.ref p),some (.ref n),o]/\H' D=some (.lst (((ss.take i).map λy=>decide (some y∈b)).map V.bl))/\aJ H H') ?_ ?_ ?_ ?_
 ·exact⟨none,rfl,ak,(aJ.refl H).new nD⟩
 ·rintro i σ' H' _ ⟨_,_,_,s⟩;exact cE.of (s _ _ hn)
 ·rintro i v σ' H1 hv ⟨o,rfl,hD,s⟩
  obtain⟨y,hy,rfl⟩:=qH hv
  have il:i<ss.length:=(ae.mp hy).1
  refine fB ⟨_,rfl,_,rfl,p,_,rfl,.inr (cE.of (s _ _ hp)),rfl,iS b,?_⟩
  rw[show(if false=true then !sr (V.str y) (cw b) else sr (V.str y) (cw b))=decide (some y∈b) from CB y b]
  refine⟨_,hD,bG (by rw[af,af,aS];lia),_,rfl,?_,cO s nD⟩
  rw[ak,fz,hy,aB,aB];rfl
 ·rintro σ' H1 ⟨o,_,hD,s⟩
  rw[af,a7] at hD
  refine⟨D,_,rfl,cq.of hD,?_⟩
  have e:(ss.map λy=>decide (some y∈b)).all id=jH b ss:=by unfold jH;rw[List.all_map];rfl
  rw[e];exact q H1 s
theorem wb{K:Fg}{vs:List V}{H:Hp}{Q:VK}{E:XK}(h:jC K vs H Q E):oK K {nx:=λ_ H'=>Q .non H',rt:=Q} (start oh vs) H:=by
 obtain⟨p,b,rfl,hp,ne,l5,q⟩:=h
 have rep:∀k,(aV k [V.non]).flatten=cw (aV k none):=λk=>by
  unfold cw
  induction k with
  |zero=>rfl
  |succ k ih=>rw[cM,c8,ih,cM];rfl
 refine⟨(by show 1<=sizeLine;decide),λt nt=>⟨_,rfl,_,_,rfl,.inr ⟨_,cE.of ((aJ.refl H).new nt _ _ hp),rfl⟩,.inr ⟨t,b.length,[V.non],rfl,by rw[cC],cE.of ak,(by simp),?_,λe=>?_,λ_ r nr=>?_⟩⟩⟩
 ·rw[aI];exact bW (bG (by lia))
 ·refine q t _ ?_ ((aJ.refl H).new nt)
  rw[ak,e];rfl
 ·refine q r _ ?_ (((aJ.refl H).new nt).new nr)
  rw[ak,rep]
def ya(ss:List Str):Nat->List Bt
 |0=>[[]]
 |n+1=>((none::ss.map some).map λo=>(ya ss n).map (o::·)).flatten
theorem ud(ss:List Str):∀n,(ya ss n).length=(ss.length+1) ^ n
 |0=>rfl
 |n+1=>by
  have h:∀(os:List (Option Str)),((os.map λo=>(ya ss n).map (o::·)).flatten).length=os.length*(ss.length+1) ^ n:=λos=>by
   induction os with
   |nil=>simp
   |cons o r ih=>rw[bz,c8,ai,ih,af,ud ss n,bf,Nat.add_mul,Nat.one_mul,pS]
  show(((none::ss.map some).map λo=>(ya ss n).map (o::·)).flatten).length=_
  rw[h,bf,af,Nat.pow_succ,pT]
theorem ue{ss:List Str}:∀{n:Nat} {b:Bt},kQ n ss b->b∈ya ss n
 |0,b,h=>by
  have:b=[]:=bD.mp h.len
  rw[this];exact aj.mpr rfl
 |n+1,[],h=>absurd h.len (by simp)
 |n+1,o::r,h=>by
  refine ku.mpr ⟨_,aD.mpr ⟨o,?_,rfl⟩,aD.mpr ⟨r,ue ⟨by have:=h.len;simpa using this,λx hx=>h.mem x (aY _ hx)⟩,rfl⟩⟩
  cases o with
  |none=>exact aZ
  |some x=>exact aY _ (aD.mpr ⟨x,h.mem x aZ,rfl⟩)
theorem wN{n:Nat}{ss:List Str}{ks:List Bt}(d:Jk n ss)(nd:ks.Nodup)(h:∀b∈ks,kQ n ss b):ks.length<=7776:=by
 have h1:=iz (zs:=ya ss n) nd λb hb=>ue (h b hb)
 rw[ud] at h1
 have h2:(ss.length+1) ^ n<=6 ^ n:=Nat.pow_le_pow_left (by have:=d.s5;lia) n
 have h3:(6:Nat) ^ n<=6 ^ 5:=Nat.pow_le_pow_right (by decide) d.n5
 have:(6:Nat) ^ 5=7776:=by decide
 lia
theorem iP(b:Bt)(x:Str):(jj b x).length=b.length:=by unfold jj qu;rw[aS,bf,af];lia
theorem JY(b:Bt)(i:Nat):(nB b i).length=b.length:=by
 unfold nB
 split
 ·exact iP _ _
 ·rfl
theorem Gg{b:Bt}{x y:Str}(h:some y∈jj b x):y=x\/some y∈b:=by
 unfold jj qu at h
 rcases aM.mp (List.mem_of_mem_take h) with e|h
 ·exact .inl (Option.some.inj e)
 ·obtain⟨o,ho,e⟩:=aD.mp h
  right
  unfold blank at e
  split at e
  ·cases e
  ·rw[<-e];exact ho
theorem kQ.kt{n:Nat}{ss:List Str}{b:Bt}(h:kQ n ss b){i:Nat}(hi:i∈mI b):kQ n ss (nB b i):=by
 obtain⟨x,hx⟩:=qr hi
 refine⟨(JY b i).trans h.len,λy hy=>?_⟩
 rw[rA hx] at hy
 rcases Gg hy with rfl|hy
 ·exact h.mem _ (aC hx)
 ·exact h.mem y hy
theorem kQ.kts{n:Nat}{ss:List Str}{b c:Bt}(h:kQ n ss b)(hc:c∈kts b):kQ n ss c:=by
 obtain⟨i,hi,rfl⟩:=aD.mp hc
 exact h.kt hi
theorem D6(b:Bt):(mI b).length<=b.length+1:=by
 unfold mI
 split
 ·show 1<=_;lia
 ·have:=bx (λi=>((b[i]?).getD none).isSome) (bZ b.length)
  rw[c9] at this
  lia
theorem AJ{b:Bt}(h:b≠[]):(mI b).length<=b.length:=by
 have pos:0<b.length:=dN.mpr h
 unfold mI
 split
 ·show 1<=_;lia
 ·have:=bx (λi=>((b[i]?).getD none).isSome) (bZ b.length)
  rw[c9] at this
  exact this
def c5(t:List (Bt×Nat)):List (List b8×V):=t.map λp=>(cK p.1,V.int (p.2:Nat))
theorem fS{t:List (Bt×Nat)}(nd:(t.map (·.1)).Nodup){b:Bt}{m:Nat}(h:(b,m)∈t):cW (c5 t) (cK b)=some (.int (m:Nat)):=by
 induction t with
 |nil=>cases h
 |cons p r ih=>
  rw[bz,bS] at nd
  unfold cW c5
  rw[bz,cS]
  by_cases e:p.1=b
  ·have:decide (cK p.1=cK b)=true:=decide_eq_true (by rw[e])
   dsimp only
   rw[this]
   rcases aM.mp h with h|h
   ·rw[<-h];rfl
   ·exact absurd (aD.mpr ⟨_,h,rfl⟩) (by rw[<-e];exact nd.1)
  ·have:decide (cK p.1=cK b)=false:=decide_eq_false λz=>e (mB z)
   dsimp only
   rw[this]
   rcases aM.mp h with h|h
   ·exact absurd (by rw[<-h]) e
   ·exact ih nd.2 h
theorem q0{t:List (Bt×Nat)}{b:Bt}(h:∀m,(b,m)∉t):cW (c5 t) (cK b)=none:=by
 induction t with
 |nil=>rfl
 |cons p r ih=>
  unfold cW c5
  rw[bz,cS]
  have e:p.1≠b:=λz=>h p.2 (by rw[<-z];exact aZ)
  have:decide (cK p.1=cK b)=false:=decide_eq_false λz=>e (mB z)
  dsimp only
  rw[this]
  exact ih λm z=>h m (aY _ z)
theorem tG{t:List (Bt×Nat)}(nd:(t.map (·.1)).Nodup){b:Bt}{m k:Nat}(h:(b,m)∈t)(h':(b,k)∈t):m=k:=by
 have:=(fS nd h).symm.trans (fS nd h')
 injection this with this
 injection this with this
 lia
theorem oj{H:Hp}{D p:Addr}{kvs:List (List b8×V)}{b:Bt}{o:Option V}(hD:H D=some (.dT kvs))(hp:H p=some (.tup (cw b)))(e:cW kvs (cK b)=o):rg H D (.ref p) o:=by
 rw[<-e]
 exact rg.t hD (by rw[d5];exact hp)
theorem vE:∀(b:Bt),Bz (aV b.length none) b=true
 |[]=>rfl
 |o::r=>by
  have h:=vE r
  unfold Bz at h ⊢
  rw[bf,cM,List.zip_cons_cons,bz,nY,h,Bool.and_true]
  rfl
theorem kg.lead{ks:List Bt}{t0 t:List (Bt×Nat)}(sp:kg ks t0 t)(cl:∀b∈ks,∀c∈kts b,c∈ks):∀{ps:List Nat} {b:Bt} {m:Nat},b∈ks->dI b ps->(iB b ps,m)∈t->∃m',m'<=m+ps.length/\(b,m')∈t
 |[],b,m,_,_,h=>⟨m,aw _,h⟩
 |p::r,b,m,hb,ok,h=>by
  have hk:nB b p∈kts b:=aD.mpr ⟨p,ok.1,rfl⟩
  obtain⟨m1,l1,h1⟩:=kg.lead sp cl (ps:=r) (b:=nB b p) (cl b hb _ hk) ok.2 h
  obtain⟨m2,l2,h2⟩:=sp.s2 b hb _ hk m1 h1
  exact⟨m2,by rw[bf];lia,h2⟩
theorem kg.start{ks:List Bt}{t0 t:List (Bt×Nat)}(sp:kg ks t0 t)(cl:∀b∈ks,∀c∈kts b,c∈ks){ps:List Nat}{b:Bt}{m:Nat}(hb:b∈ks)(ok:dI b ps)(h:(iB b ps,m)∈t0):∃m',m'<=m+ps.length/\(b,m')∈t:=by
 obtain⟨m1,l1,h1⟩:=sp.s1 _ _ h
 obtain⟨m2,l2,h2⟩:=sp.lead cl hb ok h1
 exact⟨m2,by lia,h2⟩
def Uq(b:Bt):Prop:=∀(i j:Nat) x,b[i]?=some (some x)->b[j]?=some (some x)->i=j
theorem rot{l:Bt}{y:Str}(u:Uq (l++[some y])):mI (l++[some y])=[l.length]/\nB (l++[some y]) l.length=some y::l:=by
 have e:(l++[some y])[l.length]?=some (some y):=by rw[ao (aw _),bj];rfl
 have ln:(l++[some y]).length=l.length+1:=by rw[ai];rfl
 refine⟨?_,?_⟩
 ·rw[qp (x:=y) (by rw[ln,cA];exact e),ln,cA]
 ·rw[rA e]
  have hl:l.map (Bg.blank y)=l:=by
   conv=>rhs;rw[<-List.map_id l]
   refine du λo ho=>?_
   obtain⟨i,hi,eo⟩:=aR.mp ho
   have ne:o≠some y:=λz=>by
    have h1:(l++[some y])[i]?=some (some y):=by rw[av hi,aa hi,eo,z]
    have:=u i l.length y h1 e
    lia
   unfold Bg.blank
   rw[if_neg ne];rfl
  unfold jj qu
  rw[aB,hl]
  show(some y::(l++[Bg.blank y (some y)])).take _=_
  rw[ai,show(List.map (Bg.blank y) [some y]).length=1 from rfl,List.take_succ_cons,List.take_append_of_le_length (aw _),a7]
theorem Uq.rot{l:Bt}{o:Option Str}(u:Uq (l++[o])):Uq (o::l):=by
 have key:∀(i:Nat) x,(o::l)[i]?=some (some x)->∃i',(l++[o])[i']?=some (some x)/\(i=0->i'=l.length)/\(∀k,i=k+1->i'=k):=λi x h=>by
  cases i with
  |zero=>
   refine⟨l.length,?_,(λ_=>rfl),(λk z=>by cases z)⟩
   rw[ao (aw _),bj]
   simpa using h
  |succ k=>
   have h:l[k]?=some (some x):=by simpa using h
   refine⟨k,?_,(λz=>by cases z),(λk' z=>by injection z)⟩
   rw[av (ae.mp h).1];exact h
 intro i j x h1 h2
 obtain⟨i',a1,a2,a3⟩:=key i x h1
 obtain⟨j',b1,b2,b3⟩:=key j x h2
 have e:=u i' j' x a1 b1
 have lt:∀{k:Nat},(o::l)[k+1]?=some (some x)->k<l.length:=λh=>(ae.mp (by simpa using h)).1
 cases i with
 |zero=>cases j with
  |zero=>rfl
  |succ j=>have:=a2 rfl;have:=b3 j rfl;have:=lt h2;lia
 |succ i=>cases j with
  |zero=>have:=b2 rfl;have:=a3 i rfl;have:=lt h1;lia
  |succ j=>have:=a3 i rfl;have:=b3 j rfl;lia
theorem yU{b:Bt}{ss:List Str}{i:Nat}{x:Str}(h:(bq b ss)[i]?=some (some x)):b[i]?=some (some x)/\pY b i/\x∈ss:=by
 have hi:i<b.length:=by have:=(ae.mp h).1;rwa [dE] at this
 obtain⟨w,hw,pk⟩:=tu (ns:=ss) (aa hi)
 rw[h] at hw
 have hw:some x=w:=Option.some.inj hw
 by_cases c:b[i]∈ss.map some/\pY b i
 ·have e:=pk.1 c
  rw[<-hw] at e
  obtain⟨y,hy,ey⟩:=aD.mp c.1
  refine⟨by rw[aa hi,e],c.2,?_⟩
  rw[<-e] at ey
  rw[<-Option.some.inj ey];exact hy
 ·have e:=pk.2 c
  rw[<-hw] at e;cases e
theorem KY(b:Bt)(ss:List Str):Uq (bq b ss):=λi j x h1 h2=>by
 obtain⟨a1,a2,_⟩:=yU h1
 obtain⟨b1,b2,_⟩:=yU h2
 rcases Nat.lt_trichotomy i j with lt|eq|lt
 ·exact absurd (a1.trans b1.symm) (b2 i lt)
 ·exact eq
 ·exact absurd (b1.trans a1.symm) (a2 j lt)
theorem GD{b:Bt}{o:Option Str}:∀{i:Nat},b[i]?=some o->∃k,b[k]?=some o/\pY b k:=by
 intro i
 induction i using Nat.strongRecOn with
 |ind i ih=>
  intro h
  by_cases c:pY b i
  ·exact⟨i,h,c⟩
  ·have:∃j,j<i/\b[j]?=b[i]?:=by
    apply Classical.byContradiction
    intro z
    exact c λj hj e=>z ⟨j,hj,e⟩
   obtain⟨j,hj,e⟩:=this
   exact ih j hj (e.trans h)
theorem qD{b:Bt}{ss:List Str}{x:Str}(hx:x∈ss)(h:some x∈b):some x∈bq b ss:=by
 obtain⟨i,hi,e⟩:=aR.mp h
 obtain⟨k,hk,fk⟩:=GD (i:=i) (by rw[aa hi,e])
 obtain⟨w,hw,pk⟩:=tu (ns:=ss) hk
 rw[pk.1 ⟨aD.mpr ⟨x,hx,rfl⟩,fk⟩] at hw
 exact aC hw
theorem Cb{a b:Bt}(hl:a.length=b.length)(h:∀(i:Nat) x,a[i]?=some (some x)↔b[i]?=some (some x)):a=b:=by
 refine List.ext_getElem hl λi h1 h2=>?_
 have e1:a[i]?=some a[i]:=aa h1
 have e2:b[i]?=some b[i]:=aa h2
 cases ea:a[i] with
 |some x=>
  rw[ea] at e1
  have:=(h i x).mp e1
  rw[e2] at this
  exact(Option.some.inj this).symm
 |none=>
  cases eb:b[i] with
  |none=>rfl
  |some x=>
   rw[eb] at e2
   have:=(h i x).mpr e2
   rw[e1,ea] at this
   cases this
theorem EO{b:Bt}(x:Str)(h:b≠[]):(jj b x)[0]?=some (some x):=by
 cases b with
 |nil=>exact absurd rfl h
 |cons o r=>rfl
theorem JA(b:Bt)(x:Str)(k:Nat)(h:k+1<b.length):(jj b x)[k+1]?=(b[k]?).map (Bg.blank x):=by
 unfold jj qu
 rw[jx,if_pos (by rw[af];exact h),List.getElem?_cons_succ,aH]
theorem fK{b:Bt}{x z:Str}{k:Nat}(ne:b≠[]):(jj b x)[k]?=some (some z)↔(k=0/\z=x)\/∃j,k=j+1/\j+1<b.length/\b[j]?=some (some z)/\z≠x:=by
 cases k with
 |zero=>
  rw[EO x ne]
  constructor
  ·intro h;exact .inl ⟨rfl,by injection h with h;injection h with h;exact h.symm⟩
  ·rintro(⟨_,rfl⟩|⟨j,e,_⟩)
   ·rfl
   ·cases e
 |succ j=>
  by_cases hj:j+1<b.length
  ·rw[JA b x j hj,aa (show j<b.length by lia)]
   constructor
   ·intro h
    have h:Bg.blank x b[j]=some z:=Option.some.inj h
    unfold Bg.blank at h
    by_cases c:b[j]=some x
    ·rw[if_pos c] at h;cases h
    ·rw[if_neg c] at h
     exact .inr ⟨j,rfl,hj,by rw[aa (show j<b.length by lia),h],λe=>c (by rw[h,e])⟩
   ·rintro(⟨e,_⟩|⟨j',e,_,h,n⟩)
    ·cases e
    ·cases e
     rw[aa (show j<b.length by lia)] at h
     have h:b[j]=some z:=Option.some.inj h
     show some (Bg.blank x b[j])=_
     unfold Bg.blank
     rw[h,if_neg λe=>n (Option.some.inj e)]
  ·constructor
   ·intro h
    have:=(ae.mp h).1
    rw[iP] at this
    exact absurd this hj
   ·rintro(⟨e,_⟩|⟨j',e,h,_⟩)
    ·cases e
    ·cases e;exact absurd h hj
theorem eI{b:Bt}{ss:List Str}{i:Nat}{x:Str}:(bq b ss)[i]?=some (some x)↔b[i]?=some (some x)/\(∀j,j<i->b[j]?≠some (some x))/\x∈ss:=by
 constructor
 ·intro h
  obtain⟨h1,h2,h3⟩:=yU h
  exact⟨h1,λj hj e=>h2 j hj (e.trans h1.symm),h3⟩
 ·rintro⟨h1,h2,h3⟩
  obtain⟨w,hw,pk⟩:=tu (ns:=ss) h1
  rw[hw,pk.1 ⟨aD.mpr ⟨x,h3,rfl⟩,λj hj e=>h2 j hj (e.trans h1)⟩]
theorem rK{b:Bt}{ss:List Str}{k:Nat}{y z:Str}(ne:b≠[]):(bq (jj b y) ss)[k]?=some (some z)↔z∈ss/\((k=0/\z=y)\/∃j,k=j+1/\j+1<b.length/\b[j]?=some (some z)/\z≠y/\∀i,i<j->b[i]?≠some (some z)):=by
 rw[eI,fK ne]
 constructor
 ·rintro⟨h1,h2,h3⟩
  refine⟨h3,?_⟩
  rcases h1 with h1|⟨j,rfl,hj,h1,n⟩
  ·exact .inl h1
  ·exact .inr ⟨j,rfl,hj,h1,n,λi hi e=>h2 (i+1) (by lia) ((fK ne).mpr (.inr ⟨i,rfl,by lia,e,n⟩))⟩
 ·rintro⟨h3,h1⟩
  rcases h1 with⟨rfl,rfl⟩|⟨j,rfl,hj,h1,n,f⟩
  ·exact⟨.inl ⟨rfl,rfl⟩,λj hj=>absurd hj (dv _),h3⟩
  ·refine⟨.inr ⟨j,rfl,hj,h1,n⟩,λi hi e=>?_,h3⟩
   rcases(fK ne).mp e with⟨_,e⟩|⟨i',rfl,_,e,_⟩
   ·exact n e
   ·exact f i' (by lia) e
theorem Fk{B:Bt}{ss ss':List Str}(sub:∀z∈ss',z∈ss):bq (bq B ss) ss'=bq B ss':=by
 refine Cb (by simp only[dE]) λi x=>?_
 rw[eI,eI,eI]
 constructor
 ·rintro⟨⟨h1,h2,h3⟩,h4,h5⟩
  exact⟨h1,h2,h5⟩
 ·rintro⟨h1,h2,h5⟩
  exact⟨⟨h1,h2,sub _ h5⟩,λj hj e=>h2 j hj (eI.mp e).1,h5⟩
theorem uT{B:Bt}{ss ss':List Str}{y:Str}(ne:B≠[])(sub:∀z∈ss',z≠y->z∈ss):bq (jj (bq B ss) y) ss'=bq (jj B y) ss':=by
 have ne':bq B ss≠[]:=λz=>ne (bD.mp (by rw[<-dE B ss,z];rfl))
 refine Cb (by simp only[dE,iP]) λi x=>?_
 rw[rK ne',rK ne,dE]
 constructor
 ·rintro⟨h1,h2|⟨j,e,hj,h2,n,f⟩⟩
  ·exact⟨h1,.inl h2⟩
  ·obtain⟨a,b,c⟩:=eI.mp h2
   exact⟨h1,.inr ⟨j,e,hj,a,n,b⟩⟩
 ·rintro⟨h1,h2|⟨j,e,hj,h2,n,f⟩⟩
  ·exact⟨h1,.inl h2⟩
  ·exact⟨h1,.inr ⟨j,e,hj,eI.mpr ⟨h2,f,sub x h1 n⟩,n,λi hi z=>f i hi (eI.mp z).1⟩⟩
def M5(B:Bt)(p:Nat):Bt:=(B[p]?).getD none::B.dropLast
theorem JX{B:Bt}(ne:B≠[])(p:Nat):(M5 B p).length=B.length:=by
 have:=dN.mpr ne
 unfold M5
 rw[bf,cY];lia
theorem tm{B:Bt}{p k:Nat}{x z:Str}(hp:B[p]?=some (some x)):(M5 B p)[k]?=some (some z)↔(k=0/\z=x)\/∃j,k=j+1/\j+1<B.length/\B[j]?=some (some z):=by
 unfold M5
 rw[hp]
 cases k with
 |zero=>
  constructor
  ·intro h;exact .inl ⟨rfl,by injection h with h;injection h with h;exact h.symm⟩
  ·rintro(⟨_,rfl⟩|⟨j,e,_⟩)
   ·rfl
   ·cases e
 |succ j=>
  rw[List.getElem?_cons_succ,List.getElem?_dropLast]
  constructor
  ·intro h
   by_cases c:j<B.length-1
   ·rw[if_pos c] at h
    exact .inr ⟨j,rfl,by lia,h⟩
   ·rw[if_neg c] at h;cases h
  ·rintro(⟨e,_⟩|⟨j',e,hj,h⟩)
   ·cases e
   ·cases e
    rw[if_pos (by lia)];exact h
theorem KW{B:Bt}{ss:List Str}{p:Nat}{x:Str}(hp:B[p]?=some (some x))(hx:x∈ss):bq (M5 B p) ss=jj (bq B ss) x:=by
 have ne:B≠[]:=λz=>by rw[z] at hp;simp at hp
 have ne':bq B ss≠[]:=λz=>ne (bD.mp (by rw[<-dE B ss,z];rfl))
 refine Cb (by rw[dE,JX ne,iP,dE]) λi z=>?_
 rw[eI,tm hp,fK ne',dE]
 constructor
 ·rintro⟨h1|⟨j,rfl,hj,h1⟩,h2,h3⟩
  ·exact .inl h1
  ·refine .inr ⟨j,rfl,hj,eI.mpr ⟨h1,λi hi e=>h2 (i+1) (by lia) ((tm hp).mpr (.inr ⟨i,rfl,by lia,e⟩)),h3⟩,λe=>h2 0 (by lia) ((tm hp).mpr (.inl ⟨rfl,e⟩))⟩
 ·rintro(⟨rfl,rfl⟩|⟨j,rfl,hj,h1,n⟩)
  ·exact⟨.inl ⟨rfl,rfl⟩,λj hj=>absurd hj (dv _),hx⟩
  ·obtain⟨a,b,c⟩:=eI.mp h1
   refine⟨.inr ⟨j,rfl,hj,a⟩,λi hi e=>?_,c⟩
   rcases(tm hp).mp e with⟨_,e⟩|⟨i',rfl,_,e⟩
   ·exact n e
   ·exact b i' (by lia) e
theorem A7{B:Bt}{ss:List Str}{z:Str}(h:some z∈bq B ss):some z∈B:=by
 obtain⟨i,hi,e⟩:=aR.mp h
 exact aC (eI.mp (by rw[aa hi,e])).1
theorem L7{b:Bt}{i:Nat}(hi:i∈mI b){z:Str}(hz:some z∈b):some z∈nB b i:=by
 obtain⟨x,hx⟩:=qr hi
 have ne:b≠[]:=λe=>by rw[e] at hz;cases hz
 rw[rA hx]
 obtain⟨k,hk,e⟩:=aR.mp hz
 have ek:b[k]?=some (some z):=by rw[aa hk,e]
 by_cases c:z=x
 ·exact aC ((fK (k:=0) ne).mpr (.inl ⟨rfl,c⟩))
 ·refine aC ((fK (k:=k+1) ne).mpr (.inr ⟨k,rfl,?_,ek,c⟩))
  apply Classical.byContradiction
  intro nk
  have kl:k=b.length-1:=by lia
  rw[kl] at ek
  rw[qp ek] at hi
  rw[aj.mp hi,ek] at hx
  exact c (Option.some.inj (Option.some.inj hx))
theorem Nv{b:Bt}{i:Nat}(hi:i∈mI b)(u:Uq b):Uq (nB b i):=by
 obtain⟨x,hx⟩:=qr hi
 have ne:b≠[]:=λe=>by rw[e] at hx;simp at hx
 rw[rA hx]
 intro j k z h1 h2
 rcases(fK ne).mp h1 with⟨rfl,e⟩|⟨j,rfl,_,h1,n1⟩
 ·rcases(fK ne).mp h2 with⟨rfl,e⟩|⟨k,rfl,_,h2,n2⟩
  ·rfl
  ·exact absurd e n2
 ·rcases(fK ne).mp h2 with⟨rfl,e⟩|⟨k,rfl,_,h2,n2⟩
  ·exact absurd e n1
  ·rw[u j k z h1 h2]
theorem vD:∀(m:Nat) (l1 l2:Bt) (o:Option Str),l2.length=m->(∀q∈l2,q.isSome=true)->Uq (l1++o::l2)->∃ps,dI (l1++o::l2) ps/\iB (l1++o::l2) ps=l2++l1++[o]
 |0,l1,l2,o,hm,_,_=>by
  have:l2=[]:=bD.mp hm
  subst this
  exact⟨[],trivial,by simp[iB]⟩
 |m+1,l1,l2,o,hm,hs,u=>by
  have ne:l2≠[]:=λz=>by rw[z] at hm;cases hm
  obtain⟨d,q,rfl⟩:∃d q,l2=d++[q]:=⟨l2.dropLast,l2.getLast ne,(cD ne).symm⟩
  obtain⟨y,rfl⟩:∃y,q=some y:=dC.mp (hs q (by simp))
  have e:l1++o::(d++[some y])=(l1++o::d)++[some y]:=by simp
  rw[e] at u ⊢
  obtain⟨r1,r2⟩:=rot u
  have u2:=u.rot
  obtain⟨ps,h1,h2⟩:=vD m (some y::l1) d o (by rw[ai] at hm;simpa using hm) (λq hq=>hs q (by simp[hq])) u2
  refine⟨(l1++o::d).length::ps,⟨by rw[r1];exact aj.mpr rfl,by rw[r2];exact h1⟩,?_⟩
  show iB (nB _ _) ps=_
  rw[r2]
  have h2:iB (some y::(l1++o::d)) ps=d++(some y::l1)++[o]:=h2
  rw[h2];simp
structure BX(n:Nat)(ws:List Wk)(pss:List (List Str)):Prop where
 len:∀ss∈pss,ss.length<=n
 mid:∀(k:Nat) w y ss,ws[k]?=some w->w.out=some y->pss[k+1]?=some ss->(ss.filter λz=>!decide (some y=some z)).length+1<=n
theorem zT{n:Nat}{ws:List Wk}{pss:List (List Str)}(pl:pss.length=ws.length+1):∀(f k:Nat),f+k=ws.length+1->(BF (n:Nat) ws pss f k=none↔(∀(j:Nat) ss,k<=j->pss[j]?=some ss->ss.length<=n)/\∀(j:Nat) w y ss,k<=j->ws[j]?=some w->w.out=some y->pss[j+1]?=some ss->(ss.filter λz=>!decide (some y=some z)).length+1<=n)
 |0,k,h=>by
  refine⟨λ_=>⟨λj ss hj e=>?_,λj w y ss hj e=>?_⟩,λ_=>rfl⟩
  ·have:=(ae.mp e).1;lia
  ·have:=(ae.mp e).1;lia
 |f+1,k,h=>by
  have ih:=zT (n:=n) (ws:=ws) (pss:=pss) pl f (k+1) (by lia)
  have ek:pss[k]?=some (pss[k]'(by lia)):=aa _
  generalize pss[k]'(by lia)=s0 at ek
  have gk:pss.getD k []=s0:=by rw[bU,ek];rfl
  unfold BF
  rw[gk]
  by_cases c:(n:Int)<(s0.length:Int)
  ·rw[if_pos c]
   refine⟨(λz=>by cases z),λz=>?_⟩
   have:=z.1 k s0 (aw _) ek
   lia
  ·rw[if_neg c]
   have fst:∀(P:Nat->List Str->Prop),(∀(j:Nat) ss,k+1<=j->pss[j]?=some ss->ss.length<=n)->∀(j:Nat) ss,k<=j->pss[j]?=some ss->ss.length<=n:=λ_ hh j ss hj e=>by
    by_cases q:j=k
    ·subst q;rw[ek] at e;cases e;lia
    ·exact hh j ss (by lia) e
   cases hw:(ws[k]?).bind (·.out) with
   |none=>
    rw[ih]
    refine⟨λz=>⟨fst (λ_ _=>True) z.1,λj w y ss hj a b d=>?_⟩,λz=>⟨λj ss hj e=>z.1 j ss (by lia) e,λj w y ss hj a b d=>z.2 j w y ss (by lia) a b d⟩⟩
    by_cases q:j=k
    ·subst q;rw[a] at hw;have hw:w.out=none:=hw;rw[b] at hw;cases hw
    ·exact z.2 j w y ss (by lia) a b d
   |some y=>
    obtain⟨w,ew,eo⟩:=Option.bind_eq_some_iff.mp hw
    have kl:k<ws.length:=(ae.mp ew).1
    have e1:pss[k+1]?=some (pss[k+1]'(by lia)):=aa _
    generalize pss[k+1]'(by lia)=s1 at e1
    have g1:pss.getD (k+1) []=s1:=by rw[bU,e1];rfl
    dsimp only
    rw[g1]
    by_cases c2:(n:Int)-1<(((s1.filter λz=>!decide (some y=some z)).length:Nat):Int)
    ·rw[if_pos c2]
     refine⟨(λz=>by cases z),λz=>?_⟩
     have:=z.2 k w y s1 (aw _) ew eo e1
     lia
    ·rw[if_neg c2,ih]
     refine⟨λz=>⟨fst (λ_ _=>True) z.1,λj w' y' ss hj a b d=>?_⟩,λz=>⟨λj ss hj e=>z.1 j ss (by lia) e,λj w y ss hj a b d=>z.2 j w y ss (by lia) a b d⟩⟩
     by_cases q:j=k
     ·subst q
      rw[ew] at a;cases a;rw[eo] at b;cases b;rw[e1] at d;cases d;lia
     ·exact z.2 j w' y' ss (by lia) a b d
theorem zS{n:Nat}{ws:List Wk}{pss:List (List Str)}(pl:pss.length=ws.length+1):BF (n:Nat) ws pss (ws.length+1) 0=none↔BX n ws pss:=by
 rw[zT pl (ws.length+1) 0 rfl]
 constructor
 ·rintro⟨a,b⟩
  refine⟨λss hs=>?_,λk w y ss=>b k w y ss (a8 _)⟩
  obtain⟨k,hk⟩:=List.mem_iff_getElem?.mp hs
  exact a k ss (a8 _) hk
 ·intro h
  exact⟨λj ss _ e=>h.len ss (aC e),λj w y ss _=>h.mid j w y ss⟩
theorem rj.ins{last:List Str}{ws:List Wk}{pss:List (List Str)}(h:rj last ws pss){k:Nat}{w:Wk}{ss:List Str}(hw:ws[k]?=some w)(hs:pss[k]?=some ss):∀z∈w.ins,z∈ss:=λz hz=>by
 have kl:=(ae.mp hw).1
 rw[(h.at_ k ss hs).mem,cy kl,(ae.mp hw).2]
 show(decide (z∈w.ins) || _)=true
 rw[decide_eq_true hz];rfl
theorem rj.thru{last:List Str}{ws:List Wk}{pss:List (List Str)}(h:rj last ws pss){k:Nat}{w:Wk}{ss ss':List Str}(hw:ws[k]?=some w)(hs:pss[k]?=some ss)(hs':pss[k+1]?=some ss'):∀z∈ss',w.out≠some z->z∈ss:=λz hz ho=>by
 have kl:=(ae.mp hw).1
 rw[(h.at_ k ss hs).mem,cy kl,(ae.mp hw).2]
 show(decide (z∈w.ins) || (!decide (w.out=some z)&&wn last (ws.drop (k+1)) z))=true
 rw[decide_eq_false ho,(((h.at_ (k+1) ss' hs').mem z).mp hz)]
 simp
structure ED(n:Nat)(ss:List Str)(b:Bt):Prop where
 inn:kQ n ss b
 uq:Uq b
 has:∀z∈ss,some z∈b
theorem ED.kt{n:Nat}{ss:List Str}{b:Bt}(h:ED n ss b){i:Nat}(hi:i∈mI b):ED n ss (nB b i):=⟨h.inn.kt hi,Nv hi h.uq,λz hz=>L7 hi (h.has z hz)⟩
theorem mr.ful{n:Nat}{ss:List Str}{ebs ks:List Bt}(t:mr n ss ebs ks)(h:∀b∈ebs,ED n ss b):∀b∈ks,ED n ss b:=t.ind (ED n ss) h λb hb c hc=>by
 obtain⟨i,hi,rfl⟩:=aD.mp hc
 exact hb.kt hi
theorem qC{n:Nat}{ss:List Str}{B:Bt}(l:B.length=n)(h:∀z∈ss,some z∈B):ED n ss (bq B ss):=by
 refine⟨⟨by rw[dE];exact l,λx hx=>?_⟩,KY B ss,λz hz=>qD hz (h z hz)⟩
 obtain⟨i,hi,e⟩:=aR.mp hx
 exact(eI.mp (by rw[aa hi,e])).2.2
theorem ny{b:Bt}{ss:List Str}:jH b ss=true↔∀z∈ss,some z∈b:=by
 unfold jH
 rw[dX]
 exact⟨λh z hz=>of_decide_eq_true (h z hz),λh z hz=>decide_eq_true (h z hz)⟩
theorem EB{n:Nat}{ss:List Str}{b:Bt}{x:Option Str}(l:b.length=n)(h:jH (iZ b x ss) ss=true):ED n ss (iZ b x ss):=by
 have h:=ny.mp h
 unfold iZ at h ⊢
 refine qC ?_ λz hz=>A7 (h z hz)
 cases x with
 |none=>exact l
 |some y=>rw[iP];exact l
theorem Cm.ful{n:Nat}{b0:Bt}{ws:List Wk}{pss:List (List Str)}{kss:List (List Bt)}(cm:Cm n b0 ws pss kss)(pl:pss.length=ws.length+1)(l0:b0.length=n)(h0:∀ss,pss[0]?=some ss->∀z∈ss,some z∈b0):∀(k:Nat) ks ss,kss[k]?=some ks->pss[k]?=some ss->∀b∈ks,ED n ss b
 |0,ks,ss,hk,hs=>(cm.fst ks ss hk hs).ful λb hb=>by
  rw[aj.mp hb]
  exact qC l0 (h0 ss hs)
 |k+1,ks,ss,hk,hs=>by
  have kl:=(ae.mp hk).1
  have cl:=cm.len
  have h1:kss[k]?=some (kss[k]'(by lia)):=aa _
  have h2:ws[k]?=some (ws[k]'(by lia)):=aa _
  have h3:pss[k]?=some (pss[k]'(by lia)):=aa _
  refine(cm.nxt k _ ks _ ss h1 hk h2 hs).ful λb hb=>?_
  obtain⟨hb1,hb2⟩:=a9.mp hb
  obtain⟨c,hc,rfl⟩:=aD.mp hb1
  exact EB (Cm.ful cm pl l0 h0 k _ _ h1 h3 c hc).inn.len hb2
theorem ED.ready{n:Nat}{ss ss':List Str}{b:Bt}{x:Option Str}(f:ED n ss b)(pos:1<=n)(thru:∀z∈ss',x≠some z->z∈ss)(room:∀y,x=some y->(ss'.filter λz=>!decide (some y=some z)).length+1<=n):∃ps,dI b ps/\jH (iZ (iB b ps) x ss') ss'=true:=by
 cases x with
 |none=>exact⟨[],trivial,ny.mpr λz hz=>qD hz (f.has z (thru z hz (λe=>by cases e)))⟩
 |some y=>
  have room:=room y rfl
  generalize hrs:ss'.filter (λz=>!decide (some y=some z))=rs at room
  have rsm:∀z,z∈rs↔z∈ss'/\z≠y:=λz=>by
   rw[<-hrs,a9]
   constructor
   ·rintro⟨a,c⟩;exact⟨a,λe=>by rw[e] at c;simp at c⟩
   ·rintro⟨a,c⟩;exact⟨a,by simp;exact λe=>c e.symm⟩
  have split:∀(m:Nat),m<=b.length->(∃l1 o l2,b=l1++o::l2/\(∀q∈l2,∃z,q=some z/\z∈rs)/\∀z,o=some z->z∉rs)\/∃l1 l2,b=l1++l2/\l2.length=m/\∀q∈l2,∃z,q=some z/\z∈rs:=by
   intro m
   induction m with
   |zero=>exact λ_=>.inr ⟨b,[],by simp,rfl,λq hq=>by cases hq⟩
   |succ m ih=>
    intro hm
    rcases ih (by lia) with h|⟨l1,l2,e,hl,hq⟩
    ·exact .inl h
    ·have ne:l1≠[]:=λz=>by rw[e,z] at hm;simp at hm;lia
     obtain⟨d,o,rfl⟩:∃d o,l1=d++[o]:=⟨l1.dropLast,l1.getLast ne,(cD ne).symm⟩
     by_cases c:∃z,o=some z/\z∈rs
     ·refine .inr ⟨d,o::l2,by rw[e];simp,by rw[bf,hl],λq hq'=>?_⟩
      rcases aM.mp hq' with rfl|hq'
      ·exact c
      ·exact hq q hq'
     ·exact .inl ⟨d,o,l2,by rw[e];simp,hq,λz e2 hz=>c ⟨z,e2,hz⟩⟩
  rcases split b.length (aw _) with⟨l1,o,l2,e,hq,ho⟩|⟨l1,l2,e,hl,hq⟩
  ·have uq:=f.uq
   rw[e] at uq
   obtain⟨ps,h1,h2⟩:=vD _ l1 l2 o rfl (λq hq'=>by obtain⟨z,rfl,_⟩:=hq q hq';rfl) uq
   rw[<-e] at h1 h2
   refine⟨ps,h1,ny.mpr λz hz=>qD hz ?_⟩
   rw[h2]
   dsimp only
   have ne:l2++l1++[o]≠[]:=by simp
   by_cases c:z=y
   ·exact aC ((fK (k:=0) ne).mpr (.inl ⟨rfl,c⟩))
   ·have hb:=f.has z (thru z hz λe=>c (Option.some.inj e).symm)
    rw[e] at hb
    have:some z∈l2++l1:=by
     rcases ax.mp hb with h|h
     ·exact ax.mpr (.inr h)
     ·rcases aM.mp h with h|h
      ·exact absurd ((rsm z).mpr ⟨hz,c⟩) (ho z h.symm)
      ·exact ax.mpr (.inl h)
    obtain⟨j,hj,ej⟩:=aR.mp this
    refine aC ((fK (k:=j+1) ne).mpr (.inr ⟨j,rfl,by rw[ai,aI];lia,?_,c⟩))
    rw[av hj,aa hj,ej]
  ·-- each place would hold another name that is wanted behind
   exfalso
   have:l1=[]:=bD.mp (by have:=congrArg gH e;rw[ai,hl] at this;lia)
   subst this
   have e:b=l2:=e
   subst e
   have nd:(b.map λq=>q.getD "").Nodup:=by
    refine fX.mpr λi j hi hj hij=>?_
    rw[af] at hi hj
    rw[List.getElem_map,List.getElem_map]
    obtain⟨z1,e1,_⟩:=hq b[i] (cf _)
    obtain⟨z2,e2,_⟩:=hq b[j] (cf _)
    rw[e1,e2]
    intro z
    have z:z1=z2:=z
    have:=f.uq i j z1 (by rw[aa hi,e1]) (by rw[aa hj,e2,z])
    lia
   have:=iz (zs:=rs) nd λz hz=>by
    obtain⟨q,hq',rfl⟩:=aD.mp hz
    obtain⟨z,rfl,hz2⟩:=hq q hq'
    exact hz2
   rw[af,f.inn.len] at this
   lia
theorem Cm.cl{n:Nat}{b0:Bt}{ws:List Wk}{pss:List (List Str)}{kss:List (List Bt)}(cm:Cm n b0 ws pss kss)(pl:pss.length=ws.length+1):∀(k:Nat) ks,kss[k]?=some ks->∀b∈ks,∀c∈kts b,c∈ks:=λk ks hk=>by
 have kl:=(ae.mp hk).1
 have cl:=cm.len
 cases k with
 |zero=>
  have h3:pss[0]?=some (pss[0]'(by lia)):=aa _
  exact(cm.fst ks _ hk h3).cl
 |succ k=>
  have h1:kss[k]?=some (kss[k]'(by lia)):=aa _
  have h2:ws[k]?=some (ws[k]'(by lia)):=aa _
  have h3:pss[k+1]?=some (pss[k+1]'(by lia)):=aa _
  exact(cm.nxt k _ ks _ _ h1 hk h2 h3).cl
theorem p7.all{n:Nat}{b0:Bt}{ws:List Wk}{last:List Str}{pss:List (List Str)}{kss:List (List Bt)}{ts:List (List (Bt×Nat))}(tb:p7 n b0 ws pss (aV n none) kss ts)(pts:rj last ws pss)(wd:BX n ws pss)(pos:1<=n)(l0:b0.length=n)(h0:∀ss,pss[0]?=some ss->∀z∈ss,some z∈b0):∀(f k:Nat),f+k=ws.length->∀ks t,kss[k]?=some ks->ts[k]?=some t->∀b∈ks,∃m,(b,m)∈t
 |0,k,hf,ks,t,hk,ht=>λb hb=>by
  have:k=ws.length:=by lia
  subst this
  obtain⟨t0,sp,st⟩:=tb.fin ks t hk ht
  have pl:=pts.len
  have h3:pss[ws.length]?=some (pss[ws.length]'(by lia)):=aa _
  have fu:=tb.cm.ful pl l0 h0 _ ks _ hk h3 b hb
  obtain⟨m,_,hm⟩:=sp.s1 b 0 ((st b 0).mpr ⟨hb,by rw[<-fu.inn.len];exact vE b,rfl⟩)
  exact⟨m,hm⟩
 |f+1,k,hf,ks,t,hk,ht=>λb hb=>by
  have pl:=pts.len
  have kl:=tb.cm.len
  have tl:=tb.len
  have h1:kss[k+1]?=some (kss[k+1]'(by lia)):=aa _
  have h2:ws[k]?=some (ws[k]'(by lia)):=aa _
  have h3:pss[k]?=some (pss[k]'(by lia)):=aa _
  have h4:pss[k+1]?=some (pss[k+1]'(by lia)):=aa _
  have h5:ts[k+1]?=some (ts[k+1]'(by lia)):=aa _
  generalize kss[k+1]'(by lia)=ks' at h1
  generalize ws[k]'(by lia)=w at h2
  generalize pss[k]'(by lia)=ss at h3
  generalize pss[k+1]'(by lia)=ss' at h4
  generalize ts[k+1]'(by lia)=t' at h5
  have fu:=tb.cm.ful pl l0 h0 _ ks _ hk h3 b hb
  obtain⟨ps,ok,hh⟩:=fu.ready (x:=w.out) (ss':=ss') pos (pts.thru h2 h3 h4) λy ey=>wd.mid k w y ss' h2 ey h4
  obtain⟨t0,sp,st⟩:=tb.mid k ks t t' w ss' hk ht h5 h2 h4
  have cl:=tb.cm.cl pl k ks hk
  have rin:∀{ps:List Nat} {b:Bt},b∈ks->dI b ps->iB b ps∈ks:=λ{ps}=>by
   induction ps with
   |nil=>exact λh _=>h
   |cons p r ih=>exact λ{b} h ok=>ih (b:=nB b p) (cl b h _ (aD.mpr ⟨p,ok.1,rfl⟩)) ok.2
  have hr:=rin hb ok
  have hw:iZ (iB b ps) w.out ss'∈ks':=(tb.cm.nxt k ks ks' w ss' hk h1 h2 h4).ent _ (a9.mpr ⟨aD.mpr ⟨_,hr,rfl⟩,hh⟩)
  obtain⟨m,hm⟩:=p7.all tb pts wd pos l0 h0 f (k+1) (by lia) ks' t' h1 h5 _ hw
  obtain⟨m',_,hm'⟩:=sp.start cl hb ok ((st _ _).mpr ⟨hr,hm⟩)
  exact⟨m',hm'⟩
def zN(B:Bt):Option Str->Bt
 |none=>B
 |some y=>jj B y
theorem Gi{B:Bt}{ss ss':List Str}{x:Option Str}(ne:B≠[])(thru:∀z∈ss',x≠some z->z∈ss):bq (zN B x) ss'=iZ (bq B ss) x ss':=by
 cases x with
 |none=>exact(Fk λz hz=>thru z hz λe=>by cases e).symm
 |some y=>exact(uT ne λz hz nz=>thru z hz λe=>nz (Option.some.inj e).symm).symm
theorem yf(B:Bt)(x:Option Str):(zN B x).length=B.length:=by
 cases x with
 |none=>rfl
 |some y=>exact iP B y
theorem Ba{ks:List Bt}(cl:∀b∈ks,∀c∈kts b,c∈ks):∀{ps:List Nat} {b:Bt},b∈ks->dI b ps->iB b ps∈ks
 |[],b,h,_=>h
 |p::r,b,h,ok=>Ba cl (ps:=r) (cl b h _ (aD.mpr ⟨p,ok.1,rfl⟩)) ok.2
def rM(K:Fg):Sp:=λvs H Q _=>∃(st:Addr) (k:Nat),vs=[.ref st]/\ma K H st k/\k<=900000/\∀(n:Nat) (H':Hp),1<=n->n<=5->ma K H' st (k+1)->iY st H H'->Q (.int (n:Nat)) H'
def uY(K:Fg):Sp:=λvs H Q _=>∃(st nd nm:Addr) (n k:Nat) (ss ys:List Str),vs=[.ref st,.int (n:Nat),.ref nd,.ref nm]/\ma K H st k/\k<=500000/\nm≠st/\H nm=some (.lst (ys.map V.str))/\ys.length<=20/\H nd=some (.tup (ss.map V.str))/\ss.length<=n/\n<=5/\
 ∀(bp:Addr) (B:Bt) (k':Nat) (H':Hp),H' bp=some (.tup (cw B))->B.length=n->(∀z∈ss,some z∈B)->ma K H' st k'->k'<=k+20->iY st H H'->Q (.ref bp) H'
def hU(_:Fg):Sp:=λvs H Q _=>∃(bp:Addr) (B:Bt) (x:Option Str),vs=[.ref bp,gB x]/\H bp=some (.tup (cw B))/\B≠[]/\B.length<=10/\∀(r:Addr) (H':Hp),H' r=some (.tup (cw (zN B x)))->aJ H H'->Q (.ref r) H'
abbrev GV:Nat:=1
abbrev FU:Nat:=2
abbrev JS:Nat:=2
abbrev Jn:Nat:=3
abbrev vW:Nat:=0
abbrev vH:Nat:=1
theorem p7.nd{n:Nat}{b0 ord:Bt}{ws:List Wk}{pss:List (List Str)}{kss:List (List Bt)}{ts:List (List (Bt×Nat))}(tb:p7 n b0 ws pss ord kss ts)(pl:pss.length=ws.length+1){k:Nat}{t:List (Bt×Nat)}(h:ts[k]?=some t):(t.map (·.1)).Nodup/\∀ks,kss[k]?=some ks->∀b m,(b,m)∈t->b∈ks:=by
 have kl:=tb.cm.len
 have tl:=tb.len
 have kk:k<ts.length:=(ae.mp h).1
 have hk:kss[k]?=some (kss[k]'(by lia)):=aa _
 by_cases c:k=ws.length
 ·subst c
  obtain⟨t0,sp,_⟩:=tb.fin _ t hk h
  exact⟨sp.nd,λks e=>by rw[hk] at e;cases e;exact sp.sub⟩
 ·have h1:ts[k+1]?=some (ts[k+1]'(by lia)):=aa _
  have h2:ws[k]?=some (ws[k]'(by lia)):=aa _
  have h3:pss[k+1]?=some (pss[k+1]'(by lia)):=aa _
  obtain⟨t0,sp,_⟩:=tb.mid k _ t _ _ _ hk h h1 h2 h3
  exact⟨sp.nd,λks e=>by rw[hk] at e;cases e;exact sp.sub⟩
theorem JM{n:Nat}{B:Bt}{ws:List Wk}{last:List Str}{pss:List (List Str)}(P:rj last ws pss)(wd:BX n ws pss)(n1:1<=n)(n5:n<=5)(l0:B.length=n)(h0:∀ss,pss[0]?=some ss->∀z∈ss,some z∈B) :
  (∀pss,rj last ws pss->∀ss∈pss,Jk n ss)/\(∀pss kss ts,rj last ws pss->p7 n B ws pss (aV n none) kss ts->∀(k:Nat) ks t,kss[k]?=some ks->ts[k]?=some t->∀b∈ks,∃m,(b,m)∈t):=by
 refine⟨λpss' P' ss hs=>?_,λpss' kss ts P' tb k ks t hk ht b hb=>?_⟩
 ·cases P'.one P
  have:=wd.len ss hs
  exact⟨n1,n5,by lia⟩
 ·cases P'.one P
  have:=(ae.mp hk).1
  have:=tb.cm.len
  exact tb.all P wd n1 l0 h0 (ws.length-k) k (by lia) ks t hk ht b hb
end Bg
end
section
namespace L2
open PySem PySem.Spec PyProof.Rows
abbrev KP:=b8×List b8
def vP(H:Hp)(p:Addr)(k:KP):Prop:=∃b,H p=some (.tup [kN k.1,.ref b])/\H b=some (.tup (k.2.map kN))
theorem vP.tp{H H':Hp}{p:Addr}{k:KP}(h:vP H p k)(t:∀b xs,H b=some (.tup xs)->H' b=some (.tup xs)):vP H' p k:=let⟨b,h1,h2⟩:=h;⟨b,t _ _ h1,t _ _ h2⟩
abbrev BJ(H:Hp):List (KP×V)->List (KP×Addr×Value)->Prop:=Paired λp q=>p.1=q.1/\(∃b,H q.2.1=some (.tup [kN p.1.1,.ref b])/\H b=some (.tup (p.1.2.map kN)))/\b7 p.2 q.2.2
theorem BJ.val{H:Hp}{kvs:List (KP×V)}{xs:List (KP×Addr×Value)}(r:BJ H kvs xs)(k:KP):nN (cW kvs k) ((atKey xs k).map (·.2)):=by
 induction r with
 |nil=>exact True.intro
 |@cons p q ps qs h t ih=>
  obtain⟨h1,_,h2⟩:=h
  by_cases e:p.1=k
  ·have e':q.1=k:=h1.symm.trans e
   have b:atKey (q::qs) k=some q.2:=by simp[atKey,cS,e']
   rw[fV e,b];exact h2
  ·have e':¬q.1=k:=λz=>e (h1.trans z)
   have b:atKey (q::qs) k=atKey qs k:=by simp[atKey,cS,e']
   rw[fU e,b];exact ih
theorem BJ.repl{H:Hp}{kvs:List (KP×V)}{xs:List (KP×Addr×Value)}(r:BJ H kvs xs)(k:KP){y:V}{u:Value}(ry:b7 y u) :
  BJ H (kvs.map λkv=>if kv.1=k then(kv.1,y) else kv) (xs.map (putAt k u)):=by
 induction r with
 |nil=>exact .nil
 |@cons p q ps qs h t ih=>
  rw[bz,bz]
  refine .cons ?_ ih
  obtain⟨h1,h2,h3⟩:=h
  unfold putAt
  by_cases e:p.1=k
  ·rw[if_pos e,if_pos (h1.symm.trans e)];exact⟨h1,h2,ry⟩
  ·rw[if_neg e,if_neg (λz=>e (h1.trans z))];exact⟨h1,h2,h3⟩
theorem BJ.put{H:Hp}{kvs:List (KP×V)}{xs:List (KP×Addr×Value)}(r:BJ H kvs xs)(k:KP){b:Addr}{y:V}{u:Value}(hb:vP H b k)(ry:b7 y u) :
  BJ H (iU kvs k y) (storedH xs k b u):=by
 have e:(kvs.any λkv=>decide (kv.1=k))=(atKey xs k).isSome:=by
  rw[kL,(r.val k).isSome_eq,fA]
 unfold iU storedH
 rw[e]
 by_cases q:(atKey xs k).isSome=true
 ·rw[if_pos q,if_pos q];exact r.repl k ry
 ·rw[if_neg q,if_neg q];exact Paired.snoc r ⟨rfl,hb,ry⟩
theorem BJ.keeps{H H':Hp}{kvs:List (KP×V)}{xs:List (KP×Addr×Value)}(r:BJ H kvs xs)(ht:∀b ys,H b=some (.tup ys)->H' b=some (.tup ys)):BJ H' kvs xs:=
 Paired.mapP r λ_ _ z=>⟨z.1,(show vP _ _ _ from z.2.1).tp ht,z.2.2⟩
section
variable{P:Program}{w:World}{H:Hp}{h:Heap}{a:Addr}
theorem qk{k:KP}(ok:og P w H h)(e:vP H a k):(iT (cL P w)).is h k a:=by
 obtain⟨b,h1,h2⟩:=e
 obtain⟨_,its,r,o,g1,g2,n,g3⟩:=(show d4 P w H h a (.tup [kN k.1,.ref b]) from ok a _ h1)
 cases r with
 |cons r1 rr=>
  cases rr with
  |cons r2 rn=>
   cases rn
   cases(show _=Value.ref b from r2)
   exact⟨o,_,b,n,g1,g2.1,g3,Lh r1,mC ok h2⟩
theorem DR{kvs:List (KP×V)}(ok:og P w H h)(e:Rd H a (.dP kvs)):kvs.length<=sizeLine/\(a==sysModules)=false/\
  ∃xs,BJ H kvs xs/\h.DictOfH (iT (cL P w)) a xs:=by
 obtain⟨z,y,xs,r,o,es,ep,h1,h2,h3,h4,h5⟩:=(show d4 P w H h a (.dP kvs) from Ig ok e)
 refine⟨z,y,xs,r,o,es,ep,h1,h2,h3,h4,λx hx=>?_,h5⟩
 have all:∀{l:List (KP×V)} {m:List (KP×Addr×Value)},BJ H l m->∀x∈m,(iT (cL P w)).is h x.1 x.2.1:=by
  intro l m q
  induction q with
  |nil=>intro x hx;exact nomatch hx
  |@cons p q ps qs hq t ih=>
   intro x hx
   rcases aM.mp hx with e|hx
   ·subst e
    exact qk ok (by rw[<-hq.1];exact hq.2.1)
   ·exact ih x hx
 exact all r x hx
theorem Le{kvs:List (KP×V)}(ok:og P w H h)(e:H a=some (.dP kvs)):kvs.length<=sizeLine/\(a==sysModules)=false/\
  ∃xs,BJ H kvs xs/\h.DictOfH (iT (cL P w)) a xs:=DR ok (.inl e)
theorem uD{A:Around}{P:Program}{w:World}(hu:A.units+2<cLine):(iT (cL P w)).room A.in1:=by show A.units+1+1<cLine;lia
end
def ze(H:Hp)(a:Addr)(y:V)(r:Option V):Prop:=∃kvs k b,Rd H a (.dP kvs)/\y=.ref b/\vP H b k/\r=cW kvs k
def La(H:Hp)(a:Addr)(y v:V)(H':Hp):Prop:=∃kvs k b,H a=some (.dP kvs)/\y=.ref b/\vP H b k/\kvs.length<sizeLine/\H'=aN H a (.dP (iU kvs k v))
section
variable{X:Cx}{pins:List (Addr×Obj)}{σ:St}{H:Hp}{s:Shared}{a:Addr}{y v:V}{u r:Value}{o:Option V}{A:Around}{E:Value->Shared->Prop}
theorem Cs{Q:Value->Shared->Prop}(hu:A.units+2<cLine)(I:bu X pins σ H s)(g:ze H a y (some v))(ry:b7 y u)(h:∀w' s',bu X pins σ H s'->b7 v w'->Q w' s') :
  wpAny (model X.prog X.w) A (getItem (.ref a) u) Q E s:=by
 obtain⟨kvs,k,b,e,ey,eb,l⟩:=g
 subst ey
 cases(show u=Value.ref b from ry)
 obtain⟨z,hd,xs,rel,dd⟩:=DR I.hok e
 obtain⟨w',hw,rw'⟩:=nN.some_of (v:=v) (o:=(atKey xs k).map (·.2)) (by rw[l];exact rel.val k)
 obtain⟨p,hp,hp2⟩:=gU.mp hw
 refine wpAny_getItem_heap (uD hu) (qk I.hok eb) dd hp ?_
 rw[hp2]
 exact h w' _ (I.tok _) rw'
theorem Gx{Q:Value->Shared->Prop}(hu:A.units+2<cLine)(I:bu X pins σ H s)(g:ze H a y o)(ry:b7 y u)(h:∀s',bu X pins σ H s'->Q (.bool (!o.isSome)) s') :
  wpAny (model X.prog X.w) A (compareOp .NotIn u (.ref a)) Q E s:=by
 obtain⟨kvs,k,b,e,ey,eb,l⟩:=g
 subst ey
 cases(show u=Value.ref b from ry)
 obtain⟨z,hd,xs,rel,dd⟩:=DR I.hok e
 refine wpAny_notIn_heap (uD hu) (qk I.hok eb) hd dd ?_
 have q:=(rel.val k).isSome_eq
 rw[fA] at q
 rw[<-q,<-l]
 exact h _ (I.tok _)
theorem Ct{H':Hp}{Q:Unit->Shared->Prop}(hu:A.units+2<cLine)(I:bu X pins σ H s)(g:La H a y v H')(ry:b7 y u)(rv:b7 v r)(h:∀s',bu X pins σ H' s'->Q () s') :
  wpAny (model X.prog X.w) A (setItem (.ref a) u r) Q E s:=by
 obtain⟨kvs,k,b,e,ey,eb,l,eH⟩:=g
 subst ey eH
 cases(show u=Value.ref b from ry)
 obtain⟨z,hd,xs,rel,dd⟩:=Le I.hok e
 have hz:xs.length<=sizeLine:=by rw[<-Paired.length rel];exact z
 have hl:(iU kvs k v).length<=sizeLine:=by have:=gL kvs k v;lia
 refine wpAny_setItem_heap (hsz:=hz) (uD hu) (qk I.hok eb) dd λh' dd' hs=>h _ ?_
 obtain⟨q,es,ep,hq,h2,h3,h4,_,h5⟩:=dd'
 refine nj I (by rw[e];exact True.intro) hs ⟨q,hq⟩ ⟨hl,hd,_,(rel.put k eb rv).keeps λc ys ec=>?_,q,es,ep,hq,h2,h3,h4,h5⟩
 rw[aA (oq ec e (λz=>nomatch z))]
 exact ec
theorem EX(I:bu X pins σ H s)(g:ze H a y o):s.TypeIs (.ref a) "dict":=by
 obtain⟨kvs,k,b,e,_,_,_⟩:=g
 obtain⟨_,_,xs,_,dd⟩:=DR I.hok e
 exact dd.typeIs
end
def Di(td ty:TE):TE:=λσ H Q=>td σ H λx H1=>ty σ H1 λy H2=>∃a v,x=.ref a/\ze H2 a y (some v)/\Q v H2
section
variable{X:Cx}{o i e value:Expr}{pos pos' tpos:Pos}{td ty tv:TE}
theorem Hj(hu:X.A.units+2<cLine)(ho:PE X o td)(hi:PE X i ty)(hs:F1 i):PE X (.Subscript o i pos) (Di td ty):=by
 intro pins s σ H Q I h
 refine Eg PySem.F.slot_dict_getitem.lookup hs (eJ (ho pins s σ H _ I h) λu s1 ⟨x,H1,I1,rx,q1⟩=>eJ (hi pins s1 σ H1 _ I1 q1) λiv s2 ⟨y,H2,I2,ry,a,v,ex,g,q2⟩=>?_)
 subst ex
 obtain rfl:u=Value.ref a:=rx
 exact⟨EX I2 g,Cs hu I2 g ry λw' s3 I3 rw'=>⟨v,H2,I3,rw',q2⟩⟩
theorem Gw{P:Program}{w:World}{H:Hp}(h:Heap)(hb:sysModules<h.objs.size):d4 P w H (h.push {cls:=.type "dict",data:=.dict #[]}) h.objs.size (.dP []):=
 ⟨a8 _,beq_eq_false_iff_ne.mpr (Ne.symm (aO hb)),[],.nil,_,#[],0,az _ rfl,⟨rfl,rfl,rfl⟩,rfl,rfl,df⟩
end
section
variable{X:Cx}{o i:Expr}{td ty:TE}{pos:Pos}
def Lo(neg:Bool):R2:=λx y H Q=>∃a o,y=.ref a/\ze H a x o/\Q (.bl (if neg then !o.isSome else o.isSome)) H
def HX:V->V->V->Hp->(Hp->Prop)->Prop:=λo i v H Q=>∃a H',o=.ref a/\La H a i v H'/\Q H'
theorem CP(hu:X.A.units+5<cLine):jf X (compareOp .NotIn) (Lo true):=by
 intro pins s σ H x y v u Q I rx ry h
 obtain⟨a,o,rfl,g,q⟩:=h
 cases ry
 exact Gx (by lia) I g rx λs' I'=>⟨.bl (!o.isSome),H,I',rfl,q⟩
theorem Fl(hu:X.A.units+5<cLine):F8 X HX:=by
 intro pins s σ H o i v ov iv u Q I ro ri rv h
 obtain⟨a,H',rfl,g,q⟩:=h
 cases ro
 exact Ct (by lia) I g ri rv λs' I'=>⟨H',I',q⟩
theorem HE(hu:X.A.units+5<cLine)(ho:QE X o td)(hi:QE X i ty)(hs:F1 i):QE X (.Subscript o i pos) (Di td ty):=⟨Hj (by lia) ho.up hi.up hs⟩
end
end L2
end
section
namespace Bg
open PySem L2
def kI(k:Nat):b8:=some (Sum.inl (k:Int))
def tE(_:Fg):Sp:=λvs H Q _=>∃(b n:Addr) (os:Bt) (ns:List Str),vs=[.ref b,.ref n]/\H b=some (.tup (cw os))/\H n=some (.tup (ns.map V.str))/\os.length<=1000/\
 ∀(p:Addr) (H':Hp),H' p=some (.tup (cw (bq os ns)))->aJ H H'->Q (.ref p) H'
abbrev LY:Nat:=0
abbrev LA:Nat:=1
end Bg
end
section
namespace L2
open PySem PySem.Spec PyProof.Rows
section
variable{X:Cx}{pins:List (Addr×Obj)}{σ:St}{H:Hp}{s:Shared}{d:Addr}{kvs:List (KP×V)}{o:Obj}
theorem bu.unfrzP(I:bu X pins σ H s)(e:H d=some (.dP kvs)):∀o v,X.H₀ d≠some (.frz o v):=λo v q=>by
 have:=I.base.frzs d o v q
 rw[e] at this;cases this
theorem bu.freezeP(I:bu X pins σ H s)(e:H d=some (.dP kvs)):∃o es ep,o.data=.dict es ep/\bu X pins σ (aN H d (.frz o (.dP kvs))) s:=by
 have k:=I.hok d _ e
 obtain⟨z,lo,xs,r,o,es,ep,h1,h2,h3,h4⟩:=id k
 refine⟨o,es,ep,h3,I.retell e ⟨h1,z,lo,xs,Paired.mapP r λp q z=>⟨z.1,(show vP _ _ _ from z.2.1).tp λb xs eb=>?_,z.2.2⟩,o,es,ep,h1,h2,h3,h4⟩ (λ_ q=>by cases q) (λ_ q=>by cases q) (λ_ q=>by cases q) (I.unfrzP e)⟩
 rw[aA (λc=>by rw[c,e] at eb;cases eb)];exact eb
theorem bu.thawP(I:bu X pins σ H s)(e:H d=some (.frz o (.dP kvs)))(hf:∀o v,X.H₀ d≠some (.frz o v)):bu X pins σ (aN H d (.dP kvs)) s:=by
 have k:=I.hok d _ e
 exact I.retell e (k.2.stay (λ_ _ _ z=>z) (λa z=>by rw[aA (λc'=>by rw[c',e] at z;cases z)];exact z) λa xs z=>by rw[aA (λc'=>by rw[c',e] at z;cases z)];exact z) (λ_ q=>by cases q) (λ_ q=>by cases q) (λ_ q=>by cases q) hf
theorem yn{es:Array DictEntry}{ep:Nat}(I:bu X pins σ H s)(e:H d=some (.frz o (.dP kvs)))(hep:o.data=.dict es ep):(d==sysModules)=false/\x9 s.heap d es ep/\es.size=kvs.length/\
  ∀(i:Nat) (hi:i<es.size) k v,kvs[i]?=some (k,v)->∃b,es[i].key=.ref b/\vP H b k/\b7 v es[i].val:=by
 obtain⟨ho,z,lo,xs,r,o',es',ep',h1,h2,h3,h4,h5⟩:=I.hok d _ e
 rw[ho] at h1;cases h1
 rw[hep] at h3;cases h3
 have sz:es.size=xs.length:=size_of_entries h4
 refine⟨lo,⟨o,ho,h2,hep⟩,sz.trans (Paired.length r).symm,λi hi k v hk=>?_⟩
 have hx:xs[i]?=some (xs[i]'(by rw[<-sz];exact hi)):=aa _
 generalize xs[i]'(by rw[<-sz];exact hi)=x at hx
 have get:∀{l:List (KP×V)} {m:List (KP×Addr×Value)},BJ H l m->∀{i:Nat} {p q},l[i]?=some p->m[i]?=some q->p.1=q.1/\vP H q.2.1 p.1/\b7 p.2 q.2.2:=by
  intro l m q
  induction q with
  |nil=>intro i p q h;simp at h
  |cons hq t ih=>
   intro i p q h1 h2
   cases i with
   |zero=>simp at h1 h2;rw[<-h1,<-h2];exact hq
   |succ i=>exact ih (by simpa using h1) (by simpa using h2)
 obtain⟨e1,e2,e3⟩:=get r hk hx
 have ent:=entry_at h4 i
 rw[hx,aW hi] at ent
 have ent:es[i]=entryOfKey (iT (cL X.prog X.w)) x:=Option.some.inj ent
 exact⟨x.2.1,by rw[ent];rfl,e2,by rw[ent];exact e3⟩
def zg(d:Addr)(kvs:List (KP×V))(o:Obj):It:=⟨λi H=>H d=some (.frz o (.dP kvs))/\i<kvs.length,λi H x H'=>H'=H/\∃k v b,kvs[i]?=some (k,v)/\x=.ref b/\vP H b k,λi H=>H d=some (.frz o (.dP kvs))/\kvs.length<=i⟩
theorem Ds{P:Program}{w:World}{K:Fg}{tg:Expr}(d it:Addr)(kvs:List (KP×V))(o:Obj)(es:Array DictEntry)(ep:Nat)(hep:o.data=.dict es ep):rk P w K tg (zg d kvs o) [it] it (λi h=>h.IsKeyIter it d i es.size ep) where
 mem:=by simp
 obj:=λi h st b hb=>by
  have e:b=it:=by simpa using hb
  subst e
  obtain⟨o,e,c,d⟩:=st
  exact⟨o,e,λv z=>by rw[d] at z;cases z⟩
 keep:=λi h h' st k=>st.at λo e=>k it (by simp) o e
 item:=by
  intro X hP hw hK hc i pins s σ H E I hf st hg
  subst hP hw hK
  obtain⟨e,hi⟩:=hg
  obtain⟨lo,rd,sz,at_⟩:=yn I e hep
  obtain⟨f0,f1,f2,f3,f4,f5⟩:=hf it (by simp)
  have hi':i<es.size:=by lia
  obtain⟨b,ek,hb,_⟩:=at_ i hi' kvs[i].1 kvs[i].2 (aa hi)
  refine AX st rd hi' λh' st' sb=>?_
  have I1:bu X pins σ H {s with heap:=h'}:=I.turned (t':=s.toks) (λb o hb e=>(sb.2 b hb).trans e) f0 f1 f3 f4 f5
  obtain⟨o',e',c',d'⟩:=id st'
  exact⟨es[i].key,rfl,uu (s:={s with heap:=h'}) e' c' d' (by decide) ⟨.ref b,H,I1,ek,⟨rfl,_,_,b,aa hi,rfl,hb⟩,st',λb hb=>(hf b hb).1⟩⟩
 done:=by
  intro X hP hw hK hc i pins s σ H E I hf st hg
  subst hP hw hK
  obtain⟨e,hi⟩:=hg
  obtain⟨lo,rd,sz,_⟩:=yn I e hep
  obtain⟨f0,f1,f2,f3,f4,f5⟩:=hf it (by simp)
  exact Ea (I.ok.hd hc) st rd (by lia) λh' eb=>⟨rfl,I.turned (t':=s.toks) (λb o hb e=>eb b o hb e) f0 f1 f3 f4 f5⟩
 self:=λ_ _ _ _ _ st h=>wpAny_pyIter_keyiter st h
end
section
variable{X:Cx}{tg:Expr}
def GO(te:TE):TI:=λσ H R=>te σ H λx H1=>∃d kvs,x=.ref d/\H1 d=some (.dP kvs)/\∀o,R (zg d kvs o) (aN H1 d (.frz o (.dP kvs)))
theorem HL{l:Expr}{tl:TE}(hl:QE X l tl):QI X tg l (GO tl):=⟨by
 intro pins s σ H R I h
 refine eJ (hl.up pins s σ H _ I h) λv s1 ⟨x,H1,I1,r1,q1⟩=>?_
 obtain⟨d,kvs,rfl,e,q⟩:=q1
 cases r1
 obtain⟨o,es,ep,hep,I2⟩:=I1.freezeP e
 obtain⟨lo,rd,sz,_⟩:=yn I2 ak hep
 refine AW lo rd ?_
 refine⟨s1.heap.objs.size,[s1.heap.objs.size],_,_,_,rfl,I2.kept (t':=s1.toks) λb o e=>ag _ e,Ds d _ kvs o es ep hep,⟨_,az _ rfl,rfl,rfl⟩,λb hb=>?_,q o⟩
 have e:b=s1.heap.objs.size:=by simpa using hb
 subst e
 exact I2.fpOk (aw _) (I2.hok.fresh (aw _))⟩
def On(H H':Hp)(R:Hp->Prop):Prop:=R H'\/∃d kvs kvs' o,H d=some (.dP kvs)/\H' d=some (.frz o (.dP kvs'))/\R (aN H' d (.dP kvs'))
def ID(te:TE):TE:=λσ H Q=>te σ H λv H'=>On H H' (Q v)
theorem HJ{e:Expr}{te:TE}(h:QE X e te):QE X e (ID te):=⟨by
 intro pins s σ H Q I q
 refine eJ (h.up pins s σ H _ I q) λv s1 ⟨x,H1,I1,r1,q1⟩=>?_
 rcases q1 with q1|⟨d,kvs,kvs',o,e1,e2,q1⟩
 ·exact⟨x,H1,I1,r1,q1⟩
 ·exact⟨x,_,I1.thawP e2 (I.unfrzP e1),r1,q1⟩⟩
end
def IC(tk tv:TE):TE:=λσ H Q=>∀p,H p=none->tk σ (aN H p (.dP [])) λx H1=>tv σ H1 λy H2=>H2 p=some (.dP [])/\∃k b,x=.ref b/\vP H2 b k/\Q (.ref p) (aN H2 p (.dP [(k,y)]))
theorem HF{X:Cx}{pos:Pos}{ke ve:Expr}{tk tv:TE}(hu:X.A.units+5<cLine)(hk:QE X ke tk)(hv:QE X ve tv):QE X (.Dict [some ke] [ve] pos) (IC tk tv):=⟨by
 intro pins s σ H Q I q
 have hn:=I.hok.fresh (aw s.heap.objs.size)
 have I1:=I.laid (a:=s.heap.objs.size) (o:=.dP []) (h':=s.heap.push {cls:=.type "dict",data:=.dict #[]}) (t':=s.toks) (λ_ _ q=>ag _ q) (aw _) (Gw s.heap I.big)
 refine wpAny_Dict_any rfl rfl (by simp) (show 1<=15 by decide) ?_
 refine pairTrees_cons_walk (eJ (hk.up pins _ σ _ _ I1 (q _ hn)) λu s2 ⟨x,H1,I2,rx,q1⟩=>eJ (hv.up pins s2 σ H1 _ I2 q1) λw2 s3 ⟨y,H2,I3,ry,q2⟩=>pairTrees_nil_walk ?_)
 obtain⟨e,k,b,rfl,eb,q3⟩:=q2
 obtain rfl:u=Value.ref b:=rx
 obtain⟨z,hd,xs,rel,dd⟩:=Le I3.hok e
 cases rel
 unfold storeAll
 rw[e8]
 refine wpAny_bind (wpAny_bind (wpAny_dictSet_heap (hsz:=a8 _) (knd:=iT (cL X.prog X.w)) (by show X.A.units+1<cLine;lia) (qk I3.hok eb) dd λh' dd' hs=>wpAny_pure ?_))
 show wpAny _ _ (forIn [] PUnit.unit _) _ _ _
 rw[gP]
 refine wpAny_pure ⟨.ref s.heap.objs.size,_,?_,rfl,q3⟩
 obtain⟨qo,es,ep,hq,h2,h3,h4,_,h5⟩:=dd'
 have eb':vP (aN H2 s.heap.objs.size (.dP [(k,y)])) b k:=eb.tp λc ys ec=>by rw[aA (oq ec e (λz=>nomatch z))];exact ec
 exact nj I3 (by rw[e];exact True.intro) hs ⟨qo,hq⟩ ⟨by show 1<=sizeLine;decide,hd,[(k,b,w2)],.cons ⟨rfl,eb',ry⟩ .nil,qo,es,ep,hq,h2,h3,h4,h5⟩⟩
end L2
end
section
namespace Bg
open PySem L2
abbrev Pr:=Nat×Bt
def f9(p:Pr):KP:=(kI p.1,cK p.2)
theorem Az{a b:Pr}(h:f9 a=f9 b):a=b:=by
 injection h with h1 h2
 refine Prod.ext ?_ (mB h2)
 unfold kI at h1
 injection h1 with h1
 injection h1 with h1
 lia
def sP(H:Hp)(v:V)(p:Pr):Prop:=∃a,v=.ref a/\vP H a (f9 p)
def jQ(k:Nat)(b:Bt)(ss:List Str):List Pr:=if jH (bq b ss) ss=true then[(k,bq b ss)] else[]
def Ld(ws:List Wk)(pss:List (List Str))(p:Pr):List Pr:=match ws[p.1]? with
 |none=>[]
 |some w=>jQ (p.1+1) (zN p.2 w.out) ((pss[p.1+1]?).getD [])
def LI(pss:List (List Str))(p:Pr):Option Str->List Pr
 |none=>[]
 |some x=>jQ p.1 (some x::p.2.dropLast) ((pss[p.1]?).getD [])
def Od(pss:List (List Str))(p:Pr):List Pr:=(p.2.map (LI pss p)).flatten
def mv(ws:List Wk)(pss:List (List Str))(p:Pr):List Pr:=Ld ws pss p++Od pss p
structure LG(H:Hp)(wp pt:Addr)(ws:List Wk)(pss:List (List Str)):Prop where
 wks:∃wvs,H wp=some (.tup wvs)/\bo (Ge H) wvs ws
 pts:∃pvs,H pt=some (.lst pvs)/\bo (Gd H) pvs pss
 len:pss.length=ws.length+1
 few:∀ss∈pss,ss.length<=1000
 w10:ws.length<=10
theorem LG.same{H H':Hp}{wp pt:Addr}{ws:List Wk}{pss:List (List Str)}(h:LG H wp pt ws pss)(s:aJ H H'):LG H' wp pt ws pss:=by
 obtain⟨⟨wvs,a,b⟩,⟨pvs,c,d⟩,e,f,g⟩:=h
 exact⟨⟨wvs,s _ _ a,b.imp λ_ _ z=>z.tp (Tp.of_same s)⟩,⟨pvs,s _ _ c,d.imp λ_ _ z=>let⟨p,e,a⟩:=z;⟨p,e,s _ _ a⟩⟩,e,f,g⟩
def tD(_:Fg):Sp:=λvs H Q _=>∃(bp wp pt:Addr) (k:Nat) (b:Bt) (ws:List Wk) (pss:List (List Str)) (ss:List Str),vs=[.int (k:Nat),.ref bp,.ref pt]/\H bp=some (.tup (cw b))/\b.length<=10/\LG H wp pt ws pss/\pss[k]?=some ss/\
 ∀(l:Addr) (us:List V) (H':Hp),H l=none->H' l=some (.lst us)->bo (sP H') us (jQ k b ss)->aJ H H'->Q (.ref l) H'
def EF(H0 H:Hp)(v:V)(ws:List Wk)(pss:List (List Str))(p:Pr):Prop:=∃t l1 l2 us1 us2,v=.ref t/\H t=some (.tup [.ref l1,.ref l2])/\H l1=some (.lst us1)/\H l2=some (.lst us2)/\H0 l1=none/\H0 l2=none/\bo (sP H) us1 (Ld ws pss p)/\bo (sP H) us2 (Od pss p)
def qE(_:Fg):Sp:=λvs H Q _=>∃(a wp pt:Addr) (p:Pr) (ws:List Wk) (pss:List (List Str)),vs=[.ref a,.ref wp,.ref pt]/\vP H a (f9 p)/\p.2≠[]/\p.2.length<=5/\p.1<=ws.length/\LG H wp pt ws pss/\
 ∀(v:V) (H':Hp),EF H H' v ws pss p->aJ H H'->Q v H'
structure F9(ws:List Wk)(pss:List (List Str))(p0:Pr)(ks:List Pr):Prop where
 nd:ks.Nodup
 ent:p0∈ks
 cl:∀p∈ks,∀q∈mv ws pss p,q∈ks
 ind:∀P:Pr->Prop,P p0->(∀p,P p->∀q∈mv ws pss p,P q)->∀p∈ks,P p
def LC(H0 H:Hp)(v:V)(ws:List Wk)(pss:List (List Str))(ks:List Pr):Prop:=∃D kvs,v=.ref D/\H D=some (.dP kvs)/\H0 D=none/\kvs.map (·.1)=ks.map f9/\∀(i:Nat) k u p,kvs[i]?=some (k,u)->ks[i]?=some p->EF H0 H u ws pss p
def lg(_:Fg):Sp:=λvs H Q _=>∃(a wp pt:Addr) (n:Nat) (p0:Pr) (ws:List Wk) (pss:List (List Str)),vs=[.ref a,.ref wp,.ref pt]/\vP H a (f9 p0)/\LG H wp pt ws pss/\1<=n/\n<=5/\(∀ss∈pss,ss.Nodup)/\p0.1=0/\(∀ss,pss[0]?=some ss->kQ n ss p0.2/\ss.length<=n)/\
 ∀(v:V) (ks:List Pr) (H':Hp),LC H H' v ws pss ks->F9 ws pss p0 ks->ks.length<=85536->aJ H H'->Q v H'
abbrev LW:Nat:=1
abbrev Ly:Nat:=2
abbrev JT:Nat:=2
abbrev Jo:Nat:=3
abbrev As:Nat:=3
abbrev zj:Nat:=4
def kE(n j:Nat):List Nat:=aV j (n-1)
def rO(_:Fg):Sp:=λvs H Q _=>∃(bp rp:Addr) (B:Bt) (rs:List Str),vs=[.ref bp,.ref rp]/\H bp=some (.tup (cw B))/\H rp=some (.lst (rs.map V.str))/\B≠[]/\B.length<=10/\rs.length+1<=B.length/\
 ∀(t bp':Addr) (C:Bt) (j:Nat) (H':Hp),H' t=some (.tup [.ref bp',.int (j:Nat)])->H' bp'=some (.tup (cw C))->j<B.length->C.length=B.length->(∀o,o∈C↔o∈B)->(∀ss,(∀z∈rs,z∈ss)->dI (bq B ss) (kE B.length j)/\bq C ss=iB (bq B ss) (kE B.length j))->(∀z∈rs,C[B.length-1]?=some (some z)->some z∈C.dropLast)->aJ H H'->Q (.ref t) H'
def kq(_:Fg):Sp:=λvs H Q _=>∃(bp wp pt lt:Addr) (n:Nat) (B:Bt) (ws:List Wk) (last dd ss0:List Str) (pvs:List V) (pss:List (List Str)),vs=[.ref bp,.ref wp,.ref pt]/\H bp=some (.tup (cw B))/\B.length=n/\1<=n/\n<=5/\p9 H wp lt ws last/\Lb dd last ws/\H pt=some (.lst pvs)/\bo (Gd H) pvs pss/\rj last ws pss/\BX n ws pss/\pss[0]?=some ss0/\(∀z∈ss0,some z∈B)/\
 ∀(c:Nat) (H':Hp),(∀kss ts t m,p7 n B ws pss (aV n none) kss ts->ts[0]?=some t->(bq B ss0,m)∈t->m<=c)->aJ H H'->Q (.int (c:Nat)) H'
abbrev GX:Nat:=0
abbrev FW:Nat:=1
abbrev yx:Nat:=1
abbrev xQ:Nat:=2
abbrev Li:Nat:=8
abbrev FR:Nat:=9
end Bg
end
section
namespace Bg
open PySem PySem.Spec PyProof.Rows L2
abbrev EJ:List Str:=["_law_state"]
abbrev zw:List Str:=["_law_state"]
def Bs(K:Fg):TS:=(dz (bN (fF K) (fR (ar (tC (.int 1)) (ar (tC (.int 2)) (ar (tC (.int 3)) (ar (tC (.int 2)) (ar (tC (.int 3)) (ar (tC (.int 3)) (ar (tC (.int 2)) (ar (tC (.int 3)) (ar (tC (.int 4)) (ar (tC (.int 4)) (ar (tC (.int 4)) (ar (tC (.int 4)) (ar (tC (.int 1)) (ar (tC (.int 2)) (ar (tC (.int 3)) (ar (tC (.int 5)) aP))))))))))))))))) (bA (eQ K) [] E0 (ar (ay 0) (ar (tC (.int 16)) aP)))))
abbrev F2:List Str:=["_law_state","_law_places_here","_law_needs","_law_names_here"]
abbrev xT:List Str:=["_law_state","_law_places_here","_law_needs","_law_names_here","_law_left","_law_belt"]
def xt(K:Fg):TS:=(dz (fQ (dO K) (ar (ay 5) aP)))
def Fm(K:Fg):TS:=(fZ (rQ K "list" dH (ay 5) (ar (rQ K "list" CW (ay 4) (ar (bA (eQ K) [] E0 (ar (ay 0) (ar (fQ (gF K) (ar (ay 4) aP)) aP))) aP)) aP)))
def xu(K:Fg):TS:=(bt (lx (cH (bN (uL) (fQ (gF K) (ar (ay 4) aP)) (tC (.int 0)))) (Fm K)) (xt K))
def xw(K:Fg):TS:=(bt (bP (fR aP) (aQ 5)) (xu K))
def Ei(K:Fg):TS:=(bt (bP (bN (dq K) (fQ (yK K) (ar (ay 2) aP)) (d6 [] 1 (qj (ar (bN (xm) (ay 1) (fQ (gF K) (ar (ay 2) aP))) aP)) (aQ 6) jE (bA (qF K) [] E0 (ar (ay 0) (ar (ay 3) aP))))) (aQ 4)) (xw K))
abbrev tX:List Str:=["_law_belt","_law_makes"]
abbrev j8:List Str:=["_law_belt","_law_makes"]
def lG(K:Fg):TS:=(dz (bN (dq K) (jD (ar (ay 1) aP)) (FI (FH K) (fQ (dO K) (ar (d6 [] 1 (jk K (ay 0)) (aQ 2) jE (bN (fF K) (fR (ar (ay 2) (ar (tC .non) aP))) (fQ (HS) (ar (bN (v7 K) (ay 2) (ay 1)) aP)))) aP)) gx (lE (vF kH (tC (.int 1)))))))
def oI(K:Fg):TS:=(bt (gb (cH (bN (KI) (ay 1) (tC .non))) (dz (ay 0)) dW) (lG K))
abbrev Jw:List Str:=["_law_belt","_law_names_here"]
abbrev F0:List Str:=["_law_belt","_law_names_here","_law_found","_law_k","_law_thing_here"]
def IS(K:Fg):TS:=(dz (fQ (dO K) (ar (ay 2) aP)))
def Bv(K:Fg):TS:=(fZ (rQ K "list" dH (ay 2) (ar (bN (fF K) (fR (ar (tC .non) (ar (ay 4) aP))) (fQ (HS) (ar (IB (bN ((y8 K false)) (ay 4) (ay 1)) (bN ((y8 K true)) (ay 4) (FI (FH K) (ay 0) gx (lE (ay 3))))) aP))) aP)))
def Bw(K:Fg):TS:=(bt (jI (pI K (ar (ay 0) aP)) (my K 2 (dG (aQ 3) (dG (aQ 4) lX))) (Bv K)) (IS K))
def IR(K:Fg):TS:=(bt (bP (fR aP) (aQ 2)) (Bw K))
abbrev Ju:List Str:=["_law_k","_law_belt","_law_points_here"]
abbrev BS:List Str:=["_law_k","_law_belt","_law_points_here"]
def Bf(K:Fg):TS:=(dz (fR aP))
def Bi(K:Fg):TS:=(bt (gb (tB (fQ (Fd K) (ar (d6 [] 1 (jk K (bN (fF K) (ay 2) (ay 0))) (aQ 3) jE (bN ((y8 K false)) (ay 3) (ay 1))) aP))) (dz (fR (ar (jD (ar (ay 0) (ar (ay 1) aP))) aP))) dW) (Bf K))
def IL(K:Fg):TS:=(bt (bP (bA (tE K) [] E0 (ar (ay 1) (ar (bN (fF K) (ay 2) (ay 0)) aP))) (aQ 1)) (Bi K))
abbrev F4:List Str:=["_law_pair","_law_works_here","_law_points_here"]
abbrev DG:List Str:=["_law_pair","_law_works_here","_law_points_here","_law_k","_law_belt","_law_by_work","_law_by_keep","_law_thing_here"]
def xx(K:Fg):TS:=(dz (jD (ar (ay 5) (ar (ay 6) aP))))
def xy(K:Fg):TS:=(gb (cH (bN (xk) (ay 7) (tC .non))) (fZ (rQ K "list" tq (ay 6) (ar (bA (tD K) [] E0 (ar (ay 3) (ar (bN (dq K) (jD (ar (ay 7) aP)) (FI (FH K) (ay 4) gx (lE (vF kH (tC (.int 1)))))) (ar (ay 2) aP)))) aP))) dW)
def rS(K:Fg):TS:=(bt (jI (jk K (ay 4)) (aQ 7) (xy K)) (xx K))
def xA(K:Fg):TS:=(bt (gb (cH (bN (Fe) (ay 3) (fQ (gF K) (ar (ay 1) aP)))) (bP (bA (tD K) [] E0 (ar (bN (dq K) (ay 3) (tC (.int 1))) (ar (bA (hU K) [] E0 (ar (ay 4) (ar (bN (fF K) (bN (fF K) (ay 1) (ay 3)) (tC (.int 1))) aP))) (ar (ay 2) aP)))) (aQ 5)) dW) (rS K))
def xB(K:Fg):TS:=(bt (bP (fR aP) (aQ 6)) (xA K))
def xC(K:Fg):TS:=(bt (bP (fR aP) (aQ 5)) (xB K))
def Et(K:Fg):TS:=(bt (bP (ay 0) (my K 2 (dG (aQ 3) (dG (aQ 4) lX)))) (xC K))
abbrev xW:List Str:=["_law_first","_law_works_here","_law_points_here"]
abbrev si:List Str:=["_law_first","_law_works_here","_law_points_here","_law_found","_law_todo","_law_by_work","_law_by_keep","_law_pair"]
def oC(K:Fg):TS:=(dz (ay 3))
def oD(K:Fg):TS:=(fZ (rQ K "list" dH (ay 4) (ar (ay 7) aP)))
def oE(K:Fg):TS:=(gb (cH (bN ((Lo true)) (ay 7) (ay 3))) (bt (bP (bA (qE K) [] E0 (ar (ay 7) (ar (ay 1) (ar (ay 2) aP)))) (yp (ay 3) (ay 7) HX)) (oD K)) dW)
def oF(K:Fg):TS:=(jI (jk K (bN (dq K) (ay 5) (ay 6))) (aQ 7) (oE K))
def wo(K:Fg):TS:=(bt (bP (Di (ay 3) (K4 K "list" MM (ay 4))) (my K 2 (dG (aQ 5) (dG (aQ 6) lX)))) (oF K))
def oG(K:Fg):TS:=(bt (lx (cH (bN (uL) (fQ (gF K) (ar (ay 4) aP)) (tC (.int 0)))) (wo K)) (oC K))
def oH(K:Fg):TS:=(bt (bP (fR (ar (ay 0) aP)) (aQ 4)) (oG K))
def sH(K:Fg):TS:=(bt (bP (IC (ay 0) (bA (qE K) [] E0 (ar (ay 0) (ar (ay 1) (ar (ay 2) aP))))) (aQ 3)) (oH K))
end Bg
end
section
namespace PySem.W
open PySem PySem.Calls PyProof.Rows PyProof.V PySem.Spec Builtin Builtin.Str Builtin.Int
section
variable{prog:Program}{w:World}{A:Around}{E:Value->Shared->Prop}{s:Shared}{r l:Addr}
end
end PySem.W
namespace L2
open PySem PySem.Spec PyProof.Rows
section
variable{X:Cx}
end
section
variable{X:Cx}
end
section
variable{M:Model}{A:Around}{E:Value->Shared->Prop}{s:Shared}{base:Heap}{env:Env}{outer:List Env}{L e T:Addr}{oe:Obj}{vs:Array Value}
end
open Builtin Builtin.ObjectAttr
section
variable{prog:Program}{w:World}{A:Around}{E:Value->Shared->Prop}{h:Heap}{g:Array GenState}{d:Drawn}{t:Nat}{os:OsState}
variable{nm q:Str}{C N B:Addr}{bs:List Value}{hdct:Bool}{sn:List Str}{sub:List Value}{ab:Bool}{col:Option Bool}{dd:Option Addr}{k0 k1 k2 k3 k5:Option Value}
end
end L2
end
section
namespace L2
open PySem PySem.Spec PyProof.Rows PySem.W
section
variable{prog:Program}{w:World}{A:Around}{E:Value->Shared->Prop}{s:Shared}{K:Fg}{x C D:Addr}{ox od:Obj}{odo:Option Obj}{name:Str}
end
end L2
end
section
namespace L2
open PySem PySem.Spec PyProof.Rows
open Builtin Builtin.ObjectAttr
section
variable{P:Program}{w:World}{H:Hp}{h:Heap}{x C T dx:Addr}{od:Option Addr}{fs:List (Str×V)}
end
section
variable{prog:Program}{w:World}{A:Around}{E:Value->Shared->Prop}{K:Fg}{C x:Addr}{s:Shared}{R:Result->Shared->Prop}
end
section
variable{X:Cx}{pins:List (Addr×Obj)}{σ:St}{H:Hp}{s:Shared}{x C dx:Addr}{fs:List (Str×V)}{f:Str}{v y:V}{u:Value}{A:Around}{E:Value->Shared->Prop}
end
section
variable{X:Cx}{pins:List (Addr×Obj)}{σ:St}{H:Hp}{s:Shared}{x C T T':Addr}{od:Option Addr}{M:Model}{E:Value->Shared->Prop}
end
section
variable{P:Program}{w:World}{K:Fg}{mg:Str->Option Value}{base:Heap}{N:List Str}{qual:Str}{scope:Scope}{f:Addr}{cd:Value}{A:Around}{outer:List Env}{s:Shared}{H:Hp}{E:XK}
end
section
variable{X:Cx}{k:Nat}{f C:Addr}{fd:FuncData}{ps:List Str}{sp:Sp}{x:Str}{p pos apos:Pos}{e o value:Expr}{es:List Expr}{ta tv:TE}{t:TA}
end
section
variable{X:Cx}{pins pins':List (Addr×Obj)}{σ:St}{H:Hp}{s:Shared}{E:Value->Shared->Prop}{x:Addr}
end
section
variable{X:Cx}
end
section
variable{prog:Program}{w:World}{A:Around}{E:Value->Shared->Prop}{s:Shared}{K:Fg}{x C D:Addr}{ox od:Obj}
end
section
variable{prog:Program}{w:World}{A:Around}{R:Result->Shared->Prop}{I:Addr}{fp wr:List Addr}{n:Nat}{P:Nat->Value->Prop}{St:Nat->Heap->Prop}
end
section
variable{prog:Program}{w:World}{A:Around}{E:Value->Shared->Prop}{s:Shared}{l:Addr}{xs:Array (Int×Tok)}
end
section
variable{X:Cx}
end
section
variable{prog:Program}{w:World}{A:Around}{E:Value->Shared->Prop}{s:Shared}
end
section
variable{X:Cx}
end
section
variable{X:Cx}{k:Nat}{C:Addr}{ps:List Str}{sp:Sp}{x:Str}{p pos:Pos}{e o value:Expr}{es:List Expr}{ta tv te:TE}{t:TA}{E:XK}
end
section
variable{P:Program}{w:World}{K:Fg}{mg:Str->Option Value}{base:Heap}{N:List Str}{qual:Str}{scope:Scope}{f:Addr}{cd:Value}{A:Around}{outer:List Env}{s:Shared}{H:Hp}{E:XK}
end
section
variable{X:Cx}
end
end L2
end
section
namespace HT
open PySem PySem.Spec PyProof.Rows
section
variable{prog:Program}{w:World}{A:Around}{E:Value->Shared->Prop}{s:Shared}
end
end HT
namespace L2
open PySem PySem.Spec PyProof.Rows
section
variable{X:Cx}{e st:Expr}{te ts:TE}{pos p2:Pos}
end
section
variable{X:Cx}
theorem gD(ha:QE X a ta)(hb:QE X b tb)(h:x8 b:=by exact λ_ _=>rfl):QE X (.Subscript a b pos) (bN (fF X.K) ta tb):=NP LR ha hb h
theorem fM{x:Str}(c:cx X.prog X.w X.K X.mg X.base x ps k sp)(ha:QA X (e::es) t)(hr:ix k X.A:=by exact ix.mono (by assumption) (by decide))(hg:Gl X x:=by rfl)(h1:(x==("__debug__":Str))=false:=by decide)
  (h2:starEach (e::es) X.env=(false,eval e X.env)::starEach es X.env:=by rfl) (h3:(backTo pos (starEach es X.env)).any (·.1)=false:=by rfl):QE X (.Call (.Name x p) (e::es) [] pos) (bA sp [] E0 t):=NO c hr hg ha h1 h2 h3
theorem hV(B:kP X.mg)(ha:QA X (e::es) t)(hg:Gl X "len":=by rfl)(h2:starEach (e::es) X.env=(false,eval e X.env)::starEach es X.env:=by rfl)(h3:(backTo pos (starEach es X.env)).any (·.1)=false:=by rfl):QE X (.Call (.Name "len" p) (e::es) [] pos) (fQ (gF X.K) t):=fc Gj hg B.len_ boot_len ha (by decide) (by decide) h2 h3
theorem fg(i:Nat){x:Str}(he:QE X e te)(hi:X.N[i]?=some x:=by rfl)(hN:X.N.Nodup:=by assumption)(hx:FX X.env.scope x:=by first|exact Or.inl rfl|exact Or.inr rfl)(hs:swapsWith e (some (.Name x pos')) pos.line X.env=pure false:=by rfl)
  (hf:X.fn x=true\/X.env.scope.names.lookup x=some .local:=by first|exact .inl rfl|exact .inr rfl|assumption):QS X (.Assign [.Name x pos'] e pos) (bP te (aQ i)):=MK hN hi hx he hs hf
theorem gE(i:Nat){x:Str}(hi:X.N[i]?=some x:=by rfl)(hN:X.N.Nodup:=by first|assumption|(dsimp only[cV];decide +kernel))(hx:FX X.env.scope x:=by first|exact Or.inl rfl|exact Or.inr rfl)
  (hf:X.fn x=true\/X.env.scope.names.lookup x=some .local:=by first|exact .inl rfl|exact .inr rfl|assumption):QG X (.Name x pos) (aQ i):=Ky hN hi hx hf
theorem v5{s1:Stmt}(hc:QT X c tc)(ha:QS X s1 t):QS X (.If c [s1] [] pos) (gb tc t dW):=qx hc (aT ha) jT
theorem bR(ha:QE X e te)(hs:starEach [e] X.env=(false,eval e X.env)::starEach [] X.env:=by rfl):QA X [e] (ar te aP):=aG ha fL hs
theorem nV(ho:QE X o to)(ha:QE X e te)(hbase:attributeBase o "append" X.env (eval o X.env)=eval o X.env:=by rfl)
  (hfew:((backTo cpos (starEach [e] X.env)).all (λx=>!x.1)&&(backToKw cpos (keywordEach [] X.env)).all (λx=>x.1.isSome)&&decide (([e]:List Expr).length+([]:List Keyword).length+(if([]:List Keyword).isEmpty then 0 else 1)<30))=true:=by rfl)
  (hline:(apos.endLine==cpos.line)=true:=by rfl) (hs:starEach [e] X.env=(false,eval e X.env)::starEach [] X.env:=by rfl) (hp:(backTo cpos (starEach [] X.env)).any (·.1)=false:=by rfl) :
  QE X (.Call (.Attribute o "append" apos) [e] [] cpos) (rQ X.K "list" dH to (ar te aP)):=uG cg PySem.F.slot_list_append PySem.F.type_list_append xb ho (bR ha hs) hbase hfew hline hs hp
theorem OV(ho:QE X o to)(ha:QE X e te)(hbase:attributeBase o "join" X.env (eval o X.env)=eval o X.env:=by rfl)
  (hfew:((backTo cpos (starEach [e] X.env)).all (λx=>!x.1)&&(backToKw cpos (keywordEach [] X.env)).all (λx=>x.1.isSome)&&decide (([e]:List Expr).length+([]:List Keyword).length+(if([]:List Keyword).isEmpty then 0 else 1)<30))=true:=by rfl)
  (hline:(apos.endLine==cpos.line)=true:=by rfl) (hs:starEach [e] X.env=(false,eval e X.env)::starEach [] X.env:=by rfl) (hp:(backTo cpos (starEach [] X.env)).any (·.1)=false:=by rfl) :
  QE X (.Call (.Attribute o "join" apos) [e] [] cpos) (rQ X.K "str" (HU X.K) to (ar te aP)):=uG PySem.F.plainAttrs_str PySem.F.slot_str_join PySem.F.type_str_join J1 ho (bR ha hs) hbase hfew hline hs hp
theorem yJ(st:Stmt)(N ext:List Str)(js:List Nat)(it:QI X target iter wi)(hg:∀{cl C s₀ H₀ fp},QG (cV X (N++ext) scope cl C s₀ H₀ fp) target g)(hi:∀{cl C s₀ H₀ fp},EM (cV X (N++ext) scope cl C s₀ H₀ fp) ifs tc)(he:∀{cl C s₀ H₀ fp},QE (cV X (N++ext) scope cl C s₀ H₀ fp) elt te)
  (ok:pw (cP st) N scope (N++ext) js:=by exact⟨rfl,by decide +kernel,by decide +kernel,by decide +kernel,rfl,by decide +kernel⟩) (h1:X.env.scope=cP st:=by rfl) (h2:X.N=N:=by rfl) (h3:(N++ext).length=N.length+k:=by rfl) (h4:X.calm=true:=by rfl)
  (hs:∀x,foldedSetIterable iter X.env x=pure x:=by intro _;rfl):QE X (.ListComp elt [⟨target,iter,ifs,0⟩] scope pos) (d6 js k wi g tc te):=Kx ok h1 h2 h3 h4 it (λ_ _ _ _ _=>hg) (λ_ _ _ _ _=>hi) (λ_ _ _ _ _=>he) hs
theorem Oe(st:Stmt)(N ext:List Str)(js:List Nat)(i:Nat){y:Str}(it:QI X target iter wi)(hg:∀{cl C s₀ H₀ fp},QG (cV X (N++ext) scope cl C s₀ H₀ fp) target g)(hi:∀{cl C s₀ H₀ fp},EM (cV X (N++ext) scope cl C s₀ H₀ fp) ifs tc)(he:∀{cl C s₀ H₀ fp},QE (cV X (N++ext) scope cl C s₀ H₀ fp) elt te)
  (ok:pw (cP st) N scope (N++ext) js:=by exact⟨rfl,by decide +kernel,by decide +kernel,by decide +kernel,rfl,by decide +kernel⟩) (h1:X.env.scope=cP st:=by rfl) (h2:X.N=N:=by rfl) (h3:(N++ext).length=N.length+k:=by rfl) (h4:X.calm=true:=by rfl)
  (nd:X.N.Nodup:=by assumption) (hy:X.N[i]?=some y:=by rfl) (hl:FX X.env.scope y:=by first|exact Or.inl rfl|exact Or.inr rfl) (hw:swapsWith (.ListComp elt [⟨target,iter,ifs,0⟩] scope pos) (some (.Name y py)) spos.line X.env=pure true:=by rfl)
  (hs:∀x,foldedSetIterable iter X.env x=pure x:=by intro _;rfl) (hf:X.fn y=true\/X.env.scope.names.lookup y=some .local:=by first|exact .inl rfl|exact .inr rfl|assumption):QS X (.Assign [.Name y py] (.ListComp elt [⟨target,iter,ifs,0⟩] scope pos) spos) (bP (d6 js k wi g tc te) (aQ i)):=KD ok h1 h2 h3 h4 it (λ_ _ _ _ _=>hg) (λ_ _ _ _ _=>hi) (λ_ _ _ _ _=>he) nd hy hl hw hs hf
end
end L2
namespace Bg
open PySem PySem.Spec PyProof.Rows L2
def c6(K:Fg)(x:Str)(st:Stmt):Prop:=∃(f:Addr) (oc:Value) (od:Option Addr) (kV doc pm:Value) (an:Option Addr) (cdv ct:Value) (osl:Array (Option Value)),
 bE K mainGlobals x=some (some (.ref f))/\K.lookup f=some ⟨oc,od,.func (eE x x (kW st) (iG st) (cP st) .none kV doc pm an cdv ct),osl⟩/\gX K cdv x=true/\fJ K (.ref f)=true
theorem defAt{K:Fg}{x:Str}{st:Stmt}{f:Addr}{oc:Value}{od:Option Addr}{kV doc pm:Value}{an:Option Addr}{cdv ct:Value}{osl:Array (Option Value)}(a:bE K mainGlobals x=some (some (.ref f)))(l:K.lookup f=some ⟨oc,od,.func (eE x x (kW st) (iG st) (cP st) .none kV doc pm an cdv ct),osl⟩)(c:gX K cdv x=true)(k:fJ K (.ref f)=true):c6 K x st:=⟨f,oc,od,kV,doc,pm,an,cdv,ct,osl,a,l,c,k⟩
def kO(P:Program)(w:World)(K:Fg)(mg:Str->Option Value)(base:Heap)(N:List Str)(q:Str)(st:Stmt)(k:Nat)(t:TS):Prop:=
 ∀{f:Addr} {cdv:Value} {A:Around} {outer:List Env} {s:Shared} {H:Hp} {E:XK},ix k (A.deeper (envOfC q (cP st) s.heap.objs.size f cdv))->BU (zV Jg P w K mg base N q (cP st) f cdv A outer s H E).nox (iG st) t
section
variable{P:Program}{w:World}{K:Fg}{mg:Str->Option Value}{base h:Heap}{x q:Str}{N ps:List Str}{st:Stmt}{k:Nat}{sp:Sp}
theorem lU{t:TS}(d:∀{f:Addr} {cdv:Value} {A:Around} {outer:List Env} {s:Shared} {H:Hp} {E:XK},N.Nodup->(A.deeper (envOfC q (cP st) s.heap.objs.size f cdv)).units<cLine->(A.deeper (envOfC q (cP st) s.heap.objs.size f cdv)).units+1<cLine->ix k (A.deeper (envOfC q (cP st) s.heap.objs.size f cdv))->
  Jx (zV Jg P w K mg base N q (cP st) f cdv A outer s H E).nox (iG st) t) (nd:N.Nodup:=by decide +kernel):kO P w K mg base N q st k t:=λhr=>(d nd hr.units0 (Nq hr) hr).up
structure OC(x:Str)(N ps:List Str)(st:Stmt)(sp:Sp):Prop where
 S:sW N ps (cP st):=by exact⟨rfl,rfl,rfl,by decide +kernel,rfl,by decide +kernel,by decide +kernel⟩
 len:∀vs H Q E,sp vs H Q E->vs.length=ps.length:=by(intro _ _ _ _ h;(repeat obtain⟨_,h⟩:=h)<;>(subst_vars;rfl))
 bd:∀(kV doc pm:Value) (an:Option Addr) (cdv ct:Value) (us:List Value),us.length=ps.length->bindArgs (eE x x (kW st) (iG st) (cP st) .none kV doc pm an cdv ct) ⟨us,[]⟩=pure (ps.zip us):=by
   (intro _ _ _ _ _ _ us hl;first|(obtain⟨_,rfl⟩:=OP (us:=us) hl;rfl)|(obtain⟨_,_,rfl⟩:=OQ (us:=us) hl;rfl)|(obtain⟨_,_,_,rfl⟩:=OR (us:=us) hl;rfl)|(obtain⟨_,_,_,_,rfl⟩:=OS (us:=us) hl;rfl)|(obtain⟨_,_,_,_,_,rfl⟩:=le5 (us:=us) hl;rfl)|(obtain⟨_,_,_,_,_,_,rfl⟩:=le6 (us:=us) hl;rfl)|(obtain⟨_,_,_,_,_,_,_,rfl⟩:=le7 (us:=us) hl;rfl)|(obtain rfl:=le0 (us:=us) hl;rfl))
theorem md{t:TS}(X:K.In h)(G:h.Ns mainGlobals mg)(l:c6 K x st)(d:kO P w K mg base N x st k t)(r:∀vs H Q E,sp vs H Q E->t {nx:=λ_ H'=>Q .non H',rt:=Q} (start N vs) H)(z:OC x N ps st sp:=by exact{}):cx P w K mg base x ps (k+1) sp:=by
 obtain⟨f,oc,od,kV,doc,pm,an,cdv,ct,osl,a,lk,c,kp⟩:=l
 have F:=GI lk c kp
 exact⟨⟨f,_,PySem.W.mg_of X G a,kp,F.binds (ps:=ps) z.bd,F.ok z.S z.len λcdv A outer s H vs Q E hr z=>⟨t,d hr,r vs H Q E z⟩⟩⟩
theorem Nw{p:Str}{fa:Addr}{t:TS}(X:K.In h)(G:h.Ns mainGlobals mg)(hfa:mg "law"=some (.ref fa))(l:c6 K "law" st)(d:∀base,kO P w K mg base N "law" st k t)(r:∀vs H Q E,sp vs H Q E->t {nx:=λ_ H'=>Q .non H',rt:=Q} (start N vs) H)(z:OC "law" N [p] st sp:=by exact{}) :
  ∃fd:FuncData,(∀(s:Shared) (v:Value),BindsTo s fd ⟨[v],[]⟩ [(p,v)])/\∀base:Heap,K.In base->base.Ns mainGlobals mg->vG P w K mg base Jg (k+1) fa fd [p] sp:=by
 obtain⟨f,oc,od,kV,doc,pm,an,cdv,ct,osl,a,lk,c,kp⟩:=l
 have e:=hfa.symm.trans (PySem.W.mg_of X G a)
 cases e
 have F:=GI lk c kp
 exact⟨_,λs v=>.of_eq (z.bd kV doc pm an cdv ct [v] rfl),λbase _ _=>F.ok z.S z.len λcdv A outer s H vs Q E hr z=>⟨t,d base hr,r vs H Q E z⟩⟩
end
end Bg
end
section
namespace L2
open PySem PySem.Spec PyProof.Rows
section
variable{X:Cx}
def Ls(K:Fg):List V->Hp->VK->Prop:=λxs H Q=>∃(p:Addr) (ns:List Int),xs=[.ref p]/\cq K H p (ns.map V.int)/\Q (.int ns.sum) H
theorem ET(hc:X.calm=true):iO X (.builtin "sum") (Ls X.K):=by
 intro pins s σ H xs us Q I r h
 obtain⟨p,ns,rfl,hq,q⟩:=h
 obtain⟨u,rfl,rx⟩:=kM r
 cases rx
 obtain⟨its,rv,pl,hz⟩:=I.list hq
 have intsOf:∀(ns:List Int) (its:List Value),b5 (ns.map V.int) its->∃xs:List (Int×Tok),(its=xs.map λp=>Value.int p.1 p.2)/\ns=xs.map (·.1):=by
  intro ns
  induction ns with
  |nil=>intro its r;cases r;exact⟨[],rfl,rfl⟩
  |cons n ns ih=>
   intro its r
   cases r with
   |cons r rr=>
    obtain⟨xs,rfl,e⟩:=ih _ rr
    obtain⟨t,rfl⟩:=r
    exact⟨(n,t)::xs,rfl,by rw[e];rfl⟩
 obtain⟨xs,rfl,rfl⟩:=intsOf ns its rv
 refine sum_intListG (xs:=xs.toArray) (I.ok.hd hc) ?_ λh' tk t' hk=>⟨.int _,H,I.kept hk,⟨t',rfl⟩,?_⟩
 ·have e:=pl.isList
  simpa[intItems] using e
 ·rw[preSum_eq,dS (by simp)]
  simpa using q
end
end L2
end
section
namespace Bg
open PySem PySem.Spec PyProof.Rows L2
def lZ(i:Nat):Stmt:=PySem.Challenge.pw_beltgarth_k65_whole_crowded_or_done.main.body.getD i (.Pass ⟨0,0,0,0⟩)
abbrev oA:Stmt:=lZ 1
abbrev mN:Stmt:=lZ 2
abbrev sF:Stmt:=lZ 3
abbrev A0:Stmt:=lZ 4
abbrev uP:Stmt:=lZ 6
abbrev pO:Stmt:=lZ 8
abbrev k9:Stmt:=lZ 9
abbrev uO:Stmt:=lZ 11
abbrev oz:Stmt:=lZ 12
abbrev jU:Stmt:=lZ 13
abbrev eP:Stmt:=lZ 14
abbrev pN:Stmt:=lZ 15
abbrev gG:Stmt:=lZ 16
abbrev AZ:Stmt:=lZ 17
abbrev uR:Stmt:=lZ 18
abbrev mM:Stmt:=lZ 19
abbrev uQ:Stmt:=lZ 20
abbrev jb:Stmt:=lZ 21
abbrev qB:Stmt:=lZ 22
abbrev kj:Stmt:=lZ 23
abbrev Io:Stmt:=lZ 25
abbrev yS:Stmt:=lZ 26
abbrev A3:Stmt:=lZ 27
abbrev Ee:Stmt:=lZ 28
abbrev yT:Stmt:=lZ 29
abbrev sE:Stmt:=lZ 30
abbrev uS:Stmt:=lZ 31
abbrev Ip:Stmt:=lZ 33
abbrev yR:Stmt:=lZ 34
abbrev Iq:Stmt:=lZ 35
abbrev kh:Stmt:=lZ 36
abbrev C8:Stmt:=lZ 37
abbrev Ed:Stmt:=lZ 38
abbrev sD:Stmt:=lZ 39
abbrev A4:Stmt:=lZ 40
abbrev EL:List Str:=["_law_belt","_law_rest"]
abbrev zx:List Str:=["_law_belt","_law_rest","_law_many"]
def vq(K:Fg):TS:=(dz (jD (ar (ay 0) (ar (ay 2) aP))))
def vt(K:Fg):TS:=(gb (cH (bN (uL) (ay 2) (fQ (gF K) (ar (ay 0) aP)))) (dz (jD (ar (ay 0) (ar (ay 2) aP)))) dW)
def vw(K:Fg):TS:=(bt (bP (bN (dq K) (ay 2) (tC (.int 1))) (aQ 2)) (vt K))
def vx(K:Fg):TS:=(bt (bP (bN (dq K) (jD (ar (bN (fF K) (ay 0) (vF kH (tC (.int 1)))) aP)) (FI (FH K) (ay 0) gx (lE (vF kH (tC (.int 1)))))) (aQ 0)) (vw K))
def vy(K:Fg):TS:=(bt (lx (Dg (cH (bN ((y8 K false)) (bN (fF K) (ay 0) (vF kH (tC (.int 1)))) (ay 1))) (cH (bN ((y8 K true)) (bN (fF K) (ay 0) (vF kH (tC (.int 1)))) (FI (FH K) (ay 0) gx (lE (vF kH (tC (.int 1)))))))) (vx K)) (vq K))
def Bx(K:Fg):TS:=(bt (bP (tC (.int 0)) (aQ 2)) (vy K))
abbrev hJ:Stmt:=lZ 41
abbrev vL:List Str:=["_law_begin_here","_law_works_here","_law_points_here"]
abbrev gY:List Str:=["_law_begin_here","_law_works_here","_law_points_here","_law_belt","_law_keeps_done","_law_k","_law_some","_law_makes","_law_rest","_law_many"]
def u6(K:Fg):TS:=(dz (ay 4))
def jF(K:Fg):TS:=(bt (gb (K5 (tB (fQ (Fd K) (ar (d6 [] 1 (jk K (bN (fF K) (ay 2) (vF kH (tC (.int 1))))) (aQ 10) jE (bN ((y8 K false)) (ay 10) (ay 3))) aP)))) (dz (tC .non)) dW) (u6 K))
def mS(K:Fg):TS:=(bP (bA (hU K) [] E0 (ar (ay 3) (ar (ay 7) aP))) (aQ 3))
def mT(K:Fg):TS:=(bt (gb (K5 (tB (fQ (Fd K) (ar (d6 [] 1 (jk K (ay 6)) (aQ 10) jE (bN ((y8 K false)) (ay 10) (ay 3))) aP)))) (dz (tC .non)) dW) (mS K))
def mU(K:Fg):TS:=(bP (bN (dq K) (ay 4) (ay 9)) (aQ 4))
def mV(K:Fg):TS:=(bt (gb (cH (bN (uL) (ay 9) (fQ (gF K) (ar (ay 3) aP)))) (dz (tC .non)) dW) (mU K))
def mW(K:Fg):TS:=(bt (gb (cH (bN (xk) (ay 7) (tC .non))) (bt (bP (bA (rO K) [] E0 (ar (ay 3) (ar (ay 8) aP))) (my K 2 (dG (aQ 3) (dG (aQ 9) lX)))) (mV K)) dW) (mT K))
def mX(K:Fg):TS:=(bt (bP (d6 [] 1 (jk K (bN (fF K) (ay 2) (bN (dq K) (ay 5) (tC (.int 1))))) (aQ 10) (cH (bN (HW K) (ay 10) (ay 7))) (ay 10)) (aQ 8)) (mW K))
def mY(K:Fg):TS:=(bt (jI (pI K (ar (ay 1) aP)) (my K 2 (dG (aQ 5) (dG (my K 2 (dG (aQ 6) (dG (aQ 7) lX))) lX))) (mX K)) (jF K))
def sU(K:Fg):TS:=(bt (bP (tC (.int 0)) (aQ 4)) (mY K))
def qJ(K:Fg):TS:=(bt (bP (ay 0) (aQ 3)) (sU K))
abbrev Ec:Stmt:=lZ 42
abbrev F3:List Str:=["_law_script"]
abbrev DF:List Str:=["_law_script","_law_state","_law_places_here","_law_names_here","_law_works_here","_law_last_here","_law_points_here","_law_far","_law_begin_here","_law_pairs","_law_many"]
def Ej(K:Fg):TS:=(dz (bN (Ow) (fQ (Ls K) (ar (d6 [] 1 (jk K (bA (mP K) [] E0 (ar (ay 8) (ar (ay 4) (ar (ay 5) aP))))) (aQ 11) jE (fQ (gF K) (ar (ay 11) aP))) aP)) (ay 10)))
def Ek(K:Fg):TS:=(bt (gb (cH (bN (KI) (ay 10) (tC .non))) (dz (tC (.bl false))) dW) (Ej K))
def El(K:Fg):TS:=(bt (bP (bA (kq K) [] E0 (ar (ay 8) (ar (ay 4) (ar (ay 6) aP)))) (aQ 10)) (Ek K))
def Em(K:Fg):TS:=(dz (bN (HP K) (fQ (gF K) (ar (ID (d6 [] 1 (GO (ay 9)) (aQ 11) (cH (bN (HP K) (bN (fF K) (ay 11) (tC (.int 0))) (fQ (gF K) (ar (ay 4) aP)))) (ay 11))) aP)) (tC (.int 0))))
def En(K:Fg):TS:=(bt (gb (cH (bN (xk) (ay 7) (tC .non))) (bt (bP (bA (lg K) [] E0 (ar (jD (ar (tC (.int 0)) (ar (bA (tE K) [] E0 (ar (ay 8) (ar (bN (fF K) (ay 6) (tC (.int 0))) aP))) aP))) (ar (ay 4) (ar (ay 6) aP)))) (aQ 9)) (Em K)) dW) (El K))
def Eo(K:Fg):TS:=(bt (bP (bA (uY K) [] E0 (ar (ay 1) (ar (ay 2) (ar (bN (fF K) (ay 6) (tC (.int 0))) (ar (ay 3) aP))))) (aQ 8)) (En K))
def Ep(K:Fg):TS:=(bt (gb (cH (bN (uL) (fQ (gF K) (ar (bN (fF K) (ay 6) (tC (.int 0))) aP)) (ay 2))) (dz (bN (HP K) (ay 7) (jD (ar (tC (.str "ahead")) (ar (tC (.int 0)) (ar (bN (fF K) (ay 6) (tC (.int 0))) aP)))))) dW) (Eo K))
def Er(K:Fg):TS:=(bt (bP (bA (lq K) [] E0 (ar (ay 2) (ar (ay 4) (ar (ay 5) aP)))) (aQ 7)) (Ep K))
def Es(K:Fg):TS:=(bt (bP (bA (rN K) [] E0 (ar (ay 4) (ar (ay 5) (ar (ay 3) aP)))) (aQ 6)) (Er K))
def Bm(K:Fg):TS:=(bt (bP (bA (yW K) [] E0 (ar (ay 1) (ar (ay 3) (ar (ay 2) aP)))) (aQ 5)) (Es K))
def Bn(K:Fg):TS:=(bt (bP (bA (u0 K) [] E0 (ar (ay 1) (ar (ay 3) (ar (bN (fF K) (fR (ar (tC (.int 10)) (ar (tC (.int 10)) (ar (tC (.int 10)) (ar (tC (.int 6)) (ar (tC (.int 3)) aP)))))) (bN (xm) (ay 2) (tC (.int 1)))) aP)))) (aQ 4)) (Bm K))
def Bo(K:Fg):TS:=(bt (bP (bA (uZ K) [] E0 (ar (ay 1) (ar (bN (dq K) (tC (.int 1)) (bA (eQ K) [] E0 (ar (ay 1) (ar (bN (dq K) (ay 2) (tC (.int 2))) aP)))) aP))) (aQ 3)) (Bn K))
def Bp(K:Fg):TS:=(bt (bP (bA (rM K) [] E0 (ar (ay 1) aP)) (aQ 2)) (Bo K))
def Lu(K:Fg):TS:=(bt (bP (fR (ar (ay 0) (ar (tC (.int 0)) (ar (tC (.int 0)) aP)))) (aQ 1)) (Bp K))
section
variable(P:Program)(w:World)(K:Fg)(mg:Str->Option Value)(base:Heap)
abbrev mi:=cx P w K mg base "without" x6 zt (jt K)
abbrev iF:=cx P w K mg base "wanted_at" uc vK (fP K)
abbrev tN:=cx P w K mg base "pushed" zE BL (mQ K)
abbrev n0:=cx P w K mg base "any_order" tY vI (jC K)
abbrev pV:=cx P w K mg base "followed" vM xR (kr K)
abbrev tO:=cx P w K mg base "spread" zF BM (jV K)
abbrev kS:=cx P w K mg base "worked" zI BP (gN K)
abbrev tQ:=cx P w K mg base "weaker" zH BO (mR K)
abbrev je:=cx P w K mg base "belts_that_come" mn nK (fN K)
abbrev r8:=cx P w K mg base "has_all" x5 zq (lu K)
abbrev tP:=cx P w K mg base "turned" zG BN (jW K)
abbrev pX:=cx P w K mg base "seen" EI FT (ju K)
abbrev gy:=cx P w K mg base "places_to_keep" nM pA (dQ K)
abbrev pW:=cx P w K mg base "kept" EH FS (gM K)
abbrev kR:=cx P w K mg base "set_anew" vO xS (iK K)
abbrev lB:=cx P w K mg base "belts_ahead" rh sO (iC K)
abbrev n8:=cx P w K mg base "next_keep" tZ vJ (fO K)
abbrev rY:=cx P w K mg base "counted" xY zo (lp K)
abbrev mh:=cx P w K mg base "_law_draw" Jt Lx (eQ K)
abbrev xO:=cx P w K mg base "_law_thing" F6 Jq (qF K)
abbrev rX:=cx P w K mg base "_law_is_wanted" xX zk (lh K)
abbrev BG:=cx P w K mg base "_law_seen" Jw LA (tE K)
abbrev FL:=cx P w K mg base "_law_good" Ju Ly (tD K)
abbrev j6:=cx P w K mg base "_law_behind_work" tX vH (hU K)
abbrev DB:=cx P w K mg base "_law_moves" F4 Jo (qE K)
abbrev zb:=cx P w K mg base "_law_turned" EL FW (rO K)
abbrev tL:=cx P w K mg base "fewest" zz BK (mP K)
abbrev pU:=cx P w K mg base "_law_by_turning" vL xQ (kq K)
abbrev rW:=cx P w K mg base "_law_all_pairs" xW zj (lg K)
abbrev DA:=cx P w K mg base "_law_begin" F2 Jn (uY K)
abbrev rZ:=cx P w K mg base "crowded" xZ zp (lq K)
abbrev za:=cx P w K mg base "_law_points" EK FV (rN K)
abbrev FM:=cx P w K mg base "_law_last" Jv Lz (yW K)
abbrev DE:=cx P w K mg base "_law_works" F7 Jr (u0 K)
abbrev DC:=cx P w K mg base "_law_names" F5 Jp (uZ K)
abbrev y9:=cx P w K mg base "_law_places" EJ FU (rM K)
end
section
variable{P:Program}{w:World}{K:Fg}{mg:Str->Option Value}{base:Heap}
theorem vR(B:kP mg) :kO P w K mg base oh "any_order" oz vX (oK K):=lU λnd hu hu1 hr=>by exact
 (aT (bJ (bK gj (eY (bR eL)) (hV B (bR (qv 0))))))
theorem Cj(B:kP mg) :kO P w K mg base tT "pushed" uP CF (vh K):=lU λnd hu hu1 hr=>by exact
 (aT (bJ (gm ko (bK bX (eY (bR (qv 1))) (qv 0)) iI (iJ (hV B (bR (qv 0)))))))
theorem ym(B:kP mg)(c_p_pushed:tN P w K mg base):kO P w K mg base kT "set_anew" k9 yz (qM K):=lU λnd hu hu1 hr=>by exact
 (aT (bJ (fM c_p_pushed (aG (b6 bY rfl B.tuple_ boot_tuple (bR (yJ k9 kT ["name"] [] (eU (qv 0)) (gE 2) eZ (AL (bB (k8 hu) (qv 2) (qv 1) rfl) eL (qv 2))))) (bR (qv 1))))))
theorem Gn(B:kP mg)(c_p_set_anew:kR P w K mg base):kO P w K mg base zu "kept" AZ GT (Bq K):=lU λnd hu hu1 hr=>by exact
 (aT (bJ (fM c_p_set_anew (aG (qv 0) (bR (gD (qv 0) (qv 1)))))))
theorem pG(B:kP mg) :kO P w K mg base gA "places_to_keep" gG pJ (jG K):=lU λnd hu hu1 hr=>by exact
 (aE (fg 1 (bK rF (hV B (bR (qv 0))) aK)) (aE (v5 (bB nH (gD (qv 0) (qv 1)) eL rfl) (bJ (cR (bR (qv 1))))) (aT (bJ (yJ gG gA ["place","name"] [] (mK rfl B.enumerate_ (bR (qv 0))) (gC rfl (bQ (gE 2) (bQ (gE 3) eO))) (jS (bB nH (qv 3) eL rfl)) (qv 2))))))
theorem vS(B:kP mg)(c_p_places_to_keep:gy P w K mg base)(c_p_kept:pW P w K mg base):kO P w K mg base j9 "next_keep" kj vY (pe K):=lU λnd hu hu1 hr=>by exact
 (aT (bJ (gD (yJ kj j9 ["place"] [] (eU (fM c_p_places_to_keep (bR (qv 1)))) (gE 2) (jS (bB (k8 hu) (jR hu1 (qv 0) (fM c_p_kept (aG (qv 1) (bR (qv 2)))) (λ_ _=>rfl)) (bK rF (jR hu1 (qv 0) (qv 1) (λ_ _=>rfl)) aK) rfl)) (qv 2)) aK)))
theorem Gp(B:kP mg) :kO P w K mg base zv "seen" A0 GU (Br K):=lU λnd hu hu1 hr=>by exact
 (aE (fg 2 (cR fL)) (aE (eV PassesOwn.never rfl (eU (qv 0)) (gE 3) (aT (dU (nV (qv 2) (AL (QW.pt (uJ (bB ff (qv 3) (qv 1) rfl) (qy (bB jq (qv 3) (qv 2) rfl)))) (qv 3) eL))))) (aT (bJ (b6 bY rfl B.tuple_ boot_tuple (bR (qv 2)))))))
theorem Cp(B:kP mg)(c_p_set_anew:kR P w K mg base)(c_p_seen:pX P w K mg base):kO P w K mg base tV "worked" uR CJ (vn K):=lU λnd hu hu1 hr=>by exact
 (aE (v5 (bB yG (gD (qv 1) aK) eL rfl) (bJ (fM c_p_seen (aG (qv 0) (bR (qv 2)))))) (aT (bJ (fM c_p_seen (aG (fM c_p_set_anew (aG (qv 0) (bR (gD (qv 1) aK)))) (bR (qv 2)))))))
theorem sQ(B:kP mg) :kO P w K mg base i7 "belts_ahead" jb sS (lI K):=lU λnd hu hu1 hr=>by exact
 (aE (fg 1 (b6 (qd rfl (kX hr)) rfl B.dict_ boot_dict (bR (HK (yJ jb i7 [] [2] (qw (qv 0)) (gE 2) eZ (eY (aG (qv 2) (bR (cR fL))))))))) (aE (mL (eV PassesOwn.never rfl (xj (qv 0) ⟨rfl,rfl⟩) (gC rfl (bQ (gE 2) (bQ (gE 3) eO))) (aT (eV PassesOwn.never rfl (eU (qv 3)) (gE 4) (aT (dU (nV (jR hu1 (qv 1) (qv 4) (λ_ _=>rfl)) (qv 2)))))))) (aT (bJ (qv 1)))))
theorem Ck(B:kP mg)(c_p_belts_ahead:lB P w K mg base):kO P w K mg base tU "spread" uQ CG (vj K):=lU λnd hu hu1 hr=>by exact
 (aE (fg 2 (fM c_p_belts_ahead (bR (qv 1)))) (aE (fg 3 HG) (aE (mL (eV PassesOwn.never rfl (xj (qv 0) ⟨rfl,rfl⟩) (gC rfl (bQ (gE 4) (bQ (gE 5) eO))) (aT (dU (nV (AK (qv 3) (qv 5) (cR fL) ⟨rfl,rfl,rfl,rfl⟩) (qv 4)))))) (aE (fg 6 uH) (aE (jA PassesOwn.never (bB mG (fc Cd rfl B.len_ boot_len (bR (qv 3))) aK rfl) (aE (fg 5 (fc (Ce rfl) rfl B.min_ boot_min (bR (qv 3)))) (aE (fg 7 (HH (qv 3) (qv 5) ⟨rfl,rfl,rfl,rfl⟩)) (aT (eV PassesOwn.never rfl (eU (qv 7)) (gE 4) (aT (qx (bB (xh hu1) (qv 4) (qv 6) rfl) (aE (jz (qv 5) (pK (qv 6) (qv 4) (uU hu1))) (aT (dU (uG cg gg gi rC (AK (qv 3) (bK bX (qv 5) aK) (cR fL) ⟨rfl,rfl,rfl,rfl⟩) (bR (jR hu1 (qv 2) (qv 4) (λ_ _=>rfl))))))) jT))))))) (aT (bJ (qv 6))))))))
theorem Co(B:kP mg) :kO P w K mg base pC "weaker" pO CI (vm K):=lU λnd hu hu1 hr=>by exact
 (aT (bJ (fc (iQ rfl) rfl B.all_ boot_all (bR (yJ pO pC ["name","fellow"] [] (KC rfl B.zip_ (aG (qv 0) (bR (qv 1)))) (gC rfl (bQ (gE 2) (bQ (gE 3) eO))) eZ (NQ (fE yG (qv 2) eL rfl) (HI (fE (k8 hu) (qv 2) (qv 3) rfl))))))))
theorem z9(B:kP mg) :kO P w K mg base mj "has_all" mM Ax (sM K):=lU λnd hu hu1 hr=>by exact
 (aT (bJ (fc (iQ rfl) rfl B.all_ boot_all (bR (yJ mM mj ["name"] [] (eU (qv 1)) (gE 2) eZ (fE ff (qv 2) (qv 0) rfl))))))
theorem Cn(B:kP mg)(c_p_places_to_keep:gy P w K mg base)(c_p_kept:pW P w K mg base):kO P w K mg base pB "turned" pN CH (vk K):=lU λnd hu hu1 hr=>by exact
 (aE (fg 1 uH) (aE (fg 2 (b6 kU rfl B.list_ boot_list (bR (qv 0)))) (aE (jA PassesOwn.never (bB mG (hV B (bR (qv 2))) aK rfl) (aE (fg 3 (HB cg fm fq G3 (qv 2))) (aT (qx (bB (xh hu1) (qv 3) (qv 1) rfl) (aE (jz (yJ pN pB ["place"] [] (eU (fM c_p_places_to_keep (bR (qv 3)))) (gE 4) eZ (fM c_p_kept (aG (qv 3) (bR (qv 4))))) (pK (qv 1) (qv 3) (uU hu1))) (aT (dU (uG cg gg gi rC (qv 2) (bR (jR hu1 (qv 1) (qv 3) (λ_ _=>rfl))))))) jT)))) (aT (bJ (qv 1))))))
theorem nQ(B:kP mg)(c_p_has_all:r8 P w K mg base)(c_p_turned:tP P w K mg base)(c_p_worked:kS P w K mg base)(c_p_seen:pX P w K mg base):kO P w K mg base eM "belts_that_come" eP nU (jg K):=lU λnd hu hu1 hr=>by exact
 (aE (fg 3 (cR (bR (fM c_p_turned (bR (cR (bR (fM c_p_seen (aG (qv 0) (bR (gD (qv 2) aK))))))))))) (aE (eV PassesOwn.never rfl (mK rfl B.enumerate_ (bR (qv 1))) (gC rfl (bQ (gE 4) (bQ (gE 5) eO))) (aE (fg 6 (gD (qv 2) (bK bX (qv 4) aK))) (aE (mL (Oe eP eM ["belt"] [] 7 (qw (gD (qv 3) (qv 4))) (gE 8) eZ (fM c_p_worked (aG (qv 8) (aG (qv 5) (bR (qv 6))))))) (aT (dU (nV (qv 3) (fM c_p_turned (bR (yJ eP eM ["belt"] [] (eU (qv 7)) (gE 8) (jS (rH (fM c_p_has_all (aG (qv 8) (bR (qv 6)))))) (qv 8)))))))))) (aT (bJ (qv 3)))))
theorem Aa(B:kP mg) :kO P w K mg base ml "without" mN Ay (sN K):=lU λnd hu hu1 hr=>by exact
 (aT (bJ (b6 bY rfl B.tuple_ boot_tuple (bR (yJ mN ml ["one"] [] (eU (qv 0)) (gE 2) (jS (bB (yH hu) (qv 2) (qv 1) rfl)) (qv 2))))))
theorem vT(B:kP mg)(c_p_without:mi P w K mg base):kO P w K mg base oi "wanted_at" oA vZ (pj K):=lU λnd hu hu1 hr=>by exact
 (aE (fg 2 (b6 bY rfl B.tuple_ boot_tuple (bR (sA rfl rfl B.sorted_ B.set_ rfl (bR (qv 1)))))) (aE (fg 3 (cR (bR (qv 2)))) (aE (eV PassesOwn.never rfl (KB rfl B.reversed_ (bR (qv 0))) (gE 4) (aE (fg 2 (b6 bY rfl B.tuple_ boot_tuple (bR (sA rfl rfl B.sorted_ B.set_ rfl (bR (bK mH (fM c_p_without (aG (qv 2) (bR (gD (qv 4) aK)))) (b6 bY rfl B.tuple_ boot_tuple (bR (gD (qv 4) aK))))))))) (aT (dU (nV (qv 3) (qv 2)))))) (aT (bJ (uI rfl rfl B.list_ B.reversed_ rfl (bR (qv 3))))))))
theorem zZ(B:kP mg)(c_p_spread:tO P w K mg base)(c_p_worked:kS P w K mg base)(c_p_weaker:tQ P w K mg base)(c_p_belts_that_come:je P w K mg base)(c_p_wanted_at:iF P w K mg base):kO P w K mg base jN "counted" jU Av (sJ K):=lU λnd hu hu1 hr=>by exact
 (aE (fg 4 (fM c_p_wanted_at (aG (qv 1) (bR (qv 2))))) (aE (fg 5 (fM c_p_belts_that_come (aG (qv 0) (aG (qv 1) (bR (qv 4)))))) (aE (mL (Oe jU jN [] [10] 6 (qw (gD (qv 5) (g9 e7 aK))) (gE 10) (jS (rH (fM c_p_weaker (aG (qv 3) (bR (qv 10)))))) (qv 10))) (aE (fg 7 (cR (bR (fM c_p_spread (aG (b6 (qd rfl (kX hr)) rfl B.dict_ boot_dict (bR (yJ jU jN [] [10] (eU (qv 6)) (gE 10) eZ (eY (aG (qv 10) (bR aK)))))) (bR (gD (qv 5) (g9 e7 aK)))))))) (aE (eV PassesOwn.never rfl (Fc rfl B.range_ (aG (bK rF (hV B (bR (qv 1))) aK) (aG (g9 e7 aK) (bR (g9 e7 aK))))) (gE 8) (aE (fg 9 uH) (aE (mL (eV PassesOwn.never rfl (qw (gD (qv 5) (qv 8))) (gE 10) (aE (fg 11 (fM c_p_worked (aG (qv 10) (aG (gD (qv 1) (qv 8)) (bR (gD (qv 4) (bK bX (qv 8) aK))))))) (aT (v5 (bB (Mg hu1) (qv 11) (gD (qv 7) (g9 e7 aK)) rfl) (jz (jR hu1 (gD (qv 7) (g9 e7 aK)) (qv 11) (λ_ _=>rfl)) (pK (qv 9) (qv 10) (uU hu1)))))))) (aT (dU (nV (qv 7) (fM c_p_spread (aG (qv 9) (bR (gD (qv 5) (qv 8))))))))))) (aT (bJ (uI rfl rfl B.list_ B.reversed_ rfl (bR (qv 7))))))))))
theorem yk(B:kP mg)(c_p_kept:pW P w K mg base)(c_p_next_keep:n8 P w K mg base)(c_p_worked:kS P w K mg base)(c_p_seen:pX P w K mg base)(c_p_counted:rY P w K mg base)(c_p_wanted_at:iF P w K mg base):kO P w K mg base pZ "followed" qB yy (qL K):=lU λnd hu hu1 hr=>by exact
 (aE (fg 4 (fM c_p_wanted_at (aG (qv 1) (bR (qv 2))))) (aE (fg 5 (fM c_p_counted (aG (qv 0) (aG (qv 1) (aG (qv 2) (bR (qv 3))))))) (aE (fg 6 (fM c_p_seen (aG (qv 0) (bR (gD (qv 4) aK))))) (aE (fg 7 (cR fL)) (aE (eV PassesOwn.never rfl (mK rfl B.enumerate_ (bR (qv 1))) (gC rfl (bQ (gE 8) (bQ (gE 9) eO))) (aE (fg 10 (cR fL)) (aE (jA PassesOwn.never (bB (yH hu) (jR hu1 (gD (qv 5) (qv 8)) (qv 6) (λ_ _=>rfl)) (HC hu1 (gD (qv 5) (bK mH (qv 8) aK)) (fM c_p_worked (aG (qv 6) (aG (qv 9) (bR (gD (qv 4) (bK mH (qv 8) aK)))))) ⟨rfl,rfl,rfl,rfl⟩) rfl) (aE (dU (nV (qv 10) (fM c_p_next_keep (aG (gD (qv 5) (qv 8)) (bR (qv 6)))))) (aT (fg 6 (fM c_p_kept (aG (qv 6) (bR (gD (qv 10) (g9 e7 aK))))))))) (aE (dU (nV (qv 7) (b6 bY rfl B.tuple_ boot_tuple (bR (qv 10))))) (aT (fg 6 (fM c_p_worked (aG (qv 6) (aG (qv 9) (bR (gD (qv 4) (bK mH (qv 8) aK)))))))))))) (aE (fg 10 (cR fL)) (aE (jA PassesOwn.never (bB (yH hu) (jR hu1 (gD (qv 5) (g9 e7 aK)) (qv 6) (λ_ _=>rfl)) aK rfl) (aE (dU (nV (qv 10) (fM c_p_next_keep (aG (gD (qv 5) (g9 e7 aK)) (bR (qv 6)))))) (aT (fg 6 (fM c_p_kept (aG (qv 6) (bR (gD (qv 10) (g9 e7 aK))))))))) (aT (bJ (bK mH (b6 bY rfl B.tuple_ boot_tuple (bR (qv 7))) (eY (bR (b6 bY rfl B.tuple_ boot_tuple (bR (qv 10)))))))))))))))
theorem Ci(B:kP mg)(c_p_any_order:n0 P w K mg base)(c_p_followed:pV P w K mg base):kO P w K mg base tR "fewest" uO CD (u9 K):=lU λnd hu hu1 hr=>by exact
 (aT (bJ (fM c_p_followed (aG (qv 0) (aG (qv 1) (aG (qv 2) (bR (fM c_p_any_order (bR (qv 0))))))))))
theorem vQ(B:kP mg) :kO P w K mg base j8 "_law_behind_work" kh vW (oI K):=lU λnd hu hu1 hr=>by exact
 (aE (v5 (bB yG (qv 1) eL rfl) (bJ (qv 0))) (aT (bJ (bK bX (eY (bR (qv 1))) (gm ko (b6 bY rfl B.tuple_ boot_tuple (bR (yJ kh j8 ["_law_thing_here"] [] (eU (qv 0)) (gE 2) eZ (gD (cR (aG (qv 2) (bR eL))) (b6 rm rfl B.int_ boot_int (bR (fE (k8 hu) (qv 2) (qv 1) rfl))))))) iI (iJ (g9 e7 aK)))))))
theorem Gs(B:kP mg) :kO P w K mg base zx "_law_turned" A4 GX (Bx K):=lU λnd hu hu1 hr=>by exact
 (aE (fg 2 aK) (aE (jA PassesOwn.never (QW.pt (uJ (bB ff (gD (qv 0) (g9 e7 aK)) (qv 1) rfl) (qy (bB jq (gD (qv 0) (g9 e7 aK)) (gm ko (qv 0) iI (iJ (g9 e7 aK))) rfl)))) (aE (fg 0 (bK bX (eY (bR (gD (qv 0) (g9 e7 aK)))) (gm ko (qv 0) iI (iJ (g9 e7 aK))))) (aE (fg 2 (bK bX (qv 2) aK)) (aT (v5 (bB mG (qv 2) (hV B (bR (qv 0))) rfl) (bJ (eY (aG (qv 0) (bR (qv 2)))))))))) (aT (bJ (eY (aG (qv 0) (bR (qv 2))))))))
theorem yj(B:kP mg)(c_behind_work:j6 P w K mg base)(c_turned:zb P w K mg base):kO P w K mg base gY "_law_by_turning" hJ yx (qJ K):=lU λnd hu hu1 hr=>by exact
 (aE (fg 3 (qv 0)) (aE (fg 4 aK) (aE (eV PassesOwn.never rfl (mK rfl B.enumerate_ (bR (qv 1))) (gC rfl (bQ (gE 5) (bQ (gC rfl (bQ (gE 6) (bQ (gE 7) eO))) eO))) (aE (Oe hJ gY ["_law_name"] [] 8 (eU (gD (qv 2) (bK bX (qv 5) aK))) (gE 10) (jS (bB (yH hu) (qv 10) (qv 7) rfl)) (qv 10)) (aE (qx (bB nH (qv 7) eL rfl) (aE (jz (fM c_turned (aG (qv 3) (bR (qv 8)))) (gC rfl (bQ (gE 3) (bQ (gE 9) eO)))) (aE (v5 (bB mG (qv 9) (hV B (bR (qv 3))) rfl) (bJ eL)) (aT (fg 4 (bK bX (qv 4) (qv 9)))))) jT) (aE (v5 (HM (rH (fc (iQ rfl) rfl B.all_ boot_all (bR (yJ hJ gY ["_law_name"] [] (eU (qv 6)) (gE 10) eZ (fE ff (qv 10) (qv 3) rfl)))))) (bJ eL)) (aT (fg 3 (fM c_behind_work (aG (qv 3) (bR (qv 7)))))))))) (aE (v5 (HM (rH (fc (iQ rfl) rfl B.all_ boot_all (bR (yJ hJ gY ["_law_name"] [] (eU (gD (qv 2) (g9 e7 aK))) (gE 10) eZ (fE ff (qv 10) (qv 3) rfl)))))) (bJ eL)) (aT (bJ (qv 4)))))))
theorem LO(B:kP mg) :kO P w K mg base F0 "_law_seen" Iq LY (IR K):=lU λnd hu hu1 hr=>by exact
 (aE (fg 2 (cR fL)) (aE (eV PassesOwn.never rfl (mK rfl B.enumerate_ (bR (qv 0))) (gC rfl (bQ (gE 3) (bQ (gE 4) eO))) (aT (dU (nV (qv 2) (gD (cR (aG eL (bR (qv 4)))) (b6 rm rfl B.int_ boot_int (bR (MI (fE ff (qv 4) (qv 1) rfl) (HI (fE jq (qv 4) (gm ko (qv 0) iI (iJ (qv 3))) rfl)))))))))) (aT (bJ (b6 bY rfl B.tuple_ boot_tuple (bR (qv 2)))))))
theorem LM(B:kP mg)(c_seen:BG P w K mg base):kO P w K mg base BS "_law_good" C8 LW (IL K):=lU λnd hu hu1 hr=>by exact
 (aE (fg 1 (fM c_seen (aG (qv 1) (bR (gD (qv 2) (qv 0)))))) (aE (v5 (rH (fc (iQ rfl) rfl B.all_ boot_all (bR (yJ C8 BS ["_law_name"] [] (eU (gD (qv 2) (qv 0))) (gE 3) eZ (fE ff (qv 3) (qv 1) rfl))))) (bJ (cR (bR (eY (aG (qv 0) (bR (qv 1)))))))) (aT (bJ (cR fL)))))
theorem JF(B:kP mg)(c_good:FL P w K mg base)(c_behind_work:j6 P w K mg base):kO P w K mg base DG "_law_moves" Ed JT (Et K):=lU λnd hu hu1 hr=>by exact
 (aE (jz (qv 0) (gC rfl (bQ (gE 3) (bQ (gE 4) eO)))) (aE (fg 5 (cR fL)) (aE (fg 6 (cR fL)) (aE (v5 (bB AG (qv 3) (hV B (bR (qv 1))) rfl) (fg 5 (fM c_good (aG (bK bX (qv 3) aK) (aG (fM c_behind_work (aG (qv 4) (bR (gD (gD (qv 1) (qv 3)) aK)))) (bR (qv 2))))))) (aE (eV PassesOwn.never rfl (eU (qv 4)) (gE 7) (aT (v5 (bB nH (qv 7) eL rfl) (dU (uG cg gg gi rC (qv 6) (bR (fM c_good (aG (qv 3) (aG (bK bX (eY (bR (qv 7))) (gm ko (qv 4) iI (iJ (g9 e7 aK)))) (bR (qv 2))))))))))) (aT (bJ (eY (aG (qv 5) (bR (qv 6)))))))))))
theorem zX(B:kP mg)(c_moves:DB P w K mg base):kO P w K mg base si "_law_all_pairs" sD As (sH K):=lU λnd hu hu1 hr=>by exact
 (aE (fg 3 (HF (kX hr) (qv 0) (fM c_moves (aG (qv 0) (aG (qv 1) (bR (qv 2))))))) (aE (fg 4 (cR (bR (qv 0)))) (aE (jA PassesOwn.never (bB mG (hV B (bR (qv 4))) aK rfl) (aE (jz (HE (kX hr) (qv 3) (HB cg fm fq G3 (qv 4)) (λ_ _=>rfl)) (gC rfl (bQ (gE 5) (bQ (gE 6) eO)))) (aT (eV PassesOwn.never rfl (eU (bK bX (qv 5) (qv 6))) (gE 7) (aT (qx (bB (CP (kX hr)) (qv 7) (qv 3) rfl) (aE (jz (fM c_moves (aG (qv 7) (aG (qv 1) (bR (qv 2))))) (pK (qv 3) (qv 7) (Fl (kX hr)))) (aT (dU (nV (qv 4) (qv 7))))) jT)))))) (aT (bJ (qv 3))))))
theorem LK(B:kP mg) :kO P w K mg base FY "_law_draw" Io LV (IF K):=lU λnd hu hu1 hr=>by exact
 (aE (jz (gm ko (qv 0) iI (iJ aK)) (Kz rfl (bQ (gE 2) (bQ (gE 3) eO)))) (aE (jz (bK bX (qv 3) aK) (pK (qv 0) aK uW)) (aE (qx (QW.pt (uJ (bB AG (bK bX (bK D4 (qv 3) aK) aK) (hV B (bR (qv 2))) rfl) (qy (bB (k8 hu) (bK i9 (gD (qv 2) aK) aK) aK rfl)))) (aE (v5 (bB (k8 hu) (bK i9 (qv 3) aK) aK rfl) (jz (gD (qv 2) (bK bX (bK D4 (qv 3) aK) aK)) (pK (qv 0) aK uW))) (aT (qx (bB jq (gD (qv 0) aK) (eY (aG aK (bR (g9 e7 aK)))) rfl) (aE (jz (fc yg rfl B.divmod_ boot_divmod (aG (gD (qv 0) aK) (bR (qv 1)))) (gC rfl (bQ (pK (qv 0) aK uW) (bQ (gE 4) eO)))) (aT (bJ (qv 4)))) jT))) (aT (v5 (bB AG (qv 3) (hV B (bR (qv 2))) rfl) (bJ (bK i9 (gD (qv 2) (qv 3)) (qv 1)))))) (aE (fg 5 (bK bX (bK gj (qv 3) aK) aK)) (aE (v5 (bB mG (hV B (bR (qv 2))) aK rfl) (fg 5 (bK bX (qv 5) (bK gj (gD (qv 2) (bK i9 (bK gj (qv 3) aK) (hV B (bR (qv 2))))) (bK bX aK (qv 3)))))) (aE (fg 5 (bK i9 (bK gj (bK i9 (qv 5) aK) (bK bX (qv 3) aK)) aK)) (aE (fg 5 (bK i9 (bK gj (qv 5) (qv 5)) aK)) (aT (bJ (bK i9 (bK i9 (bK gj (qv 5) (qv 5)) aK) (qv 1)))))))))))
theorem JI(B:kP mg)(c_draw:mh P w K mg base):kO P w K mg base DH "_law_thing" Ee JV (Ew K):=lU λnd hu hu1 hr=>by exact
 (aT (bJ (gD (bK bX (qv 1) (cR (bR eL))) (fM c_draw (aG (qv 0) (bR (bK bX (hV B (bR (qv 1))) aK)))))))
theorem JE(B:kP mg)(c_draw:mh P w K mg base)(c_thing:xO P w K mg base):kO P w K mg base xT "_law_begin" yR JS (Ei K):=lU λnd hu hu1 hr=>by exact
 (aE (fg 4 (bK bX (b6 kU rfl B.list_ boot_list (bR (qv 2))) (yJ yR xT ["_law_k"] [] (iA rfl B.range_ (bR (bK rF (qv 1) (hV B (bR (qv 2)))))) (gE 6) eZ (fM c_thing (aG (qv 0) (bR (qv 3))))))) (aE (fg 5 (cR fL)) (aE (jA PassesOwn.never (bB mG (hV B (bR (qv 4))) aK rfl) (aT (dU (nV (qv 5) (uG cg fm fq AD (qv 4) (bR (fM c_draw (aG (qv 0) (bR (hV B (bR (qv 4)))))))))))) (aT (bJ (b6 bY rfl B.tuple_ boot_tuple (bR (qv 5))))))))
theorem z0(B:kP mg)(c_p_without:mi P w K mg base)(c_p_wanted_at:iF P w K mg base):kO P w K mg base sk "crowded" sF Aw (sL K):=lU λnd hu hu1 hr=>by exact
 (aE (fg 3 (fM c_p_wanted_at (aG (qv 1) (bR (qv 2))))) (aE (eV PassesOwn.never rfl (KA rfl B.enumerate_ (bR (qv 3))) (gC rfl (bQ (gE 4) (bQ (gE 5) eO))) (aE (v5 (bB mG (hV B (bR (qv 5))) (qv 0) rfl) (bJ (eY (aG ja (aG (qv 4) (bR (qv 5))))))) (aT (qx (QW.pt (uJ (bB AG (qv 4) (hV B (bR (qv 1))) rfl) (qy (bB nH (gD (gD (qv 1) (qv 4)) aK) eL rfl)))) (aE (fg 6 (fM c_p_without (aG (gD (qv 3) (bK bX (qv 4) aK)) (bR (gD (gD (qv 1) (qv 4)) aK))))) (aT (v5 (bB mG (hV B (bR (qv 6))) (bK rF (qv 0) aK) rfl) (bJ (eY (aG ja (aG (qv 4) (bR (qv 6))))))))) jT)))) (aT (bJ eL))))
theorem zY(B:kP mg) :kO P w K mg base sj "_law_is_wanted" sE Au (sI K):=lU λnd hu hu1 hr=>by exact
 (aE (eV PassesOwn.never rfl (eU (gm K1 (qv 0) (iJ (qv 2)) iI)) (gC rfl (bQ (gE 4) (bQ (gE 5) eO))) (aE (v5 (bB ff (qv 3) (qv 4) rfl) (bJ HA)) (aT (v5 (bB (Mf hu) (qv 5) (qv 3) rfl) (bJ HA))))) (aT (bJ (fE ff (qv 3) (qv 1) rfl))))
theorem Gr(B:kP mg)(c_is_wanted:rX P w K mg base):kO P w K mg base tW "_law_points" uS GW (Bu K):=lU λnd hu hu1 hr=>by exact
 (aE (fg 3 (cR fL)) (aE (eV PassesOwn.never rfl (iA rfl B.range_ (bR (bK bX (hV B (bR (qv 0))) aK))) (gE 4) (aT (dU (nV (qv 3) (b6 bY rfl B.tuple_ boot_tuple (bR (yJ uS tW ["_law_name"] [] (eU (fc zO rfl B.sorted_ boot_sorted (bR (qv 2)))) (gE 5) (jS (rH (fM c_is_wanted (aG (qv 0) (aG (qv 1) (aG (qv 4) (bR (qv 5)))))))) (qv 5)))))))) (aT (bJ (qv 3)))))
theorem LN(B:kP mg)(c_draw:mh P w K mg base):kO P w K mg base FZ "_law_last" Ip LX (IM K):=lU λnd hu hu1 hr=>by exact
 (aE (fg 3 (b6 kU rfl B.list_ boot_list (bR (qv 1)))) (aE (fg 4 (cR fL)) (aE (eV PassesOwn.never rfl (iA rfl B.range_ (bR (fc (ES rfl) rfl B.min_ boot_min (aG (hV B (bR (qv 1))) (bR (fM c_draw (aG (qv 0) (bR (bK bX (qv 2) aK))))))))) (gE 5) (aT (dU (nV (qv 4) (uG cg fm fq AD (qv 3) (bR (fM c_draw (aG (qv 0) (bR (hV B (bR (qv 3)))))))))))) (aT (bJ (b6 bY rfl B.tuple_ boot_tuple (bR (qv 4))))))))
theorem JJ(B:kP mg)(c_draw:mh P w K mg base)(c_thing:xO P w K mg base):kO P w K mg base xV "_law_works" yT JW (Ex K):=lU λnd hu hu1 hr=>by exact
 (aE (fg 3 (cR fL)) (aE (eV PassesOwn.never rfl (iA rfl B.range_ (bR (fM c_draw (aG (qv 0) (bR (bK bX (qv 2) aK)))))) (gE 4) (aE (fg 5 (gD (cR (aG aK (aG aK (aG aK (aG aK (aG aK (bR aK))))))) (fM c_draw (aG (qv 0) (bR aK))))) (aE (fg 6 (b6 bY rfl B.tuple_ boot_tuple (bR (yJ yT xV ["_law_j"] [] (iA rfl B.range_ (bR (qv 5))) (gE 7) eZ (gD (qv 1) (fM c_draw (aG (qv 0) (bR (hV B (bR (qv 1))))))))))) (aT (dU (nV (qv 3) (eY (aG (qv 6) (bR (gD (cR (aG eL (bR (fM c_thing (aG (qv 0) (bR (qv 1))))))) (b6 rm rfl B.int_ boot_int (bR (fE mG (fM c_draw (aG (qv 0) (bR aK))) aK rfl))))))))))))) (aT (bJ (b6 bY rfl B.tuple_ boot_tuple (bR (qv 3)))))))
theorem JG(B:kP mg)(c_draw:mh P w K mg base):kO P w K mg base xU "_law_names" yS JU (Eu K):=lU λnd hu hu1 hr=>by exact
 (aE (fg 2 ja) (aE (fg 3 (bK bX aK (fM c_draw (aG (qv 0) (bR aK))))) (aE (fg 4 (fM c_draw (aG (qv 0) (bR (qv 3))))) (aE (fg 5 (fM c_draw (aG (qv 0) (bR aK)))) (aE (Oe yS xU ["_law_j"] [] 6 (iA rfl B.range_ (bR (qv 3))) (gE 11) eZ (gD (qv 2) (bK i9 (bK bX (qv 5) (bK gj (bK gj aK (qv 11)) (fM c_draw (aG (qv 0) (bR aK))))) aK))) (aE (fg 7 (cR fL)) (aE (eV PassesOwn.never rfl (iA rfl B.range_ (bR (qv 1))) (gE 8) (aE (fg 9 (bK bX (bK bX (gm ko (qv 6) iI (iJ (qv 4))) (cR (bR (gD (qv 2) (bK i9 (bK bX (qv 5) (bK gj aK (qv 8))) aK))))) (gm ko (qv 6) (iJ (bK bX (qv 4) aK)) iI))) (aE (fg 10 (OV ja (qv 9))) (aE (v5 (QW.pt (NR (bB ff (qv 10) (eY (aG ja (aG ja (aG ja (aG ja (aG ja (bR ja))))))) rfl) (ML (QW.pt (uJ (bB AG (qv 3) aK rfl) (qy (bB (k8 hu) (bK i9 (bK bX (qv 3) (qv 8)) aK) aK rfl))))))) (fg 10 (bK bX (qv 10) ja))) (aT (dU (nV (qv 7) (qv 10)))))))) (aT (bJ (qv 7))))))))))
theorem Gq(B:kP mg)(c_draw:mh P w K mg base):kO P w K mg base zw "_law_places" A3 GV (Bs K):=lU λnd hu hu1 hr=>by exact
 (aT (bJ (gD (cR (aG aK (aG aK (aG aK (aG aK (aG aK (aG aK (aG aK (aG aK (aG aK (aG aK (aG aK (aG aK (aG aK (aG aK (aG aK (bR aK))))))))))))))))) (fM c_draw (aG (qv 0) (bR aK))))))
theorem Nj(B:kP mg)(c_p_fewest:tL P w K mg base)(c_by_turning:pU P w K mg base)(c_seen:BG P w K mg base)(c_all_pairs:rW P w K mg base)(c_begin:DA P w K mg base)(c_p_crowded:rZ P w K mg base)(c_points:za P w K mg base)(c_last:FM P w K mg base)(c_works:DE P w K mg base)(c_draw:mh P w K mg base)(c_names:DC P w K mg base)(c_places:y9 P w K mg base):kO P w K mg base DF "law" Ec Li (Lu K):=lU λnd hu hu1 hr=>by exact
 (aE (fg 1 (cR (aG (qv 0) (aG aK (bR aK))))) (aE (fg 2 (fM c_places (bR (qv 1)))) (aE (fg 3 (fM c_names (aG (qv 1) (bR (bK bX aK (fM c_draw (aG (qv 1) (bR (bK bX (qv 2) aK))))))))) (aE (fg 4 (fM c_works (aG (qv 1) (aG (qv 3) (bR (gD (cR (aG aK (aG aK (aG aK (aG aK (bR aK)))))) (bK rF (qv 2) aK))))))) (aE (fg 5 (fM c_last (aG (qv 1) (aG (qv 3) (bR (qv 2)))))) (aE (fg 6 (fM c_points (aG (qv 4) (aG (qv 5) (bR (qv 3)))))) (aE (fg 7 (fM c_p_crowded (aG (qv 2) (aG (qv 4) (bR (qv 5)))))) (aE (v5 (bB mG (hV B (bR (gD (qv 6) aK))) (qv 2) rfl) (bJ (fE (CO (kX hr)) (qv 7) (eY (aG ja (aG aK (bR (gD (qv 6) aK))))) rfl))) (aE (fg 8 (fM c_begin (aG (qv 1) (aG (qv 2) (aG (gD (qv 6) aK) (bR (qv 3))))))) (aE (qx (bB nH (qv 7) eL rfl) (aE (fg 9 (fM c_all_pairs (aG (eY (aG aK (bR (fM c_seen (aG (qv 8) (bR (gD (qv 6) aK))))))) (aG (qv 4) (bR (qv 6)))))) (aT (bJ (fE (CO (kX hr)) (hV B (bR (HJ (yJ Ec DF ["_law_pair"] [] (HL (qv 9)) (gE 11) (jS (bB (CO (kX hr)) (gD (qv 11) aK) (hV B (bR (qv 4))) rfl)) (qv 11))))) aK rfl)))) jT) (aE (fg 10 (fM c_by_turning (aG (qv 8) (aG (qv 4) (bR (qv 6)))))) (aE (v5 (bB yG (qv 10) eL rfl) (bJ HA)) (aT (bJ (fE NB (fc (ET rfl) rfl B.sum_ boot_sum (bR (yJ Ec DF ["_law_group"] [] (eU (fM c_p_fewest (aG (qv 8) (aG (qv 4) (bR (qv 5)))))) (gE 11) eZ (hV B (bR (qv 11)))))) (qv 10) rfl)))))))))))))))
end
end Bg
end
section
namespace Bg
open PySem L2
theorem sC{K:Fg}{st scr:Addr}{m:Int}{k:Nat}{ns:List Int}{c:Int}{H H2:Hp}{Q:VK}{o4 o5:Option V}{nx:St->Hp->Prop}(hk:k<=1000000)(m0:0<m)
  (q:∀(d:Int) (H':Hp),0<=d->d<m->ma K H' st (k+1)->iY st H H'->Q (.int d) H') (hS:H2 st=some (.lst [.ref scr,.int ((k:Int)+1),.int c])) (hscr:jO K H2 scr ns) (hns:ns.length<=63) (hB:iY st H H2) :
  qK K {nx:=nx,rt:=Q} [some (.ref st),some (.int m),some (.ref scr),some (.int (k:Nat)),o4,o5] H2:=by
 have e1:(((k+1:Nat):Nat):Int)=(k:Int)+1:=by lia
 have S2:ma K H2 st (k+1):=⟨scr,ns,c,by rw[e1];exact hS,hscr,hns⟩
 refine⟨_,rfl,.inl ⟨_,_,rfl,rfl,.inr ⟨by decide,by decide⟩,.inl ⟨_,_,rfl,rfl,?_⟩⟩⟩
 have rest:∀z:Int,Bc K {nx:=nx,rt:=Q} [some (.ref st),some (.int m),some (.ref scr),some (.int (k:Nat)),o4,some (.int z)] H2:=λz=>by
  have b1:0<=z % 2147483629:=cJ _ (by decide)
  have b2:z % 2147483629<2147483629:=cI _ (by decide)
  refine⟨_,rfl,_,_,rfl,rfl,(by show(0:Int)<2147483629;decide),_,rfl,.inl ⟨_,_,rfl,rfl,.inl ⟨_,_,rfl,rfl,.inl ⟨by lia,by lia⟩,_,_,rfl,rfl,(by show(0:Int)<2147483629;decide),?_⟩⟩⟩
  generalize hy:z % 2147483629*((k:Int)+3) % 2147483629=y
  have c1:0<=y:=by rw[<-hy];exact cJ _ (by decide)
  have c2:y<2147483629:=by rw[<-hy];exact cI _ (by decide)
  refine⟨_,rfl,_,rfl,.inl ⟨_,_,rfl,rfl,.inl ⟨by lia,by lia⟩,_,_,rfl,rfl,(by show(0:Int)<2147483587;decide),?_⟩⟩
  generalize hx:y*y % 2147483587=x
  have d1:0<=x:=by rw[<-hx];exact cJ _ (by decide)
  have d2:x<2147483587:=by rw[<-hx];exact cI _ (by decide)
  refine⟨_,rfl,_,rfl,.inl ⟨_,_,rfl,rfl,.inl ⟨by lia,by lia⟩,_,_,rfl,rfl,(by show(0:Int)<1999999973;decide),_,rfl,_,_,rfl,rfl,m0,?_⟩⟩
  exact q _ H2 (cJ _ (by lia)) (cI _ m0) S2 hB
 refine⟨_,rfl,_,_,rfl,.inl ⟨_,hscr.sq,rfl⟩,_,_,rfl,rfl,_,rfl,dy (λhl=>?_) (λ_=>rest _)⟩
 rw[af] at hl
 have hlp:0<ns.length:=by lia
 refine⟨_,rfl,_,rfl,_,rfl,.inl ⟨_,_,rfl,rfl,.inr ⟨by decide,by decide⟩,_,rfl,_,_,rfl,.inl ⟨_,hscr.sq,rfl⟩,_,_,rfl,rfl,(by rw[af];lia),?_⟩⟩
 have i1:0<=(k:Int)*7 % ((ns.map V.int).length:Nat):=cJ _ (by rw[af];lia)
 have i2:(k:Int)*7 % ((ns.map V.int).length:Nat)<((ns.map V.int).length:Nat):=cI _ (by rw[af];lia)
 rw[af] at i1 i2
 have i3:((k:Int)*7 % (ns.length:Nat)).toNat<ns.length:=by lia
 refine lD hscr.sq (by rw[af];exact i1) (v:=.int ns[((k:Int)*7 % (ns.length:Nat)).toNat]) (by simp only[af];rw[aH,aa i3];rfl) ?_
 exact⟨_,rfl,.inl ⟨_,_,rfl,rfl,.inl ⟨_,_,rfl,rfl,.inr ⟨by lia,by lia⟩,.inl ⟨_,_,rfl,rfl,rest _⟩⟩⟩⟩
theorem MO{K:Fg}{vs:List V}{H:Hp}{Q:VK}{E:XK}(h:eQ K vs H Q E):IF K {nx:=λ_ H'=>Q .non H',rt:=Q} (start FY vs) H:=by
 obtain⟨st,m,k,rfl,S,hk,m0,m1,q⟩:=h
 obtain⟨scr,ns,c,hst,hscr,hns⟩:=S
 refine⟨_,rfl,_,rfl,.inl ⟨st,_,rfl,cq.of hst,λp hp=>?_⟩⟩
 refine⟨p,_,rfl,cq.of ak,rfl,_,_,rfl,_,_,rfl,rfl,?_⟩
 have np:st≠p:=aL hst hp
 have B1:iY st H (aN H p (.lst (nO [V.ref scr,V.int (k:Nat),V.int c] none (some 2)))):=(iY.refl st H).new hp
 have h1:(aN H p (.lst (nO [V.ref scr,V.int (k:Nat),V.int c] none (some 2)))) st=some (.lst [.ref scr,.int (k:Nat),.int c]):=by rw[aA np];exact hst
 have s1:jO K (aN H p (.lst (nO [V.ref scr,V.int (k:Nat),V.int c] none (some 2)))) scr ns:=hscr.mono (.of_but B1 hst)
 generalize aN H p (.lst (nO [V.ref scr,V.int (k:Nat),V.int c] none (some 2)))=H1 at B1 h1 s1 ⊢
 refine⟨_,rfl,.inl ⟨_,_,rfl,rfl,_,rfl,MW h1 (by decide) (by show 1<3;decide) ?_⟩⟩
 have B2:iY st H (aN H1 st (.lst [.ref scr,.int ((k:Int)+1),.int c])):=B1.trans .upd_at
 have h2:(aN H1 st (.lst [.ref scr,.int ((k:Int)+1),.int c])) st=some (.lst [.ref scr,.int ((k:Int)+1),.int c]):=ak
 have s2:jO K (aN H1 st (.lst [.ref scr,.int ((k:Int)+1),.int c])) scr ns:=s1.mono (.of_but .upd_at h1)
 show Be K _ [some (.ref st),some (.int m),some (.ref scr),some (.int (k:Nat)),none,none] (aN H1 st (.lst [.ref scr,.int ((k:Int)+1),.int c]))
 generalize aN H1 st (.lst [.ref scr,.int ((k:Int)+1),.int c])=H2 at B2 h2 s2 ⊢
 have tail:=@sC K st scr m k ns c H H2 Q none none (λ_ H'=>Q .non H') hk m0 q h2 s2 hns B2
 have dig:∀(c':Int) (H3:Hp),H3 st=some (.lst [.ref scr,.int ((k:Int)+1),.int c'])->jO K H3 scr ns->iY st H H3->
   Bd K {nx:=qK K {nx:=λ_ H'=>Q .non H',rt:=Q},rt:=Q} [some (.ref st),some (.int m),some (.ref scr),some (.int (k:Nat)),none,none] H3:=λc' H3 h3 s3 B3=>by
  refine⟨_,rfl,lD (cq.of h3) (by decide) rfl ?_⟩
  refine⟨_,rfl,(by show 2<=sizeLine;decide),λt ht=>⟨t,_,rfl,.inr (cE.of ak),rfl,rfl,_,rfl,?_⟩⟩
  have n3:st≠t:=aL h3 ht
  have B4:iY st H (aN H3 t (.tup [.int 0,.int (-1)])):=B3.new ht
  have h4:(aN H3 t (.tup [.int 0,.int (-1)])) st=some (.lst [.ref scr,.int ((k:Int)+1),.int c']):=by rw[aA n3];exact h3
  have s4:jO K (aN H3 t (.tup [.int 0,.int (-1)])) scr ns:=s3.mono (.of_same ((aJ.refl H3).new ht))
  refine Nt (λ_=>?_) (λ_=>?_)
  ·-- _law_state[2],_law_digit=divmod(_law_state[2],_law_many)
   refine⟨_,rfl,.inl ⟨st,_,_,_,rfl,rfl,cq.of h4,yd (by decide) rfl,_,rfl,_,_,rfl,⟨m0,m1⟩,λp2 hp2=>?_⟩⟩
   have n4:st≠p2:=aL h4 hp2
   refine⟨p2,_,rfl,cE.of ak,rfl,_,_,rfl,_,rfl,MW (by rw[aA n4];exact h4) (by decide) (by show 2<3;decide) ?_⟩
   refine⟨_,_,rfl,rfl,_,rfl,?_⟩
   have B5:=(B4.new (o:=.tup [.int (c' / m),.int (c' % m)]) hp2)
   have s5:jO K (aN (aN H3 t (.tup [.int 0,.int (-1)])) p2 (.tup [.int (c' / m),.int (c' % m)])) scr ns:=s4.mono (.of_same ((aJ.refl _).new hp2))
   have h5:(aN (aN H3 t (.tup [.int 0,.int (-1)])) p2 (.tup [.int (c' / m),.int (c' % m)])) st=some (.lst [.ref scr,.int ((k:Int)+1),.int c']):=by rw[aA n4];exact h4
   refine q _ _ (cJ _ (by lia)) (cI _ m0) ⟨scr,ns,c' / m,?_,s5.mono (.of_but .upd_at h5),hns⟩ (B5.trans .upd_at)
   have e1:(((k+1:Nat):Nat):Int)=(k:Int)+1:=by lia
   rw[ak,e1]
   rfl
  ·exact sC hk m0 q h4 s4 hns B4
 have e1:(((k+1:Nat):Nat):Int)=(k:Int)+1:=by lia
 have elif:gb (cH (bN Fe (ay 3) (fQ (gF K) (ar (ay 2) aP)))) (dz (bN kG (bN (fF K) (ay 2) (ay 3)) (ay 1))) dW
   {nx:=qK K {nx:=λ_ H'=>Q V.non H',rt:=Q},rt:=Q} [some (V.ref st),some (V.int m),some (V.ref scr),some (V.int (k:Nat)),none,none] H2:=by
  refine⟨_,rfl,_,rfl,_,_,rfl,.inl ⟨_,s2.sq,rfl⟩,_,_,rfl,rfl,_,rfl,dy (λhlt=>?_) (λ_=>tail)⟩
  rw[af] at hlt
  have j2:((k:Nat):Int).toNat<ns.length:=by lia
  refine⟨_,rfl,_,rfl,lD s2.sq (by lia) (v:=.int ns[((k:Nat):Int).toNat]) (by rw[aH,aa j2];rfl) ?_⟩
  refine⟨_,rfl,_,_,rfl,rfl,m0,?_⟩
  exact q _ H2 (cJ _ (by lia)) (cI _ m0) ⟨scr,ns,c,by rw[e1];exact h2,s2,hns⟩ B2
 refine⟨_,rfl,_,_,rfl,rfl,⟨by decide,by decide⟩,.inl ⟨_,_,rfl,rfl,_,rfl,_,_,rfl,.inl ⟨_,s2.sq,rfl⟩,_,_,rfl,rfl,_,rfl,dy (λhlt=>?_) (λ_=>?_)⟩⟩
 ·rw[af] at hlt
  have hlp:0<ns.length:=by lia
  have i0:(ns.map V.int)[(0:Int).toNat]?=some (.int ns[0]):=by
   show(ns.map V.int)[0]?=_
   rw[aH,aa hlp];rfl
  refine⟨_,rfl,lD s2.sq (by decide) i0 ⟨_,_,rfl,rfl,(by show(0:Int)<2;decide),.inl ⟨rfl,_,rfl,dy (λ_=>?_) (λ_=>?_)⟩⟩⟩
  ·-- if _law_k % 12==0
   refine⟨_,rfl,_,_,rfl,rfl,(by show(0:Int)<12;decide),.inl ⟨rfl,_,rfl,dy (λ_=>?_) (λ_=>dig c H2 h2 s2 B2)⟩⟩
   have j2:((k:Int) / 12+1).toNat<ns.length:=by lia
   refine⟨_,rfl,_,rfl,_,_,rfl,rfl,⟨by decide,by decide⟩,.inl ⟨_,_,rfl,rfl,lD s2.sq (by lia) (v:=.int ns[((k:Int) / 12+1).toNat]) (by rw[aH,aa j2];rfl) ?_⟩⟩
   refine⟨_,rfl,MW h2 (by decide) (by show 2<3;decide) ?_⟩
   exact dig _ _ ak (s2.mono (.of_but .upd_at h2)) (B2.trans .upd_at)
  ·exact elif
 ·exact jo elif
end Bg
end
section
namespace Bg
open PySem PySem.Spec PyProof.Rows L2
end Bg
end
section
namespace Bg
open PySem L2
theorem yY{ys:List Str}{i:Nat}{x:V}(hx:(ys.map V.str)[i]?=some x):∃y:Str,ys[i]?=some y/\x=.str y:=by
 rw[aH] at hx
 cases e:ys[i]? with
 |none=>rw[e] at hx;cases hx
 |some n=>rw[e] at hx;exact⟨n,rfl,(Option.some.inj hx).symm⟩
theorem xi(y:Str)(m:Option Str):Ir (.str y) (gB m)=true:=by cases m<;>rfl
theorem D5(y:Str)(m:Option Str):decide (V.str y=gB m)=decide (m=some y):=by
 cases m with
 |none=>simp[gB]
 |some z=>
  by_cases e:z=y
  ·subst e;simp[gB]
  ·have:y≠z:=λh=>e h.symm
   simp[gB,e,this]
theorem AV{K:Fg}{vs:List V}{H:Hp}{Q:VK}{E:XK}(h:jt K vs H Q E):sN K {nx:=λ_ H'=>Q .non H',rt:=Q} (start ml vs) H:=by
 obtain⟨t,m,ss,rfl,ht,hl,q⟩:=h
 refine .inr ⟨_,rfl,t,rfl,⟨_,cE.of ht⟩,λD nD=>?_⟩
 refine iR (xs:=ss.map V.str) (λi σ' H'=>∃o,σ'=[some (.ref t),some (gB m),o]/\H' D=some (.lst (((ss.take i).filter λy=>!decide (m=some y)).map V.str))/\aJ H H') ?_ ?_ ?_ ?_
 ·exact⟨none,rfl,ak,(aJ.refl H).new nD⟩
 ·rintro i σ' H' _ ⟨o,_,_,s⟩
  exact cE.of (s _ _ ht)
 ·rintro i x σ' H1 hx ⟨o,rfl,hD,s⟩
  obtain⟨y,hy,rfl⟩:=yY hx
  have fl:((ss.take i).filter λy=>!decide (m=some y)).length<=ss.length:=br (bx _ _) (by rw[aS];exact iw _ _)
  refine⟨_,rfl,_,rfl,.inl ⟨xi y m,_,rfl,?_⟩⟩
  have tk:(ss.take (i+1)).filter (λy=>!decide (m=some y))=((ss.take i).filter λy=>!decide (m=some y))++if(!decide (m=some y))=true then[y] else[]:=by
   rw[mf,hy,eW]
   congr 1
   show[y].filter _=_
   rw[cX]
   split<;>simp_all
  rw[D5]
  refine mz (λhs=>?_) (λhs=>?_)
  ·refine⟨_,rfl,_,hD,bG (by rw[af];lia),_,rfl,?_,λb u e=>by rw[aA (aL e nD)];exact s b u e⟩
   rw[ak,tk,decide_eq_false hs,aB];rfl
  ·refine⟨_,rfl,?_,s⟩
   rw[tk,decide_eq_true hs]
   simpa using hD
 ·rintro σ' H1 ⟨o,_,hD,s⟩
  rw[af,a7] at hD
  exact⟨D,_,rfl,.inl ⟨cq.of hD,λp np=>q p _ ak (s.new np)⟩⟩
theorem Iy{K:Fg}{H:Hp}{wp:Addr}{xs:List V}{k:Nat}{Q:VK}(hwp:H wp=some (.tup xs))(hk:k<=xs.length)(h:∀(p:Addr) (H':Hp),H' p=some (.tup (xs.drop k))->aJ H H'->Q (.ref p) H') :
  MN K (.ref wp) (some (k:Int)) none H Q:=by
 by_cases c:k=0
 ·subst c
  refine .inl ⟨wp,xs,rfl,cE.of hwp,⟨?_,?_⟩,h wp H (by rw[jw];exact hwp) (aJ.refl H)⟩
  ·rw[HT.sIx_nat];simp
  ·rw[HT.sIx_none]
 ·refine .inr (.inr ⟨wp,xs,rfl,cE.of hwp,λz=>?_,λp np=>?_⟩)
  ·have:=z.1
   rw[HT.sIx_nat] at this
   lia
  ·rw[zU]
   exact h p _ ak ((aJ.refl H).new np)
theorem OE{K:Fg}{H:Hp}{p:Addr}{y:Str}{ls:List Str}{Q:VK}(hp:H p=some (.tup (ls.map V.str)))(h:Q (.bl (decide (y∈ls))) H):y8 K false (.str y) (.ref p) H Q:=by
 refine⟨p,_,rfl,.inr (cE.of hp),rfl,wQ ls,?_⟩
 rw[Aj]
 exact h
theorem AQ{K:Fg}{vs:List V}{H:Hp}{Q:VK}{E:XK}(h:lh K vs H Q E):sI K {nx:=λ_ H'=>Q .non H',rt:=Q} (start sj vs) H:=by
 obtain⟨wp,lt,k,y,ws,last,rfl,⟨⟨wvs,hwp,hA⟩,hlt⟩,hk,q⟩:=h
 have wl:wvs.length=ws.length:=hA.len
 refine .inr ⟨_,rfl,_,rfl,_,rfl,Iy hwp (by lia) λp H1 hp s1=>⟨p,rfl,⟨_,cE.of hp⟩,sZ (xs:=wvs.drop k) (λi σ' H'=>∃o4 o5,σ'=[some (.ref wp),some (.ref lt),some (.int (k:Nat)),some (.str y),o4,o5]/\wn last (ws.drop k) y=wn last (ws.drop (k+i)) y/\aJ H1 H') ⟨_,_,rfl,rfl,aJ.refl _⟩ ?_ ?_ ?_⟩⟩
 ·rintro i σ' H' _ ⟨_,_,_,_,s⟩
  exact cE.of (s _ _ hp)
 ·rintro i x σ' H2 hx ⟨o4,o5,rfl,e,s2⟩
  rw[List.getElem?_drop] at hx
  obtain⟨w,ew,a,t,rfl,ha,ht⟩:=hA.of_v hx
  have S:=s1.trans s2
  have ed:ws.drop (k+i)=w::ws.drop (k+(i+1)):=by
   have hlt':k+i<ws.length:=(ae.mp ew).1
   rw[cy hlt',<-(ae.mp ew).2]
   rfl
  rw[ed] at e
  have e':wn last (ws.drop k) y=(decide (y∈w.ins) || (!decide (w.out=some y)&&wn last (ws.drop (k+(i+1))) y)):=e
  refine⟨a,_,rfl,cE.of (S _ _ ha),rfl,_,_,rfl,_,_,rfl,rfl,?_⟩
  show oJ K _ [some (.ref wp),some (.ref lt),some (.int (k:Nat)),some (.str y),some (.ref t),some (gB w.out)] H2
  refine⟨_,rfl,_,rfl,OE (S _ _ ht) ⟨_,rfl,dy (λc=>?_) (λc=>?_)⟩⟩
  ·have:=q H2 S
   rw[e',decide_eq_true c] at this
   exact this
  ·rw[decide_eq_false c,Bool.false_or] at e'
   refine⟨_,rfl,_,rfl,.inr (.inl ⟨by cases w.out<;>rfl,_,rfl,dy (λd=>?_) (λd=>?_)⟩)⟩
   ·have:=q H2 S
    have d':w.out=some y:=by cases ho:w.out with
     |none=>rw[ho] at d;cases d
     |some z=>rw[ho] at d;injection d with d;rw[d]
    rw[e',decide_eq_true d'] at this
    exact this
   ·have d':w.out≠some y:=λz=>d (by rw[z];rfl)
    rw[decide_eq_false d',Bool.not_false,Bool.true_and] at e'
    exact⟨_,_,rfl,e',s2⟩
 ·rintro σ' H2 ⟨o4,o5,rfl,e,s2⟩
  have S:=s1.trans s2
  rw[eR,show k+(wvs.length-k)=ws.length by lia,iu] at e
  refine⟨_,rfl,_,rfl,OE (S _ _ hlt) ?_⟩
  have:=q H2 S
  rw[e] at this
  exact this
theorem Os{K:Fg}{H:Hp}{a b:Addr}{xs ys:List V}{Q:VK}(ha:H a=some (.tup xs))(hb:H b=some (.tup ys))(hl:xs.length+ys.length<=sizeLine)(h:∀(p:Addr) (H':Hp),H' p=some (.tup (xs++ys))->aJ H H'->Q (.ref p) H') :
  pL K (.ref a) (.ref b) H Q:=by
 by_cases c:xs=[]
 ·subst c
  exact .inl ⟨a,b,ys,rfl,rfl,cE.of ha,cE.of hb,h b H hb (aJ.refl H)⟩
 ·refine .inr (.inr (.inr (.inr ⟨a,b,xs,ys,rfl,rfl,cE.of ha,cE.of hb,c,hl,λe=>?_,λ_ p np=>h p _ ak ((aJ.refl H).new np)⟩)))
  subst e
  exact h a H (by rw[dJ];exact ha) (aJ.refl H)
theorem BA{dd last:List Str}(hl:∀y∈last,y∈dd):∀{ws:List Wk},(∀w∈ws,∀y∈w.ins,y∈dd)->∀{y:Str},wn last ws y=true->y∈dd
 |[],_,y,h=>hl y (by simpa[wn] using h)
 |w::r,hw,y,h=>by
  have h':(decide (y∈w.ins) || (!decide (w.out=some y)&&wn last r y))=true:=h
  rw[Bool.or_eq_true,Bool.and_eq_true,decide_eq_true_eq] at h'
  rcases h' with h'|h'
  ·exact hw w aZ y h'
  ·exact BA hl (λw' m=>hw w' (aY _ m)) h'.2
theorem bo.rev{α:Type}{R:V->α->Prop}{vs:List V}{rs:List α}(h:bo R vs rs):bo R vs.reverse rs.reverse:=by
 refine⟨by rw[bO,bO];exact h.len,λi v r a b=>?_⟩
 have l1:i<vs.length:=by have:=(ae.mp a).1;rwa [bO] at this
 have l2:i<rs.length:=by rw[<-h.len];exact l1
 rw[bV l1] at a
 rw[bV l2,<-h.len] at b
 exact h.at_ _ v r a b
theorem Gd.mono{H H':Hp}{v:V}{ss:List Str}(h:Gd H v ss)(s:∀b xs,H b=some (.tup xs)->H' b=some (.tup xs)):Gd H' v ss:=by
 obtain⟨p,e,a⟩:=h
 exact⟨p,e,s _ _ a⟩
structure OO(H:Hp)(pl:Addr)(last:List Str)(ws:List Wk)(H':Hp)(i:Nat)(t:Addr)(us:List Str)(tvs:List V)(pss:List (List Str)):Prop where
 ht:H' t=some (.tup (us.map V.str))
 ok:BW last ws (ws.length-i) us
 hp:H' pl=some (.lst tvs)
 all:bo (Gd H') tvs pss
 len:pss.length=i+1
 oks:∀(j:Nat) ss,pss[j]?=some ss->BW last ws (ws.length-j) ss
 sm:aJ H H'
theorem we{K:Fg}{vs:List V}{H:Hp}{Q:VK}{E:XK}(h:fP K vs H Q E):pj K {nx:=λ_ H'=>Q .non H',rt:=Q} (start oi vs) H:=by
 obtain⟨wp,lt,ws,last,dd,rfl,⟨⟨wvs,hwp,hA⟩,hlt⟩,F,q⟩:=h
 have wl:wvs.length=ws.length:=hA.len
 have w100:=F.w100
 have d64:=F.d64
 have win:∀(k:Nat) {y:Str},wn last (ws.drop k) y=true->y∈dd:=λk y h=>BA F.lst (λw m=>(F.ins w (eC m)).2) h
 refine⟨_,rfl,lt,true,last,dd,rfl,cE.of hlt,br F.l100 (by decide),F.lst,F.d64,λl us nl und umem usrt=>⟨l,_,rfl,.inl ⟨cq.of ak,λt nt=>?_⟩⟩⟩
 have s1:aJ H (aN (aN H l (.lst (us.map V.str))) t (.tup (us.map V.str))):=((aJ.refl H).new nl).new nt
 have ht1:(aN (aN H l (.lst (us.map V.str))) t (.tup (us.map V.str))) t=some (.tup (us.map V.str)):=ak
 show lS K _ [some (.ref wp),some (.ref lt),some (.ref t),none,none] _
 generalize aN (aN H l (.lst (us.map V.str))) t (.tup (us.map V.str))=H1 at s1 ht1 ⊢
 refine⟨_,rfl,(by show 1<=sizeLine;decide),λpl npl=>?_⟩
 have s2:aJ H (aN H1 pl (.lst [.ref t])):=s1.new npl
 have ht2:aN H1 pl (.lst [.ref t]) t=some (.tup (us.map V.str)):=by rw[aA (aL ht1 npl)];exact ht1
 have hp2:aN H1 pl (.lst [.ref t]) pl=some (.lst [.ref t]):=ak
 have Hpl:H pl=none:=by
  cases ee:H pl with
  |none=>rfl
  |some u=>rw[s1 _ _ ee] at npl;cases npl
 show lR K _ [some (.ref wp),some (.ref lt),some (.ref t),some (.ref pl),none] _
 generalize aN H1 pl (.lst [.ref t])=H2 at s2 ht2 hp2 ⊢
 have ok0:BW last ws ws.length us:=⟨rL usrt,und,λy=>by rw[umem,iu];simp[wn]⟩
 refine⟨_,rfl,wp,wvs,rfl,cE.of (s2 _ _ hwp),JN (xs:=wvs) (λi σ' H'=>∃(t:Addr) (o4:Option V) (us:List Str) (tvs:List V) (pss:List (List Str)),σ'=[some (.ref wp),some (.ref lt),some (.ref t),some (.ref pl),o4]/\OO H pl last ws H' i t us tvs pss)
  ⟨t,none,us,[.ref t],[us],rfl,ht2,ok0,hp2,⟨rfl,λi v r a b=>?_⟩,rfl,λj ss e=>?_,s2⟩ ?_ ?_ ?_⟩
 ·cases i with
  |zero=>cases a;cases b;exact⟨t,rfl,ht2⟩
  |succ n=>simp at a
 ·cases j with
  |zero=>cases e;exact ok0
  |succ n=>simp at e
 ·rintro i σ' H' _ ⟨_,_,_,_,_,_,W⟩
  exact cE.of (W.sm _ _ hwp)
 ·rintro i x σ' H3 hx ⟨t,o4,us,tvs,pss,rfl,W⟩
  have ilt:i<wvs.length:=by have:=(ae.mp hx).1;rwa [bO] at this
  rw[bV ilt] at hx
  obtain⟨w,ew,a,ti,rfl,ha,hti⟩:=hA.of_v hx
  have ed:ws.drop (ws.length-(i+1))=w::ws.drop (ws.length-i):=by
   rw[show ws.length-(i+1)=wvs.length-1-i by lia]
   rw[cy (ae.mp ew).1,(ae.mp ew).2,show wvs.length-1-i+1=ws.length-i by lia]
  have ul:us.length<64:=cU (iz W.ok.nd λy hy=>win _ ((W.ok.mem y).mp hy)) d64
  have S3:=W.sm
  obtain⟨il,iin⟩:=F.ins w (aC ew)
  show lQ K _ [some (.ref wp),some (.ref lt),some (.ref t),some (.ref pl),some (.ref a)] H3
  refine⟨_,rfl,_,rfl,D1 (S3 _ _ ha) (by decide) rfl ⟨t,w.out,us,rfl,W.ht,by lia,λp H4 hp4 s4=>⟨_,rfl,D1 (s4 _ _ (S3 _ _ ha)) (by decide) rfl ⟨ti,_,rfl,.inr ⟨cE.of (s4 _ _ (S3 _ _ hti)),?_⟩⟩⟩⟩⟩
  have fl:(us.filter λy=>!decide (w.out=some y)).length<=us.length:=bx _ _
  refine Os hp4 (s4 _ _ (S3 _ _ hti)) (bW (bG (by rw[af,af];lia))) λp5 H5 hp5 s5=>?_
  rw[<-aB] at hp5
  refine⟨p5,true,_,dd,rfl,cE.of hp5,by rw[ai];lia,λy hy=>?_,d64,λl us' nl und umem usrt=>⟨l,_,rfl,.inl ⟨cq.of ak,λt' nt=>?_⟩⟩⟩
  ·rcases ax.mp hy with hy|hy
   ·exact win _ ((W.ok.mem y).mp (a9.mp hy).1)
   ·exact iin y hy
  have s6:aJ H3 (aN (aN H5 l (.lst (us'.map V.str))) t' (.tup (us'.map V.str))):=(((s4.trans s5)).new nl).new nt
  have ht6:(aN (aN H5 l (.lst (us'.map V.str))) t' (.tup (us'.map V.str))) t'=some (.tup (us'.map V.str)):=ak
  show lP K _ [some (.ref wp),some (.ref lt),some (.ref t'),some (.ref pl),some (.ref a)] _
  generalize aN (aN H5 l (.lst (us'.map V.str))) t' (.tup (us'.map V.str))=H6 at s6 ht6 ⊢
  have hpl6:=s6 _ _ W.hp
  have tl:tvs.length=i+1:=by rw[W.all.len,W.len]
  have ok':BW last ws (ws.length-(i+1)) us':=⟨rL usrt,und,λy=>by
   rw[umem,ax,a9,W.ok.mem,ed]
   show _↔(decide (y∈w.ins) || (!decide (w.out=some y)&&wn last (ws.drop (ws.length-i)) y))=true
   rw[Bool.or_eq_true,Bool.and_eq_true,decide_eq_true_eq]
   exact⟨λh=>h.elim (λh=>.inr ⟨h.2,h.1⟩) .inl,λh=>h.elim .inr λh=>.inl ⟨h.2,h.1⟩⟩⟩
  refine⟨_,rfl,.inl ⟨rfl,_,cq.of hpl6⟩,_,rfl,pl,tvs,_,rfl,rfl,hpl6,bG (by lia),t',_,us',tvs++[.ref t'],pss++[us'],rfl,?_⟩
  have up:∀b xs,H6 b=some (.tup xs)->aN H6 pl (.lst (tvs++[.ref t'])) b=some (.tup xs):=λb xs e=>by
   rw[aA (oq e hpl6 (by intro z;cases z))];exact e
  refine⟨up _ _ ht6,ok',ak,⟨by rw[ai,ai,W.all.len];rfl,λj v r e1 e2=>?_⟩,by rw[ai,W.len];rfl,λj ss e=>?_,λb u e=>by rw[aA (aL e Hpl)];exact s6 _ _ (S3 b u e)⟩
  ·rcases cB j tvs.length with hj|hj
   ·rw[av hj] at e1
    rw[av (by rw[<-W.all.len];exact hj)] at e2
    exact(W.all.at_ j v r e1 e2).mono λb xs e=>up _ _ (s6 _ _ e)
   ·rw[ao hj] at e1
    rw[ao (by rw[<-W.all.len];exact hj),<-W.all.len] at e2
    cases ej:j-tvs.length with
    |zero=>rw[ej] at e1 e2;cases e1;cases e2;exact⟨t',rfl,up _ _ ht6⟩
    |succ n=>rw[ej] at e1;simp at e1
  ·rcases cB j pss.length with hj|hj
   ·rw[av hj] at e
    exact W.oks j ss e
   ·rw[ao hj] at e
    cases ej:j-pss.length with
    |zero=>
     rw[ej] at e;cases e
     have:j=i+1:=by have:=W.len;lia
     rw[this];exact ok'
    |succ n=>rw[ej] at e;simp at e
 ·rintro σ' H3 ⟨t,o4,us,tvs,pss,rfl,W⟩
  refine⟨_,rfl,pl,tvs,rfl,cq.of W.hp,λl nl=>?_⟩
  have up:∀b xs,H3 b=some (.tup xs)->aN H3 l (.lst tvs.reverse) b=some (.tup xs):=λb xs e=>by
   rw[aA (aL e nl)];exact e
  have Hl:H l=none:=by
   cases ee:H l with
   |none=>rfl
   |some u=>rw[W.sm _ _ ee] at nl;cases nl
  refine q l tvs.reverse pss.reverse _ Hl ak (W.all.rev.imp λ_ _ z=>z.mono up) ⟨by rw[bO,W.len,wl],λk ss e=>?_⟩ (W.sm.new nl)
  have lk:k<pss.length:=by have:=(ae.mp e).1;rwa [bO] at this
  rw[bV lk] at e
  have:=W.oks _ ss e
  have hl:=W.len
  rw[show ws.length-(pss.length-1-k)=k by lia] at this
  exact this
theorem Gk(pl:Int)(ws:List Wk)(pss:List (List Str))(f k:Nat):BF pl ws pss (f+1) k =
  if pl<((pss.getD k []).length:Int) then some (("ahead":Str),k,pss.getD k []) else
  match(ws[k]?).bind (·.out) with
  |some y=>if pl-1<(((pss.getD (k+1) []).filter λz=>!decide (some y=some z)).length:Int) then some (("behind":Str),k,(pss.getD (k+1) []).filter λz=>!decide (some y=some z)) else BF pl ws pss f (k+1)
  |none=>BF pl ws pss f (k+1):=rfl
theorem DW{pss:List (List Str)}{k:Nat}{ss:List Str}(h:pss[k]?=some ss):pss.getD k []=ss:=by
 rw[bU,h];rfl
theorem AS{K:Fg}{vs:List V}{H:Hp}{Q:VK}{E:XK}(h:lq K vs H Q E):sL K {nx:=λ_ H'=>Q .non H',rt:=Q} (start sk vs) H:=by
 obtain⟨pl,wp,lt,ws,last,dd,pss,rfl,WA,F,P,q⟩:=h
 have w100:=F.w100
 generalize hR0:BF pl ws pss (ws.length+1) 0=R at q
 refine⟨_,rfl,_,rfl,wp,lt,ws,last,dd,rfl,WA,F,λl tvs pss' H1 nl hl hA P' s1=>?_⟩
 cases P'.one P
 obtain⟨⟨wvs,hwp,hW⟩,hlt⟩:=WA
 have wl:wvs.length=ws.length:=hW.len
 have few:∀(k:Nat) ss,pss[k]?=some ss->ss.length<64:=λk ss e=>cU (iz (P.at_ k ss e).nd λy hy=>BA F.lst (λw m=>(F.ins w (eC m)).2) (((P.at_ k ss e).mem y).mp hy)) F.d64
 show oZ K _ [some (.int pl),some (.ref wp),some (.ref lt),some (.ref l),none,none,none] H1
 refine⟨_,rfl,l,rfl,⟨_,cq.of hl⟩,GF (xs:=tvs) (λi σ' H'=>∃o4 o5 o6,σ'=[some (.int pl),some (.ref wp),some (.ref lt),some (.ref l),o4,o5,o6]/\R=BF pl ws pss (ws.length+1-i) i/\aJ H1 H') ⟨_,_,_,rfl,hR0.symm,aJ.refl _⟩ ?_ ?_ ?_⟩
 ·rintro i σ' H' _ ⟨_,_,_,_,_,s⟩
  exact cq.of (s _ _ hl)
 ·rintro i x σ' H2 p hx np ⟨o4,o5,o6,rfl,e,s2⟩
  obtain⟨ss,ess,t,rfl,ht⟩:=hA.of_v hx
  have ilt:i<pss.length:=(ae.mp ess).1
  have plen:=P.len
  have s3:aJ H1 (aN H2 p (.tup [.int (i:Nat),.ref t])):=s2.new np
  have hp3:aN H2 p (.tup [.int (i:Nat),.ref t]) p=some (.tup [.int (i:Nat),.ref t]):=ak
  generalize aN H2 p (.tup [.int (i:Nat),.ref t])=H3 at s3 hp3 ⊢
  refine⟨p,_,rfl,cE.of hp3,rfl,_,_,rfl,_,_,rfl,rfl,?_⟩
  have S3:=s1.trans s3
  rw[show ws.length+1-i=(ws.length-i)+1 by lia,Gk,DW ess] at e
  show oY K _ [some (.int pl),some (.ref wp),some (.ref lt),some (.ref l),some (.int (i:Nat)),some (.ref t),o6] H3
  refine⟨_,rfl,_,_,rfl,.inr ⟨_,cE.of (s3 _ _ ht),rfl⟩,_,rfl,_,_,rfl,rfl,_,rfl,dy (λc=>?_) (λc=>?_)⟩
  ·rw[af] at c
   rw[if_pos c] at e
   refine⟨_,rfl,_,rfl,(by show 3<=sizeLine;decide),λr nr=>q _ _ ?_ (S3.new nr)⟩
   rw[e]
   exact⟨r,t,rfl,ak,by rw[aA (aL (s3 _ _ ht) nr)];exact s3 _ _ ht⟩
  ·rw[af] at c
   rw[if_neg c] at e
   refine⟨_,rfl,_,rfl,_,_,rfl,.inr ⟨_,cE.of (S3 _ _ hwp),rfl⟩,_,_,rfl,rfl,_,rfl,dy (λd=>?_) (λd=>jo ?_)⟩
   ·have dlt:i<wvs.length:=by lia
    obtain⟨v,w,ev,ew,a,ti,rfl,ha,hti⟩:=hW.get (i:=i) (by lia)
    rw[ew] at e
    refine⟨_,rfl,_,rfl,D1 (S3 _ _ hwp) (by lia) (show wvs[((i:Nat):Int).toNat]?=some (.ref a) by simpa using ev) (D1 (S3 _ _ ha) (by decide) rfl ⟨rfl,_,rfl,?_⟩)⟩
    cases ho:w.out with
    |none=>
     rw[show(some w).bind (·.out)=none from ho] at e
     exact jo ⟨_,_,_,rfl,by rw[show ws.length+1-(i+1)=ws.length-i by lia];exact e,s3⟩
    |some y=>
     rw[show(some w).bind (·.out)=some y from ho] at e
     obtain⟨ss2,ess2⟩:∃ss2,pss[i+1]?=some ss2:=⟨_,aa (by lia)⟩
     obtain⟨v2,r2,ev2,er2,t2,rfl,ht2⟩:=hA.get (i:=i+1) (by lia)
     rw[ess2] at er2;cases er2
     rw[DW ess2] at e
     have f2:=few _ _ ess2
     refine nS ⟨_,rfl,_,rfl,.inl ⟨_,_,rfl,rfl,lD (cq.of (s3 _ _ hl)) (by lia) (show tvs[((i:Nat)+1:Int).toNat]?=some (.ref t2) by rw[show((i:Nat)+1:Int).toNat=i+1 by lia];exact ev2) ⟨_,rfl,_,rfl,D1 (S3 _ _ hwp) (by lia) (show wvs[((i:Nat):Int).toNat]?=some (.ref a) by simpa using ev) (D1 (S3 _ _ ha) (by decide) rfl ⟨t2,some y,ss2,by rw[ho];rfl,s3 _ _ ht2,by lia,λp5 H5 hp5 s5=>?_⟩)⟩⟩⟩
     show oX K _ [some (.int pl),some (.ref wp),some (.ref lt),some (.ref l),some (.int (i:Nat)),some (.ref t),some (.ref p5)] H5
     refine⟨_,rfl,_,_,rfl,.inr ⟨_,cE.of hp5,rfl⟩,_,rfl,_,_,rfl,rfl,_,_,rfl,rfl,_,rfl,dy (λg=>?_) (λg=>?_)⟩
     ·rw[af] at g
      replace e:R=if pl-1<(((ss2).filter λz=>!decide (some y=some z)).length:Int) then some (("behind":Str),i,ss2.filter λz=>!decide (some y=some z)) else BF pl ws pss (ws.length-i) (i+1):=e
      rw[if_pos g] at e
      refine⟨_,rfl,_,rfl,(by show 3<=sizeLine;decide),λr nr=>q _ _ ?_ ((S3.trans s5).new nr)⟩
      rw[e]
      exact⟨r,p5,rfl,ak,by rw[aA (aL hp5 nr)];exact hp5⟩
     ·rw[af] at g
      replace e:R=if pl-1<(((ss2).filter λz=>!decide (some y=some z)).length:Int) then some (("behind":Str),i,ss2.filter λz=>!decide (some y=some z)) else BF pl ws pss (ws.length-i) (i+1):=e
      rw[if_neg g] at e
      exact⟨_,_,_,rfl,by rw[show ws.length+1-(i+1)=ws.length-i by lia];exact e,s3.trans s5⟩
   ·have:ws[i]?=none:=bg (by lia)
    rw[this] at e
    exact⟨_,_,_,rfl,by rw[show ws.length+1-(i+1)=ws.length-i by lia];exact e,s3⟩
 ·rintro σ' H2 ⟨o4,o5,o6,rfl,e,s2⟩
  have:tvs.length=ws.length+1:=by rw[hA.len,P.len]
  rw[this,bj] at e
  exact q .non H2 (by rw[e];rfl) (s1.trans s2)
theorem p9.same{H H':Hp}{wp lt:Addr}{ws:List Wk}{last:List Str}(h:p9 H wp lt ws last)(s:aJ H H'):p9 H' wp lt ws last:=by
 obtain⟨⟨wvs,a,b⟩,c⟩:=h
 exact⟨⟨wvs,s _ _ a,b.imp λ_ _ z=>z.tp λb xs e=>s _ _ e⟩,s _ _ c⟩
structure ON(H:Hp)(l:Addr)(last:List Str)(ws:List Wk)(H':Hp)(i:Nat)(tvs:List V)(pss:List (List Str)):Prop where
 hl:H' l=some (.lst tvs)
 all:bo (Gd H') tvs pss
 len:pss.length=i
 oks:∀(j:Nat) ss,pss[j]?=some ss->BW last ws j ss
 sm:aJ H H'
theorem Ib{K:Fg}{vs:List V}{H:Hp}{Q:VK}{E:XK}(h:rN K vs H Q E):Bu K {nx:=λ_ H'=>Q .non H',rt:=Q} (start tW vs) H:=by
 obtain⟨wp,lt,nm,ws,last,ys,rfl,WA,F,hnm,ynd,q⟩:=h
 obtain⟨⟨wvs,hwp,hW⟩,hlt⟩:=id WA
 have wl:wvs.length=ws.length:=hW.len
 have w100:=F.w100
 have d64:=F.d64
 refine⟨(by show 0<=sizeLine;decide),λl nl=>?_⟩
 have s1:aJ H (aN H l (.lst [])):=(aJ.refl H).new nl
 have hl1:aN H l (.lst []) l=some (.lst []):=ak
 show vp K _ [some (.ref wp),some (.ref lt),some (.ref nm),some (.ref l),none] _
 generalize aN H l (.lst [])=H1 at s1 hl1 ⊢
 refine⟨_,rfl,_,_,rfl,.inr ⟨_,cE.of (s1 _ _ hwp),rfl⟩,.inl ⟨_,_,rfl,rfl,_,rfl,by lia,by lia,kD (n:=wvs.length+1) (λi σ' H'=>∃o4 tvs pss,σ'=[some (.ref wp),some (.ref lt),some (.ref nm),some (.ref l),o4]/\ON H l last ws H' i tvs pss)
  ⟨none,[],[],rfl,hl1,⟨rfl,λi v r a=>by simp at a⟩,rfl,λj ss e=>by simp at e,s1⟩ ?_ ?_⟩⟩
 ·rintro i σ' H2 hi ⟨o4,tvs,pss,rfl,P⟩
  show vo K _ [some (.ref wp),some (.ref lt),some (.ref nm),some (.ref l),some (.int ((0:Int)+(i:Nat)))] H2
  rw[show((0:Int)+(i:Nat))=(i:Nat) by lia]
  refine⟨_,rfl,.inl ⟨rfl,_,cq.of P.hl⟩,.inl ⟨_,rfl,nm,ys,rfl,cq.of (P.sm _ _ hnm),d64,λsl ys' nsl perm srt=>⟨sl,rfl,⟨_,cq.of ak⟩,λD nD=>?_⟩⟩⟩
  have s3:aJ H2 (aN H2 sl (.lst (ys'.map V.str))):=(aJ.refl H2).new nsl
  have hsl3:aN H2 sl (.lst (ys'.map V.str)) sl=some (.lst (ys'.map V.str)):=ak
  generalize aN H2 sl (.lst (ys'.map V.str))=H3 at s3 hsl3 nD ⊢
  have yl:ys'.length=ys.length:=perm.length_eq
  refine kB (xs:=ys'.map V.str) (λj σ' H'=>∃(o5:Option V) (us:List Str),σ'=[some (.ref wp),some (.ref lt),some (.ref nm),some (.ref l),some (.int (i:Nat)),o5]/\H' D=some (.lst (us.map V.str))/\us.Sublist (ys'.take j)/\(∀y,y∈us↔y∈ys'.take j/\wn last (ws.drop i) y=true)/\aJ H3 H') ?_ ?_ ?_ ?_
  ·exact⟨none,[],rfl,ak,List.Sublist.refl _,λy=>by simp,(aJ.refl H3).new nD⟩
  ·rintro j σ' H' _ ⟨_,_,_,_,_,_,s⟩
   exact cq.of (s _ _ hsl3)
  ·rintro j x σ' H4 hx ⟨o5,us,rfl,hD,sub,hu,s4⟩
   obtain⟨y,hy,rfl⟩:=yY hx
   have tk:ys'.take (j+1)=ys'.take j++[y]:=by rw[mf,hy];rfl
   have ul:us.length<=ys'.length:=br sub.length_le (by rw[aS];exact iw _ _)
   refine⟨_,rfl,_,rfl,_,rfl,_,rfl,wp,lt,i,y,ws,last,rfl,WA.same ((P.sm.trans s3).trans s4),by lia,λH5 s5=>⟨_,rfl,?_⟩⟩
   cases hb:wn last (ws.drop i) y with
   |true=>
    refine nS ⟨_,rfl,_,s5 _ _ hD,bG (by rw[af];lia),_,us++[y],rfl,?_,?_,λz=>?_,λb u e=>by rw[aA (aL e nD)];exact s5 _ _ (s4 b u e)⟩
    ·rw[ak,aB];rfl
    ·rw[tk];exact sub.append (List.Sublist.refl _)
    ·rw[tk,ax,ax,hu z,aj]
     constructor
     ·rintro(⟨a,b⟩|rfl)
      ·exact⟨.inl a,b⟩
      ·exact⟨.inr rfl,hb⟩
     ·rintro⟨a|a,b⟩
      ·exact .inl ⟨a,b⟩
      ·exact .inr a
   |false=>
    refine jo ⟨_,us,rfl,s5 _ _ hD,?_,λz=>?_,s4.trans s5⟩
    ·rw[tk];exact sub.trans (List.sublist_append_left _ _)
    ·rw[tk,ax,hu z,aj]
     constructor
     ·rintro⟨a,b⟩;exact⟨.inl a,b⟩
     ·rintro⟨a|a,b⟩
      ·exact⟨a,b⟩
      ·subst a;rw[hb] at b;cases b
  ·rintro σ' H4 ⟨o5,us,rfl,hD,sub,hu,s4⟩
   rw[af,a7] at sub hu
   refine⟨D,_,rfl,.inl ⟨cq.of hD,λt nt=>?_⟩⟩
   have s5:aJ H2 (aN H4 t (.tup (us.map V.str))):=(s3.trans s4).new nt
   have ht5:aN H4 t (.tup (us.map V.str)) t=some (.tup (us.map V.str)):=ak
   generalize aN H4 t (.tup (us.map V.str))=H5 at s5 ht5 ⊢
   have hl5:=s5 _ _ P.hl
   have tl:tvs.length=i:=by rw[P.all.len,P.len]
   have ok':BW last ws i us:=⟨(rL srt).sublist sub,(perm.nodup_iff.mpr ynd).sublist sub,λy=>by
    rw[hu,perm.mem_iff]
    exact⟨λh=>h.2,λh=>⟨BA F.lst (λw m=>(F.ins w (eC m)).2) h,h⟩⟩⟩
   have up:∀b xs,H5 b=some (.tup xs)->aN H5 l (.lst (tvs++[.ref t])) b=some (.tup xs):=λb xs e=>by
    rw[aA (oq e hl5 (by intro z;cases z))];exact e
   refine⟨l,tvs,_,rfl,rfl,hl5,bG (by lia),_,tvs++[.ref t],pss++[us],rfl,ak,⟨by rw[ai,ai,P.all.len];rfl,λj v r e1 e2=>?_⟩,by rw[ai,P.len];rfl,λj ss e=>?_,λb u e=>by rw[aA (aL e nl)];exact s5 _ _ (P.sm b u e)⟩
   ·rcases cB j tvs.length with hj|hj
    ·rw[av hj] at e1
     rw[av (by rw[<-P.all.len];exact hj)] at e2
     exact(P.all.at_ j v r e1 e2).mono λb xs e=>up _ _ (s5 _ _ e)
    ·rw[ao hj] at e1
     rw[ao (by rw[<-P.all.len];exact hj),<-P.all.len] at e2
     cases ej:j-tvs.length with
     |zero=>rw[ej] at e1 e2;cases e1;cases e2;exact⟨t,rfl,up _ _ ht5⟩
     |succ n=>rw[ej] at e1;simp at e1
   ·rcases cB j pss.length with hj|hj
    ·rw[av hj] at e
     exact P.oks j ss e
    ·rw[ao hj] at e
     cases ej:j-pss.length with
     |zero=>
      rw[ej] at e;cases e
      have:j=i:=by have:=P.len;lia
      rw[this];exact ok'
     |succ n=>rw[ej] at e;simp at e
 ·rintro σ' H2 ⟨o4,tvs,pss,rfl,P⟩
  exact⟨_,rfl,q l tvs pss H2 nl P.hl P.all ⟨by rw[P.len,wl],P.oks⟩ P.sm⟩
theorem KO{K:Fg}{vs:List V}{H:Hp}{Q:VK}{E:XK}(h:qF K vs H Q E):Ew K {nx:=λ_ H'=>Q .non H',rt:=Q} (start DH vs) H:=by
 obtain⟨st,nm,k,ys,rfl,S,hk,nst,hnm,yl,q⟩:=h
 refine⟨_,rfl,(by show 1<=sizeLine;decide),λl1 nl1=>.inr (.inr (.inl ⟨nm,l1,_,_,rfl,rfl,by rw[aA (aL hnm nl1)];exact hnm,ak,bW (bG (by rw[af];show ys.length+1<=100000;lia)),λl2 nl2=>?_⟩))⟩
 have n2:l2≠st:=λz=>by obtain⟨_,e⟩:=(S.new (o:=.lst [V.non]) nl1).lst;rw[z,e] at nl2;cases nl2
 have s2:aJ H (aN (aN H l1 (.lst [V.non])) l2 (.lst (ys.map V.str++[V.non]))):=((aJ.refl H).new nl1).new nl2
 have hl2:aN (aN H l1 (.lst [V.non])) l2 (.lst (ys.map V.str++[V.non])) l2=some (.lst (ys.map V.str++[V.non])):=ak
 generalize aN (aN H l1 (.lst [V.non])) l2 (.lst (ys.map V.str++[V.non]))=H2 at s2 hl2 ⊢
 have S2:=S.same s2
 refine⟨_,rfl,_,rfl,_,_,rfl,.inl ⟨_,cq.of (s2 _ _ hnm),rfl⟩,.inl ⟨_,_,rfl,rfl,st,_,k,rfl,S2,by lia,by lia,by rw[af];lia,λd H3 d0 d1 S3 B3=>?_⟩⟩
 have h3:=B3 _ _ n2 hl2
 rw[af] at d1
 rcases cB d.toNat ys.length with c|c
 ·refine lD (cq.of h3) d0 (v:=.str ys[d.toNat]) ?_ ?_
  ·rw[av (by rw[af];exact c),aH,aa c];rfl
  ·exact q (some ys[d.toNat]) H3 (λy e=>by injection e with e;rw[<-e];exact cf c) S3 (λb u n e=>B3 b u n (s2 b u e))
 ·refine lD (cq.of h3) d0 (v:=.non) ?_ ?_
  ·rw[ao (by rw[af];exact c),af,show d.toNat-ys.length=0 by lia];rfl
  ·exact q none H3 (λy e=>by cases e) S3 (λb u n e=>B3 b u n (s2 b u e))
theorem ye{K:Fg}{H H':Hp}{st:Addr}{k:Nat}(S:ma K H st k)(B:iY st H H'):∀b xs,H b=some (.tup xs)->H' b=some (.tup xs):=λb xs e=>by
 refine B b _ (λz=>?_) e
 obtain⟨_,e'⟩:=S.lst
 rw[z,e'] at e;cases e
theorem Iw:∀n:Nat,n<6->∃z:Nat,([V.int 0,V.int 1,V.int 2,V.int 2,V.int 3,V.int 8]:List V)[n]?=some (.int (z:Nat))/\z<=8
 |0,_=>⟨0,rfl,by decide⟩
 |1,_=>⟨1,rfl,by decide⟩
 |2,_=>⟨2,rfl,by decide⟩
 |3,_=>⟨2,rfl,by decide⟩
 |4,_=>⟨3,rfl,by decide⟩
 |5,_=>⟨8,rfl,by decide⟩
 |n+6,h=>absurd h (by lia)
structure Oi(K:Fg)(H:Hp)(st L:Addr)(ys:List Str)(H':Hp)(i k k':Nat)(wvs:List V)(ws:List Wk):Prop where
 hL:H' L=some (.lst wvs)
 all:bo (Ge H') wvs ws
 len:ws.length=i
 ok:∀w∈ws,w.ins.length<=8/\∀y∈w.ins,y∈ys
 S:ma K H' st k'
 few:k'<=k+1+12*i
 B:iY st H H'
theorem KQ{K:Fg}{vs:List V}{H:Hp}{Q:VK}{E:XK}(h:u0 K vs H Q E):Ex K {nx:=λ_ H'=>Q .non H',rt:=Q} (start xV vs) H:=by
 obtain⟨st,nm,m,k,ys,rfl,S,hk,nst,hnm,y1,y20,m100,q⟩:=h
 refine⟨(by show 0<=sizeLine;decide),λL nL=>?_⟩
 have S1:=S.new (o:=.lst []) nL
 have s1:aJ H (aN H L (.lst [])):=(aJ.refl H).new nL
 have hL1:aN H L (.lst []) L=some (.lst []):=ak
 have nLst:L≠st:=λz=>by obtain⟨_,e⟩:=S.lst;rw[z,e] at nL;cases nL
 show xJ K _ [some (.ref st),some (.ref nm),some (.int (m:Nat)),some (.ref L),none,none,none] _
 generalize aN H L (.lst [])=H1 at S1 s1 hL1 ⊢
 refine⟨_,rfl,_,rfl,.inl ⟨_,_,rfl,rfl,st,_,k,rfl,S1,by lia,by lia,by lia,λe H2 e0 e1 S2 B2=>⟨e,rfl,by lia,by lia,kD (n:=e.toNat) (λi σ' H'=>∃(o4 o5 o6:Option V) (k':Nat) (wvs:List V) (ws:List Wk),σ'=[some (.ref st),some (.ref nm),some (.int (m:Nat)),some (.ref L),o4,o5,o6]/\Oi K H st L ys H' i k k' wvs ws)
  ⟨none,none,none,k+1,[],[],rfl,B2 _ _ nLst hL1,⟨rfl,λi v r a=>by simp at a⟩,rfl,λw m=>by(cases m),S2,by lia,λb u n e=>B2 b u n (s1 b u e)⟩ ?_ ?_⟩⟩⟩
 ·rintro i σ' H3 hi ⟨o4,o5,o6,k',wvs,ws,rfl,A⟩
  have hi':i<e.toNat:=hi
  have kf:=A.few
  have H3nm:=A.B _ _ nst hnm
  refine⟨(by show 6<=sizeLine;decide),λl4 n4=>?_⟩
  have S4:=A.S.new (o:=.lst [V.int 0,V.int 1,V.int 2,V.int 2,V.int 3,V.int 8]) n4
  have s4:aJ H3 (aN H3 l4 (.lst [V.int 0,V.int 1,V.int 2,V.int 2,V.int 3,V.int 8])):=(aJ.refl H3).new n4
  have h4:aN H3 l4 (.lst [V.int 0,V.int 1,V.int 2,V.int 2,V.int 3,V.int 8]) l4=some (.lst [V.int 0,V.int 1,V.int 2,V.int 2,V.int 3,V.int 8]):=ak
  have n4st:l4≠st:=λz=>by obtain⟨_,e⟩:=A.S.lst;rw[z,e] at n4;cases n4
  generalize aN H3 l4 (.lst [V.int 0,V.int 1,V.int 2,V.int 2,V.int 3,V.int 8])=H4 at S4 s4 h4 ⊢
  refine⟨_,rfl,st,6,k',rfl,S4,by lia,by decide,by decide,λd H5 d0 d1 S5 B5=>?_⟩
  obtain⟨sz,hsz,sz8⟩:=Iw d.toNat (by lia)
  refine lD (cq.of (B5 _ _ n4st h4)) d0 hsz ?_
  have T5:iY st H3 H5:=λb u n e=>B5 b u n (s4 b u e)
  show xI K _ [some (.ref st),some (.ref nm),some (.int (m:Nat)),some (.ref L),some (.int ((0:Int)+(i:Nat))),some (.int (sz:Nat)),o6] H5
  refine⟨_,rfl,_,rfl,by lia,by lia,λD nD=>?_⟩
  have nDst:D≠st:=λz=>by obtain⟨_,e⟩:=S5.lst;rw[z,e] at nD;cases nD
  refine pF (λj σ' H'=>∃(us:List Str) (kk:Nat) (o:Option V),σ'=[some (.ref st),some (.ref nm),some (.int (m:Nat)),some (.ref L),some (.int ((0:Int)+(i:Nat))),some (.int (sz:Nat)),o6,o]/\H' D=some (.lst (us.map V.str))/\us.length=j/\(∀y∈us,y∈ys)/\ma K H' st kk/\kk<=k'+1+j/\iY st H5 H') ?_ ?_ ?_
  ·exact⟨[],k'+1,none,rfl,ak,rfl,by simp,S5.new nD,by lia,(iY.refl st H5).new nD⟩
  ·rintro j σ' H6 hj ⟨us,kk,o,rfl,hD,ul,uin,S6,hkk,B6⟩
   have hj':j<sz:=by simpa using hj
   have h6nm:=B6 _ _ nst (T5 _ _ nst H3nm)
   refine fB ⟨_,rfl,_,rfl,_,rfl,_,_,rfl,.inl ⟨_,cq.of h6nm,rfl⟩,st,_,kk,rfl,S6,by lia,by rw[af];lia,by rw[af];lia,λd H7 d0 d1 S7 B7=>?_⟩
   rw[af] at d1
   have dl:d.toNat<ys.length:=by lia
   have hD7:=B7 _ _ nDst hD
   refine lD (cq.of (B7 _ _ nst h6nm)) d0 (v:=.str ys[d.toNat]) (by rw[aH,aa dl];rfl) ⟨_,hD7,bG (by rw[af];lia),us++[ys[d.toNat]],kk+1,_,rfl,?_,by rw[ai,ul];rfl,λy hy=>?_,S7.mono .upd_at hD7 (Ne.symm nDst),by lia,λb u n e=>?_⟩
   ·rw[ak,aB];rfl
   ·rcases ax.mp hy with z|z
    ·exact uin y z
    ·rw[aj.mp z];exact cf dl
   ·rw[aA (aL e nD)];exact B7 b u n (B6 b u n e)
  ·rintro σ' H6 ⟨us,kk,o,rfl,hD,ul,uin,S6,hkk,B6⟩
   have ul':us.length=sz:=by simpa using ul
   have hkk':kk<=k'+1+sz:=by simpa using hkk
   refine⟨D,_,rfl,.inl ⟨cq.of hD,λt nt=>?_⟩⟩
   have S6':=S6.new (o:=.tup (us.map V.str)) nt
   have T6:iY st H3 (aN H6 t (.tup (us.map V.str))):=(T5.trans B6).new nt
   have ht6:aN H6 t (.tup (us.map V.str)) t=some (.tup (us.map V.str)):=ak
   show xH K _ [some (.ref st),some (.ref nm),some (.int (m:Nat)),some (.ref L),some (.int ((0:Int)+(i:Nat))),some (.int (sz:Nat)),some (.ref t)] _
   generalize aN H6 t (.tup (us.map V.str))=H7 at S6' T6 ht6 ⊢
   refine⟨_,rfl,.inl ⟨rfl,_,cq.of (T6 _ _ nLst A.hL)⟩,_,rfl,_,rfl,_,rfl,st,nm,kk,ys,rfl,S6',by lia,nst,T6 _ _ nst H3nm,y20,λmo H8 hmo S8 B8=>⟨(by show 2<=sizeLine;decide),λl9 n9=>?_⟩⟩
   have S9:=S8.new (o:=.lst [V.non,gB mo]) n9
   have s9:aJ H8 (aN H8 l9 (.lst [V.non,gB mo])):=(aJ.refl H8).new n9
   have h9:aN H8 l9 (.lst [V.non,gB mo]) l9=some (.lst [V.non,gB mo]):=ak
   have n9st:l9≠st:=λz=>by obtain⟨_,e⟩:=S8.lst;rw[z,e] at n9;cases n9
   generalize aN H8 l9 (.lst [V.non,gB mo])=H9 at S9 s9 h9 ⊢
   refine⟨_,rfl,st,4,kk+1,rfl,S9,by lia,by decide,by decide,λd H10 d0 d1 S10 B10=>⟨_,_,rfl,rfl,.inr ⟨_,rfl,?_⟩⟩⟩
   have T10:iY st H7 H10:=λb u n e=>B10 b u n (s9 b u (B8 b u n e))
   have tp10:∀b xs,H7 b=some (.tup xs)->H10 b=some (.tup xs):=ye S6' T10
   have fin:∀mo':Option Str,(jD aP:TE)=jD aP->∀(p:Addr),H10 p=none->Oi K H st L ys (aN (aN H10 p (.tup [.ref t,gB mo'])) L (.lst (wvs++[.ref p]))) (i+1) k (kk+2) (wvs++[.ref p]) (ws++[⟨us,mo'⟩]):=λmo' _ p np=>by
    have hL10:H10 L=some (.lst wvs):=T10 _ _ nLst (T6 _ _ nLst A.hL)
    have npL:p≠L:=λz=>by rw[z,hL10] at np;cases np
    have up:∀b xs,H10 b=some (.tup xs)->(aN (aN H10 p (.tup [.ref t,gB mo'])) L (.lst (wvs++[.ref p]))) b=some (.tup xs):=λb xs e=>by
     rw[aA (oq e hL10 (by intro z;cases z)),aA (aL e np)];exact e
    refine⟨ak,⟨by rw[ai,ai,A.all.len];rfl,λj v r e1 e2=>?_⟩,by rw[ai,A.len];rfl,λw mw=>?_,?_,by lia,λb u n e=>?_⟩
    ·rcases cB j wvs.length with hj|hj
     ·rw[av hj] at e1
      rw[av (by rw[<-A.all.len];exact hj)] at e2
      exact(A.all.at_ j v r e1 e2).tp λb xs e=>up _ _ (tp10 _ _ (ye A.S T6 _ _ e))
     ·rw[ao hj] at e1
      rw[ao (by rw[<-A.all.len];exact hj),<-A.all.len] at e2
      cases ej:j-wvs.length with
      |zero=>
       rw[ej] at e1 e2;cases e1;cases e2
       exact⟨p,t,rfl,by rw[aA npL,ak],up _ _ (tp10 _ _ ht6)⟩
      |succ n=>rw[ej] at e1;simp at e1
    ·rcases ax.mp mw with z|z
     ·exact A.ok w z
     ·rw[aj.mp z];exact⟨by show us.length<=8;lia,uin⟩
    ·exact(S10.new np).mono .upd_at (by rw[aA (Ne.symm npL)];exact hL10) (Ne.symm nLst)
    ·have bL:b≠L:=aL e nL
     rw[aA bL]
     have e10:=T10 b u n (T6 b u n (A.B b u n e))
     rw[aA (aL e10 np)];exact e10
   have hL10:H10 L=some (.lst wvs):=T10 _ _ nLst (T6 _ _ nLst A.hL)
   have wl:wvs.length=i:=by rw[A.all.len,A.len]
   have fin2:∀mo':Option Str,∀(p:Addr),H10 p=none->(∃l xs y,V.ref L=.ref l/\[V.ref p]=[y]/\aN H10 p (.tup [.ref t,gB mo']) l=some (.lst xs)/\xs.length<sizeLine/\∃(o4 o5 o6:Option V) (k':Nat) (wvs':List V) (ws':List Wk),[some (V.ref st),some (.ref nm),some (.int (m:Nat)),some (.ref L),some (.int ((0:Int)+(i:Nat))),some (.int (sz:Nat)),some (.ref t)]=[some (.ref st),some (.ref nm),some (.int (m:Nat)),some (.ref L),o4,o5,o6]/\Oi K H st L ys (aN (aN H10 p (.tup [.ref t,gB mo'])) l (.lst (xs++[y]))) (i+1) k k' wvs' ws'):=λmo' p np=>
    ⟨L,wvs,_,rfl,rfl,by rw[aA (λz=>by rw[<-z,hL10] at np;cases np)];exact hL10,bG (by lia),_,_,_,kk+2,_,_,rfl,fin mo' rfl p np⟩
   cases hb:decide ((0:Int)<d) with
   |true=>exact lD (cq.of (B10 _ _ n9st h9)) (by decide) rfl ⟨(by show 2<=sizeLine;decide),λp np=>fin2 mo p np⟩
   |false=>exact lD (cq.of (B10 _ _ n9st h9)) (by decide) rfl ⟨(by show 2<=sizeLine;decide),λp np=>fin2 none p np⟩
 ·rintro σ' H3 ⟨o4,o5,o6,k',wvs,ws,rfl,A⟩
  have few:=A.few
  refine⟨_,rfl,L,_,rfl,.inl ⟨cq.of A.hL,λwp nwp=>?_⟩⟩
  exact q wp wvs ws k' _ ak (A.all.imp λ_ _ z=>z.tp λb xs e=>by rw[aA (aL e nwp)];exact e) (by rw[A.len];lia) A.ok (A.S.new nwp) (by lia) (A.B.new nwp)
theorem Cy{α β:Type}(f:α->β):∀(l:List α) (i:Nat),(l.map f).eraseIdx i=(l.eraseIdx i).map f
 |[],i=>by simp
 |x::l,0=>rfl
 |x::l,i+1=>by
  show f x::(l.map f).eraseIdx i=f x::(l.eraseIdx i).map f
  rw[Cy f l i]
structure OM(K:Fg)(H:Hp)(st lf fd:Addr)(ys:List Str)(H':Hp)(i k k':Nat)(ls fs:List Str):Prop where
 hlf:H' lf=some (.lst (ls.map V.str))
 hfd:H' fd=some (.lst (fs.map V.str))
 ll:ls.length+i=ys.length
 fl:fs.length=i
 lin:∀y∈ls,y∈ys
 fin:∀y∈fs,y∈ys
 S:ma K H' st k'
 few:k'<=k+1+i
 B:iY st H H'
theorem MQ{K:Fg}{vs:List V}{H:Hp}{Q:VK}{E:XK}(h:yW K vs H Q E):IM K {nx:=λ_ H'=>Q .non H',rt:=Q} (start FZ vs) H:=by
 obtain⟨st,nm,m,k,ys,rfl,S,hk,nst,hnm,y20,m100,q⟩:=h
 refine⟨_,rfl,nm,_,rfl,.inl (cq.of hnm),λlf nlf=>?_⟩
 have S1:=S.new (o:=.lst (ys.map V.str)) nlf
 have s1:aJ H (aN H lf (.lst (ys.map V.str))):=(aJ.refl H).new nlf
 have hlf1:aN H lf (.lst (ys.map V.str)) lf=some (.lst (ys.map V.str)):=ak
 have nlfst:lf≠st:=λz=>by obtain⟨_,e⟩:=S.lst;rw[z,e] at nlf;cases nlf
 show Bk K _ [some (.ref st),some (.ref nm),some (.int (m:Nat)),some (.ref lf),none,none] _
 generalize aN H lf (.lst (ys.map V.str))=H1 at S1 s1 hlf1 ⊢
 refine⟨(by show 0<=sizeLine;decide),λfd nfd=>?_⟩
 have S2:=S1.new (o:=.lst []) nfd
 have s2:aJ H1 (aN H1 fd (.lst [])):=(aJ.refl H1).new nfd
 have hfd2:aN H1 fd (.lst []) fd=some (.lst []):=ak
 have nfdst:fd≠st:=λz=>by obtain⟨_,e⟩:=S1.lst;rw[z,e] at nfd;cases nfd
 have nff:fd≠lf:=λz=>by rw[z,hlf1] at nfd;cases nfd
 have Hfd:H fd=none:=by
  cases ee:H fd with
  |none=>rfl
  |some u=>rw[s1 _ _ ee] at nfd;cases nfd
 show Bj K _ [some (.ref st),some (.ref nm),some (.int (m:Nat)),some (.ref lf),some (.ref fd),none] _
 generalize aN H1 fd (.lst [])=H2 at S2 s2 hfd2 ⊢
 have hlf2:=s2 _ _ hlf1
 refine⟨_,rfl,_,_,rfl,.inl ⟨_,cq.of (s2 _ _ (s1 _ _ hnm)),rfl⟩,_,rfl,_,rfl,.inl ⟨_,_,rfl,rfl,st,_,k,rfl,S2,by lia,by lia,by lia,λe H3 e0 e1 S3 B3=>⟨_,_,rfl,?_⟩⟩⟩
 obtain⟨c,hc,cle,clm⟩:∃c:Nat,(if e<((ys.map V.str).length:Int) then e else((ys.map V.str).length:Int))=(c:Int)/\c<=ys.length/\c<=m:=by
  rw[af]
  by_cases g:e<(ys.length:Int)
  ·exact⟨e.toNat,by rw[if_pos g];lia,by lia,by lia⟩
  ·exact⟨ys.length,by rw[if_neg g],aw _,by lia⟩
 rw[hc]
 refine⟨_,rfl,by lia,by lia,kD (n:=c) (λi σ' H'=>∃(o5:Option V) (k':Nat) (ls fs:List Str),σ'=[some (.ref st),some (.ref nm),some (.int (m:Nat)),some (.ref lf),some (.ref fd),o5]/\OM K H st lf fd ys H' i k k' ls fs)
  ⟨none,k+1,ys,[],rfl,B3 _ _ nlfst hlf2,B3 _ _ nfdst hfd2,rfl,rfl,λy h=>h,λy h=>by(cases h),S3,by lia,λb u n e=>B3 b u n (s2 _ _ (s1 b u e))⟩ ?_ ?_⟩
 ·rintro i σ' H4 hi ⟨o5,k',ls,fs,rfl,A⟩
  have kf:=A.few
  have ll:=A.ll
  have lpos:0<ls.length:=by lia
  refine⟨_,rfl,.inl ⟨rfl,_,cq.of A.hfd⟩,_,rfl,.inl ⟨rfl,_,cq.of A.hlf⟩,_,rfl,_,rfl,_,_,rfl,.inl ⟨_,cq.of A.hlf,rfl⟩,st,_,k',rfl,A.S,by lia,by rw[af];lia,by rw[af];lia,λd H5 d0 d1 S5 B5=>?_⟩
  rw[af] at d1
  have dl:d.toNat<ls.length:=by lia
  have h5:=B5 _ _ nlfst A.hlf
  have g5:=B5 _ _ nfdst A.hfd
  refine⟨lf,_,d,d.toNat,.str ls[d.toNat],rfl,rfl,h5,by lia,by lia,?_,by rw[aH,aa dl];rfl,?_⟩
  ·unfold seqIndex?
   rw[if_neg (show ¬(d<0) by lia),af]
   simp[d0,d1]
  ·have ke:(ls.map V.str).eraseIdx d.toNat=(ls.eraseIdx d.toNat).map V.str:=Cy _ _ _
   rw[ke]
   have S6:=S5.mono (H':=aN H5 lf (.lst ((ls.eraseIdx d.toNat).map V.str))) .upd_at h5 (Ne.symm nlfst)
   have g6:aN H5 lf (.lst ((ls.eraseIdx d.toNat).map V.str)) fd=some (.lst (fs.map V.str)):=by rw[aA nff];exact g5
   have h6:aN H5 lf (.lst ((ls.eraseIdx d.toNat).map V.str)) lf=some (.lst ((ls.eraseIdx d.toNat).map V.str)):=ak
   have T6:iY st H (aN H5 lf (.lst ((ls.eraseIdx d.toNat).map V.str))):=λb u n e=>by rw[aA (aL e nlf)];exact B5 b u n (A.B b u n e)
   generalize aN H5 lf (.lst ((ls.eraseIdx d.toNat).map V.str))=H6 at S6 g6 h6 T6 ⊢
   have fl:=A.fl
   refine⟨fd,_,_,rfl,rfl,g6,bG (by rw[af];lia),_,k'+1,ls.eraseIdx d.toNat,fs++[ls[d.toNat]],rfl,by rw[aA (Ne.symm nff)];exact h6,?_,?_,by rw[ai,fl];rfl,λy hy=>A.lin y (List.mem_of_mem_eraseIdx hy),λy hy=>?_,S6.mono .upd_at g6 (Ne.symm nfdst),by lia,λb u n e=>by rw[aA (aL e Hfd)];exact T6 b u n e⟩
   ·rw[ak,aB];rfl
   ·rw[fH,if_pos dl];lia
   ·rcases ax.mp hy with z|z
    ·exact A.fin y z
    ·rw[aj.mp z];exact A.lin _ (cf dl)
 ·rintro σ' H4 ⟨o5,k',ls,fs,rfl,A⟩
  have few:=A.few
  have fl:=A.fl
  refine⟨_,rfl,fd,_,rfl,.inl ⟨cq.of A.hfd,λlt nlt=>?_⟩⟩
  exact q lt fs k' _ ak (by lia) (by lia) A.fin (A.S.new nlt) (by lia) (A.B.new nlt)
theorem GB{K:Fg}{H:Hp}{a b:Addr}{ws:List Str}(ha:H a=some (.tup (ws.map V.str)))(hb:H b=some (.tup (ws.map V.str))):BI K H 4 (.ref a) (.ref b) true:=by
 by_cases n:a=b
 ·subst n;exact .same
 ·have:=BI.tups (K:=K) (H:=H) (d:=3) (es:=aV ws.length true) n (cE.of ha) (cE.of hb) rfl (by simp) λj x y e h1 h2 h3=>by
   rw[h1] at h2;cases h2
   obtain⟨z,hz,rfl⟩:=yY h1
   have he:e=true:=(List.mem_replicate.mp (aC h3)).2
   subst he
   have:=BI.flat (K:=K) (H:=H) (d:=3) (x:=.str z) (y:=.str z) rfl rfl
   simpa[vU] using this
  simpa using this
theorem e6{α:Type}{xs:List α}{i:Nat}{y:α}(h:xs[i]?=some y):xs.take (i+1)=xs.take i++[y]:=by rw[fz,h];rfl
theorem Al{ps:List Nat}{i:Nat}{v:V}(h:(ps.map λi=>V.int (i:Nat))[i]?=some v):∃p:Nat,ps[i]?=some p/\v=.int (p:Nat):=by
 rw[aH] at h
 cases e:ps[i]? with
 |none=>rw[e] at h;cases h
 |some p=>rw[e] at h;exact⟨p,rfl,(Option.some.inj h).symm⟩
theorem wc{K:Fg}{vs:List V}{H:Hp}{Q:VK}{E:XK}(h:fO K vs H Q E):pe K {nx:=λ_ H'=>Q .non H',rt:=Q} (start j9 vs) H:=by
 obtain⟨_,p,b,t,m,rfl,⟨D,rfl,hD⟩,nd,hp,ne,l5,hb,all,⟨c0,hc0,hm0⟩,q⟩:=h
 have hD:H D=some (.dT (c5 t)):=hD
 refine .inl ⟨_,rfl,p,b,rfl,hp,ne,l5,λl H1 nl hl s1=>⟨l,rfl,⟨_,cq.of hl⟩,λC nC=>?_⟩⟩
 refine kB (xs:=(mI b).map λi=>V.int (i:Nat)) (λi σ' H'=>∃o,σ'=[some (.ref D),some (.ref p),o]/\H' C=some (.lst ((((mI b).take i).filter λj=>decide ((nB b j,m)∈t)).map λj=>V.int (j:Nat)))/\aJ H1 H') ?_ ?_ ?_ ?_
 ·exact⟨none,rfl,ak,(aJ.refl H1).new nC⟩
 ·rintro i σ' H' _ ⟨_,_,_,s⟩;exact cq.of (s _ _ hl)
 ·rintro i v σ' H2 hv ⟨o,rfl,hC,s⟩
  obtain⟨j,hj,rfl⟩:=Al hv
  have jm:=aC hj
  have il:i<(mI b).length:=(ae.mp hj).1
  have pf:=D6 b
  show jr C _ _ _ [some (.ref D),some (.ref p),some (.int (j:Nat))] H2
  have s2:=s1.trans s
  obtain⟨k,hk⟩:=all (nB b j) (aD.mpr ⟨j,jm,rfl⟩)
  refine⟨_,rfl,_,rfl,_,rfl,p,b,j,rfl,s2 _ _ hp,l5,jm,λr H3 hr s3=>⟨D,_,rfl,oj (s3 _ _ (s2 _ _ hD)) hr (fS nd hk),_,rfl,_,rfl,D,_,rfl,oj (s3 _ _ (s2 _ _ hD)) (s3 _ _ (s2 _ _ hp)) (fS nd hb),_,_,rfl,rfl,.inl ⟨rfl,_,rfl,?_⟩⟩⟩
  rw[e6 hj,eW,cX,List.filter_nil]
  refine dy (λc=>?_) λc=>?_
  ·have km:k=m:=by
    injection c with c
    lia
   subst km
   rw[if_pos (decide_eq_true hk)]
   refine⟨_,rfl,_,s3 _ _ hC,bG ?_,_,rfl,?_,cO (s.trans s3) nC⟩
   ·rw[af]
    have:=bx (λj=>decide ((nB b j,k)∈t)) ((mI b).take i)
    rw[aS] at this
    lia
   ·rw[ak,aB];rfl
  ·have km:(nB b j,m)∉t:=λz=>c (by rw[tG nd hk z];congr 1;lia)
   rw[if_neg (by rw[decide_eq_false km];decide),dJ]
   exact⟨_,rfl,s3 _ _ hC,s.trans s3⟩
 ·rintro σ' H2 ⟨o,_,hC,s⟩
  rw[af,a7] at hC
  obtain⟨j0,hj0,rfl⟩:=aD.mp hc0
  have hin:j0∈(mI b).filter λj=>decide ((nB b j,m)∈t):=a9.mpr ⟨hj0,decide_eq_true hm0⟩
  have sub:∀j∈(mI b).filter (λj=>decide ((nB b j,m)∈t)),j∈mI b/\(nB b j,m)∈t:=λj hj=>by
   obtain⟨h1,h2⟩:=a9.mp hj
   exact⟨h1,of_decide_eq_true h2⟩
  generalize (mI b).filter (λj=>decide ((nB b j,m)∈t))=fs at hC hin sub
  cases fs with
  |nil=>cases hin
  |cons j r=>
   have:=sub j aZ
   exact lD (v:=.int (j:Nat)) (cq.of hC) (by decide) rfl (q j H2 this.1 this.2 (s1.trans s))
theorem bo.appF{α:Type}{R:V->α->Prop}{vs ws:List V}{rs qs:List α}(h:bo R vs rs)(h':bo R ws qs):bo R (vs++ws) (rs++qs):=by
 refine⟨by rw[ai,ai,h.len,h'.len],λi v r e e'=>?_⟩
 by_cases c:i<vs.length
 ·rw[av c] at e
  rw[av (by rw[<-h.len];exact c)] at e'
  exact h.at_ i v r e e'
 ·rw[ao (by lia)] at e
  rw[ao (by rw[<-h.len];lia),<-h.len] at e'
  exact h'.at_ _ v r e e'
theorem bo.lastF{α:Type}{R:V->α->Prop}{vs:List V}{rs:List α}{r:α}(h:bo R vs (rs++[r])):∃vs' v,vs=vs'++[v]/\bo R vs' rs/\R v r:=by
 have hl:vs.length=rs.length+1:=by rw[h.len,ai];rfl
 rcases ic vs with z|⟨vs',v,z⟩
 ·rw[z] at hl;cases hl
 ·rw[ia] at z
  subst z
  have hl':vs'.length=rs.length:=by rw[ai] at hl;simpa using hl
  refine⟨vs',v,rfl,⟨hl',λi u q e e'=>?_⟩,?_⟩
  ·have c:i<vs'.length:=(ae.mp e).1
   exact h.at_ i u q (by rw[av c];exact e) (by rw[av (by lia)];exact e')
  ·exact h.at_ rs.length v r (by rw[<-hl',ao (aw _),bj];rfl) (by rw[ao (aw _),bj];rfl)
theorem iN.mono{H H':Hp}{v:V}{b:Bt}(h:iN H v b)(t:Tp H H'):iN H' v b:=by
 obtain⟨p,e,h⟩:=h
 exact⟨p,e,t _ _ h⟩
theorem GY{K:Fg}{s0 s1 s2:Option V}{pb:Addr}{b:Bt}{H:Hp}{Q:VK}(hp:H pb=some (.tup (cw b)))(ne:b≠[])(l5:b.length<=5)
  (q:∀(C:Addr) (us:List V) (H':Hp),H C=none->H' C=some (.lst us)->bo (iN H') us (kts b)->aJ H H'->Q (.ref C) H') :
  d6 [] 1 (jk K (bA (dQ K) [] E0 (ar (ay 3) aP))) (aQ 4) jE (bA (gM K) [] E0 (ar (ay 3) (ar (ay 4) aP))) [s0,s1,s2,some (.ref pb)] H Q:=by
 refine .inl ⟨_,rfl,pb,b,rfl,hp,ne,l5,λl H1 nl hl s1'=>⟨l,rfl,⟨_,cq.of hl⟩,λC nC=>?_⟩⟩
 refine kB (xs:=(mI b).map λi=>V.int (i:Nat)) (λi σ' H'=>∃o us,σ'=[s0,s1,s2,some (.ref pb),o]/\H' C=some (.lst us)/\bo (iN H') us (((mI b).take i).map (nB b))/\aJ H1 H') ?_ ?_ ?_ ?_
 ·exact⟨none,[],rfl,ak,bo.nil,(aJ.refl H1).new nC⟩
 ·rintro i σ' H' _ ⟨_,_,_,_,_,s⟩;exact cq.of (s _ _ hl)
 ·rintro i v σ' H2 hv ⟨o,us,rfl,hC,hA,s⟩
  obtain⟨j,hj,rfl⟩:=Al hv
  have il:i<(mI b).length:=(ae.mp hj).1
  have pf:=D6 b
  have ul:us.length<=i:=by rw[hA.len,af,aS];lia
  refine fB ⟨_,rfl,_,rfl,pb,b,j,rfl,s _ _ (s1' _ _ hp),l5,aC hj,λr H3 hr s3=>⟨us,s3 _ _ hC,bG (by lia),_,us++[.ref r],rfl,ak,?_,cO (s.trans s3) nC⟩⟩
  have t4:Tp H3 (aN H3 C (.lst (us++[.ref r]))):=(Tp.refl H3).lst (s3 _ _ hC)
  rw[e6 hj,aB]
  exact(hA.imp λ_ _ z=>z.mono ((Tp.of_same s3).trans t4)).snoc ⟨r,rfl,t4 _ _ hr⟩
 ·rintro σ' H2 ⟨o,us,_,hC,hA,s⟩
  rw[af,a7] at hA
  exact q C us H2 (s1'.free nC) hC hA (s1'.trans s)
structure Oo(n:Nat)(ss:List Str)(ebs ks wbs:List Bt):Prop where
 nd:ks.Nodup
 inn:∀b∈ks,kQ n ss b
 inw:∀b∈wbs,kQ n ss b
 ent:∀b∈ebs,b∈ks\/b∈wbs
 cl:∀b∈ks,∀c∈kts b,c∈ks\/c∈wbs
 ind:∀P:Bt->Prop,(∀b∈ebs,P b)->(∀b,P b->∀c∈kts b,P c)->(∀b∈ks,P b)/\∀b∈wbs,P b
structure FN(H:Hp)(L D:Addr)(kvs:List (List b8×V))(ks:List Bt):Prop where
 at_:H D=some (.dT kvs)
 keys:kvs.map (·.1)=ks.map cK
 val:∀(i:Nat) k u b,kvs[i]?=some (k,u)->ks[i]?=some b->∃l us,u=.ref l/\l≠L/\H l=some (.lst us)/\bo (iN H) us (kts b)
theorem zR{kvs:List (List b8×V)}{ks:List Bt}(h:kvs.map (·.1)=ks.map cK)(b:Bt):(cW kvs (cK b)).isSome=decide (b∈ks):=by
 rw[Bool.eq_iff_iff,decide_eq_true_eq]
 constructor
 ·intro e
  obtain⟨v,e⟩:=dC.mp e
  have:=EA e
  rw[h] at this
  obtain⟨c,hc,e⟩:=aD.mp this
  rw[<-mB e];exact hc
 ·intro hb
  cases e:cW kvs (cK b) with
  |some v=>rfl
  |none=>
   have:=IW e
   rw[h] at this
   exact absurd (aD.mpr ⟨b,hb,rfl⟩) this
theorem C1{K:Fg}{vs:List V}{H:Hp}{Q:VK}{E:XK}(h:jW K vs H Q E):vk K {nx:=λ_ H'=>Q .non H',rt:=Q} (start pB vs) H:=by
 obtain⟨e,us0,ebs,n,ss,rfl,he,hA0,dim,inn,few,q⟩:=h
 intro D nD
 show qZ K _ [some (.ref e),some (.ref D),none,none] (aN H D (.dT []))
 have s1:aJ H (aN H D (.dT [])):=(aJ.refl H).new nD
 refine⟨_,rfl,e,us0,rfl,.inl (cq.of (s1 _ _ he)),λL nL=>?_⟩
 have s2:=s1.new (o:=.lst us0) nL
 have nLH:H L=none:=s1.free nL
 have nDL:D≠L:=aL ak nL
 have hD2:aN (aN H D (.dT [])) L (.lst us0) D=some (.dT []):=by rw[aA nDL,ak]
 have hL2:aN (aN H D (.dT [])) L (.lst us0) L=some (.lst us0):=ak
 show qY K _ [some (.ref e),some (.ref D),some (.ref L),none] _
 generalize aN (aN H D (.dT [])) L (.lst us0)=H2 at s2 hD2 hL2 ⊢
 refine⟨λm σ' H'=>∃o ks wbs kvs us,σ'=[some (.ref e),some (.ref D),some (.ref L),o]/\Oo n ss ebs ks wbs/\FN H' L D kvs ks/\H' L=some (.lst us)/\bo (iN H') us wbs/\aJ H H'/\(7776-ks.length)*6+wbs.length=m/\m<=60000,
  ⟨_,none,[],ebs,[],us0,rfl,⟨df,(λb h=>by cases h),inn,λb h=>.inr h,(λb h=>by cases h),λP h1 _=>⟨(λb h=>by cases h),h1⟩⟩,⟨hD2,rfl,λi k u b h=>by simp at h⟩,hL2,hA0.imp λ_ _ z=>z.mono (.of_same s2),s2,rfl,by show(7776-0)*6+_<=_;lia⟩,?_⟩
 rintro m σ' H3 ⟨o,ks,wbs,kvs,us,rfl,tr,cb,hL,hA,s3,hm,hmb⟩
 have kfew:=wN dim tr.nd tr.inn
 refine⟨_,rfl,_,_,rfl,.inl ⟨_,cq.of hL,rfl⟩,_,_,rfl,rfl,_,rfl,dy (λhl=>?_) (λhl=>?_)⟩
 ·have hl':0<wbs.length:=by rw[<-hA.len];lia
  obtain⟨W0,b,rfl⟩:∃W0 b,wbs=W0++[b]:=by
   rcases ic wbs with z|⟨W0,b,z⟩
   ·rw[z] at hl';cases hl'
   ·exact⟨W0,b,by rw[z,ia]⟩
  obtain⟨us',v,rfl,hA',⟨pb,rfl,hpb⟩⟩:=hA.lastF
  have bin:=tr.inw b (aX _ (aj.mpr rfl))
  have bne:b≠[]:=λz=>by have:=bin.len;rw[z] at this;have:=dim.pos;simp at *;lia
  have bl5:b.length<=5:=by rw[bin.len];exact dim.n5
  rw[ai,aI] at hm
  have wl:us'.length=W0.length:=hA'.len
  refine⟨λσ' H'=>∃m',m'<m/\∃o ks wbs kvs us,σ'=[some (.ref e),some (.ref D),some (.ref L),o]/\Oo n ss ebs ks wbs/\FN H' L D kvs ks/\H' L=some (.lst us)/\bo (iN H') us wbs/\aJ H H'/\(7776-ks.length)*6+wbs.length=m'/\m'<=60000,λ_ _ z=>z,?_⟩
  refine⟨_,rfl,.inl ⟨rfl,_,cq.of hL⟩,L,_,.ref pb,rfl,rfl,hL,(by rw[ai,aI,cA,ao (aw _),bj];rfl),?_⟩
  rw[eh]
  have t4:Tp H3 (aN H3 L (.lst us')):=(Tp.refl H3).lst hL
  have s4:aJ H (aN H3 L (.lst us')):=cO s3 nLH
  have hpb4:=t4 _ _ hpb
  have hL4:aN H3 L (.lst us') L=some (.lst us'):=ak
  have cb4:FN (aN H3 L (.lst us')) L D kvs ks:=⟨by rw[aA nDL];exact cb.at_,cb.keys,λi k u b h1 h2=>by
   obtain⟨l,vs,e1,e2,e3,e4⟩:=cb.val i k u b h1 h2
   exact⟨l,vs,e1,e2,by rw[aA e2];exact e3,e4.imp λ_ _ z=>z.mono t4⟩⟩
  have hA4:=hA'.imp λ_ _ z=>iN.mono z t4
  show qX K _ [some (.ref e),some (.ref D),some (.ref L),some (.ref pb)] (aN H3 L (.lst us'))
  generalize aN H3 L (.lst us')=H4 at s4 hpb4 hL4 cb4 hA4 ⊢
  refine⟨_,rfl,_,rfl,D,_,rfl,oj cb4.at_ hpb4 rfl,_,rfl,?_⟩
  rw[show(if true=true then !(cW kvs (cK b)).isSome else(cW kvs (cK b)).isSome)=!decide (b∈ks) from by rw[<-zR cb4.keys];rfl]
  refine mz (λhb=>?_) (λhb=>?_)
  ·have vnone:cW kvs (cK b)=none:=by
    cases ev:cW kvs (cK b) with
    |none=>rfl
    |some v=>have:=zR cb4.keys b;rw[ev,decide_eq_false hb] at this;cases this
   have kl:kvs.length=ks.length:=by have:=congrArg gH cb4.keys;rwa [af,af] at this
   unfold bt bP
   refine GY hpb4 bne bl5 λC cus H5 nC hC hCA s5=>?_
   have nCL:C≠L:=(aL hL4 nC).symm
   have nCD:C≠D:=(aL cb4.at_ nC).symm
   refine⟨_,rfl,_,rfl,D,_,rfl,BH.t (s5 _ _ cb4.at_) (by rw[d5];exact s5 _ _ hpb4) (bG (by lia)),?_⟩
   rw[mJ _ vnone]
   have t6:Tp H5 (aN H5 D (.dT (kvs++[(cK b,V.ref C)]))):=λc xs hc=>by
    rw[aA (λz=>by rw[z,s5 _ _ cb4.at_] at hc;cases hc)];exact hc
   have hD6:aN H5 D (.dT (kvs++[(cK b,V.ref C)])) D=some (.dT (kvs++[(cK b,V.ref C)])):=ak
   have hL6:aN H5 D (.dT (kvs++[(cK b,V.ref C)])) L=some (.lst us'):=by rw[aA (Ne.symm nDL)];exact s5 _ _ hL4
   have hC6:aN H5 D (.dT (kvs++[(cK b,V.ref C)])) C=some (.lst cus):=by rw[aA nCD];exact hC
   have s6:aJ H (aN H5 D (.dT (kvs++[(cK b,V.ref C)]))):=cO (s4.trans s5) nD
   have other:∀l vs,l≠L->H4 l=some (.lst vs)->aN H5 D (.dT (kvs++[(cK b,V.ref C)])) l=some (.lst vs):=λl vs _ hl=>by
    rw[aA (λz=>by rw[z,cb4.at_] at hl;cases hl)];exact s5 _ _ hl
   have T46:Tp H4 (aN H5 D (.dT (kvs++[(cK b,V.ref C)]))):=(Tp.of_same s5).trans t6
   have hpb6:=T46 _ _ hpb4
   have hCA6:=hCA.imp λ_ _ z=>iN.mono z t6
   have hA6:=hA4.imp λ_ _ z=>iN.mono z T46
   show qW K _ [some (.ref e),some (.ref D),some (.ref L),some (.ref pb)] (aN H5 D (.dT (kvs++[(cK b,V.ref C)])))
   generalize aN H5 D (.dT (kvs++[(cK b,V.ref C)]))=H6 at hD6 hL6 hC6 s6 other T46 hpb6 hCA6 hA6 ⊢
   have vC:cW (kvs++[(cK b,V.ref C)]) (cK b)=some (.ref C):=by rw[xM _ _ _ _ vnone,if_pos rfl]
   have kfb:(kts b).length<=5:=by unfold kts;rw[af];exact br (AJ bne) bl5
   refine⟨_,rfl,.inl ⟨rfl,_,cq.of hL6⟩,_,rfl,_,rfl,D,_,rfl,oj hD6 hpb6 vC,L,C,_,_,rfl,rfl,hL6,hC6,bW (bG (by rw[hCA6.len];lia)),?_⟩
   have t7:Tp H6 (aN H6 L (.lst (us'++cus))):=(Tp.refl H6).lst hL6
   have nd':(ks++[b]).Nodup:=cu.mpr ⟨tr.nd,by simp,λx hx y hy=>by rw[aj.mp hy];rintro rfl;exact hb hx⟩
   have tr':Oo n ss ebs (ks++[b]) (W0++kts b):=by
    refine⟨nd',λc hc=>?_,λc hc=>?_,λc hc=>?_,λc hc d hd=>?_,λP h1 h2=>?_⟩
    ·rcases ax.mp hc with z|z
     ·exact tr.inn c z
     ·rw[aj.mp z];exact bin
    ·rcases ax.mp hc with z|z
     ·exact tr.inw c (bC _ z)
     ·exact bin.kts z
    ·rcases tr.ent c hc with z|z
     ·exact .inl (bC _ z)
     ·rcases ax.mp z with z|z
      ·exact .inr (bC _ z)
      ·exact .inl (aX _ z)
    ·rcases ax.mp hc with z|z
     ·rcases tr.cl c z d hd with y|y
      ·exact .inl (bC _ y)
      ·rcases ax.mp y with y|y
       ·exact .inr (bC _ y)
       ·exact .inl (aX _ y)
     ·rw[aj.mp z] at hd
      exact .inr (aX _ hd)
    ·obtain⟨p1,p2⟩:=tr.ind P h1 h2
     have pb:=p2 b (aX _ (aj.mpr rfl))
     refine⟨λc hc=>?_,λc hc=>?_⟩
     ·rcases ax.mp hc with z|z
      ·exact p1 c z
      ·rw[aj.mp z];exact pb
     ·rcases ax.mp hc with z|z
      ·exact p2 c (bC _ z)
      ·exact h2 b pb c z
   have kf2:=wN dim nd' tr'.inn
   have kl2:(ks++[b]).length=ks.length+1:=by rw[ai];rfl
   have wl2:(W0++kts b).length<=W0.length+5:=by rw[ai];lia
   refine⟨(7776-(ks++[b]).length)*6+(W0++kts b).length,by lia,_,ks++[b],W0++kts b,_,us'++cus,rfl,tr',⟨by rw[aA nDL];exact hD6,by rw[aB,aB,cb4.keys];rfl,λi k u c h1 h2=>?_⟩,ak,(hA6.imp λ_ _ z=>iN.mono z t7).appF (hCA6.imp λ_ _ z=>iN.mono z t7),cO s6 nLH,rfl,by lia⟩
   by_cases ci:i<kvs.length
   ·rw[av ci] at h1
    rw[av (by lia)] at h2
    obtain⟨l,vs,e1,e2,e3,e4⟩:=cb4.val i k u c h1 h2
    exact⟨l,vs,e1,e2,by rw[aA e2];exact other l vs e2 e3,e4.imp λ_ _ z=>iN.mono z (T46.trans t7)⟩
   ·rw[ao (by lia)] at h1
    rw[ao (by lia),<-kl] at h2
    have i0:i-kvs.length=0:=by
     have:=(ae.mp h1).1
     simpa using this
    rw[i0] at h1 h2
    have h1:(cK b,V.ref C)=(k,u):=Option.some.inj h1
    have h2:b=c:=Option.some.inj h2
    cases h1;subst h2
    exact⟨C,cus,rfl,nCL,by rw[aA nCL];exact hC6,hCA6.imp λ_ _ z=>iN.mono z t7⟩
  ·refine⟨(7776-ks.length)*6+W0.length,by lia,_,ks,W0,kvs,us',rfl,⟨tr.nd,tr.inn,λc hc=>tr.inw c (bC _ hc),λc hc=>?_,λc hc d hd=>?_,λP h1 h2=>?_⟩,cb4,hL4,hA4,s4,rfl,by lia⟩
   ·rcases tr.ent c hc with z|z
    ·exact .inl z
    ·rcases ax.mp z with z|z
     ·exact .inr z
     ·rw[aj.mp z];exact .inl hb
   ·rcases tr.cl c hc d hd with z|z
    ·exact .inl z
    ·rcases ax.mp z with z|z
     ·exact .inr z
     ·rw[aj.mp z];exact .inl hb
   ·obtain⟨p1,p2⟩:=tr.ind P h1 h2
    exact⟨p1,λc hc=>p2 c (bC _ hc)⟩
 ·have w0:wbs=[]:=by
   have:wbs.length=0:=by rw[<-hA.len];lia
   exact bD.mp this
  subst w0
  show qV K _ [some (.ref e),some (.ref D),some (.ref L),o] H3
  refine⟨_,rfl,q (.ref D) ks H3 ⟨D,kvs,rfl,cb.at_,cb.keys,λi k u b h1 h2=>?_⟩ ⟨tr.nd,kfew,tr.inn,(λb hb=>(tr.ent b hb).elim id λz=>by cases z),(λb hb c hc=>(tr.cl b hb c hc).elim id λz=>by cases z),λP h1 h2=>(tr.ind P h1 h2).1⟩ s3⟩
  obtain⟨l,vs,e1,_,e3,e4⟩:=cb.val i k u b h1 h2
  exact⟨l,vs,e1,e3,e4⟩
theorem wU{d:Addr}{kvs:List (List b8×V)}{ob:Obj}{g:TG}{tb:TS}{D:lT}{σ:St}{H:Hp}(Pv:Nat->St->Hp->Prop)(h0:Pv 0 σ H)(hl:∀i σ H,i<=kvs.length->Pv i σ H->H d=some (.frz ob (.dT kvs)))
  (hs:∀i k v b σ H,kvs[i]?=some (k,v)->H b=some (.tup (k.map kN))->Pv i σ H->g (.ref b) σ H λσ2 H2=>tb {D with nx:=Pv (i+1),ct:=Pv (i+1),bk:=D.nx} σ2 H2) (hd:∀σ H,Pv kvs.length σ H->D.nx σ H) :
  ∃W:Nat->Nat->St->Hp->Prop,(∃m,W 0 m σ H)/\∀i m σ H,W i m σ H->
   ((zh d kvs ob).stop i H/\D.nx σ H)\/((zh d kvs ob).go i H/\∃N:St->Hp->Prop,(∀σ' H',N σ' H'->∃m',m'<m/\W (i+1) m' σ' H')/\∀x H',(zh d kvs ob).yld i H x H'->g x σ H' λσ2 H2=>tb {D with nx:=N,ct:=N,bk:=D.nx} σ2 H2):=by
 refine⟨λi m σ H=>m=kvs.length-i/\i<=kvs.length/\Pv i σ H,⟨kvs.length,by simp,a8 _,h0⟩,?_⟩
 rintro i m σ H ⟨rfl,hi,p⟩
 have q:=hl i σ H hi p
 by_cases hlt:i<kvs.length
 ·refine .inr ⟨⟨q,hlt⟩,Pv (i+1),λσ' H' p'=>⟨kvs.length-(i+1),by lia,rfl,hlt,p'⟩,?_⟩
  rintro x H' ⟨rfl,k,v,b,e,rfl,hb⟩
  exact hs i k v b σ H' e hb p
 ·have e:i=kvs.length:=by lia
  subst e
  exact .inl ⟨⟨q,aw _⟩,hd σ H p⟩
theorem pE{js:List Nat}{kk:Nat}{d:Addr}{kvs:List (List b8×V)}{ob:Obj}{g:TG}{tc:TT}{te:TE}{R:Hp->Prop}{σ:St}{H:Hp}{D:Addr}(Pv:Nat->St->Hp->Prop)(h0:Pv 0 (um js kk σ) (aN H D (.lst [])))(hl:∀i σ H,i<=kvs.length->Pv i σ H->H d=some (.frz ob (.dT kvs)))
  (hs:∀i k v b σ H,kvs[i]?=some (k,v)->H b=some (.tup (k.map kN))->Pv i σ H->g (.ref b) σ H λσ2 H2=>jr D tc te {nx:=Pv (i+1),rt:=λ_ _=>False,ct:=Pv (i+1),bk:=λ_ H'=>R H'} σ2 H2) (hd:∀σ H,Pv kvs.length σ H->R H) :
  ∃W:Nat->Nat->St->Hp->Prop,(∃m,W 0 m (um js kk σ) (aN H D (.lst [])))/\∀i m σ H,W i m σ H->
   ((zh d kvs ob).stop i H/\R H)\/((zh d kvs ob).go i H/\∃N:St->Hp->Prop,(∀σ' H',N σ' H'->∃m',m'<m/\W (i+1) m' σ' H')/\∀x H',(zh d kvs ob).yld i H x H'->g x σ H' λσ2 H2=>jr D tc te {nx:=N,rt:=λ_ _=>False,ct:=N,bk:=λ_ H'=>R H'} σ2 H2):=
 wU (D:={nx:=λ_ H'=>R H',rt:=λ_ _=>False}) Pv h0 hl hs hd
theorem ur{d:Addr}{kvs:List (List b8×V)}{ob:Obj}{g:TG}{tb:TS}{D:lT}{σ:St}{H:Hp}(Pv:Nat->St->Hp->Prop)(h0:Pv 0 σ H)(hl:∀i σ H,i<=kvs.length->Pv i σ H->H d=some (.frz ob (.dT kvs)))
  (hs:∀i k v b p σ H,kvs[i]?=some (k,v)->H b=some (.tup (k.map kN))->H p=none->Pv i σ H->g (.ref p) σ (aN H p (.tup [.ref b,v])) λσ2 H2=>tb {D with nx:=Pv (i+1),ct:=Pv (i+1),bk:=D.nx} σ2 H2) (hd:∀σ H,Pv kvs.length σ H->D.nx σ H) :
  ∃W:Nat->Nat->St->Hp->Prop,(∃m,W 0 m σ H)/\∀i m σ H,W i m σ H->
   ((FO d kvs ob).stop i H/\D.nx σ H)\/((FO d kvs ob).go i H/\∃N:St->Hp->Prop,(∀σ' H',N σ' H'->∃m',m'<m/\W (i+1) m' σ' H')/\∀x H',(FO d kvs ob).yld i H x H'->g x σ H' λσ2 H2=>tb {D with nx:=N,ct:=N,bk:=D.nx} σ2 H2):=by
 refine⟨λi m σ H=>m=kvs.length-i/\i<=kvs.length/\Pv i σ H,⟨kvs.length,by simp,a8 _,h0⟩,?_⟩
 rintro i m σ H ⟨rfl,hi,p⟩
 have q:=hl i σ H hi p
 by_cases hlt:i<kvs.length
 ·refine .inr ⟨⟨q,hlt⟩,Pv (i+1),λσ' H' p'=>⟨kvs.length-(i+1),by lia,rfl,hlt,p'⟩,?_⟩
  rintro x H' ⟨pp,k,v,b,np,rfl,rfl,e,hb⟩
  exact hs i k v b pp σ H e hb np p
 ·have e:i=kvs.length:=by lia
  subst e
  exact .inl ⟨⟨q,aw _⟩,hd σ H p⟩
theorem kJ{H H':Hp}{d:Addr}{kvs:List (List b8×V)}{ob:Obj}(h:H d=some (.dT kvs))(s:aJ (aN H d (.frz ob (.dT kvs))) H'):aJ H (aN H' d (.dT kvs)):=λb u hb=>by
 by_cases c:b=d
 ·subst c;rw[h] at hb;cases hb;exact ak
 ·rw[aA c];exact s b u (by rw[aA c];exact hb)
theorem iy{H H':Hp}{d:Addr}{kvs:List (List b8×V)}{ob:Obj}(s:aJ (aN H d (.frz ob (.dT kvs))) H'):H' d=some (.frz ob (.dT kvs)):=s d _ ak
theorem yo{H H':Hp}{d b:Addr}{kvs:List (List b8×V)}{ob:Obj}{u:HO}(s:aJ (aN H d (.frz ob (.dT kvs))) H')(hd:H d=some (.dT kvs))(h:H b=some u)(n:∀kvs,u≠.dT kvs):H' b=some u:=s b u (by rw[aA (λz=>by rw[z,hd] at h;cases h;exact n _ rfl)];exact h)
theorem N9.same{H H':Hp}{v:V}{bs:List Bt}(h:N9 H v bs)(s:aJ H H'):N9 H' v bs:=by
 obtain⟨l,us,e,hl,hA⟩:=h
 exact⟨l,us,e,s _ _ hl,hA.imp λ_ _ z=>iN.mono z (.of_same s)⟩
theorem jy.same{H H':Hp}{v:V}{ks:List Bt}(h:jy H v ks)(s:aJ H H'):jy H' v ks:=by
 obtain⟨D,kvs,e,hD,hk,hv⟩:=h
 exact⟨D,kvs,e,s _ _ hD,hk,λi k u b e1 e2=>(hv i k u b e1 e2).same s⟩
theorem jy.but{H:Hp}{v:V}{ks:List Bt}{L D0:Addr}{us xs:List V}{kv0:List (List b8×V)}(h:jy H v ks)(hL:H L=some (.lst (.ref D0::us)))(h0:H D0=some (.dT kv0)):jy (aN H L (.lst xs)) v ks:=by
 obtain⟨D,kvs,e,hD,hk,hv⟩:=h
 have t:Tp H (aN H L (.lst xs)):=(Tp.refl H).lst hL
 refine⟨D,kvs,e,by rw[aA (λz=>by rw[z,hL] at hD;cases hD)];exact hD,hk,λi k u b e1 e2=>?_⟩
 obtain⟨l,ws,e3,hl,hA⟩:=hv i k u b e1 e2
 refine⟨l,ws,e3,?_,hA.imp λ_ _ z=>iN.mono z t⟩
 rw[aA];exact hl
 intro z
 rw[z,hL] at hl;cases hl
 obtain⟨r,_,p,e4,hp⟩:=hA.of_v (i:=0) rfl
 cases e4
 rw[h0] at hp;cases hp
theorem mx{kvs:List (List b8×V)}{ks:List Bt}(h:kvs.map (·.1)=ks.map cK):kvs.length=ks.length:=by
 have:=congrArg gH h;rwa [af,af] at this
theorem kz{kvs:List (List b8×V)}{ks:List Bt}(h:kvs.map (·.1)=ks.map cK){i:Nat}{k:List b8}{v:V}(e:kvs[i]?=some (k,v)):∃b,ks[i]?=some b/\k=cK b:=by
 have h1:(kvs.map (·.1))[i]?=some k:=by rw[aH,e];rfl
 rw[h,aH] at h1
 cases e2:ks[i]? with
 |none=>rw[e2] at h1;cases h1
 |some b=>rw[e2] at h1;exact⟨b,rfl,(Option.some.inj h1).symm⟩
theorem sG(ns:List Str):∀(os acc:List (Option Str)) (x:Str),some x∈os.foldl (dA ns) acc->some x∈acc\/x∈ns
 |[],_,_,h=>.inl h
 |o::r,acc,x,h=>by
  rw[gn] at h
  rcases sG ns r _ x h with h|h
  ·unfold dA at h
   rcases ax.mp h with h|h
   ·exact .inl h
   ·have h:=aj.mp h
    split at h
    ·rename_i c
     rw[<-h] at c
     obtain⟨y,hy,e⟩:=aD.mp c.1
     rw[<-Option.some.inj e];exact .inr hy
    ·cases h
  ·exact .inr h
theorem tw{n:Nat}{b:Bt}{ss:List Str}(h:b.length=n):kQ n ss (bq b ss):=⟨(dE b ss).trans h,λx hx=>(sG ss b [] x hx).elim (λz=>by cases z) id⟩
theorem K7(b:Bt)(x:Option Str)(ss:List Str):(iZ b x ss).length=b.length:=by
 unfold iZ
 rw[dE]
 cases x with
 |none=>rfl
 |some y=>exact iP b y
theorem MZ{n:Nat}{b:Bt}{x:Option Str}{ss:List Str}(h:b.length=n):kQ n ss (iZ b x ss):=by
 unfold iZ
 refine tw ?_
 cases x with
 |none=>exact h
 |some y=>exact(iP b y).trans h
theorem qf{α:Type}{p:α->Bool}{xs:List α}{i:Nat}{y:α}(h:xs[i]?=some y):(xs.take (i+1)).filter p=(xs.take i).filter p++if p y=true then[y] else[]:=by
 rw[e6 h,eW,cX,List.filter_nil]
theorem nX{K:Fg}{vs:List V}{H:Hp}{Q:VK}{E:XK}(h:fN K vs H Q E):jg K {nx:=λ_ H'=>Q .non H',rt:=Q} (start eM vs) H:=by
 obtain⟨bp,wp,pt,tvs,n,b0,ws,pss,rfl,src,hpt,hT,pl,dims,q⟩:=h
 obtain⟨wvs,hwp,hW⟩:=src.wks
 obtain⟨_,ss0,e0,e0',np0,rfl,hnp0⟩:=hT.get (i:=0) (by lia)
 have d0:=dims ss0 (aC e0')
 have n5:=d0.n5
 refine⟨_,rfl,_,rfl,lD (cq.of hpt) (by decide) e0 ⟨bp,np0,b0,ss0,rfl,src.bp,hnp0,by rw[src.len];lia,λp1 H1 hp1 s1=>⟨(by show 1<=sizeLine;decide),λe ne=>?_⟩⟩⟩
 have s2:aJ H (aN H1 e (.lst [.ref p1])):=s1.new ne
 refine⟨e,[.ref p1],[bq b0 ss0],n,ss0,rfl,ak,bo.nil.snoc (v:=.ref p1) ⟨p1,rfl,(aJ.refl H1).new ne _ _ hp1⟩,d0,(λb hb=>by rw[aj.mp hb];exact tw src.len),(by show 1<=7776;decide),λv ks0 H3 hC tr0 s3=>⟨(by show 1<=sizeLine;decide),λL nL=>?_⟩⟩
 have s23:=s2.trans s3
 have nLH:H L=none:=s23.free nL
 show ir K _ [some (.ref bp),some (.ref wp),some (.ref pt),some (.ref L),none,none,none,none] _
 refine⟨_,rfl,wp,rfl,⟨_,cE.of (s23.new nL _ _ hwp)⟩,kC (xs:=wvs) (λi σ' H'=>∃o4 o5 o6 o7 cvs kss,σ'=[some (.ref bp),some (.ref wp),some (.ref pt),some (.ref L),o4,o5,o6,o7]/\H' L=some (.lst cvs)/\bo (jy H') cvs kss/\kss.length=i+1/\(∀ks ss,kss[0]?=some ks->pss[0]?=some ss->mr n ss [bq b0 ss] ks)/\(∀(k:Nat) ks ks' w ss,kss[k]?=some ks->kss[k+1]?=some ks'->ws[k]?=some w->pss[k+1]?=some ss->mr n ss ((ks.map λb=>iZ b w.out ss).filter λb=>jH b ss) ks')/\(∀ks∈kss,ks.length<=7776/\∀b∈ks,b.length=n)/\aJ H H')
  ⟨none,none,none,none,[v],[ks0],rfl,ak,bo.nil.snoc (hC.same ((aJ.refl H3).new nL)),rfl,(λks ss h1 h2=>by rw[e0'] at h2;cases h2;cases h1;exact tr0),(λk ks ks' w ss h1 h2=>by simp at h2),(λks hk=>by rw[aj.mp hk];exact⟨tr0.few,λb hb=>(tr0.inn b hb).len⟩),s23.new nL⟩ ?_ ?_ ?_⟩
 ·rintro i σ' H' _ ⟨_,_,_,_,_,_,_,_,_,_,_,_,_,s⟩
  exact cE.of (s _ _ hwp)
 ·rintro i wv σ' H4 t hwv nt ⟨o4,o5,o6,o7,cvs,kss,rfl,hL,hA,kl,f0,fn,kf,s4⟩
  obtain⟨w,hw,hwa⟩:=hW.of_v hwv
  have il:i<ws.length:=(ae.mp hw).1
  have few:=src.few
  obtain⟨_,ss,e1,e1',np,rfl,hnp⟩:=hT.get (i:=i+1) (by lia)
  have dss:=dims ss (aC e1')
  refine⟨t,_,rfl,cE.of ak,rfl,_,_,rfl,_,_,rfl,rfl,?_⟩
  have s5:aJ H4 (aN H4 t (.tup [.int (i:Nat),wv])):=(aJ.refl H4).new nt
  show iq K _ [some (.ref bp),some (.ref wp),some (.ref pt),some (.ref L),some (.int (i:Nat)),some wv,o6,o7] _
  generalize aN H4 t (.tup [.int (i:Nat),wv])=H5 at s5 ⊢
  have s05:=s4.trans s5
  have hL5:=s5 _ _ hL
  have hA5:=hA.imp λ_ _ z=>jy.same z s5
  refine⟨_,rfl,_,rfl,.inl ⟨_,_,rfl,rfl,lD (v:=.ref np) (cq.of (s05 _ _ hpt)) (by lia) (by rw[show((i:Int)+1).toNat=i+1 by lia];exact e1) ?_⟩⟩
  show ip K _ [some (.ref bp),some (.ref wp),some (.ref pt),some (.ref L),some (.int (i:Nat)),some wv,some (.ref np),o7] H5
  obtain⟨cv,ks,ec,ek,hcom⟩:=hA5.get (i:=i) (by lia)
  obtain⟨kn,kbl⟩:=kf ks (aC ek)
  obtain⟨Dk,kvs,rfl,hDk,hkeys,hvals⟩:=id hcom
  have kvl:=mx hkeys
  refine⟨_,rfl,_,rfl,lD (v:=.ref Dk) (cq.of hL5) (cz _) (by rw[aU];exact ec) ⟨Dk,kvs,rfl,hDk,λob C nC=>?_⟩⟩
  have hnp5:=s05 _ _ hnp
  have hwa5:Ge H5 wv w:=hwa.tp (Tp.of_same s05)
  have nCH:H5 C=none:=by
   by_cases z:C=Dk
   ·rw[z,ak] at nC;cases nC
   ·rw[aA z] at nC;exact nC
  refine pE (λj σ' H'=>∃o8 us,σ'=[some (.ref bp),some (.ref wp),some (.ref pt),some (.ref L),some (.int (i:Nat)),some wv,some (.ref np),o7,o8]/\H' C=some (.lst us)/\bo (iN H') us ((ks.take j).map λb=>iZ b w.out ss)/\aJ (aN H5 Dk (.frz ob (.dT kvs))) H') ⟨none,[],rfl,ak,bo.nil,(aJ.refl _).new nC⟩ ?_ ?_ ?_
  ·rintro j σ' H' _ ⟨_,_,_,_,_,s⟩;exact iy s
  ·rintro j k kv pb σ' H6 hk hpb ⟨o8,us,rfl,hC6,hA6,s6⟩
   obtain⟨b,hb,rfl⟩:=kz hkeys hk
   rw[d5] at hpb
   have bl:=kbl b (aC hb)
   have jl:j<ks.length:=(ae.mp hb).1
   have bne:b≠[]:=λz=>by rw[z] at bl;have:=d0.pos;have:(0:Nat)=n:=bl;lia
   have tp6:Tp H5 H6:=λc xs hc=>yo s6 hDk hc λ_ z=>by cases z
   have ul:us.length<=j:=by rw[hA6.len,af,aS];lia
   refine fB ⟨_,rfl,_,rfl,_,rfl,pb,np,wv,b,w,ss,rfl,hpb,hwa5.tp tp6,tp6 _ _ hnp5,bne,by lia,λr H7 hr s7=>⟨us,s7 _ _ hC6,bG (by lia),_,us++[.ref r],rfl,ak,?_,cO (s6.trans s7) nC⟩⟩
   have t8:Tp H7 (aN H7 C (.lst (us++[.ref r]))):=(Tp.refl H7).lst (s7 _ _ hC6)
   rw[e6 hb,aB]
   exact(hA6.imp λ_ _ z=>iN.mono z ((Tp.of_same s7).trans t8)).snoc ⟨r,rfl,t8 _ _ hr⟩
  ·rintro σ' H6 ⟨o8,us,_,hC6,hA6,s6⟩
   rw[kvl,a7] at hA6
   refine .inr ⟨Dk,kvs,kvs,ob,hDk,iy s6,?_⟩
   have s7:=kJ hDk s6
   have nCD:C≠Dk:=(aL hDk nCH).symm
   have t7:Tp H6 (aN H6 Dk (.dT kvs)):=λc xs hc=>by
    rw[aA (λz=>by rw[z,iy s6] at hc;cases hc)];exact hc
   have hC7:aN H6 Dk (.dT kvs) C=some (.lst us):=by rw[aA nCD];exact hC6
   have hA7:=hA6.imp λ_ _ z=>iN.mono z t7
   show ig K _ [some (.ref bp),some (.ref wp),some (.ref pt),some (.ref L),some (.int (i:Nat)),some wv,some (.ref np),some (.ref C)] (aN H6 Dk (.dT kvs))
   generalize aN H6 Dk (.dT kvs)=H7 at s7 hC7 hA7 ⊢
   have s07:=s05.trans s7
   have hL7:=s7 _ _ hL5
   have hAc7:=hA5.imp λ_ _ z=>jy.same z s7
   have el:(ks.map λb=>iZ b w.out ss).length=ks.length:=af ..
   have elen:∀b∈ks.map (λb=>iZ b w.out ss),b.length=n:=λb hb=>by
    obtain⟨c,hc,rfl⟩:=aD.mp hb
    rw[K7];exact kbl c hc
   have ein:∀b∈(ks.map λb=>iZ b w.out ss).filter (λb=>jH b ss),kQ n ss b:=λb hb=>by
    obtain⟨c,hc,rfl⟩:=aD.mp (a9.mp hb).1
    exact MZ (kbl c hc)
   have efew:((ks.map λb=>iZ b w.out ss).filter λb=>jH b ss).length<=7776:=br (bx _ _) (by rw[el];exact kn)
   refine⟨_,rfl,.inl ⟨rfl,_,cq.of hL7⟩,.inl ⟨_,rfl,C,rfl,⟨_,cq.of hC7⟩,λF nF=>?_⟩⟩
   refine kB (xs:=us) (λj σ' H'=>∃o8 fs,σ'=[some (.ref bp),some (.ref wp),some (.ref pt),some (.ref L),some (.int (i:Nat)),some wv,some (.ref np),some (.ref C),o8]/\H' F=some (.lst fs)/\bo (iN H') fs (((ks.map λb=>iZ b w.out ss).take j).filter λb=>jH b ss)/\aJ H7 H') ⟨none,[],rfl,ak,bo.nil,(aJ.refl _).new nF⟩ ?_ ?_ ?_
   ·rintro j σ' H' _ ⟨_,_,_,_,_,s⟩;exact cq.of (s _ _ hC7)
   ·rintro j x σ' H8 hx ⟨o8,fs,rfl,hF,hFA,s8⟩
    obtain⟨b,hb,⟨pb,rfl,hpb⟩⟩:=hA7.of_v hx
    have bm:=aC hb
    have jl:j<ks.length:=by have:=(ae.mp hb).1;lia
    have fl:fs.length<=j:=by
     rw[hFA.len]
     have:=bx (λb=>jH b ss) ((ks.map λb=>iZ b w.out ss).take j)
     rw[aS] at this
     lia
    show jr F _ _ _ [some (.ref bp),some (.ref wp),some (.ref pt),some (.ref L),some (.int (i:Nat)),some wv,some (.ref np),some (.ref C),some (.ref pb)] H8
    refine⟨_,rfl,_,rfl,pb,np,b,ss,rfl,s8 _ _ hpb,s8 _ _ (s7 _ _ hnp5),by have:=dss.s5;lia,by rw[elen b bm];exact n5,λH9 s9=>⟨_,rfl,?_⟩⟩
    rw[qf hb]
    cases hh:jH b ss with
    |true=>
     refine nS ⟨_,rfl,fs,s9 _ _ hF,bG (by lia),_,fs++[.ref pb],rfl,ak,?_,cO (s8.trans s9) nF⟩
     have t10:Tp H9 (aN H9 F (.lst (fs++[.ref pb]))):=(Tp.refl H9).lst (s9 _ _ hF)
     rw[if_pos rfl]
     exact(hFA.imp λ_ _ z=>iN.mono z ((Tp.of_same s9).trans t10)).snoc ⟨pb,rfl,t10 _ _ (s9 _ _ (s8 _ _ hpb))⟩
    |false=>
     refine jo ⟨_,fs,rfl,s9 _ _ hF,?_,s8.trans s9⟩
     rw[if_neg (by decide),dJ]
     exact hFA.imp λ_ _ z=>iN.mono z (.of_same s9)
   ·rintro σ' H8 ⟨o8,fs,_,hF,hFA,s8⟩
    rw[hA7.len,a7] at hFA
    refine⟨F,fs,_,n,ss,rfl,hF,hFA,dss,ein,efew,λv' ks' H9 hc9 tr9 s9=>?_⟩
    have s79:=s8.trans s9
    have hL9:=s79 _ _ hL7
    have hA9:=hAc7.imp λ_ _ z=>jy.same z s79
    refine⟨L,cvs,v',rfl,rfl,hL9,bG (by rw[hA9.len];lia),?_⟩
    obtain⟨v0,ksz,ev0,_,hz⟩:=hA9.get (i:=0) (by lia)
    obtain⟨D0,kv0,rfl,hD0,_⟩:=id hz
    obtain⟨r,rfl⟩:∃r,cvs=.ref D0::r:=by
     cases cvs with
     |nil=>cases ev0
     |cons a r=>cases ev0;exact⟨r,rfl⟩
    refine⟨_,_,_,_,_++[v'],kss++[ks'],rfl,ak,(hA9.imp λ_ _ z=>jy.but z hL9 hD0).snoc (hc9.but hL9 hD0),by rw[ai,kl];rfl,λks2 ss2 h1 h2=>?_,λk ks2 ks3 w2 ss2 h1 h2 h3 h4=>?_,λks2 hk=>?_,cO (s07.trans s79) nLH⟩
    ·rw[av (by lia)] at h1
     exact f0 ks2 ss2 h1 h2
    ·by_cases c:k+1<kss.length
     ·rw[av (by lia)] at h1
      rw[av c] at h2
      exact fn k ks2 ks3 w2 ss2 h1 h2 h3 h4
     ·have hk:k=i:=by
       have:=(ae.mp h2).1
       rw[ai,aI] at this
       lia
      subst hk
      rw[av (by lia),ek] at h1
      rw[ao (by lia),show k+1-kss.length=0 by lia] at h2
      rw[hw] at h3;rw[e1'] at h4
      cases h1;cases h3;cases h4
      have h2:ks'=ks3:=Option.some.inj h2
      rw[<-h2];exact tr9
    ·rcases ax.mp hk with z|z
     ·exact kf ks2 z
     ·rw[aj.mp z];exact⟨tr9.few,λb hb=>(tr9.inn b hb).len⟩
 ·rintro σ' H4 ⟨o4,o5,o6,o7,cvs,kss,rfl,hL,hA,kl,f0,fn,kf,s4⟩
  rw[hW.len] at kl
  exact⟨_,rfl,q L cvs kss H4 hL hA ⟨kl,dims,f0,fn⟩ s4⟩
theorem IZ{kvs:List (List b8×V)}:∀{i:Nat} {k:List b8} {v:V},(kvs.map (·.1)).Nodup->kvs[i]?=some (k,v)->cW kvs k=some v:=by
 induction kvs with
 |nil=>intro i k v _ h;simp at h
 |cons p r ih=>
  intro i k v nd h
  rw[bz,bS] at nd
  cases i with
  |zero=>
   have h:p=(k,v):=by simpa using h
   rw[h];exact fV rfl
  |succ i=>
   have h:r[i]?=some (k,v):=by simpa using h
   have ne:¬p.1=k:=λz=>nd.1 (by rw[z];exact aD.mpr ⟨(k,v),aC h,rfl⟩)
   rw[fU ne];exact ih nd.2 h
theorem yA{ks:List Bt}(h:ks.Nodup):(ks.map cK).Nodup:=by
 induction ks with
 |nil=>exact df
 |cons b r ih=>
  rw[bS] at h
  rw[bz,bS]
  refine⟨λz=>?_,ih h.2⟩
  obtain⟨c,hc,e⟩:=aD.mp z
  rw[mB e] at hc
  exact h.1 hc
theorem rB:∀{more kvs:List (List b8×V)},((kvs++more).map (·.1)).Nodup->kZ kvs more=kvs++more
 |[],kvs,_=>by rw[dJ];rfl
 |p::r,kvs,h=>by
  have hn:cW kvs p.1=none:=by
   cases e:cW kvs p.1 with
   |none=>rfl
   |some v=>
    have:=EA e
    rw[aB,cu] at h
    exact absurd rfl (h.2.2 p.1 this p.1 (by simp))
  show kZ (iU kvs p.1 p.2) r=_
  rw[mJ _ hn,rB (by rw[ft];exact h),ft]
  rfl
theorem Ak{ks:List Bt}{b:Bt}(h:b∈ks):∃i:Nat,ks[i]?=some b:=by
 obtain⟨i,hi,e⟩:=aR.mp h
 exact⟨i,by rw[aa hi,e]⟩
theorem rq{ks:List Bt}(nd:ks.Nodup){i j:Nat}{b:Bt}(h:ks[i]?=some b)(h':ks[j]?=some b):i=j:=by
 exact(dF (ae.mp h).1 nd).mp (h.trans h'.symm)
theorem tF{f g:Nat->Nat}{c:Nat}:∀{n:Nat},c<n->(∀d,d≠c->g d=f d)->iV n g+f c=iV n f+g c
 |0,h,_=>absurd h (dv _)
 |n+1,h,e=>by
  have st:∀f:Nat->Nat,iV (n+1) f=iV n f+f n:=λf=>by
   unfold iV;rw[i5,aB,gu];simp
  rw[st,st]
  by_cases cn:c=n
  ·subst cn
   have:iV c g=iV c f:=by
    unfold iV
    congr 1
    exact du λd hd=>e d (aO (gR.mp hd))
   lia
  ·have:=tF (n:=n) (by lia) e
   have:=e n (Ne.symm cn)
   lia
theorem IA(n:Nat):iV n (λ_=>0)=0:=by
 unfold iV
 induction n with
 |zero=>rfl
 |succ n ih=>rw[i5,aB,gu,ih];rfl
theorem Eh{g:Nat->Nat}{n c:Nat}(h:c<n):g c<=iV n g:=by
 have:=tF (f:=g) (g:=λd=>if d=c then 0 else g d) h λd hd=>if_neg hd
 rw[if_pos rfl] at this
 lia
structure Ji(H0 H:Hp)(ks:List Bt)(ls:List Addr)(con:Nat->List Bt):Prop where
 len:ls.length=ks.length
 nd:ls.Nodup
 new:∀l∈ls,H0 l=none
 at_:∀(c:Nat) l,ls[c]?=some l->∃us,H l=some (.lst us)/\bo (iN H) us (con c)
theorem Ji.same{H0 H H':Hp}{ks:List Bt}{ls:List Addr}{con:Nat->List Bt}(h:Ji H0 H ks ls con)(s:aJ H H'):Ji H0 H' ks ls con:=⟨h.len,h.nd,h.new,λc l e=>by
 obtain⟨us,h1,h2⟩:=h.at_ c l e
 exact⟨us,s _ _ h1,h2.imp λ_ _ z=>iN.mono z (.of_same s)⟩⟩
theorem Ji.put{H0 H:Hp}{ks:List Bt}{ls:List Addr}{con:Nat->List Bt}(h:Ji H0 H ks ls con){c:Nat}{l pb:Addr}{us:List V}{b:Bt}(e:ls[c]?=some l)(hl:H l=some (.lst us))(hA:bo (iN H) us (con c))(hb:H pb=some (.tup (cw b))) :
  Ji H0 (aN H l (.lst (us++[.ref pb]))) ks ls (λd=>if d=c then con d++[b] else con d):=by
 have t:Tp H (aN H l (.lst (us++[.ref pb]))):=(Tp.refl H).lst hl
 refine⟨h.len,h.nd,h.new,λd m em=>?_⟩
 by_cases dc:d=c
 ·subst dc
  rw[e] at em;cases em
  rw[if_pos rfl]
  exact⟨_,ak,(hA.imp λ_ _ z=>iN.mono z t).snoc ⟨pb,rfl,t _ _ hb⟩⟩
 ·rw[if_neg dc]
  obtain⟨us2,h1,h2⟩:=h.at_ d m em
  have ne:m≠l:=λz=>by
   exact dc ((dF (ae.mp em).1 h.nd).mp (by rw[em,e,z]))
  exact⟨us2,by rw[aA ne];exact h1,h2.imp λ_ _ z=>iN.mono z t⟩
theorem sT{K:Fg}{vs:List V}{H:Hp}{Q:VK}{E:XK}(h:iC K vs H Q E):lI K {nx:=λ_ H'=>Q .non H',rt:=Q} (start i7 vs) H:=by
 obtain⟨_,ks,n,rfl,⟨D,kvs,rfl,hD,hkeys,hvals⟩,knd,kfew,klen,n1,n5,kcl,q⟩:=h
 have kvl:=mx hkeys
 refine⟨_,rfl,D,kvs,rfl,hD,λob C nC=>?_⟩
 have nCH:H C=none:=by
  by_cases z:C=D
  ·rw[z,ak] at nC;cases nC
  ·rw[aA z] at nC;exact nC
 refine pE (λj σ' H'=>∃(o2:Option V) (ts ps ls:List Addr),σ'=[some (.ref D),none,o2,none,none]/\H' C=some (.lst (ts.map V.ref))/\ts.length=j/\ps.length=j/\ls.length=j/\ls.Nodup/\(∀l∈ls,H l=none/\l≠C)/\(∀(i:Nat) t p l b,ts[i]?=some t->ps[i]?=some p->ls[i]?=some l->ks[i]?=some b->H' t=some (.tup [.ref p,.ref l])/\H' p=some (.tup (cw b)))/\(∀l∈ls,H' l=some (.lst []))/\aJ (aN H D (.frz ob (.dT kvs))) H')
  ⟨none,[],[],[],rfl,ak,rfl,rfl,rfl,df,(λl hl=>by cases hl),(λi t p l b h=>by simp at h),(λl hl=>by cases hl),(aJ.refl _).new nC⟩ ?_ ?_ ?_
 ·rintro j σ' H' _ ⟨_,_,_,_,_,_,_,_,_,_,_,_,_,s⟩;exact iy s
 ·rintro j k kv pb σ' H1 hk hpb ⟨o2,ts,ps,ls,rfl,hC,tl,pl,ll,nd,new,prs,emp,s⟩
  obtain⟨b,hb,rfl⟩:=kz hkeys hk
  rw[d5] at hpb
  have jl:j<ks.length:=(ae.mp hb).1
  show jr C jE _ _ [some (.ref D),none,some (.ref pb),none,none] H1
  refine fB ⟨_,rfl,(by show 0<=sizeLine;decide),λl nl=>⟨(by show 2<=sizeLine;decide),λt nt=>?_⟩⟩
  have s2:aJ H1 (aN (aN H1 l (.lst [])) t (.tup [.ref pb,.ref l])):=((aJ.refl H1).new nl).new nt
  have ht:aN (aN H1 l (.lst [])) t (.tup [.ref pb,.ref l]) t=some (.tup [.ref pb,.ref l]):=ak
  have hl:aN (aN H1 l (.lst [])) t (.tup [.ref pb,.ref l]) l=some (.lst []):=(aJ.refl _).new nt _ _ ak
  generalize aN (aN H1 l (.lst [])) t (.tup [.ref pb,.ref l])=H2 at s2 ht hl ⊢
  have lC:l≠C:=(aL hC nl).symm
  have lH:H l=none:=by
   have z:=s.free nl
   by_cases c:l=D
   ·rw[c,ak] at z;cases z
   ·rw[aA c] at z;exact z
  have t3:Tp H2 (aN H2 C (.lst (ts.map V.ref++[.ref t]))):=(Tp.refl H2).lst (s2 _ _ hC)
  refine⟨_,s2 _ _ hC,bG (by rw[af];lia),_,ts++[t],ps++[pb],ls++[l],rfl,by rw[ak,aB];rfl,by rw[ai,tl];rfl,by rw[ai,pl];rfl,by rw[ai,ll];rfl,?_,λm hm=>?_,λi t' p' l' b' h1 h2 h3 h4=>?_,λm hm=>?_,cO (s.trans s2) nC⟩
  ·refine cu.mpr ⟨nd,by simp,λx hx y hy=>?_⟩
   rw[aj.mp hy]
   rintro rfl
   rw[emp x hx] at nl;cases nl
  ·rcases ax.mp hm with z|z
   ·exact new m z
   ·rw[aj.mp z];exact⟨lH,lC⟩
  ·by_cases c:i<j
   ·rw[av (by lia)] at h1 h2 h3
    obtain⟨a1,a2⟩:=prs i t' p' l' b' h1 h2 h3 h4
    exact⟨t3 _ _ (s2 _ _ a1),t3 _ _ (s2 _ _ a2)⟩
   ·have ij:i=j:=by
     have:=(ae.mp h1).1
     rw[ai,aI] at this
     lia
    subst ij
    rw[ao (by lia),tl,bj] at h1
    rw[ao (by lia),pl,bj] at h2
    rw[ao (by lia),ll,bj] at h3
    rw[hb] at h4
    cases h4
    have h1:t=t':=Option.some.inj h1
    have h2:pb=p':=Option.some.inj h2
    have h3:l=l':=Option.some.inj h3
    subst h1 h2 h3
    exact⟨t3 _ _ ht,t3 _ _ (s2 _ _ hpb)⟩
  ·rcases ax.mp hm with z|z
   ·rw[aA (new m z).2];exact s2 _ _ (emp m z)
   ·rw[aj.mp z,aA lC];exact hl
 ·rintro σ' H1 ⟨o2,ts,ps,ls,_,hC,tl,pl,ll,nd,new,prs,emp,s⟩
  rw[kvl] at tl pl ll
  refine .inr ⟨D,kvs,kvs,ob,hD,iy s,?_⟩
  have s2:=kJ hD s
  have t2:Tp H1 (aN H1 D (.dT kvs)):=λc xs hc=>by
   rw[aA (λz=>by rw[z,iy s] at hc;cases hc)];exact hc
  have lt2:∀l us,H1 l=some (.lst us)->aN H1 D (.dT kvs) l=some (.lst us):=λl us hl=>by
   rw[aA (λz=>by rw[z,iy s] at hl;cases hl)];exact hl
  have hC2:=lt2 _ _ hC
  have emp2:=λl hl=>lt2 l _ (emp l hl)
  have prs2:=λi t p l b h1 h2 h3 h4=>(⟨t2 _ _ (prs i t p l b h1 h2 h3 h4).1,t2 _ _ (prs i t p l b h1 h2 h3 h4).2⟩:aN H1 D (.dT kvs) t=some (.tup [.ref p,.ref l])/\aN H1 D (.dT kvs) p=some (.tup (cw b)))
  generalize aN H1 D (.dT kvs)=H2 at s2 hC2 emp2 prs2 ⊢
  have zl:(ks.zip ls).length=ks.length:=by rw[lz];lia
  have zm:(((ks.zip ls).map λp=>(cK p.1,V.ref p.2)).map (·.1))=ks.map cK:=by
   rw[de,show((λx:List b8×V=>x.1) ∘ λp:Bt×Addr=>(cK p.1,V.ref p.2))=cK ∘ Prod.fst from rfl,<-de,List.map_fst_zip (by lia)]
  have znd:=yA knd
  refine⟨C,_,(ks.zip ls).map λp=>(cK p.1,V.ref p.2),rfl,hC2,by rw[af,af,zl,tl],by rw[af,zl];lia,λj x k v e1 e2=>?_,λA nA=>?_⟩
  ·rw[aH] at e1 e2
   cases et:ts[j]? with
   |none=>rw[et] at e1;cases e1
   |some t=>
    rw[et] at e1;cases e1
    cases ez:(ks.zip ls)[j]? with
    |none=>rw[ez] at e2;cases e2
    |some p=>
     rw[ez] at e2;cases e2
     obtain⟨z1,z2⟩:=d7.mp ez
     have jl:j<ps.length:=by have:=(ae.mp z1).1;lia
     obtain⟨a1,a2⟩:=prs2 j t ps[j] p.2 p.1 et (aa jl) z2 z1
     exact⟨t,ps[j],rfl,a1,by rw[d5];exact a2⟩
  rw[rB (kvs:=[]) (by rw[e9,zm];exact znd),e9]
  have s3:aJ H2 (aN H2 A (.dT ((ks.zip ls).map λp=>(cK p.1,V.ref p.2)))):=(aJ.refl H2).new nA
  have hA3:aN H2 A (.dT ((ks.zip ls).map λp=>(cK p.1,V.ref p.2))) A=some (.dT ((ks.zip ls).map λp=>(cK p.1,V.ref p.2))):=ak
  have nAH:H A=none:=s2.free nA
  show j4 K _ [some (.ref D),some (.ref A),none,none,none] _
  generalize aN H2 A (.dT ((ks.zip ls).map λp=>(cK p.1,V.ref p.2)))=H3 at s3 hA3 ⊢
  have s03:=s2.trans s3
  have hD3:=s03 _ _ hD
  have ah3:Ji H H3 ks ls (λ_=>[]):=⟨ll,nd,λl hl=>(new l hl).1,λc l e=>⟨[],s3 _ _ (emp2 l (aC e)),bo.nil⟩⟩
  have alAt:∀(c:Nat) l d,ls[c]?=some l->ks[c]?=some d->cW ((ks.zip ls).map λp=>(cK p.1,V.ref p.2)) (cK d)=some (.ref l):=λc l d e1 e2=>IZ (i:=c) (by rw[zm];exact znd) (by
   rw[aH,d7 (z:=(d,l)) |>.mpr ⟨e2,e1⟩];rfl)
  refine⟨_,rfl,D,kvs,rfl,hD3,λob2=>?_⟩
  have H3f:∀{b u},H3 b=some u->(∀kv,u≠.dT kv)->aN H3 D (.frz ob2 (.dT kvs)) b=some u:=λ{b u} hb n=>by
   rw[aA (λz=>by rw[z,hD3] at hb;cases hb;exact n _ rfl)];exact hb
  have nDA:A≠D:=λz=>by rw[z] at nAH;rw[hD] at nAH;cases nAH
  refine ur (λi σ' H'=>∃o2 o3 o4 con,σ'=[some (.ref D),some (.ref A),o2,o3,o4]/\Ji H H' ks ls con/\H' A=some (.dT ((ks.zip ls).map λp=>(cK p.1,V.ref p.2)))/\H' D=some (.frz ob2 (.dT kvs))/\(∀(c:Nat) d b,ks[c]?=some d->(b∈con c↔b∈ks.take i/\d∈kts b))/\iV ks.length (λc=>(con c).length)<=5*i/\(∀b u,b≠D->H b=some u->H' b=some u)) ?_ ?_ ?_ ?_
  ·refine⟨none,none,none,λ_=>[],rfl,⟨ll,nd,ah3.new,λc l e=>?_⟩,by rw[aA nDA];exact hA3,ak,(λc d b _=>⟨(λz=>by cases z),(λz=>by cases z.1)⟩),(by show iV _ (λ_=>0)<=_;rw[IA];exact a8 _),λb u nb hb=>by rw[aA nb];exact s03 _ _ hb⟩
   obtain⟨us,h1,h2⟩:=ah3.at_ c l e
   have:us=[]:=by have:=h2.len;exact bD.mp (by simpa using this)
   exact⟨us,H3f h1 (λ_ z=>by cases z),by rw[this];exact bo.nil⟩
  ·rintro i σ' H' _ ⟨_,_,_,_,_,_,_,h,_⟩;exact h
  ·rintro i k v pb p σ' H4 hk hpb np ⟨o2,o3,o4,con,rfl,ah,hA4,hD4,mem,cl,kp⟩
   obtain⟨b,hb,rfl⟩:=kz hkeys hk
   rw[d5] at hpb
   have bm:=aC hb
   have il:i<ks.length:=(ae.mp hb).1
   obtain⟨l0,us0,rfl,hl0,hB0⟩:=hvals i _ v b hk hb
   refine⟨p,_,rfl,cE.of ak,rfl,_,_,rfl,_,_,rfl,rfl,?_⟩
   have s5:aJ H4 (aN H4 p (.tup [.ref pb,.ref l0])):=(aJ.refl H4).new np
   show jZ K _ [some (.ref D),some (.ref A),some (.ref pb),some (.ref l0),o4] _
   generalize aN H4 p (.tup [.ref pb,.ref l0])=H5 at s5 ⊢
   have l0D:l0≠D:=λz=>by rw[z,hD] at hl0;cases hl0
   have hl5:=s5 _ _ (kp _ _ l0D hl0)
   have l0ls:l0∉ls:=λz=>by rw[(new l0 z).1] at hl0;cases hl0
   have bne:b≠[]:=λz=>by have:=klen b bm;rw[z] at this;have:(0:Nat)=n:=this;lia
   have kl5:(kts b).length<=5:=by unfold kts;rw[af];have:=AJ bne;have:=klen b bm;lia
   have bt5:∀c,H c≠none->c≠D->∀u,H c=some u->H5 c=some u:=λc _ nc u hc=>s5 _ _ (kp c u nc hc)
   refine .inl ⟨_,rfl,l0,rfl,⟨_,cq.of hl5⟩,qg (xs:=us0) (λj σ' H'=>∃o4 con2,σ'=[some (.ref D),some (.ref A),some (.ref pb),some (.ref l0),o4]/\Ji H H' ks ls con2/\H' A=some (.dT ((ks.zip ls).map λp=>(cK p.1,V.ref p.2)))/\H' D=some (.frz ob2 (.dT kvs))/\(∀(c:Nat) d x,ks[c]?=some d->(x∈con2 c↔(x∈ks.take i/\d∈kts x)\/(x=b/\d∈(kts b).take j)))/\iV ks.length (λc=>(con2 c).length)<=5*i+j/\(∀b u,b≠D->H b=some u->H' b=some u)/\H' pb=some (.tup (cw b))) ?_ ?_ ?_ ?_⟩
   ·refine⟨_,con,rfl,ah.same s5,s5 _ _ hA4,s5 _ _ hD4,λc d x e=>?_,by lia,λc u nc hc=>s5 _ _ (kp c u nc hc),s5 _ _ hpb⟩
    rw[mem c d x e,fI]
    exact⟨.inl,λz=>z.elim id λz=>by cases z.2⟩
   ·rintro j σ' H' _ ⟨_,_,_,_,_,_,_,_,h,_⟩;exact cq.of (h _ _ l0D hl0)
   ·rintro j x σ' H6 hx ⟨o4',con2,rfl,ah6,hA6,hD6,mem6,cl6,kp6,hpb6⟩
    obtain⟨d,hd,⟨pd,rfl,hpd⟩⟩:=hB0.of_v hx
    have jl:j<(kts b).length:=(ae.mp hd).1
    have pdD:pd≠D:=λz=>by rw[z,hD] at hpd;cases hpd
    have hpd6:=kp6 _ _ pdD hpd
    have dm:=kcl b bm d (aC hd)
    obtain⟨c,hc⟩:=Ak dm
    have cl':c<ls.length:=by have:=(ae.mp hc).1;lia
    have elc:ls[c]?=some ls[c]:=aa cl'
    obtain⟨us,h1,h2⟩:=ah6.at_ c _ elc
    have vl:=alAt c _ d elc hc
    generalize ls[c]=l at elc h1 vl
    have lm:=aC elc
    have lnew:=(new l lm).1
    show jY K _ [some (.ref D),some (.ref A),some (.ref pb),some (.ref l0),some (.ref pd)] H6
    have ulen:us.length<=5*i+j:=by rw[h2.len];exact br (Eh (g:=λc=>(con2 c).length) (ae.mp hc).1) cl6
    refine⟨_,rfl,_,rfl,A,_,rfl,oj hA6 hpd6 vl,.inl ⟨rfl,_,cq.of h1⟩,_,rfl,l,us,.ref pb,rfl,rfl,h1,bG (by lia),?_⟩
    refine⟨_,λe=>if e=c then con2 e++[b] else con2 e,rfl,ah6.put elc h1 h2 hpb6,by rw[aA (λz=>by rw[z,h1] at hA6;cases hA6)];exact hA6,by rw[aA (λz=>by rw[z,h1] at hD6;cases hD6)];exact hD6,λe f x ef=>?_,?_,λm u nm hm=>by rw[aA (λz=>by rw[z,lnew] at hm;cases hm)];exact kp6 m u nm hm,(Tp.refl H6).lst h1 _ _ hpb6⟩
    ·rw[e6 hd]
     dsimp only
     by_cases ec:e=c
     ·subst ec
      rw[hc] at ef;cases ef
      rw[if_pos rfl,ax,mem6 e d x hc,aj,ax,aj]
      constructor
      ·rintro((z|z)|z)
       ·exact .inl z
       ·exact .inr ⟨z.1,.inl z.2⟩
       ·exact .inr ⟨z,.inr rfl⟩
      ·rintro(z|⟨z,y|_⟩)
       ·exact .inl (.inl z)
       ·exact .inl (.inr ⟨z,y⟩)
       ·exact .inr z
     ·rw[if_neg ec,mem6 e f x ef,ax,aj]
      have fd:f≠d:=λz=>ec (rq knd ef (by rw[z];exact hc))
      constructor
      ·rintro(z|z)
       ·exact .inl z
       ·exact .inr ⟨z.1,.inl z.2⟩
      ·rintro(z|⟨z,y|y⟩)
       ·exact .inl z
       ·exact .inr ⟨z,y⟩
       ·exact absurd y fd
    ·have:=tF (f:=λc=>(con2 c).length) (g:=λe=>(if e=c then con2 e++[b] else con2 e).length) (ae.mp hc).1 λd hd=>by rw[if_neg hd]
     rw[if_pos rfl,ai,aI] at this
     lia
   ·rintro σ' H6 ⟨o4',con2,rfl,ah6,hA6,hD6,mem6,cl6,kp6,_⟩
    rw[hB0.len,a7] at mem6
    refine⟨_,_,_,con2,rfl,ah6,hA6,hD6,λc d x e=>?_,by rw[hB0.len] at cl6;lia,kp6⟩
    rw[mem6 c d x e,e6 hb,ax,aj]
    constructor
    ·rintro(z|⟨rfl,z⟩)
     ·exact⟨.inl z.1,z.2⟩
     ·exact⟨.inr rfl,z⟩
    ·rintro⟨z|rfl,y⟩
     ·exact .inl ⟨z,y⟩
     ·exact .inr ⟨rfl,y⟩
  ·rintro σ' H4 ⟨o2,o3,o4,con,rfl,ah,hA4,hD4,mem,cl,kp⟩
   rw[kvl,a7] at mem
   refine .inr ⟨D,kvs,kvs,ob2,hD3,hD4,?_⟩
   show jX K _ [some (.ref D),some (.ref A),o2,o3,o4] (aN H4 D (.dT kvs))
   have t5:Tp H4 (aN H4 D (.dT kvs)):=λc xs hc=>by
    rw[aA (λz=>by rw[z,hD4] at hc;cases hc)];exact hc
   refine⟨_,rfl,q (.ref A) _ ⟨A,_,λc=>(con c).length,rfl,by rw[aA nDA];exact hA4,nAH,zm,by lia,λi k u c e1 e2=>?_⟩ λb u hb=>?_⟩
   ·rw[aH] at e1
    cases ez:(ks.zip ls)[i]? with
    |none=>rw[ez] at e1;cases e1
    |some p=>
     rw[ez] at e1;cases e1
     obtain⟨z1,z2⟩:=d7.mp ez
     obtain⟨us,h1,h2⟩:=ah.at_ i _ z2
     rw[z1] at e2;cases e2
     refine⟨p.2,us,con i,rfl,by rw[aA (λz=>by rw[z,hD4] at h1;cases h1)];exact h1,(new _ (aC z2)).1,h2.imp λ_ _ z=>iN.mono z t5,rfl,λb=>mem i _ b z1⟩
   ·by_cases c:b=D
    ·subst c;rw[hD] at hb;cases hb;exact ak
    ·rw[aA c];exact kp b u c hb
abbrev Wq:=List (Nat×Addr×List Bt)
def Wt(wq:Wq)(m:Nat)(b:Bt):Prop:=∃l bs,(m,l,bs)∈wq/\b∈bs
def wB(wq:Wq):Nat:=(wq.map λe=>e.2.2.length).sum
def rV(wq:Wq):List (ky×V):=wq.map λe=>(Sum.inl (e.1:Int),V.ref e.2.1)
structure BE(H2 H:Hp)(W:Addr)(wq:Wq):Prop where
 at_:H W=some (.dK (rV wq))
 nd:(wq.map (·.1)).Nodup
 lnd:(wq.map (·.2.1)).Nodup
 new:∀e∈wq,H2 e.2.1=none
 lst:∀e∈wq,∃us,H e.2.1=some (.lst us)/\bo (iN H) us e.2.2
theorem BE.same{H2 H H':Hp}{W:Addr}{wq:Wq}(h:BE H2 H W wq)(s:aJ H H'):BE H2 H' W wq:=⟨s _ _ h.at_,h.nd,h.lnd,h.new,λe he=>by
 obtain⟨us,h1,h2⟩:=h.lst e he
 exact⟨us,s _ _ h1,h2.imp λ_ _ z=>iN.mono z (.of_same s)⟩⟩
def lV(wq:Wq)(m:Nat)(cs:List Bt):Wq:=wq.map λe=>if e.1=m then(e.1,e.2.1,e.2.2++cs) else e
theorem wM(wq:Wq)(m:Nat)(cs:List Bt):(lV wq m cs).map (·.1)=wq.map (·.1):=by
 unfold lV
 rw[de]
 exact du λe _=>by
  show(if e.1=m then(e.1,e.2.1,e.2.2++cs) else e).1=e.1
  split<;>rfl
theorem DU(wq:Wq)(m:Nat)(cs:List Bt):(lV wq m cs).map (·.2.1)=wq.map (·.2.1):=by
 unfold lV
 rw[de]
 exact du λe _=>by
  show(if e.1=m then(e.1,e.2.1,e.2.2++cs) else e).2.1=e.2.1
  split<;>rfl
theorem GC(wq:Wq)(m:Nat)(cs:List Bt):rV (lV wq m cs)=rV wq:=by
 unfold rV lV
 rw[de]
 exact du λe _=>by
  show(Sum.inl (((if e.1=m then(e.1,e.2.1,e.2.2++cs) else e).1:Nat):Int),V.ref (if e.1=m then(e.1,e.2.1,e.2.2++cs) else e).2.1)=(Sum.inl (e.1:Int),V.ref e.2.1)
  split<;>rfl
theorem Ag{wq:Wq}{m:Nat}{cs:List Bt}{l:Addr}{bs:List Bt}:(wq.map (·.1)).Nodup->(m,l,bs)∈wq->wB (lV wq m cs)=wB wq+cs.length:=by
 induction wq with
 |nil=>intro _ h;cases h
 |cons e r ih=>
  intro nd h
  rw[bz,bS] at nd
  have cons:∀(e:Nat×Addr×List Bt) r,wB (e::r)=e.2.2.length+wB r:=λ_ _=>rfl
  show wB ((if e.1=m then(e.1,e.2.1,e.2.2++cs) else e)::lV r m cs)=_
  rw[cons,cons]
  by_cases c:e.1=m
  ·rw[if_pos c]
   have no:lV r m cs=r:=by
    unfold lV
    conv=>rhs;rw[<-List.map_id r]
    exact du λf hf=>by
     have:¬f.1=m:=λz=>nd.1 (by rw[c,<-z];exact aD.mpr ⟨f,hf,rfl⟩)
     show(if f.1=m then _ else f)=f
     rw[if_neg this]
   rw[no]
   show(e.2.2++cs).length+_=_
   rw[ai];lia
  ·rw[if_neg c]
   rcases aM.mp h with z|z
   ·exact absurd (by rw[<-z]) c
   ·rw[ih nd.2 z];lia
theorem DV{wq:Wq}{m:Nat}{cs:List Bt}{l:Addr}{bs:List Bt}(h:(m,l,bs)∈wq)(k:Nat)(b:Bt):Wt (lV wq m cs) k b↔Wt wq k b\/(k=m/\b∈cs):=by
 constructor
 ·rintro⟨l',bs',hm,hb⟩
  obtain⟨e,he,e1⟩:=aD.mp hm
  split at e1
  ·rename_i c
   cases e1
   rcases ax.mp hb with z|z
   ·exact .inl ⟨e.2.1,e.2.2,he,z⟩
   ·exact .inr ⟨c,z⟩
  ·rw[e1] at he
   exact .inl ⟨l',bs',he,hb⟩
 ·rintro(⟨l',bs',hm,hb⟩|⟨rfl,hb⟩)
  ·refine⟨l',if k=m then bs'++cs else bs',aD.mpr ⟨_,hm,?_⟩,?_⟩
   ·dsimp only;split<;>rfl
   ·split
    ·exact bC _ hb
    ·exact hb
  ·exact⟨l,bs++cs,aD.mpr ⟨_,h,if_pos rfl⟩,aX _ hb⟩
theorem Jc{H2 H:Hp}{W l:Addr}{wq:Wq}{m:Nat}{bs cs:List Bt}{us zs:List V}(w:BE H2 H W wq)(h:(m,l,bs)∈wq)(hl:H l=some (.lst us))(hA:bo (iN H) us bs)(hZ:bo (iN H) zs cs):BE H2 (aN H l (.lst (us++zs))) W (lV wq m cs):=by
 have t:Tp H (aN H l (.lst (us++zs))):=(Tp.refl H).lst hl
 refine⟨by rw[GC,aA (λz=>by have:=w.at_;rw[z,hl] at this;cases this)];exact w.at_,by rw[wM];exact w.nd,by rw[DU];exact w.lnd,λe he=>?_,λe he=>?_⟩
 ·obtain⟨f,hf,e1⟩:=aD.mp he
  have:e.2.1=f.2.1:=by rw[<-e1];split<;>rfl
  rw[this];exact w.new f hf
 ·obtain⟨f,hf,e1⟩:=aD.mp he
  by_cases c:f.1=m
  ·have fe:f=(m,l,bs):=by
    obtain⟨i,hi,ei⟩:=aR.mp hf
    obtain⟨j,hj,ej⟩:=aR.mp h
    have:i=j:=(dF (l:=wq.map (·.1)) (by rw[af];exact hi) w.nd).mp (by
     rw[aH,aH,aa hi,aa hj,ei,ej]
     show some f.1=some m
     rw[c])
    subst this
    rw[<-ei,ej]
   rw[if_pos c,fe] at e1
   rw[<-e1]
   exact⟨us++zs,ak,(hA.imp λ_ _ z=>iN.mono z t).appF (hZ.imp λ_ _ z=>iN.mono z t)⟩
  ·rw[if_neg c] at e1
   rw[<-e1]
   obtain⟨us',h1,h2⟩:=w.lst f hf
   have ne:f.2.1≠l:=λz=>c (by
    obtain⟨i,hi,ei⟩:=aR.mp hf
    obtain⟨j,hj,ej⟩:=aR.mp h
    have:i=j:=(dF (l:=wq.map (·.2.1)) (by rw[af];exact hi) w.lnd).mp (by
     rw[aH,aH,aa hi,aa hj,ei,ej]
     show some f.2.1=some l
     rw[z])
    subst this
    rw[<-ei,ej])
   exact⟨us',by rw[aA ne];exact h1,h2.imp λ_ _ z=>iN.mono z t⟩
theorem y7{wq:Wq}{m:Nat}:(wq.map (·.1)).Nodup->(∀v,cW (rV wq) (Sum.inl (m:Int))=some v->∃l bs,v=.ref l/\(m,l,bs)∈wq)/\(cW (rV wq) (Sum.inl (m:Int))=none->m∉wq.map (·.1)):=by
 intro nd
 induction wq with
 |nil=>exact⟨(λv h=>by cases h),(λ_ z=>by cases z)⟩
 |cons e r ih=>
  rw[bz,bS] at nd
  have ih:=ih nd.2
  by_cases c:e.1=m
  ·have:cW (rV (e::r)) (Sum.inl (m:Int))=some (.ref e.2.1):=fV (by show Sum.inl (e.1:Int)=_;rw[c])
   rw[this]
   refine⟨λv h=>?_,λh=>by cases h⟩
   cases h
   exact⟨e.2.1,e.2.2,rfl,by rw[<-c];exact aZ⟩
  ·have:cW (rV (e::r)) (Sum.inl (m:Int))=cW (rV r) (Sum.inl (m:Int)):=fU (λz=>c (by
    have z:(Sum.inl (e.1:Int):ky)=Sum.inl (m:Int):=z
    injection z with z;lia))
   rw[this]
   refine⟨λv h=>?_,λh z=>?_⟩
   ·obtain⟨l,bs,h1,h2⟩:=ih.1 v h
    exact⟨l,bs,h1,aY _ h2⟩
   ·rcases aM.mp z with z|z
    ·exact c z.symm
    ·exact ih.2 h z
theorem EC{K:Fg}{td ty:TE}{σ:St}{H2 H:Hp}{W:Addr}{wq:Wq}{m:Nat}{Q:VK}(hd:∀R:VK,R (.ref W) H->td σ H R)(hy:∀R:VK,R (.int (m:Nat)) H->ty σ H R)(w:BE H2 H W wq)(few:wq.length<=50000)(s:aJ H2 H)(nW:H2 W=none)
  (q:∀(l:Addr) (us:List V) (bs:List Bt) (wq1:Wq) (H':Hp),BE H2 H' W wq1->(m,l,bs)∈wq1->H' l=some (.lst us)->bo (iN H') us bs->aJ H2 H'->(∀k b,Wt wq1 k b↔Wt wq k b)->(∀k,k∈wq1.map (·.1)↔k∈wq.map (·.1)\/k=m)->wq1.length<=wq.length+1->wB wq1=wB wq->(∀b u,b≠W->H b=some u->H' b=some u)->(∀e∈wq1,e.2.1∈wq.map (·.2.1)\/H e.2.1=none)->Q (.ref l) H') :
  u5 td ty (fR aP) σ H Q:=by
 refine hd _ ⟨W,rfl,.inl ⟨_,.inl w.at_⟩,hy _ ⟨(by show 0<=sizeLine;decide),λz nz=>?_⟩⟩
 have s1:aJ H (aN H z (.lst [])):=(aJ.refl H).new nz
 have w1:=w.same s1
 have hz:aN H z (.lst []) z=some (.lst []):=ak
 generalize aN H z (.lst [])=H1 at s1 w1 hz ⊢
 obtain⟨v1,v2⟩:=y7 (m:=m) w.nd
 refine⟨_,Sum.inl (m:Int),w1.at_,rfl,bG (by unfold rV;rw[af];lia),λv hv=>?_,λhv=>?_⟩
 ·obtain⟨l,bs,rfl,hm⟩:=v1 v hv
  obtain⟨us,h1,h2⟩:=w1.lst _ hm
  refine q l us bs wq H1 w1 hm h1 h2 (s.trans s1) (λ_ _=>Iff.rfl) (λk=>⟨.inl,λh=>h.elim id λh=>by rw[h];exact aD.mpr ⟨_,hm,rfl⟩⟩) (eD _) rfl (λb u _ hb=>s1 _ _ hb) λe he=>.inl (aD.mpr ⟨e,he,rfl⟩)
 ·have nk:=v2 hv
  rw[mJ _ hv]
  have zW:z≠W:=(aL w.at_ nz).symm
  have t:Tp H1 (aN H1 W (.dK (rV wq++[(Sum.inl (m:Int),V.ref z)]))):=λc xs hc=>by
   rw[aA (λy=>by rw[y,w1.at_] at hc;cases hc)];exact hc
  refine q z [] [] (wq++[(m,z,[])]) _ ⟨by rw[ak];unfold rV;rw[aB];rfl,?_,?_,λe he=>?_,λe he=>?_⟩ (aX _ (aj.mpr rfl)) (by rw[aA zW];exact hz) bo.nil (cO (s.trans s1) nW) (λk b=>?_) (λk=>?_) (by rw[ai];exact aw _) ?_ (λb u nb hb=>by rw[aA nb];exact s1 _ _ hb) λe he=>?_
  ·rw[aB]
   exact cu.mpr ⟨w.nd,by simp,λx hx y hy=>by rw[aj.mp hy];rintro rfl;exact nk hx⟩
  ·rw[aB]
   refine cu.mpr ⟨w.lnd,by simp,λx hx y hy=>?_⟩
   rw[aj.mp hy]
   intro xz
   obtain⟨e,he,e1⟩:=aD.mp hx
   obtain⟨us,h1,_⟩:=w.lst e he
   have e1:e.2.1=x:=e1
   have xz:x=z:=xz
   rw[e1,xz,nz] at h1;cases h1
  ·rcases ax.mp he with y|y
   ·exact w.new e y
   ·rw[aj.mp y];exact s.free nz
  ·rcases ax.mp he with y|y
   ·obtain⟨us,h1,h2⟩:=w1.lst e y
    exact⟨us,by rw[aA (λx=>by rw[x,w1.at_] at h1;cases h1)];exact h1,h2.imp λ_ _ x=>iN.mono x t⟩
   ·rw[aj.mp y]
    exact⟨[],by rw[aA zW];exact hz,bo.nil⟩
  ·constructor
   ·rintro⟨l,bs,hm,hb⟩
    rcases ax.mp hm with y|y
    ·exact⟨l,bs,y,hb⟩
    ·have:=aj.mp y
     cases this;cases hb
   ·rintro⟨l,bs,hm,hb⟩
    exact⟨l,bs,bC _ hm,hb⟩
  ·rw[aB,ax]
   exact⟨λh=>h.imp id λh=>aj.mp h,λh=>h.imp id λh=>aj.mpr h⟩
  ·unfold wB
   rw[aB,gu]
   rfl
  ·rcases ax.mp he with y|y
   ·exact .inl (aD.mpr ⟨e,y,rfl⟩)
   ·rw[aj.mp y];exact .inr nz
theorem K9{H2 H:Hp}{W:Addr}{wq:Wq}(w:BE H2 H W wq)(nW:H2 W=none)(s:aJ H2 H){N:Nat}{l:Addr}{bs:List Bt}(h:(N,l,bs)∈wq) :
  cW (rV wq) (Sum.inl (N:Int))=some (.ref l)/\BE H2 (aN H W (.dK (jP (rV wq) (Sum.inl (N:Int))))) W (wq.filter λe=>!decide (e.1=N))/\l∉(wq.filter λe=>!decide (e.1=N)).map (·.2.1):=by
 have t:Tp H (aN H W (.dK (jP (rV wq) (Sum.inl (N:Int))))):=λc xs hc=>by
  rw[aA (λy=>by rw[y,w.at_] at hc;cases hc)];exact hc
 have one:∀{f},f∈wq->f.1=N->f=(N,l,bs):=λ{f} hf c=>by
  obtain⟨i,hi,ei⟩:=aR.mp hf
  obtain⟨j,hj,ej⟩:=aR.mp h
  have:i=j:=(dF (l:=wq.map (·.1)) (by rw[af];exact hi) w.nd).mp (by
   rw[aH,aH,aa hi,aa hj,ei,ej]
   show some f.1=some N
   rw[c])
  subst this
  rw[<-ei,ej]
 have two:∀{f},f∈wq->f.2.1=l->f=(N,l,bs):=λ{f} hf c=>by
  obtain⟨i,hi,ei⟩:=aR.mp hf
  obtain⟨j,hj,ej⟩:=aR.mp h
  have:i=j:=(dF (l:=wq.map (·.2.1)) (by rw[af];exact hi) w.lnd).mp (by
   rw[aH,aH,aa hi,aa hj,ei,ej]
   show some f.2.1=some l
   rw[c])
  subst this
  rw[<-ei,ej]
 have dk:jP (rV wq) (Sum.inl (N:Int))=rV (wq.filter λe=>!decide (e.1=N)):=by
  unfold jP rV
  rw[List.filter_map]
  congr 1
  refine List.filter_congr λe _=>?_
  show decide ((Sum.inl (e.1:Int):ky)≠Sum.inl (N:Int))=!decide (e.1=N)
  by_cases c:e.1=N
  ·rw[c];simp
  ·have:(Sum.inl (e.1:Int):ky)≠Sum.inl (N:Int):=λz=>c (by injection z with z;lia)
   rw[decide_eq_true this,decide_eq_false c];rfl
 refine⟨?_,⟨by rw[ak,dk],?_,?_,λe he=>w.new e (a9.mp he).1,λe he=>?_⟩,λz=>?_⟩
 ·obtain⟨v1,v2⟩:=y7 (m:=N) w.nd
  cases e:cW (rV wq) (Sum.inl (N:Int)) with
  |none=>exact absurd (aD.mpr ⟨_,h,rfl⟩) (v2 e)
  |some v=>
   obtain⟨l',bs',rfl,hm⟩:=v1 v e
   have:=one hm rfl
   cases this;rfl
 ·exact List.Sublist.nodup (List.Sublist.map _ f7) w.nd
 ·exact List.Sublist.nodup (List.Sublist.map _ f7) w.lnd
 ·obtain⟨us,h1,h2⟩:=w.lst e (a9.mp he).1
  exact⟨us,by rw[aA (λy=>by rw[y,w.at_] at h1;cases h1)];exact h1,h2.imp λ_ _ x=>iN.mono x t⟩
 ·obtain⟨e,he,e1⟩:=aD.mp z
  obtain⟨h1,h2⟩:=a9.mp he
  have:=two h1 e1
  rw[this] at h2
  simp at h2
structure Gb(ks:List Bt)(t0 t:List (Bt×Nat))(wq:Wq)(X:Nat->Bt->Prop):Prop where
 nd:(t.map (·.1)).Nodup
 sub:∀b n,(b,n)∈t->b∈ks
 s3:∀b n,(b,n)∈t->(b,n)∈t0\/∃c∈kts b,∃m,(c,m)∈t/\n=m+1
 i2:∀b∈ks,∀c∈kts b,∀n,(c,n)∈t->(∃m,m<=n+1/\(b,m)∈t)\/Wt wq (n+1) b\/X (n+1) b
 i3:∀b n,(b,n)∈t0->(∃m,m<=n/\(b,m)∈t)\/Wt wq n b\/X n b
 i4:∀m b,Wt wq m b\/X m b->b∈ks/\((b,m)∈t0\/∃c∈kts b,∃n,(c,n)∈t/\m=n+1)
def CA(ks:List Bt)(t:List (Bt×Nat))(c:Nat):Bool:=match ks[c]? with
 |some b=>decide (b∈t.map (·.1))
 |none=>false
def yO(ks:List Bt)(g:Nat->Nat)(t:List (Bt×Nat)):Nat:=iV ks.length λc=>if CA ks t c=true then 0 else g c
theorem Fh{ks:List Bt}(nd:ks.Nodup){g:Nat->Nat}{t:List (Bt×Nat)}{b:Bt}{c N:Nat}(hc:ks[c]?=some b)(nb:b∉t.map (·.1)):yO ks g (t++[(b,N)])+g c=yO ks g t:=by
 have cl:=(ae.mp hc).1
 have h:=tF (f:=λc=>if CA ks t c=true then 0 else g c) (g:=λc=>if CA ks (t++[(b,N)]) c=true then 0 else g c) cl λd hd=>by
  have:CA ks (t++[(b,N)]) d=CA ks t d:=by
   unfold CA
   cases e:ks[d]? with
   |none=>rfl
   |some x=>
    have ne:x≠b:=λz=>hd (rq nd (by rw[e,z]) hc)
    show decide (x∈(t++[(b,N)]).map (·.1))=decide (x∈t.map (·.1))
    rw[Bool.eq_iff_iff,decide_eq_true_eq,decide_eq_true_eq,aB,ax]
    simp[ne]
  rw[this]
 have f1:CA ks t c=false:=by unfold CA;rw[hc];exact decide_eq_false nb
 have f2:CA ks (t++[(b,N)]) c=true:=by unfold CA;rw[hc];exact decide_eq_true (by rw[aB,ax];exact .inr (aj.mpr rfl))
 rw[f1,f2,if_pos rfl,if_neg (by decide)] at h
 unfold yO
 lia
theorem Ii{ks:List Bt}{g:Nat->Nat}:yO ks g []=iV ks.length g:=by
 unfold yO
 congr 1
 funext c
 have:CA ks [] c=false:=by
  unfold CA
  split
  ·exact decide_eq_false (by simp)
  ·rfl
 rw[this,if_neg (by decide)]
theorem MS{ks:List Bt}{g:Nat->Nat}{t:List (Bt×Nat)}{b:Bt}{c:Nat}(hc:ks[c]?=some b)(nb:b∉t.map (·.1)):g c<=yO ks g t:=by
 have h:=Eh (g:=λc=>if CA ks t c=true then 0 else g c) (ae.mp hc).1
 have f1:CA ks t c=false:=by unfold CA;rw[hc];exact decide_eq_false nb
 rw[f1,if_neg (by decide)] at h
 exact h
theorem Gb.skip{ks:List Bt}{t0 t:List (Bt×Nat)}{wq:Wq}{X X':Nat->Bt->Prop}(h:Gb ks t0 t wq X){b:Bt}{k N:Nat}(hb:(b,k)∈t)(kN:k<=N)(hx:∀m c,X m c->X' m c\/(m=N/\c=b))(hx':∀m c,X' m c->X m c):Gb ks t0 t wq X':=by
 refine⟨h.nd,h.sub,h.s3,λx hx1 c hc n hn=>?_,λx n hn=>?_,λm x hm=>h.i4 m x (hm.imp id (hx' m x))⟩
 ·rcases h.i2 x hx1 c hc n hn with z|z|z
  ·exact .inl z
  ·exact .inr (.inl z)
  ·rcases hx _ _ z with z|⟨z,rfl⟩
   ·exact .inr (.inr z)
   ·exact .inl ⟨k,by lia,hb⟩
 ·rcases h.i3 x n hn with z|z|z
  ·exact .inl z
  ·exact .inr (.inl z)
  ·rcases hx _ _ z with z|⟨rfl,rfl⟩
   ·exact .inr (.inr z)
   ·exact .inl ⟨k,kN,hb⟩
theorem Gb.put{ks:List Bt}{t0 t:List (Bt×Nat)}{wq wq':Wq}{X X':Nat->Bt->Prop}(h:Gb ks t0 t wq X){b:Bt}{N:Nat}{bs:List Bt}(nb:b∉t.map (·.1))(hX:X N b)(hx:∀m c,X m c->X' m c\/(m=N/\c=b))(hx':∀m c,X' m c->X m c)
  (hw:∀k c,Wt wq' k c↔Wt wq k c\/(k=N+1/\c∈bs)) (hbs:∀c,c∈bs↔c∈ks/\b∈kts c):Gb ks t0 (t++[(b,N)]) wq' X':=by
 have up:∀{x n},(x,n)∈t->(x,n)∈t++[(b,N)]:=λz=>bC _ z
 have me:(b,N)∈t++[(b,N)]:=aX _ (aj.mpr rfl)
 have sp:∀{x n},(x,n)∈t++[(b,N)]->(x,n)∈t\/(x=b/\n=N):=λz=>by
  rcases ax.mp z with z|z
  ·exact .inl z
  ·have:=aj.mp z
   cases this;exact .inr ⟨rfl,rfl⟩
 obtain⟨bk,b4⟩:=h.i4 N b (.inr hX)
 refine⟨?_,λx n hx1=>?_,λx n hx1=>?_,λx hx1 c hc n hn=>?_,λx n hn=>?_,λm x hm=>?_⟩
 ·rw[aB]
  exact cu.mpr ⟨h.nd,by simp,λx hx1 y hy=>by rw[aj.mp hy];intro z;exact nb (by have z:x=b:=z;rw[<-z];exact hx1)⟩
 ·rcases sp hx1 with z|⟨rfl,rfl⟩
  ·exact h.sub x n z
  ·exact bk
 ·rcases sp hx1 with z|⟨rfl,rfl⟩
  ·exact(h.s3 x n z).imp id λ⟨c,hc,m,hm,e⟩=>⟨c,hc,m,up hm,e⟩
  ·exact b4.imp id λ⟨c,hc,m,hm,e⟩=>⟨c,hc,m,up hm,e⟩
 ·rcases sp hn with z|⟨rfl,rfl⟩
  ·rcases h.i2 x hx1 c hc n z with⟨m,y1,y2⟩|y|y
   ·exact .inl ⟨m,y1,up y2⟩
   ·exact .inr (.inl ((hw _ _).mpr (.inl y)))
   ·rcases hx _ _ y with y|⟨y,rfl⟩
    ·exact .inr (.inr y)
    ·exact .inl ⟨N,by lia,me⟩
  ·exact .inr (.inl ((hw _ _).mpr (.inr ⟨rfl,(hbs x).mpr ⟨hx1,hc⟩⟩)))
 ·rcases h.i3 x n hn with⟨m,y1,y2⟩|y|y
  ·exact .inl ⟨m,y1,up y2⟩
  ·exact .inr (.inl ((hw _ _).mpr (.inl y)))
  ·rcases hx _ _ y with y|⟨rfl,rfl⟩
   ·exact .inr (.inr y)
   ·exact .inl ⟨n,aw _,me⟩
 ·have old:Wt wq m x\/X m x->x∈ks/\((x,m)∈t0\/∃c∈kts x,∃n,(c,n)∈t++[(b,N)]/\m=n+1):=λz=>by
   obtain⟨y1,y2⟩:=h.i4 m x z
   exact⟨y1,y2.imp id λ⟨c,hc,n,hn,e⟩=>⟨c,hc,n,up hn,e⟩⟩
  rcases hm with hm|hm
  ·rcases(hw _ _).mp hm with y|⟨rfl,y⟩
   ·exact old (.inl y)
   ·obtain⟨y1,y2⟩:=(hbs x).mp y
    exact⟨y1,.inr ⟨b,y2,N,me,rfl⟩⟩
  ·exact old (.inr (hx' m x hm))
theorem Ez{t:List (Bt×Nat)}{b:Bt}{N:Nat}(nb:b∉t.map (·.1)):iU (c5 t) (cK b) (V.int (N:Nat))=c5 (t++[(b,N)]):=by
 rw[mJ _ (q0 λm z=>nb (aD.mpr ⟨_,z,rfl⟩))]
 unfold c5
 rw[aB];rfl
theorem Ey{t:List (Bt×Nat)}(nd:(t.map (·.1)).Nodup)(b:Bt):(cW (c5 t) (cK b)).isSome=decide (b∈t.map (·.1)):=by
 rw[Bool.eq_iff_iff,decide_eq_true_eq]
 constructor
 ·intro h
  rcases Classical.em (∃m,(b,m)∈t) with⟨m,hm⟩|z
  ·exact aD.mpr ⟨_,hm,rfl⟩
  ·rw[q0 λm y=>z ⟨m,y⟩] at h;cases h
 ·intro h
  obtain⟨p,hp,rfl⟩:=aD.mp h
  rw[fS nd (m:=p.2) hp];rfl
theorem IT{wq:Wq}(N:Nat):wB (wq.filter λe=>!decide (e.1=N))<=wB wq:=by
 induction wq with
 |nil=>exact aw _
 |cons e r ih=>
  have cons:∀(e:Nat×Addr×List Bt) r,wB (e::r)=e.2.2.length+wB r:=λ_ _=>rfl
  rw[cX]
  split
  ·rw[cons,cons];lia
  ·rw[cons];lia
theorem y4{wq:Wq}{e:Nat×Addr×List Bt}(h:e∈wq):e.2.2.length<=wB wq:=by
 induction wq with
 |nil=>cases h
 |cons f r ih=>
  have:wB (f::r)=f.2.2.length+wB r:=rfl
  rcases aM.mp h with rfl|h
  ·lia
  ·have:=ih h;lia
theorem G0{wq:Wq}{N:Nat}{l:Addr}{bs:List Bt}(h:(N,l,bs)∈wq):(wq.filter λe=>!decide (e.1=N)).length<wq.length:=by
 induction wq with
 |nil=>cases h
 |cons e r ih=>
  rw[cX]
  have le:=bx (λe:Nat×Addr×List Bt=>!decide (e.1=N)) r
  split
  ·rcases aM.mp h with rfl|h
   ·rename_i c;simp at c
   ·have:=ih h
    rw[bf,bf];lia
  ·rw[bf];lia
theorem C0{K:Fg}{vs:List V}{H:Hp}{Q:VK}{E:XK}(h:jV K vs H Q E):vj K {nx:=λ_ H'=>Q .non H',rt:=Q} (start tU vs) H:=by
 obtain⟨_,v,ks,t0,n,rfl,⟨S,rfl,hS⟩,hcom,knd,kfew,klen,n1,n5,kcl,sub0,few0,q⟩:=h
 have hS:H S=some (.dT (c5 t0)):=hS
 obtain⟨Dc,_,rfl,_⟩:=id hcom
 refine⟨_,rfl,.ref Dc,ks,n,rfl,hcom,knd,kfew,klen,n1,n5,kcl,?_⟩
 rintro _ H2 ⟨A,kvA,g,rfl,hA,nA,kA,totA,atA⟩ s2
 have kAl:=mx kA
 intro W nW
 show ph K _ [some (.ref S),some (.ref Dc),some (.ref A),some (.ref W),none,none,none,none] (aN H2 W (.dK []))
 have hS2:=s2 _ _ hS
 have nWS:W≠S:=λz=>by rw[z,hS2] at nW;cases nW
 have s3:aJ H2 (aN H2 W (.dK [])):=(aJ.refl H2).new nW
 have w3:BE H2 (aN H2 W (.dK [])) W []:=⟨ak,df,df,(λe he=>by cases he),(λe he=>by cases he)⟩
 generalize aN H2 W (.dK [])=H3 at s3 w3 ⊢
 refine⟨_,rfl,S,_,rfl,s3 _ _ hS2,λob=>?_⟩
 have s3f:∀{H':Hp},aJ (aN H3 S (.frz ob (.dT (c5 t0)))) H'->H' S=some (.frz ob (.dT (c5 t0))):=λs=>iy s
 refine ur (λi σ' H'=>∃o4 o5 wq,σ'=[some (.ref S),some (.ref Dc),some (.ref A),some (.ref W),o4,o5,none,none]/\BE (aN H2 S (.frz ob (.dT (c5 t0)))) H' W wq/\aJ (aN H2 S (.frz ob (.dT (c5 t0)))) H'/\(∀m b,Wt wq m b↔(b,m)∈t0.take i)/\wB wq=i/\wq.length<=i) ?_ ?_ ?_ ?_
 ·refine⟨none,none,[],rfl,⟨by rw[aA nWS];exact w3.at_,w3.nd,w3.lnd,(λe he=>by cases he),(λe he=>by cases he)⟩,λb u hb=>?_,(λm b=>⟨(λ⟨_,_,z,_⟩=>by cases z),(λz=>by rw[fI] at z;cases z)⟩),rfl,aw _⟩
  by_cases c:b=S
  ·rw[c,ak] at hb ⊢;exact hb
  ·rw[aA c] at hb ⊢;exact s3 _ _ hb
 ·rintro i σ' H' _ ⟨_,_,_,_,_,s,_⟩;exact s _ _ ak
 ·rintro i k u pb p σ' H4 hk hpb np ⟨o4,o5,wq,rfl,w4,s4,wt4,tt,wl⟩
  obtain⟨⟨b,m⟩,hbm,e⟩:∃x,t0[i]?=some x/\(cK x.1,V.int (x.2:Nat))=(k,u):=by
   unfold c5 at hk
   rw[aH] at hk
   cases e:t0[i]? with
   |none=>rw[e] at hk;cases hk
   |some x=>rw[e] at hk;exact⟨x,rfl,Option.some.inj hk⟩
  cases e
  rw[d5] at hpb
  have il:i<t0.length:=(ae.mp hbm).1
  refine⟨p,_,rfl,cE.of ak,rfl,_,_,rfl,_,_,rfl,rfl,?_⟩
  have s5:aJ H4 (aN H4 p (.tup [.ref pb,.int (m:Nat)])):=(aJ.refl H4).new np
  have w5:=w4.same s5
  show qU K _ [some (.ref S),some (.ref Dc),some (.ref A),some (.ref W),some (.ref pb),some (.int (m:Nat)),none,none] _
  generalize aN H4 p (.tup [.ref pb,.int (m:Nat)])=H5 at s5 w5 ⊢
  have nWf:aN H2 S (.frz ob (.dT (c5 t0))) W=none:=by rw[aA nWS];exact nW
  refine EC (K:=K) (λR r=>⟨_,rfl,r⟩) (λR r=>⟨_,rfl,r⟩) w5 (by lia) (s4.trans s5) nWf λl us bs wq1 H6 w6 hm6 hl6 hA6 s6 wt6 k6 len6 tot6 kp6 ls6=>?_
  have hpW:pb≠W:=λz=>by have:=w4.at_;rw[<-z,hpb] at this;cases this
  have ub:us.length<=10000:=by rw[hA6.len];have:=y4 hm6;have:bs.length<=wB wq1:=this;lia
  refine⟨.inl ⟨rfl,_,cq.of hl6⟩,_,rfl,l,us,.ref pb,rfl,rfl,hl6,bG (by lia),?_⟩
  have hpb6:=kp6 _ _ hpW (s5 _ _ hpb)
  have w7:=Jc w6 hm6 hl6 hA6 (bo.nil.snoc (v:=.ref pb) (r:=b) ⟨pb,rfl,hpb6⟩)
  refine⟨_,_,lV wq1 m ([]++[b]),rfl,w7,cO s6 (w6.new _ hm6),λk c=>?_,by rw[Ag w6.nd hm6,tot6,tt];rfl,by unfold lV;rw[af];lia⟩
  rw[DV hm6,wt6,wt4,e6 hbm,e9,ax,aj,aj]
  constructor
  ·rintro(z|⟨rfl,rfl⟩)
   ·exact .inl z
   ·exact .inr rfl
  ·rintro(z|z)
   ·exact .inl z
   ·cases z;exact .inr ⟨rfl,rfl⟩
 ·rintro σ' H4 ⟨o4,o5,wq,rfl,w4,s4,wt4,tt,wl⟩
  rw[show(c5 t0).length=t0.length from af ..] at tt wl wt4
  rw[a7] at wt4
  refine .inr ⟨S,c5 t0,c5 t0,ob,s3 _ _ hS2,s4 _ _ ak,?_⟩
  have s5:=kJ hS2 s4
  have w5:BE H2 (aN H4 S (.dT (c5 t0))) W wq:=by
   have t5:Tp H4 (aN H4 S (.dT (c5 t0))):=λc xs hc=>by
    rw[aA (λy=>by rw[y,s4 _ _ ak] at hc;cases hc)];exact hc
   refine⟨by rw[aA nWS];exact w4.at_,w4.nd,w4.lnd,λe he=>?_,λe he=>?_⟩
   ·have:=w4.new e he
    by_cases c:e.2.1=S
    ·rw[c,ak] at this;cases this
    ·rw[aA c] at this;exact this
   ·obtain⟨us,h1,h2⟩:=w4.lst e he
    exact⟨us,by rw[aA (λy=>by rw[y,s4 _ _ ak] at h1;cases h1)];exact h1,h2.imp λ_ _ z=>iN.mono z t5⟩
  show qT K _ [some (.ref S),some (.ref Dc),some (.ref A),some (.ref W),o4,o5,none,none] _
  generalize aN H4 S (.dT (c5 t0))=H5 at s5 w5 ⊢
  intro F nF
  have nFH2:H2 F=none:=s5.free nF
  have nFW:F≠W:=(aL w5.at_ nF).symm
  have s6:=s5.new (o:=.dT []) nF
  have w6:=w5.same ((aJ.refl H5).new (o:=.dT []) nF)
  have hF6:aN H5 F (.dT []) F=some (.dT (c5 [])):=ak
  show qS K _ [some (.ref S),some (.ref Dc),some (.ref A),some (.ref W),o4,o5,some (.ref F),none] _
  generalize aN H5 F (.dT [])=H6 at s6 w6 hF6 ⊢
  have tlen:∀t:List (Bt×Nat),(t.map (·.1)).Nodup->(∀b n,(b,n)∈t->b∈ks)->t.length<=7776:=λt nd sb=>by
   have:=iz nd (zs:=ks) λb hb=>by
    obtain⟨p,hp,rfl⟩:=aD.mp hb
    exact sb p.1 p.2 hp
   rw[af] at this
   lia
  refine⟨λm σ' H'=>∃o4 o5 o7 t wq,σ'=[some (.ref S),some (.ref Dc),some (.ref A),some (.ref W),o4,o5,some (.ref F),o7]/\Gb ks t0 t wq (λ_ _=>False)/\BE H2 H' W wq/\H' F=some (.dT (c5 t))/\(∀b n,(b,n)∈t->∀k∈wq.map (·.1),n<=k)/\wB wq+yO ks g t<=50000/\2*(7776-t.length)+wq.length<=m/\m<=30000/\aJ H2 H',
   ⟨2*7776+wq.length,o4,o5,none,[],wq,rfl,⟨df,(λ_ _ h=>by cases h),(λ_ _ h=>by cases h),(λ_ _ _ _ _ h=>by cases h),λb n h=>.inr (.inl ((wt4 n b).mpr h)),λm b h=>?_⟩,w6,hF6,(λ_ _ h=>by cases h),by rw[Ii];lia,by show 2*(7776-0)+_<=_;lia,by lia,s6⟩,?_⟩
  ·rcases h with h|h
   ·have:=(wt4 m b).mp h
    exact⟨sub0 b m this,.inl this⟩
   ·cases h
  rintro M σ' H7 ⟨o4,o5,o7,t,wq,rfl,sp,w7,hF7,ord,cap,hM,hMb,s7⟩
  refine⟨_,rfl,W,_,rfl,w7.at_,_,_,rfl,rfl,_,rfl,?_⟩
  have tl7:=tlen t sp.nd sp.sub
  refine dy (λhl=>?_) (λhl=>?_)
  ·have wpos:0<wq.length:=by
    have:(rV wq).length=wq.length:=af ..
    rw[this] at hl;lia
   refine⟨λσ' H'=>∃m',m'<M/\∃o4 o5 o7 t wq,σ'=[some (.ref S),some (.ref Dc),some (.ref A),some (.ref W),o4,o5,some (.ref F),o7]/\Gb ks t0 t wq (λ_ _=>False)/\BE H2 H' W wq/\H' F=some (.dT (c5 t))/\(∀b n,(b,n)∈t->∀k∈wq.map (·.1),n<=k)/\wB wq+yO ks g t<=50000/\2*(7776-t.length)+wq.length<=m'/\m'<=30000/\aJ H2 H',λ_ _ z=>z,?_⟩
   refine⟨_,rfl,W,_,rfl,.inl w7.at_,(λz=>by have:(rV wq).length=wq.length:=af ..;rw[z] at this;simp at this;lia),(λkv hkv=>by obtain⟨e,_,rfl⟩:=aD.mp hkv;exact⟨_,rfl⟩),λmm hm1 hm2=>?_⟩
   obtain⟨v,hv⟩:=hm1
   obtain⟨⟨N,l,bs⟩,hN,eN⟩:=aD.mp hv
   have e1:(N:Int)=mm:=by
    have:=congrArg Prod.fst eN
    injection this
   subst e1
   have minN:∀k∈wq.map (·.1),N<=k:=λk hk=>by
    obtain⟨e,he,rfl⟩:=aD.mp hk
    have:=hm2 (e.1:Int) (.ref e.2.1) (aD.mpr ⟨e,he,rfl⟩)
    lia
   obtain⟨vN,w8,nl8⟩:=K9 w7 nW s7 hN
   obtain⟨us,hl7,hA7⟩:=w7.lst _ hN
   have hl7:H7 l=some (.lst us):=hl7
   have hA7:bo (iN H7) us bs:=hA7
   have lW:l≠W:=λz=>by have:=w7.at_;rw[<-z,hl7] at this;cases this
   have lF:l≠F:=λz=>by rw[z,hF7] at hl7;cases hl7
   have lnew:H2 l=none:=w7.new _ hN
   show qR K _ [some (.ref S),some (.ref Dc),some (.ref A),some (.ref W),o4,some (.int (N:Nat)),some (.ref F),o7] H7
   refine⟨_,rfl,W,rfl,.inl ⟨_,.inl w7.at_⟩,_,rfl,_,Sum.inl (N:Int),.ref l,w7.at_,rfl,vN,?_⟩
   have t8:Tp H7 (aN H7 W (.dK (jP (rV wq) (Sum.inl (N:Int))))):=λc xs hc=>by
    rw[aA (λy=>by rw[y,w7.at_] at hc;cases hc)];exact hc
   have hl8:aN H7 W (.dK (jP (rV wq) (Sum.inl (N:Int)))) l=some (.lst us):=by rw[aA lW];exact hl7
   have hF8:aN H7 W (.dK (jP (rV wq) (Sum.inl (N:Int)))) F=some (.dT (c5 t)):=by rw[aA nFW];exact hF7
   have s8:aJ H2 (aN H7 W (.dK (jP (rV wq) (Sum.inl (N:Int))))):=cO s7 nW
   have hA8:=hA7.imp λ_ _ z=>iN.mono z t8
   show qQ K _ [some (.ref S),some (.ref Dc),some (.ref A),some (.ref W),o4,some (.int (N:Nat)),some (.ref F),some (.ref l)] _
   generalize aN H7 W (.dK (jP (rV wq) (Sum.inl (N:Int))))=H8 at w8 t8 hl8 hF8 s8 hA8 ⊢
   have td:=IT (wq:=wq) N
   have ld:=G0 hN
   have bsl:=y4 hN
   have kd:∀k∈(wq.filter λe=>!decide (e.1=N)).map (·.1),N<k:=λk hk=>by
    obtain⟨e,he,rfl⟩:=aD.mp hk
    obtain⟨h1,h2⟩:=a9.mp he
    have:=minN e.1 (aD.mpr ⟨e,h1,rfl⟩)
    have:e.1≠N:=by simpa using h2
    lia
   have wtd:∀m b,Wt wq m b->Wt (wq.filter λe=>!decide (e.1=N)) m b\/(m=N/\b∈bs):=λm b ⟨l',bs',h1,h2⟩=>by
    by_cases c:m=N
    ·subst c
     right
     refine⟨rfl,?_⟩
     have:=(y7 (m:=m) w7.nd).1
     obtain⟨i,hi,ei⟩:=aR.mp h1
     obtain⟨j,hj,ej⟩:=aR.mp hN
     have:i=j:=(dF (l:=wq.map (·.1)) (by rw[af];exact hi) w7.nd).mp (by
      rw[aH,aH,aa hi,aa hj,ei,ej];rfl)
     subst this
     rw[ei] at ej;cases ej;exact h2
    ·exact .inl ⟨l',bs',a9.mpr ⟨h1,by simpa using c⟩,h2⟩
   have wtd':∀m b,Wt (wq.filter λe=>!decide (e.1=N)) m b->Wt wq m b:=λm b ⟨l',bs',h1,h2⟩=>⟨l',bs',(a9.mp h1).1,h2⟩
   have sp8:Gb ks t0 t (wq.filter λe=>!decide (e.1=N)) (λm b=>m=N/\b∈bs.drop 0):=by
    refine⟨sp.nd,sp.sub,sp.s3,λx hx c hc n hn=>?_,λx n hn=>?_,λm x hm=>?_⟩
    ·rcases sp.i2 x hx c hc n hn with z|z|z
     ·exact .inl z
     ·exact .inr (wtd _ _ z)
     ·cases z
    ·rcases sp.i3 x n hn with z|z|z
     ·exact .inl z
     ·exact .inr (wtd _ _ z)
     ·cases z
    ·rcases hm with z|⟨rfl,z⟩
     ·exact sp.i4 m x (.inl (wtd' _ _ z))
     ·exact sp.i4 m x (.inl ⟨l,bs,hN,z⟩)
   have ord8:∀b n,(b,n)∈t->n<=N:=λb n h=>ord b n h N (aD.mpr ⟨_,hN,rfl⟩)
   generalize (wq.filter λe=>!decide (e.1=N))=wq8 at w8 nl8 td ld kd sp8
   refine .inl ⟨_,rfl,l,rfl,⟨_,cq.of hl8⟩,qg (xs:=us) (λj σ' H'=>∃o4 t wq,σ'=[some (.ref S),some (.ref Dc),some (.ref A),some (.ref W),o4,some (.int (N:Nat)),some (.ref F),some (.ref l)]/\Gb ks t0 t wq (λm b=>m=N/\b∈bs.drop j)/\BE H2 H' W wq/\H' F=some (.dT (c5 t))/\(∀b n,(b,n)∈t->n<=N)/\(∀k∈wq.map (·.1),N<k)/\wB wq+yO ks g t<=50000/\2*(7776-t.length)+wq.length<=M-1/\l∉wq.map (·.2.1)/\H' l=some (.lst us)/\bo (iN H') us bs/\aJ H2 H')
    ⟨_,t,wq8,rfl,sp8,w8,hF8,ord8,kd,by lia,by lia,nl8,hl8,hA8,s8⟩ ?_ ?_ ?_⟩
   ·rintro j σ' H' _ ⟨_,_,_,_,_,_,_,_,_,_,_,_,h,_⟩;exact cq.of h
   ·rintro j x σ' H9 hx ⟨o4',t9,wq9,rfl,sp9,w9,hF9,ord9,kd9,cap9,ms9,nl9,hl9,hA9,s9⟩
    obtain⟨b,hb,⟨pb,rfl,hpb⟩⟩:=hA9.of_v hx
    have tl9:=tlen t9 sp9.nd sp9.sub
    have dj:bs.drop j=b::bs.drop (j+1):=by
     obtain⟨hi,e⟩:=ae.mp hb
     rw[cy hi,e]
    have hXb:(λm c=>m=N/\c∈bs.drop j) N b:=⟨rfl,by rw[dj];exact aZ⟩
    have hx1:∀m c,(m=N/\c∈bs.drop j)->(m=N/\c∈bs.drop (j+1))\/(m=N/\c=b):=λm c ⟨h1,h2⟩=>by
     rw[dj] at h2
     rcases aM.mp h2 with z|z
     ·exact .inr ⟨h1,z⟩
     ·exact .inl ⟨h1,z⟩
    have hx2:∀m c,(m=N/\c∈bs.drop (j+1))->(m=N/\c∈bs.drop j):=λm c ⟨h1,h2⟩=>⟨h1,by rw[dj];exact aY _ h2⟩
    have bk:=(sp9.i4 N b (.inr hXb)).1
    show qP K _ [some (.ref S),some (.ref Dc),some (.ref A),some (.ref W),some (.ref pb),some (.int (N:Nat)),some (.ref F),some (.ref l)] H9
    refine⟨_,rfl,_,rfl,F,_,rfl,oj hF9 hpb rfl,_,rfl,?_⟩
    rw[show(if true=true then !(cW (c5 t9) (cK b)).isSome else(cW (c5 t9) (cK b)).isSome)=!decide (b∈t9.map (·.1)) from by rw[<-Ey sp9.nd];rfl]
    refine mz (λnb=>?_) (λyb=>?_)
    ·refine⟨_,rfl,_,rfl,_,rfl,F,_,rfl,BH.t hF9 (by rw[d5];exact hpb) (bG (by unfold c5;rw[af];lia)),?_⟩
     rw[Ez nb]
     have t10:Tp H9 (aN H9 F (.dT (c5 (t9++[(b,N)])))):=λc xs hc=>by
      rw[aA (λy=>by rw[y,hF9] at hc;cases hc)];exact hc
     have w10:BE H2 (aN H9 F (.dT (c5 (t9++[(b,N)])))) W wq9:=⟨by rw[aA (Ne.symm nFW)];exact w9.at_,w9.nd,w9.lnd,w9.new,λe he=>by
      obtain⟨us',h1,h2⟩:=w9.lst e he
      exact⟨us',by rw[aA (λy=>by rw[y,hF9] at h1;cases h1)];exact h1,h2.imp λ_ _ z=>iN.mono z t10⟩⟩
     have hl10:aN H9 F (.dT (c5 (t9++[(b,N)]))) l=some (.lst us):=by rw[aA lF];exact hl9
     have hF10:aN H9 F (.dT (c5 (t9++[(b,N)]))) F=some (.dT (c5 (t9++[(b,N)]))):=ak
     have s10:aJ H2 (aN H9 F (.dT (c5 (t9++[(b,N)])))):=cO s9 nFH2
     have hA10:=hA9.imp λ_ _ z=>iN.mono z t10
     have hpb10:=t10 _ _ hpb
     show qO K _ [some (.ref S),some (.ref Dc),some (.ref A),some (.ref W),some (.ref pb),some (.int (N:Nat)),some (.ref F),some (.ref l)] _
     generalize aN H9 F (.dT (c5 (t9++[(b,N)])))=H10 at w10 hl10 hF10 s10 hA10 hpb10 ⊢
     obtain⟨c,hc⟩:=Ak bk
     have cl:=(ae.mp hc).1
     have kvc:kvA[c]?=some kvA[c]:=aa (by lia)
     obtain⟨b',hb',ek⟩:=kz kA (i:=c) (k:=kvA[c].1) (v:=kvA[c].2) kvc
     rw[hc] at hb';cases hb'
     obtain⟨la,ua,ba,eu,hla,_,hba,gl,mba⟩:=atA c _ _ b kvc hc
     have vA:cW kvA (cK b)=some (.ref la):=IZ (i:=c) (by rw[kA];exact yA knd) (kvc.trans (congrArg some (Prod.ext ek eu)))
     have gc:=MS (g:=g) hc nb
     have rf:=Fh knd (g:=g) (N:=N) hc nb
     refine EC (K:=K) (m:=N+1) (λR r=>⟨_,rfl,r⟩) (λR r=>⟨_,rfl,.inl ⟨_,_,rfl,rfl,by show R (.int ((N:Int)+1)) H10;rw[show((N:Nat):Int)+1=((N+1:Nat):Int) by lia];exact r⟩⟩) w10 (by lia) s10 nW λl2 us2 bs2 wq11 H11 w11 hm11 hl11 hA11 s11 wt11 k11 len11 tot11 kp11 ls11=>?_
     have hA2:=s11 _ _ hA
     have hpbW:pb≠W:=λz=>by have:=w10.at_;rw[<-z,hpb10] at this;cases this
     have b2l:bs2.length<=wB wq11:=y4 hm11
     have lla:H11 la=some (.lst ua):=s11 _ _ hla
     have hba11:=hba.imp λ_ _ z=>iN.mono z (Tp.of_same s11)
     refine⟨.inl ⟨rfl,_,cq.of hl11⟩,_,rfl,_,rfl,A,_,rfl,oj hA2 (kp11 _ _ hpbW hpb10) vA,l2,la,us2,ua,rfl,rfl,hl11,lla,bW (bG (by rw[hA11.len,hba11.len,gl];lia)),?_⟩
     have w12:=Jc w11 hm11 hl11 hA11 hba11
     have l2l:l2≠l:=λz=>by
      rcases ls11 _ hm11 with y|y
      ·have hz:l2∉wq9.map (·.2.1):=by rw[z];exact nl9
       exact hz y
      ·have y:H10 l2=none:=y
       rw[z,hl10] at y;cases y
     have t12:Tp H11 (aN H11 l2 (.lst (us2++ua))):=(Tp.refl H11).lst hl11
     have F11:=kp11 _ _ nFW hF10
     have l11:=kp11 _ _ lW hl10
     have wl12:(lV wq11 (N+1) ba).length=wq11.length:=by unfold lV;rw[af]
     have sp12:Gb ks t0 (t9++[(b,N)]) (lV wq11 (N+1) ba) (λm c=>m=N/\c∈bs.drop (j+1)):=sp9.put nb hXb hx1 hx2 (λk x=>by rw[DV hm11,wt11]) mba
     have tl12:=tlen _ sp12.nd sp12.sub
     have al:(t9++[(b,N)]).length=t9.length+1:=by rw[ai];rfl
     refine⟨_,t9++[(b,N)],lV wq11 (N+1) ba,rfl,sp12,w12,by rw[aA (λy=>by rw[y,hl11] at F11;cases F11)];exact F11,λx n hn=>?_,λk hk=>?_,by rw[Ag w11.nd hm11,tot11,gl];lia,by rw[wl12];lia,λz=>?_,by rw[aA (Ne.symm l2l)];exact l11,?_,cO s11 (w11.new _ hm11)⟩
     ·rcases ax.mp hn with z|z
      ·exact ord9 x n z
      ·have:=aj.mp z
       cases this;exact aw _
     ·rw[wM] at hk
      rcases(k11 k).mp hk with z|z
      ·exact kd9 k z
      ·lia
     ·rw[DU] at z
      obtain⟨e,he,e1⟩:=aD.mp z
      have e1:e.2.1=l:=e1
      rcases ls11 e he with y|y
      ·rw[e1] at y;exact nl9 y
      ·rw[e1,hl10] at y;cases y
     ·refine hA10.imp λ_ _ z=>?_
      obtain⟨pp,e1,hp⟩:=z
      have nw:pp≠W:=λy=>by have:=w10.at_;rw[<-y,hp] at this;cases this
      exact⟨pp,e1,t12 _ _ (kp11 _ _ nw hp)⟩
    ·obtain⟨⟨b',k⟩,hk,e1⟩:=aD.mp yb
     have e1:b'=b:=e1
     subst e1
     exact⟨_,t9,wq9,rfl,sp9.skip hk (ord9 _ _ hk) hx1 hx2,w9,hF9,ord9,kd9,cap9,ms9,nl9,hl9,hA9,s9⟩
   ·rintro σ' H9 ⟨o4',t9,wq9,rfl,sp9,w9,hF9,ord9,kd9,cap9,ms9,nl9,hl9,hA9,s9⟩
    rw[hA9.len,iu] at sp9
    refine⟨M-1,by lia,_,_,_,t9,wq9,rfl,⟨sp9.nd,sp9.sub,sp9.s3,λx hx c hc n hn=>?_,λx n hn=>?_,λm x hm=>sp9.i4 m x (hm.imp id λz=>by cases z)⟩,w9,hF9,λx n hn k hk=>?_,cap9,ms9,by lia,s9⟩
    ·rcases sp9.i2 x hx c hc n hn with z|z|z
     ·exact .inl z
     ·exact .inr (.inl z)
     ·cases z.2
    ·rcases sp9.i3 x n hn with z|z|z
     ·exact .inl z
     ·exact .inr (.inl z)
     ·cases z.2
    ·have:=ord9 x n hn
     have:=kd9 k hk
     lia
  ·have w0:wq=[]:=by
    have h1:(rV wq).length=wq.length:=af ..
    rw[h1] at hl
    exact bD.mp (by lia)
   subst w0
   have nw:∀m b,¬Wt [] m b:=λm b ⟨_,_,z,_⟩=>by cases z
   show qN K _ [some (.ref S),some (.ref Dc),some (.ref A),some (.ref W),o4,o5,some (.ref F),o7] H7
   refine⟨_,rfl,q (.ref F) t H7 ⟨F,rfl,hF7⟩ ⟨sp.nd,sp.sub,λb n h=>?_,λb hb c hc n hn=>?_,sp.s3⟩ (s2.trans s7)⟩
   ·rcases sp.i3 b n h with z|z|z
    ·exact z
    ·exact absurd z (nw _ _)
    ·cases z
   ·rcases sp.i2 b hb c hc n hn with z|z|z
    ·exact z
    ·exact absurd z (nw _ _)
    ·cases z
theorem p6.same{H H':Hp}{v:V}{t:List (Bt×Nat)}(h:p6 H v t)(s:aJ H H'):p6 H' v t:=let⟨D,e,hD⟩:=h;⟨D,e,s _ _ hD⟩
theorem p6.but{H:Hp}{v:V}{t:List (Bt×Nat)}{L:Addr}{us xs:List V}(h:p6 H v t)(hL:H L=some (.lst us)):p6 (aN H L (.lst xs)) v t:=by
 obtain⟨D,e,hD⟩:=h
 exact⟨D,e,by rw[aA (λz=>by rw[z,hL] at hD;cases hD)];exact hD⟩
theorem su{K:Fg}{p:Addr}{xs:List V}{v:V}{H:Hp}{Q:VK}(h:H p=some (.lst xs))(e:xs[xs.length-1]?=some v)(q:Q v H):fF K (.ref p) (.int (-1)) H Q:=by
 rcases ic xs with z|⟨ys,w,z⟩
 ·rw[z] at e;cases e
 ·rw[ia] at z
  subst z
  rw[ai,aI,cA,ao (aw _),bj] at e
  have:w=v:=Option.some.inj e
  subst this
  exact .inl ⟨p,_,-1,w,rfl,rfl,cq.of h,zM ys w,q⟩
theorem Cm.turn{n:Nat}{b0:Bt}{ws:List Wk}{pss:List (List Str)}{kss:List (List Bt)}(c:Cm n b0 ws pss kss)(pl:pss.length=ws.length+1){k:Nat}{ks:List Bt}(h:kss[k]?=some ks):∃ss ebs,Jk n ss/\mr n ss ebs ks:=by
 have kl:k<kss.length:=(ae.mp h).1
 have cl:=c.len
 cases k with
 |zero=>
  have hp:pss[0]?=some (pss[0]'(by lia)):=aa _
  exact⟨_,_,c.dim _ (aC hp),c.fst ks _ h hp⟩
 |succ k=>
  have hp:pss[k+1]?=some (pss[k+1]'(by lia)):=aa _
  have hw:ws[k]?=some (ws[k]'(by lia)):=aa _
  have hk:kss[k]?=some (kss[k]'(by lia)):=aa _
  exact⟨_,_,c.dim _ (aC hp),c.nxt k _ ks _ _ hk h hw hp⟩
structure OD(n:Nat)(ws:List Wk)(pss:List (List Str))(ord:Bt)(kss:List (List Bt))(i:Nat)(tr:List (List (Bt×Nat))):Prop where
 len:tr.length=i+1
 nd:∀t∈tr,(t.map (·.1)).Nodup
 fin:∀ks t,kss[ws.length]?=some ks->tr[0]?=some t->∃t0,kg ks t0 t/\∀b m,(b,m)∈t0↔b∈ks/\Bz ord b=true/\m=0
 mid:∀(j:Nat) ks t t' w ss,j<i->kss[ws.length-1-j]?=some ks->tr[j+1]?=some t->tr[j]?=some t'->ws[ws.length-1-j]?=some w->pss[ws.length-j]?=some ss->∃t0,kg ks t0 t/\∀b m,(b,m)∈t0↔b∈ks/\(iZ b w.out ss,m)∈t'
theorem AR{K:Fg}{vs:List V}{H:Hp}{Q:VK}{E:XK}(h:lp K vs H Q E):sJ K {nx:=λ_ H'=>Q .non H',rt:=Q} (start jN vs) H:=by
 obtain⟨bp,wp,lt,op,n,b0,ord,ws,last,dd,rfl,src,wks,fw,hop,ol,dims,q⟩:=h
 obtain⟨wvs,hwp,hW⟩:=src.wks
 have wfew:=src.few
 refine⟨_,rfl,_,rfl,wp,lt,ws,last,dd,rfl,wks,fw,λP tvs pss H1 nP hP hT pts s1=>?_⟩
 show mZ K _ [some (.ref bp),some (.ref wp),some (.ref lt),some (.ref op),some (.ref P),none,none,none,none,none,none,none] H1
 have pl:=pts.len
 have src1:Gc H1 n b0 ws bp wp:=⟨s1 _ _ src.bp,src.len,⟨wvs,s1 _ _ hwp,hW.imp λ_ _ z=>z.tp (Tp.of_same s1)⟩,src.few⟩
 refine⟨_,rfl,_,rfl,_,rfl,bp,wp,P,tvs,n,b0,ws,pss,rfl,src1,hP,hT,pl,dims pss pts,λC cvs kss H2 hC hcA cm s2=>?_⟩
 show oW K _ [some (.ref bp),some (.ref wp),some (.ref lt),some (.ref op),some (.ref P),some (.ref C),none,none,none,none,none,none] H2
 have s02:=s1.trans s2
 have kl:=cm.len
 have cl:cvs.length=ws.length+1:=by rw[hcA.len];exact kl
 obtain⟨_,ks,ec,ek,hcom⟩:=hcA.get (i:=ws.length) (by lia)
 obtain⟨ssM,ebM,dM,tM⟩:=cm.turn pl ek
 obtain⟨D,kvs,rfl,hD,hkeys,hvals⟩:=id hcom
 have kvl:=mx hkeys
 have n1:=dM.pos
 have n5:=dM.n5
 refine⟨_,rfl,1,rfl,su (v:=.ref D) hC (by rw[cl];exact ec) ⟨D,kvs,rfl,hD,λob E' nE=>?_⟩⟩
 have nEH:H2 E'=none:=by
  by_cases z:E'=D
  ·rw[z,ak] at nE;cases nE
  ·rw[aA z] at nE;exact nE
 refine pE (λj σ' H'=>∃o10 us,σ'=[some (.ref bp),some (.ref wp),some (.ref lt),some (.ref op),some (.ref P),some (.ref C),none,none,none,none,o10,none]/\H' E'=some (.lst us)/\bo (iN H') us ((ks.take j).filter λb=>Bz ord b)/\aJ (aN H2 D (.frz ob (.dT kvs))) H') ⟨none,[],rfl,ak,bo.nil,(aJ.refl _).new nE⟩ ?_ ?_ ?_
 ·rintro j σ' H' _ ⟨_,_,_,_,_,s⟩;exact iy s
 ·rintro j k kv pb σ' H3 hk hpb ⟨o10,us,rfl,hE,hA,s3⟩
  obtain⟨b,hb,rfl⟩:=kz hkeys hk
  rw[d5] at hpb
  have bl:=(tM.inn b (aC hb)).len
  have jl:j<ks.length:=(ae.mp hb).1
  have kf:=tM.few
  have ul:us.length<=j:=by
   rw[hA.len]
   have:=bx (λb=>Bz ord b) (ks.take j)
   rw[aS] at this
   lia
  have hop3:H3 op=some (.tup (cw ord)):=yo s3 hD (s02 _ _ hop) λ_ z=>by cases z
  show jr E' _ _ _ [some (.ref bp),some (.ref wp),some (.ref lt),some (.ref op),some (.ref P),some (.ref C),none,none,none,none,some (.ref pb),none] H3
  refine⟨_,rfl,_,rfl,op,pb,ord,b,rfl,hop3,hpb,by rw[ol,bl],by lia,λH4 s4=>⟨_,rfl,?_⟩⟩
  rw[qf hb]
  cases hh:Bz ord b with
  |true=>
   refine nS ⟨_,rfl,us,s4 _ _ hE,bG (by lia),_,us++[.ref pb],rfl,ak,?_,cO (s3.trans s4) nE⟩
   have t5:Tp H4 (aN H4 E' (.lst (us++[.ref pb]))):=(Tp.refl H4).lst (s4 _ _ hE)
   rw[if_pos rfl]
   exact(hA.imp λ_ _ z=>iN.mono z ((Tp.of_same s4).trans t5)).snoc ⟨pb,rfl,t5 _ _ (s4 _ _ hpb)⟩
  |false=>
   refine jo ⟨_,us,rfl,s4 _ _ hE,?_,s3.trans s4⟩
   rw[if_neg (by decide),dJ]
   exact hA.imp λ_ _ z=>iN.mono z (.of_same s4)
 rintro σ' H3 ⟨o10,us,_,hE,hA,s3⟩
 rw[kvl,a7] at hA
 refine .inr ⟨D,kvs,kvs,ob,hD,iy s3,?_⟩
 have s4:=kJ hD s3
 have nED:E'≠D:=(aL hD nEH).symm
 have t4:Tp H3 (aN H3 D (.dT kvs)):=λc xs hc=>by
  rw[aA (λz=>by rw[z,iy s3] at hc;cases hc)];exact hc
 have hE4:aN H3 D (.dT kvs) E'=some (.lst us):=by rw[aA nED];exact hE
 have hA4:=hA.imp λ_ _ z=>iN.mono z t4
 show oU K _ [some (.ref bp),some (.ref wp),some (.ref lt),some (.ref op),some (.ref P),some (.ref C),some (.ref E'),none,none,none,none,none] _
 generalize aN H3 D (.dT kvs)=H4 at s4 hE4 hA4 ⊢
 have s04:=s02.trans s4
 have kf:=tM.few
 have fl:(ks.filter λb=>Bz ord b).length<=7776:=br (bx _ _) kf
 have fnd':(ks.filter λb=>Bz ord b).Nodup:=List.Sublist.nodup f7 tM.nd
 have fsub:∀b∈ks.filter (λb=>Bz ord b),b∈ks/\Bz ord b=true:=λb hb=>⟨(a9.mp hb).1,(a9.mp hb).2⟩
 have fsup:∀b∈ks,Bz ord b=true->b∈ks.filter (λb=>Bz ord b):=λb hb h=>a9.mpr ⟨hb,h⟩
 generalize ks.filter (λb=>Bz ord b)=fs at hA4 fl fnd' fsub fsup
 have ulen:us.length=fs.length:=hA4.len
 refine .inl ⟨_,rfl,E',rfl,⟨_,cq.of hE4⟩,λG nG=>?_⟩
 refine kB (xs:=us) (λj σ' H'=>∃(o10:Option V) (ts:List Addr),σ'=[some (.ref bp),some (.ref wp),some (.ref lt),some (.ref op),some (.ref P),some (.ref C),some (.ref E'),none,none,none,o10,none]/\H' G=some (.lst (ts.map V.ref))/\ts.length=j/\(∀(i:Nat) t b,ts[i]?=some t->fs[i]?=some b->∃x,H' t=some (.tup [.ref x,.int 0])/\H' x=some (.tup (cw b)))/\aJ H4 H') ⟨none,[],rfl,ak,rfl,(λi t b h=>by simp at h),(aJ.refl _).new nG⟩ ?_ ?_ ?_
 ·rintro j σ' H' _ ⟨_,_,_,_,_,_,s⟩;exact cq.of (s _ _ hE4)
 ·rintro j x σ' H5 hx ⟨o10,ts,rfl,hG,tl,prs,s5⟩
  obtain⟨b,hb,⟨pb,rfl,hpb⟩⟩:=hA4.of_v hx
  have jl:j<fs.length:=(ae.mp hb).1
  refine fB ⟨_,rfl,(by show 2<=sizeLine;decide),λt nt=>?_⟩
  have s6:aJ H5 (aN H5 t (.tup [.ref pb,.int 0])):=(aJ.refl H5).new nt
  have ht:aN H5 t (.tup [.ref pb,.int 0]) t=some (.tup [.ref pb,.int 0]):=ak
  generalize aN H5 t (.tup [.ref pb,.int 0])=H6 at s6 ht ⊢
  have t7:Tp H6 (aN H6 G (.lst (ts.map V.ref++[.ref t]))):=(Tp.refl H6).lst (s6 _ _ hG)
  refine⟨_,s6 _ _ hG,bG (by rw[af];lia),_,ts++[t],rfl,by rw[ak,aB];rfl,by rw[ai,tl];rfl,λi t' b' h1 h2=>?_,cO (s5.trans s6) nG⟩
  by_cases c:i<j
  ·rw[av (by lia)] at h1
   obtain⟨x,a1,a2⟩:=prs i t' b' h1 h2
   exact⟨x,t7 _ _ (s6 _ _ a1),t7 _ _ (s6 _ _ a2)⟩
  ·have ij:i=j:=by
    have:=(ae.mp h1).1
    rw[ai,aI] at this
    lia
   subst ij
   rw[ao (by lia),tl,bj] at h1
   rw[hb] at h2;cases h2
   have h1:t=t':=Option.some.inj h1
   subst h1
   exact⟨pb,t7 _ _ ht,t7 _ _ (s6 _ _ (s5 _ _ hpb))⟩
 rintro σ' H5 ⟨o10',ts,_,hG,tl,prs,s5⟩
 rw[ulen] at tl
 have tk:(fs.map λb=>(cK b,V.int ((0:Nat):Int)))=c5 (fs.map λb=>(b,0)):=by unfold c5;rw[de];rfl
 refine⟨G,_,fs.map λb=>(cK b,V.int ((0:Nat):Int)),rfl,hG,by rw[af,af,tl],by rw[af];lia,λj x k v e1 e2=>?_,λS0 nS0=>?_⟩
 ·rw[aH] at e1 e2
  cases et:ts[j]? with
  |none=>rw[et] at e1;cases e1
  |some t=>
   rw[et] at e1;cases e1
   cases ef:fs[j]? with
   |none=>rw[ef] at e2;cases e2
   |some b=>
    rw[ef] at e2;cases e2
    obtain⟨x,a1,a2⟩:=prs j t b et ef
    exact⟨t,x,rfl,a1,by rw[d5];exact a2⟩
 rw[rB (kvs:=[]) (by
  rw[e9,de]
  exact yA fnd'),e9,tk]
 have s6:aJ H5 (aN H5 S0 (.dT (c5 (fs.map λb=>(b,0))))):=(aJ.refl H5).new nS0
 have hS6:aN H5 S0 (.dT (c5 (fs.map λb=>(b,0)))) S0=some (.dT (c5 (fs.map λb=>(b,0)))):=ak
 generalize aN H5 S0 (.dT (c5 (fs.map λb=>(b,0))))=H6 at s6 hS6 ⊢
 have s26:=(s4.trans s5).trans s6
 have s06:=s02.trans s26
 refine⟨_,rfl,1,rfl,su (v:=.ref D) (s26 _ _ hC) (by rw[cl];exact ec) ⟨.ref S0,.ref D,ks,fs.map λb=>(b,0),n,rfl,⟨S0,rfl,hS6⟩,hcom.same s26,tM.nd,kf,λb hb=>(tM.inn b hb).len,n1,n5,tM.cl,λb m hm=>?_,by rw[af];exact fl,λr t H7 hr spr s7=>⟨(by show 1<=sizeLine;decide),λT nT=>?_⟩⟩⟩
 ·obtain⟨c,hc,e⟩:=aD.mp hm
  cases e;exact(fsub _ hc).1
 have s27:=(s26.trans s7).new (o:=.lst [r]) nT
 have hT7:aN H7 T (.lst [r]) T=some (.lst [r]):=ak
 have hr7:=hr.same ((aJ.refl H7).new (o:=.lst [r]) nT)
 have nTH2:H2 T=none:=(s26.trans s7).free nT
 show oS K _ [some (.ref bp),some (.ref wp),some (.ref lt),some (.ref op),some (.ref P),some (.ref C),some (.ref E'),some (.ref T),none,none,none,none] _
 generalize aN H7 T (.lst [r])=H8 at s27 hT7 hr7 ⊢
 have tr0:OD n ws pss ord kss 0 [t]:=⟨rfl,(λt' h=>by rw[aj.mp h];exact spr.nd),(λks' t' h1 h2=>by
  rw[ek] at h1;cases h1;cases h2
  refine⟨_,spr,λb m=>⟨λh=>?_,λ⟨h1,h2,h3⟩=>?_⟩⟩
  ·obtain⟨c,hc,e⟩:=aD.mp h
   cases e
   exact⟨(fsub _ hc).1,(fsub _ hc).2,rfl⟩
  ·subst h3
   exact aD.mpr ⟨b,fsup b h1 h2,rfl⟩),λj _ _ _ _ _ h=>absurd h (dv _)⟩
 refine⟨_,rfl,_,_,rfl,.inr ⟨_,cE.of (s27 _ _ (s02 _ _ hwp)),rfl⟩,_,_,rfl,rfl,1,rfl,1,rfl,_,rfl,by lia,by rw[hW.len];lia,GE (λi σ' H'=>∃o8 o9 o10 o11 tvs' tr,σ'=[some (.ref bp),some (.ref wp),some (.ref lt),some (.ref op),some (.ref P),some (.ref C),some (.ref E'),some (.ref T),o8,o9,o10,o11]/\H' T=some (.lst tvs')/\bo (p6 H') tvs' tr/\OD n ws pss ord kss i tr/\aJ H2 H') ⟨none,none,none,none,[r],[t],rfl,hT7,bo.nil.snoc hr7,tr0,s27⟩ ?_ ?_⟩
 ·rintro i σ' Ha hi ⟨o8,o9,o10,o11,tvs',tr,rfl,hTa,hTA,trt,sa⟩
  have hi:i<ws.length:=by rw[hW.len] at hi;lia
  have tl:=trt.len
  obtain⟨k,hk⟩:∃k,k=ws.length-1-i:=⟨_,rfl⟩
  have ke:((wvs.length:Int)-1)-(i:Int)=((k:Nat):Int):=by rw[hW.len];lia
  show oR K _ [some (.ref bp),some (.ref wp),some (.ref lt),some (.ref op),some (.ref P),some (.ref C),some (.ref E'),some (.ref T),some (.int (((wvs.length:Int)-1)-(i:Int))),o9,o10,o11] Ha
  rw[ke]
  intro S1 nS1
  show oQ K _ [some (.ref bp),some (.ref wp),some (.ref lt),some (.ref op),some (.ref P),some (.ref C),some (.ref E'),some (.ref T),some (.int (k:Nat)),some (.ref S1),o10,o11] (aN Ha S1 (.dT []))
  obtain⟨wv,w,ew,ew',hwa⟩:=hW.get (i:=k) (by lia)
  obtain⟨_,ss,es,es',np,rfl,hnp⟩:=hT.get (i:=k+1) (by lia)
  obtain⟨_,ks2,ec2,ek2,hcom2⟩:=hcA.get (i:=k) (by lia)
  obtain⟨ss2,eb2,d2,t2⟩:=cm.turn pl ek2
  obtain⟨D2,kvs2,rfl,hD2,hkeys2,_⟩:=id hcom2
  have kvl2:=mx hkeys2
  have kf2:=t2.few
  obtain⟨tv,t',etv,et',htab⟩:=hTA.get (i:=i) (by lia)
  have tvl:tvs'.length=i+1:=by rw[hTA.len];exact tl
  obtain⟨Dt,rfl,hDt⟩:=id htab
  have hDt:Ha Dt=some (.dT (c5 t')):=hDt
  have tnd:=trt.nd t' (aC et')
  have hD2a:=sa _ _ hD2
  have S1D2:S1≠D2:=(aL hD2a nS1).symm
  have S1Dt:S1≠Dt:=(aL hDt nS1).symm
  have ss1:aJ Ha (aN Ha S1 (.dT [])):=(aJ.refl Ha).new nS1
  have hS1:aN Ha S1 (.dT []) S1=some (.dT (c5 [])):=ak
  refine⟨_,rfl,_,rfl,lD (v:=.ref D2) (cq.of (ss1 _ _ (sa _ _ hC))) (cz _) (by rw[aU];exact ec2) ⟨D2,kvs2,rfl,ss1 _ _ hD2a,λob2=>?_⟩⟩
  have nSf:aN Ha D2 (.frz ob2 (.dT kvs2)) S1=none:=by rw[aA S1D2];exact nS1
  have nT2:T≠D2:=λz=>by rw[z,hD2a] at hTa;cases hTa
  refine wU (λj σ' H'=>∃o10 o11 tj,σ'=[some (.ref bp),some (.ref wp),some (.ref lt),some (.ref op),some (.ref P),some (.ref C),some (.ref E'),some (.ref T),some (.int (k:Nat)),some (.ref S1),o10,o11]/\H' S1=some (.dT (c5 tj))/\(tj.map (·.1)).Nodup/\(∀b m,(b,m)∈tj↔b∈ks2.take j/\(iZ b w.out ss,m)∈t')/\tj.length<=j/\(H' Dt=some (.dT (c5 t'))\/H' Dt=some (.frz ob2 (.dT (c5 t'))))/\aJ (aN Ha D2 (.frz ob2 (.dT kvs2))) H') ?_ ?_ ?_ ?_
  ·refine⟨_,_,[],rfl,by rw[aA S1D2];exact hS1,df,(λb m=>⟨(λh=>by cases h),(λh=>by rw[fI] at h;cases h.1)⟩),aw _,?_,λb u hb=>?_⟩
   ·by_cases c:Dt=D2
    ·right
     rw[c] at hDt ⊢
     rw[hD2a] at hDt
     have:=Option.some.inj hDt
     have:kvs2=c5 t':=by injection this
     rw[ak,this]
    ·left
     rw[aA c];exact ss1 _ _ hDt
   ·by_cases c:b=D2
    ·rw[c,ak] at hb ⊢;exact hb
    ·rw[aA c] at hb ⊢;exact ss1 _ _ hb
  ·rintro j σ' H' _ ⟨_,_,_,_,_,_,_,_,_,s⟩;exact iy s
  ·rintro j kk kv pb σ' Hb hkk hpb ⟨o10,o11,tj,rfl,hSj,ndj,memj,lj,hDtj,sb⟩
   obtain⟨b,hb,rfl⟩:=kz hkeys2 hkk
   rw[d5] at hpb
   have bm:=aC hb
   have bl:=(t2.inn b bm).len
   have jl:j<ks2.length:=(ae.mp hb).1
   have bne:b≠[]:=λz=>by rw[z] at bl;have:(0:Nat)=n:=bl;lia
   have tpb:Tp Ha Hb:=λc xs hc=>yo sb hD2a hc λ_ z=>by cases z
   have lsb:∀c xs,Ha c=some (.lst xs)->Hb c=some (.lst xs):=λc xs hc=>yo sb hD2a hc λ_ z=>by cases z
   have h02:Tp H Ha:=(Tp.of_same s02).trans (Tp.of_same sa)
   show oP K _ [some (.ref bp),some (.ref wp),some (.ref lt),some (.ref op),some (.ref P),some (.ref C),some (.ref E'),some (.ref T),some (.int (k:Nat)),some (.ref S1),some (.ref pb),o11] Hb
   refine⟨_,rfl,_,rfl,_,rfl,D1 (tpb _ _ (h02 _ _ hwp)) (cz _) (by rw[aU];exact ew) ⟨_,rfl,_,rfl,.inl ⟨_,_,rfl,rfl,lD (v:=.ref np) (cq.of (lsb _ _ (sa _ _ (s2 _ _ hP)))) (by lia) (by rw[show((k:Int)+1).toNat=k+1 by lia];exact es) ⟨pb,np,wv,b,w,ss,rfl,hpb,hwa.tp (h02.trans tpb),tpb _ _ (sa _ _ (s2 _ _ hnp)),bne,by lia,λr' Hc hr' sc=>?_⟩⟩⟩⟩
   show oO K _ [some (.ref bp),some (.ref wp),some (.ref lt),some (.ref op),some (.ref P),some (.ref C),some (.ref E'),some (.ref T),some (.int (k:Nat)),some (.ref S1),some (.ref pb),some (.ref r')] Hc
   have hTc:=sc _ _ (lsb _ _ hTa)
   have etv':tvs'[tvs'.length-1]?=some (.ref Dt):=by rw[tvl,cA];exact etv
   have rdt:Rd Hc Dt (.dT (c5 t')):=hDtj.elim (λz=>.inl (sc _ _ z)) λz=>.inr ⟨_,sc _ _ z⟩
   have dg:∀{o:Option V},cW (c5 t') (cK (iZ b w.out ss))=o->rg Hc Dt (.ref r') o:=λ{o} e=>by
    rw[<-e]
    exact .inr ⟨_,cK (iZ b w.out ss),r',rdt,rfl,by rw[d5];exact hr',rfl⟩
   refine⟨_,rfl,_,rfl,1,rfl,su hTc etv' ⟨Dt,_,rfl,dg rfl,_,rfl,?_⟩⟩
   rw[show(if false=true then !(cW (c5 t') (cK (iZ b w.out ss))).isSome else(cW (c5 t') (cK (iZ b w.out ss))).isSome)=decide (iZ b w.out ss∈t'.map (·.1)) from Ey tnd _]
   have nbj:b∉tj.map (·.1):=λz=>by
    obtain⟨p,hp,e⟩:=aD.mp z
    have hp2:(b,p.2)∈tj:=by have e:p.1=b:=e;rw[<-e];exact hp
    have:=((memj b p.2).mp hp2).1
    obtain⟨x,hx,ex⟩:=aR.mp this
    have hx':x<j:=by rw[aS] at hx;lia
    have:(ks2)[x]?=some b:=by
     rw[List.getElem_take] at ex
     rw[aa (by rw[aS] at hx;lia),ex]
    have:=rq t2.nd this hb
    lia
   refine dy (λc=>?_) λc=>?_
   ·obtain⟨⟨x,m⟩,hm,e⟩:=aD.mp c
    have e:x=iZ b w.out ss:=e
    subst e
    refine⟨_,rfl,1,rfl,su hTc etv' ⟨_,rfl,Dt,_,rfl,dg (fS tnd hm),_,rfl,_,rfl,S1,_,rfl,BH.t (sc _ _ hSj) (by rw[d5];exact sc _ _ hpb) (bG (by unfold c5;rw[af];lia)),?_⟩⟩
    rw[Ez nbj]
    refine⟨_,_,tj++[(b,m)],rfl,ak,?_,λx y=>?_,by rw[ai];show _+1<=_;lia,?_,cO (sb.trans sc) nSf⟩
    ·rw[aB]
     exact cu.mpr ⟨ndj,by simp,λx hx y hy=>by rw[aj.mp hy];intro z;exact nbj (by have z:x=b:=z;rw[<-z];exact hx)⟩
    ·rw[ax,memj,e6 hb,ax,aj,aj]
     constructor
     ·rintro(z|z)
      ·exact⟨.inl z.1,z.2⟩
      ·cases z;exact⟨.inr rfl,hm⟩
     ·rintro⟨z|rfl,y2⟩
      ·exact .inl ⟨z,y2⟩
      ·exact .inr (by rw[tG tnd y2 hm])
    ·rw[aA (Ne.symm S1Dt)]
     exact hDtj.imp (λz=>sc _ _ z) λz=>sc _ _ z
   ·refine⟨_,_,tj,rfl,sc _ _ hSj,ndj,λx y=>?_,by lia,hDtj.imp (λz=>sc _ _ z) λz=>sc _ _ z,sb.trans sc⟩
    rw[memj,e6 hb,ax,aj]
    constructor
    ·exact λz=>⟨.inl z.1,z.2⟩
    ·rintro⟨z|rfl,y2⟩
     ·exact⟨z,y2⟩
     ·exact absurd (aD.mpr ⟨_,y2,rfl⟩) c
  ·rintro σ' Hb ⟨o10,o11,tj,rfl,hSj,ndj,memj,lj,hDtj,sb⟩
   rw[kvl2,a7] at memj
   rw[kvl2] at lj
   refine .inr ⟨D2,kvs2,kvs2,ob2,ss1 _ _ hD2a,iy sb,?_⟩
   have sc:=kJ hD2a sb
   have hSc:aN Hb D2 (.dT kvs2) S1=some (.dT (c5 tj)):=by rw[aA S1D2];exact hSj
   show oN K _ [some (.ref bp),some (.ref wp),some (.ref lt),some (.ref op),some (.ref P),some (.ref C),some (.ref E'),some (.ref T),some (.int (k:Nat)),some (.ref S1),o10,o11] _
   generalize aN Hb D2 (.dT kvs2)=Hc at sc hSc ⊢
   have s2c:=sa.trans sc
   refine⟨_,rfl,.inl ⟨rfl,_,cq.of (sc _ _ hTa)⟩,_,rfl,_,rfl,_,rfl,lD (v:=.ref D2) (cq.of (s2c _ _ hC)) (cz _) (by rw[aU];exact ec2) ⟨.ref S1,.ref D2,ks2,tj,n,rfl,⟨S1,rfl,hSc⟩,hcom2.same s2c,t2.nd,kf2,λb hb=>(t2.inn b hb).len,n1,n5,t2.cl,λb m hm=>((memj b m).mp hm).1,by lia,λr' t'' Hd hr' spr' sd=>?_⟩⟩
   have hTd:=sd _ _ (sc _ _ hTa)
   refine⟨T,tvs',r',rfl,rfl,hTd,bG (by rw[tvl];lia),?_⟩
   refine⟨_,_,_,_,tvs'++[r'],tr++[t''],rfl,ak,(hTA.imp λ_ _ z=>p6.but (z.same (sc.trans sd)) hTd).snoc (hr'.but hTd),⟨by rw[ai,tl];rfl,λx hx=>?_,λks' x h1 h2=>?_,λj ks' x x' w' ss' hj h1 h2 h3 h4 h5=>?_⟩,cO (s2c.trans sd) nTH2⟩
   ·rcases ax.mp hx with z|z
    ·exact trt.nd x z
    ·rw[aj.mp z];exact spr'.nd
   ·rw[av (by lia)] at h2
    exact trt.fin ks' x h1 h2
   ·by_cases c:j<i
    ·rw[av (by lia)] at h2 h3
     exact trt.mid j ks' x x' w' ss' c h1 h2 h3 h4 h5
    ·have ji:j=i:=by lia
     subst ji
     rw[<-hk,ek2] at h1
     rw[<-hk,ew'] at h4
     rw[show ws.length-j=k+1 by lia,es'] at h5
     rw[ao (by lia),show j+1-tr.length=0 by lia] at h2
     rw[av (by lia),et'] at h3
     cases h1;cases h3;cases h4;cases h5
     have h2:t''=x:=Option.some.inj h2
     subst h2
     exact⟨tj,spr',memj⟩
 ·rintro σ' Ha ⟨o8,o9,o10,o11,tvs',tr,rfl,hTa,hTA,trt,sa⟩
  have e1:((wvs.length:Int)-1+1).toNat=ws.length:=by rw[hW.len];lia
  rw[e1] at trt
  have tl:=trt.len
  show oM K _ [some (.ref bp),some (.ref wp),some (.ref lt),some (.ref op),some (.ref P),some (.ref C),some (.ref E'),some (.ref T),o8,o9,o10,o11] Ha
  refine⟨_,rfl,T,tvs',rfl,cq.of hTa,λZ nZ=>?_⟩
  have tvl:tvs'.length=tr.length:=hTA.len
  have rev:bo (p6 Ha) tvs'.reverse tr.reverse:=by
   refine⟨by rw[bO,bO,tvl],λi v t'' h1 h2=>?_⟩
   have hi:i<tr.length:=by have:=(ae.mp h2).1;rwa [bO] at this
   rw[bV (by lia)] at h1
   rw[bV hi,<-tvl] at h2
   exact hTA.at_ _ v t'' h1 h2
  refine q Z _ pss kss tr.reverse _ ak (rev.imp λ_ _ z=>p6.same z ((aJ.refl Ha).new nZ)) pts ⟨cm,by rw[bO];exact tl,λks' x h1 h2=>?_,λk' ks' x x' w' ss' h1 h2 h3 h4 h5=>?_⟩ ((s02.trans sa).new nZ)
  ·rw[bV (by lia),show tr.length-1-ws.length=0 by lia] at h2
   exact trt.fin ks' x h1 h2
  ·have kl':k'<ws.length:=(ae.mp h4).1
   rw[bV (by lia)] at h2 h3
   refine trt.mid (ws.length-1-k') ks' x x' w' ss' (by lia) (by rw[show ws.length-1-(ws.length-1-k')=k' by lia];exact h1) (by rw[show ws.length-1-k'+1=tr.length-1-k' by lia];exact h2) (by rw[show ws.length-1-k'=tr.length-1-(k'+1) by lia];exact h3) (by rw[show ws.length-1-(ws.length-1-k')=k' by lia];exact h4) (by rw[show ws.length-(ws.length-1-k')=k'+1 by lia];exact h5)
theorem wY{K:Fg}{tt:TE}{s0 s1 s2 s3 s4 s5 s7 s8 s9:Option V}{pc Dn Dt:Addr}{c:Bt}{t:List (Bt×Nat)}{m:Nat}{ps:List Nat}{H:Hp}{D:lT}(htt:∀Q:VK,Q (.ref Dt) H->tt [s0,s1,s2,s3,s4,s5,some (.ref pc),s7,s8,s9,some (.ref Dn)] H Q)
  (hDt:H Dt=some (.dT (c5 t))) (nd:(t.map (·.1)).Nodup) (hpc:H pc=some (.tup (cw c))) (ne:c≠[]) (l5:c.length<=5) (hm:(c,m+1)∈t) (all:∀d∈kts c,∃k,(d,k)∈t) (ex:∃d∈kts c,(d,m)∈t) (hDn:H Dn=some (.lst (ps.map λi=>V.int (i:Nat)))) (few:ps.length<=90000)
  (q:∀(i:Nat) (pc':Addr) (H':Hp),i∈mI c->(nB c i,m)∈t->H' pc'=some (.tup (cw (nB c i)))->H' Dn=some (.lst ((ps++[i]).map λi=>V.int (i:Nat)))->(∀b u,b≠Dn->H b=some u->H' b=some u)->D.nx [s0,s1,s2,s3,s4,s5,some (.ref pc'),s7,s8,s9,some (.ref Dn)] H') :
  bt (fZ (rQ K "list" dH (ay 10) (ar (bA (fO K) [] E0 (ar tt (ar (ay 6) aP))) aP))) (bP (bA (gM K) [] E0 (ar (ay 6) (ar (bN (fF K) (ay 10) (vF kH (tC (.int 1)))) aP))) (aQ 6)) D [s0,s1,s2,s3,s4,s5,some (.ref pc),s7,s8,s9,some (.ref Dn)] H:=by
 refine⟨_,rfl,.inl ⟨rfl,_,cq.of hDn⟩,htt _ ⟨_,rfl,.ref Dt,pc,c,t,m,rfl,⟨Dt,rfl,hDt⟩,nd,hpc,ne,l5,hm,all,ex,λi H1 hi him sm1=>?_⟩⟩
 have hDn1:=sm1 _ _ hDn
 refine⟨Dn,_,.int (i:Nat),rfl,rfl,hDn1,bG (by rw[af];lia),?_⟩
 have t2:Tp H1 (aN H1 Dn (.lst ((ps.map λi=>V.int (i:Nat))++[.int (i:Nat)]))):=(Tp.refl H1).lst hDn1
 have hDn2:aN H1 Dn (.lst ((ps.map λi=>V.int (i:Nat))++[.int (i:Nat)])) Dn=some (.lst ((ps++[i]).map λi=>V.int (i:Nat))):=by rw[ak,aB];rfl
 have kp2:∀b u,b≠Dn->H b=some u->aN H1 Dn (.lst ((ps.map λi=>V.int (i:Nat))++[.int (i:Nat)])) b=some u:=λb u nb hb=>by rw[aA nb];exact sm1 _ _ hb
 have hpc2:=t2 _ _ (sm1 _ _ hpc)
 generalize aN H1 Dn (.lst ((ps.map λi=>V.int (i:Nat))++[.int (i:Nat)]))=H2 at hDn2 kp2 hpc2 ⊢
 refine⟨_,rfl,_,rfl,1,rfl,su (v:=.int (i:Nat)) hDn2 ?_ ⟨pc,c,i,rfl,hpc2,l5,hi,λr H3 hr sm3=>q i r H3 hi him hr (sm3 _ _ hDn2) λb u nb hb=>sm3 _ _ (kp2 b u nb hb)⟩⟩
 rw[af,ai,aI,cA,aH,ao (aw _),bj]
 rfl
theorem pP:∀{b:Bt} {ps:List Nat} {i:Nat},dI b ps->i∈mI (iB b ps)->dI b (ps++[i])
 |b,[],i,_,h=>⟨h,trivial⟩
 |b,p::r,i,h,hi=>⟨h.1,pP h.2 hi⟩
theorem xo(b:Bt)(ps:List Nat)(i:Nat):iB b (ps++[i])=nB (iB b ps) i:=by unfold iB;rw[jJ];rfl
theorem CY{K:Fg}{vs:List V}{H:Hp}{Q:VK}{E:XK}(h:mP K vs H Q E):u9 K {nx:=λ_ H'=>Q .non H',rt:=Q} (start tR vs) H:=by
 obtain⟨bp,wp,lt,n,b0,ws,last,dd,rfl,src,n1,n5,wks,fw,dims,ex,q⟩:=h
 have ne:b0≠[]:=λz=>by have:=src.len;rw[z] at this;have:(0:Nat)=n:=this;lia
 refine⟨_,rfl,_,rfl,_,rfl,_,rfl,bp,b0,rfl,src.bp,ne,by rw[src.len];exact n5,λop H1 hop s1=>?_⟩
 rw[src.len] at hop
 refine⟨bp,wp,lt,op,n,b0,aV n none,ws,last,dd,rfl,⟨s1 _ _ src.bp,src.len,?_,src.few⟩,?_,fw,hop,by simp,dims,ex,λr gvs gs bs pss kss ts ss t m H2 h1 h2 h3 h4 h5 h6 h7 h8 h9 s2=>q r gvs gs bs pss kss ts ss t m H2 h1 h2 h3 h4 h5 h6 h7 h8 h9 (s1.trans s2)⟩
 ·obtain⟨wvs,a,b⟩:=src.wks
  exact⟨wvs,s1 _ _ a,b.imp λ_ _ z=>z.tp (Tp.of_same s1)⟩
 ·obtain⟨⟨wvs,a,b⟩,c⟩:=wks
  exact⟨⟨wvs,s1 _ _ a,b.imp λ_ _ z=>z.tp (Tp.of_same s1)⟩,s1 _ _ c⟩
structure EE(ks:List Bt)(t:List (Bt×Nat))(c:Bt)(m:Nat)(ps:List Nat)(d:Bt)(mc:Nat):Prop where
 run:d=iB c ps
 ok:dI c ps
 ink:d∈ks
 num:(d,mc)∈t
 sum:ps.length+mc=m
 vis:∃vis:List Bt,vis.Nodup/\vis.length=ps.length/\∀x∈vis,x∈ks/\∃k,mc<k/\(x,k)∈t
theorem EE.few{ks:List Bt}{t:List (Bt×Nat)}{c d:Bt}{m mc:Nat}{ps:List Nat}(h:EE ks t c m ps d mc)(kf:ks.length<=7776):ps.length<=7776:=by
 obtain⟨vis,nd,vl,hv⟩:=h.vis
 have:=iz nd (zs:=ks) λx hx=>(hv x hx).1
 lia
theorem EE.next{ks:List Bt}{t:List (Bt×Nat)}{c d:Bt}{m mc i:Nat}{ps:List Nat}(h:EE ks t c m ps d (mc+1))(nd:(t.map (·.1)).Nodup)(cl:∀b∈ks,∀c∈kts b,c∈ks)(hi:i∈mI d)(hm:(nB d i,mc)∈t):EE ks t c m (ps++[i]) (nB d i) mc:=by
 obtain⟨vis,vnd,vl,hv⟩:=h.vis
 have hs:=h.sum
 refine⟨by rw[xo,<-h.run],pP h.ok (by rw[<-h.run];exact hi),cl d h.ink _ (aD.mpr ⟨i,hi,rfl⟩),hm,by rw[ai,aI];lia,vis++[d],?_,by rw[ai,ai,vl];rfl,λx hx=>?_⟩
 ·refine cu.mpr ⟨vnd,by simp,λx hx y hy=>?_⟩
  rw[aj.mp hy]
  intro z
  obtain⟨_,k,hk,hx2⟩:=hv x hx
  have z:x=d:=z
  rw[z] at hx2
  have:=tG nd hx2 h.num
  lia
 ·rcases ax.mp hx with z|z
  ·obtain⟨h1,k,hk,h2⟩:=hv x z
   exact⟨h1,k,by lia,h2⟩
  ·rw[aj.mp z]
   exact⟨h.ink,mc+1,cZ _,h.num⟩
theorem EE.zero{ks:List Bt}{t:List (Bt×Nat)}{c:Bt}{m:Nat}(h:c∈ks)(hm:(c,m)∈t):EE ks t c m [] c m:=⟨rfl,trivial,h,hm,by simp,[],df,rfl,λx hx=>by cases hx⟩
structure N7(b:Bt)(ws:List Wk)(pss:List (List Str))(kss:List (List Bt))(m0 i:Nat)(c:Bt)(m:Nat)(gs:List (List Nat))(bs:List Bt):Prop where
 len:gs.length=i
 ln2:bs.length=i
 fst:(bs++[c])[0]?=some b
 ok:∀(k:Nat) ps d,gs[k]?=some ps->bs[k]?=some d->dI d ps
 nxt:∀(k:Nat) ps d d' w ss,gs[k]?=some ps->bs[k]?=some d->(bs++[c])[k+1]?=some d'->ws[k]?=some w->pss[k+1]?=some ss->d'=iZ (iB d ps) w.out ss
 sum:(gs.map (·.length)).sum+m=m0
 mem:∀(k:Nat) d ks,bs[k]?=some d->kss[k]?=some ks->d∈ks
theorem N7.next{b:Bt}{ws:List Wk}{pss:List (List Str)}{kss:List (List Bt)}{m0 i:Nat}{c:Bt}{m mc:Nat}{gs:List (List Nat)}{bs:List Bt}(h:N7 b ws pss kss m0 i c m gs bs){ps:List Nat}{w:Wk}{ss:List Str}(hw:ws[i]?=some w)(hs:pss[i+1]?=some ss)(ok:dI c ps)(sm:ps.length+mc=m)(ck:∀ks,kss[i]?=some ks->c∈ks):N7 b ws pss kss m0 (i+1) (iZ (iB c ps) w.out ss) mc (gs++[ps]) (bs++[c]):=by
 have l1:=h.len
 have l2:=h.ln2
 refine⟨by rw[ai,l1];rfl,by rw[ai,l2];rfl,?_,λk ps' d h1 h2=>?_,λk ps' d d' w' ss' h1 h2 h3 h4 h5=>?_,?_,λk d ks h1 h2=>?_⟩
 ·rw[av (by rw[ai];simp)];exact h.fst
 ·by_cases ck:k<i
  ·rw[av (by lia)] at h1 h2
   exact h.ok k ps' d h1 h2
  ·have ki:k=i:=by have:=(ae.mp h1).1;rw[ai,aI] at this;lia
   subst ki
   rw[ao (by lia),l1,bj] at h1
   rw[ao (by lia),l2,bj] at h2
   cases h1;cases h2;exact ok
 ·by_cases ck:k<i
  ·rw[av (by lia)] at h1 h2
   rw[av (by rw[ai,aI];lia)] at h3
   exact h.nxt k ps' d d' w' ss' h1 h2 h3 h4 h5
  ·have ki:k=i:=by have:=(ae.mp h1).1;rw[ai,aI] at this;lia
   subst ki
   rw[ao (by lia),l1,bj] at h1
   rw[ao (by lia),l2,bj] at h2
   rw[ao (by rw[ai,aI];lia),ai,aI,l2,bj] at h3
   rw[hw] at h4;rw[hs] at h5
   cases h1;cases h2;cases h3;cases h4;cases h5;rfl
 ·rw[aB,gu]
  have:=h.sum
  show _+(ps.length+0)+mc=m0
  lia
 ·by_cases c2:k<i
  ·rw[av (by lia)] at h1
   exact h.mem k d ks h1 h2
  ·have ki:k=i:=by have:=(ae.mp h1).1;rw[ai,aI] at this;lia
   subst ki
   rw[ao (by lia),l2,bj] at h1
   cases h1;exact ck ks h2
theorem BB.but{H H':Hp}{v:V}{ps:List Nat}(h:BB H v ps)(t:Tp H H'):BB H' v ps:=let⟨p,e,hp⟩:=h;⟨p,e,t _ _ hp⟩
theorem yM{K:Fg}{vs:List V}{H:Hp}{Q:VK}{E:XK}(h:kr K vs H Q E):qL K {nx:=λ_ H'=>Q .non H',rt:=Q} (start pZ vs) H:=by
 obtain⟨bp,wp,lt,op,n,b0,ord,ws,last,dd,rfl,src,wks,fw,hop,ol,dims,ex,q⟩:=h
 obtain⟨wvs,hwp,hW⟩:=src.wks
 have wfew:=src.few
 refine⟨_,rfl,_,rfl,wp,lt,ws,last,dd,rfl,wks,fw,λP tvs pss H1 nP hP hT pts s1=>?_⟩
 show lO K _ [some (.ref bp),some (.ref wp),some (.ref lt),some (.ref op),some (.ref P),none,none,none,none,none,none] H1
 have pl:=pts.len
 have wks1:p9 H1 wp lt ws last:=by
  obtain⟨⟨wvs,a,b⟩,c⟩:=wks
  exact⟨⟨wvs,s1 _ _ a,b.imp λ_ _ z=>z.tp (Tp.of_same s1)⟩,s1 _ _ c⟩
 refine⟨_,rfl,_,rfl,_,rfl,_,rfl,bp,wp,lt,op,n,b0,ord,ws,last,dd,rfl,⟨s1 _ _ src.bp,src.len,⟨wvs,s1 _ _ hwp,hW.imp λ_ _ z=>z.tp (Tp.of_same s1)⟩,src.few⟩,wks1,fw,s1 _ _ hop,ol,dims,λT tbs pss' kss ts H2 hT2 hTA pts' tb s2=>?_⟩
 cases pts'.one pts
 show lN K _ [some (.ref bp),some (.ref wp),some (.ref lt),some (.ref op),some (.ref P),some (.ref T),none,none,none,none,none] H2
 have s02:=s1.trans s2
 have exT:=ex pss kss ts pts tb
 have cm:=tb.cm
 have kl:=cm.len
 have tl:=tb.len
 obtain⟨_,ss0,e0,e0',np0,rfl,hnp0⟩:=hT.get (i:=0) (by lia)
 have d0:=dims pss pts ss0 (aC e0')
 have n1:=d0.pos
 have n5:=d0.n5
 refine⟨_,rfl,_,rfl,lD (v:=.ref np0) (cq.of (s2 _ _ hP)) (by decide) e0 ⟨bp,np0,b0,ss0,rfl,s02 _ _ src.bp,s2 _ _ hnp0,by rw[src.len];lia,λp0 H3 hp0 s3=>?_⟩⟩
 show lM K _ [some (.ref bp),some (.ref wp),some (.ref lt),some (.ref op),some (.ref P),some (.ref T),some (.ref p0),none,none,none,none] H3
 refine⟨(by show 0<=sizeLine;decide),λL nL=>?_⟩
 have s24:=s3.new (o:=.lst []) nL
 have hL4:aN H3 L (.lst []) L=some (.lst []):=ak
 have hp4:=(aJ.refl H3).new (o:=.lst []) nL _ _ hp0
 have nLH2:H2 L=none:=s3.free nL
 show lL K _ [some (.ref bp),some (.ref wp),some (.ref lt),some (.ref op),some (.ref P),some (.ref T),some (.ref p0),some (.ref L),none,none,none] _
 generalize aN H3 L (.lst [])=H4 at s24 hL4 hp4 ⊢
 have hk0:kss[0]?=some (kss[0]'(by lia)):=aa _
 have ht0:ts[0]?=some (ts[0]'(by lia)):=aa _
 generalize kss[0]'(by lia)=ks0 at hk0
 generalize ts[0]'(by lia)=t00 at ht0
 have c0k:bq b0 ss0∈ks0:=(cm.fst ks0 ss0 hk0 e0').ent _ (aj.mpr rfl)
 obtain⟨m0,hm0⟩:=exT 0 ks0 t00 hk0 ht0 _ c0k
 have tnd:∀(k:Nat) t,ts[k]?=some t->(t.map (·.1)).Nodup:=λk t h=>by
  have kk:k<ts.length:=(ae.mp h).1
  have hk:kss[k]?=some (kss[k]'(by lia)):=aa _
  by_cases c:k=ws.length
  ·subst c
   obtain⟨t0,sp,_⟩:=tb.fin _ t hk h
   exact sp.nd
  ·have h1:ts[k+1]?=some (ts[k+1]'(by lia)):=aa _
   have h2:ws[k]?=some (ws[k]'(by lia)):=aa _
   have h3:pss[k+1]?=some (pss[k+1]'(by lia)):=aa _
   obtain⟨t0,sp,_⟩:=tb.mid k _ t _ _ _ hk h h1 h2 h3
   exact sp.nd
 have tsub:∀(k:Nat) ks t,kss[k]?=some ks->ts[k]?=some t->∀b m,(b,m)∈t->b∈ks:=λk ks t hk h=>by
  have kk:k<ts.length:=(ae.mp h).1
  by_cases c:k=ws.length
  ·subst c
   obtain⟨t0,sp,_⟩:=tb.fin _ t hk h
   exact sp.sub
  ·have h1:ts[k+1]?=some (ts[k+1]'(by lia)):=aa _
   have h2:ws[k]?=some (ws[k]'(by lia)):=aa _
   have h3:pss[k+1]?=some (pss[k+1]'(by lia)):=aa _
   obtain⟨t0,sp,_⟩:=tb.mid k _ t _ _ _ hk h h1 h2 h3
   exact sp.sub
 refine⟨_,rfl,wp,rfl,⟨_,cE.of (s24 _ _ (s02 _ _ hwp))⟩,kC (xs:=wvs) (λi σ' H'=>∃o8 o9 o10 pc c m gvs gs bs,σ'=[some (.ref bp),some (.ref wp),some (.ref lt),some (.ref op),some (.ref P),some (.ref T),some (.ref pc),some (.ref L),o8,o9,o10]/\H' pc=some (.tup (cw c))/\H' L=some (.lst gvs)/\bo (BB H') gvs gs/\N7 (bq b0 ss0) ws pss kss m0 i c m gs bs/\(∃ks t,kss[i]?=some ks/\ts[i]?=some t/\c∈ks/\(c,m)∈t)/\aJ H2 H')
  ⟨none,none,none,p0,_,m0,[],[],[],rfl,hp4,hL4,bo.nil,⟨rfl,rfl,rfl,(λk ps d h=>by simp at h),(λk ps d d' w ss h=>by simp at h),by simp,(λk d ks h=>by simp at h)⟩,⟨ks0,t00,hk0,ht0,c0k,hm0⟩,s24⟩ ?_ ?_ ?_⟩
 ·rintro i σ' H' _ ⟨_,_,_,_,_,_,_,_,_,_,_,_,_,_,_,s⟩
  exact cE.of (s _ _ (s02 _ _ hwp))
 ·rintro i wv σ' Ha tt hwv ntt ⟨o8,o9,o10,pc,c,m,gvs,gs,bs,rfl,hpc,hLa,hGA,fo,⟨ks,t,hks,hts,ck,cm'⟩,sa⟩
  obtain⟨w,hw,hwa⟩:=hW.of_v hwv
  have il:i<ws.length:=(ae.mp hw).1
  obtain⟨_,ss,es,es',np,rfl,hnp⟩:=hT.get (i:=i+1) (by lia)
  have hks':kss[i+1]?=some (kss[i+1]'(by lia)):=aa _
  have hts':ts[i+1]?=some (ts[i+1]'(by lia)):=aa _
  generalize kss[i+1]'(by lia)=ks' at hks'
  generalize ts[i+1]'(by lia)=t' at hts'
  obtain⟨t0,sp,st0⟩:=tb.mid i ks t t' w ss hks hts hts' hw es'
  obtain⟨ssk,ebk,dk,tk⟩:=cm.turn pl hks
  have tn:=tnd i t hts
  have tn':=tnd (i+1) t' hts'
  obtain⟨tv,_,etv,e2,⟨Dt,rfl,hDt⟩⟩:=hTA.get (i:=i) (by lia)
  rw[hts] at e2;cases e2
  have hDt:H2 Dt=some (.dT (c5 t)):=hDt
  obtain⟨tv',_,etv',e2,⟨Dt',rfl,hDt'⟩⟩:=hTA.get (i:=i+1) (by lia)
  rw[hts'] at e2;cases e2
  have hDt':H2 Dt'=some (.dT (c5 t')):=hDt'
  refine⟨tt,_,rfl,cE.of ak,rfl,_,_,rfl,_,_,rfl,rfl,?_⟩
  have sb:aJ Ha (aN Ha tt (.tup [.int (i:Nat),wv])):=(aJ.refl Ha).new ntt
  show lK K _ [some (.ref bp),some (.ref wp),some (.ref lt),some (.ref op),some (.ref P),some (.ref T),some (.ref pc),some (.ref L),some (.int (i:Nat)),some wv,o10] _
  generalize aN Ha tt (.tup [.int (i:Nat),wv])=Hb at sb ⊢
  refine⟨(by show 0<=sizeLine;decide),λDn nDn=>?_⟩
  have hDn:aN Hb Dn (.lst []) Dn=some (.lst (([]:List Nat).map λi=>V.int (i:Nat))):=ak
  have sc:aJ Hb (aN Hb Dn (.lst [])):=(aJ.refl Hb).new nDn
  have s2b:=sa.trans sb
  have nDnH:H2 Dn=none:=s2b.free nDn
  have LDn:L≠Dn:=aL (sb _ _ hLa) nDn
  have hLc:=sc _ _ (sb _ _ hLa)
  have hpcc:=sc _ _ (sb _ _ hpc)
  have s2c:=s2b.trans sc
  have hGc:=hGA.imp λ_ _ z=>BB.but z (Tp.of_same (sb.trans sc))
  show lJ K _ [some (.ref bp),some (.ref wp),some (.ref lt),some (.ref op),some (.ref P),some (.ref T),some (.ref pc),some (.ref L),some (.int (i:Nat)),some wv,some (.ref Dn)] _
  generalize aN Hb Dn (.lst [])=Hc at hDn sc hLc hpcc s2c hGc ⊢
  have kf:=tk.few
  have rd:∀{H':Hp},aJ H2 H'->H' T=some (.lst tbs)/\H' Dt=some (.dT (c5 t))/\H' Dt'=some (.dT (c5 t')):=λs=>⟨s _ _ hT2,s _ _ hDt,s _ _ hDt'⟩
  refine⟨λmm σ' H'=>∃pd d ps,σ'=[some (.ref bp),some (.ref wp),some (.ref lt),some (.ref op),some (.ref P),some (.ref T),some (.ref pd),some (.ref L),some (.int (i:Nat)),some wv,some (.ref Dn)]/\H' pd=some (.tup (cw d))/\EE ks t c m ps d mm/\H' Dn=some (.lst (ps.map λi=>V.int (i:Nat)))/\H' L=some (.lst gvs)/\bo (BB H') gvs gs/\aJ H2 H',⟨m,pc,c,[],rfl,hpcc,EE.zero ck cm',hDn,hLc,hGc,s2c⟩,?_⟩
  rintro mc σ' Hd ⟨pd,d,ps,rfl,hpd,gr,hDnd,hLd,hGd,sd⟩
  obtain⟨r1,r2,r3⟩:=rd sd
  have dl:=(tk.inn d gr.ink).len
  have dne:d≠[]:=λz=>by rw[z] at dl;have:(0:Nat)=n:=dl;lia
  have T0d:Tp H Hd:=(Tp.of_same s02).trans (Tp.of_same sd)
  refine⟨_,rfl,_,rfl,lD (v:=.ref Dt) (cq.of r1) (cz _) (by rw[aU];exact etv) ⟨_,rfl,Dt,_,rfl,oj r2 hpd (fS tn gr.num),?_⟩⟩
  refine⟨_,rfl,_,rfl,.inr (.inl ⟨_,_,rfl,rfl,lD (v:=.ref Dt') (cq.of r1) (by lia) (by rw[show((i:Int)+1).toNat=i+1 by lia];exact etv') ⟨Dt',rfl,.inr ⟨_,.inl r3⟩,?_⟩⟩)⟩
  have hPd:Hd P=some (.lst tvs):=sd _ _ (s2 _ _ hP)
  have hnpd:Hd np=some (.tup (ss.map V.str)):=sd _ _ (s2 _ _ hnp)
  have hwd:Ge Hd wv w:=hwa.tp T0d
  refine⟨_,rfl,_,rfl,_,rfl,_,rfl,.inr (.inl ⟨_,_,rfl,rfl,lD (v:=.ref np) (cq.of hPd) (by lia) (by rw[show((i:Int)+1).toNat=i+1 by lia];exact es) ⟨pd,np,wv,d,w,ss,rfl,hpd,hwd,hnpd,dne,by lia,λr He hr se=>⟨_,oj (se _ _ r3) hr rfl,?_⟩⟩⟩)⟩
  have fl:Ir (.int (mc:Nat)) ((cW (c5 t') (cK (iZ d w.out ss))).getD .non)=true:=by
   rcases Classical.em (∃m,(iZ d w.out ss,m)∈t') with⟨m,hm⟩|z
   ·rw[fS tn' hm];rfl
   ·rw[q0 λm y=>z ⟨m,y⟩];rfl
  refine .inl ⟨fl,_,rfl,mz (λnq=>?_) (λyq=>?_)⟩
  ·-- a keep more
   obtain⟨mm,rfl,hex⟩:∃mm,mc=mm+1/\∃x∈kts d,(x,mm)∈t:=by
    rcases sp.s3 d mc gr.num with z|⟨x,hx,mm,hm,e⟩
    ·have:=((st0 d mc).mp z).2
     rw[fS tn' this] at nq
     exact absurd rfl nq
    ·exact⟨mm,e,x,hx,hm⟩
   have sde:=sd.trans se
   obtain⟨q1,q2,q3⟩:=rd sde
   refine⟨λσ' H'=>∃m',m'<mm+1/\∃pd d ps,σ'=[some (.ref bp),some (.ref wp),some (.ref lt),some (.ref op),some (.ref P),some (.ref T),some (.ref pd),some (.ref L),some (.int (i:Nat)),some wv,some (.ref Dn)]/\H' pd=some (.tup (cw d))/\EE ks t c m ps d m'/\H' Dn=some (.lst (ps.map λi=>V.int (i:Nat)))/\H' L=some (.lst gvs)/\bo (BB H') gvs gs/\aJ H2 H',λ_ _ z=>z,?_⟩
   refine wY (λQ' qq=>⟨_,rfl,_,rfl,lD (v:=.ref Dt) (cq.of q1) (cz _) (by rw[aU];exact etv) qq⟩) q2 tn (se _ _ hpd) dne (by lia) gr.num (λx hx=>exT i ks t hks hts x (tk.cl d gr.ink x hx)) hex (se _ _ hDnd) (by have:=gr.few kf;lia) λj pc' H' hj hjm hpc' hDn' kp=>⟨mm,cZ _,pc',nB d j,ps++[j],rfl,hpc',gr.next tn tk.cl hj hjm,hDn',kp _ _ LDn (se _ _ hLd),hGd.imp λ_ _ z=>?_,λb u hb=>?_⟩
   ·obtain⟨p,e,hp⟩:=z
    have hp':=se _ _ hp
    exact⟨p,e,kp _ _ (λy=>by rw[y,se _ _ hDnd] at hp';cases hp') hp'⟩
   ·exact kp b u (λy=>by rw[y,nDnH] at hb;cases hb) (sde _ _ hb)
  ·-- the group is done
   have hmem:(iZ d w.out ss,mc)∈t':=by
    rcases Classical.em (∃m,(iZ d w.out ss,m)∈t') with⟨m,hm⟩|z
    ·rw[fS tn' hm] at yq
     have yq:V.int (mc:Nat)=V.int (m:Nat):=yq
     injection yq with yq
     have:mc=m:=by lia
     rw[this];exact hm
    ·rw[q0 λm y=>z ⟨m,y⟩] at yq;cases yq
   have ck':iZ d w.out ss∈ks':=tsub (i+1) ks' t' hks' hts' _ _ hmem
   have sde:=sd.trans se
   show nh K _ [some (.ref bp),some (.ref wp),some (.ref lt),some (.ref op),some (.ref P),some (.ref T),some (.ref pd),some (.ref L),some (.int (i:Nat)),some wv,some (.ref Dn)] He
   refine⟨_,rfl,.inl ⟨rfl,_,cq.of (se _ _ hLd)⟩,_,rfl,Dn,_,rfl,.inl ⟨cq.of (se _ _ hDnd),λg ng=>?_⟩⟩
   have sf:aJ He (aN He g (.tup (ps.map λi=>V.int (i:Nat)))):=(aJ.refl He).new ng
   have hg:aN He g (.tup (ps.map λi=>V.int (i:Nat))) g=some (.tup (ps.map λi=>V.int (i:Nat))):=ak
   generalize aN He g (.tup (ps.map λi=>V.int (i:Nat)))=Hf at sf hg ⊢
   have hLf:=sf _ _ (se _ _ hLd)
   refine⟨L,gvs,.ref g,rfl,rfl,hLf,bG (by rw[hGd.len,fo.len];lia),?_⟩
   have tg:Tp Hf (aN Hf L (.lst (gvs++[.ref g]))):=(Tp.refl Hf).lst hLf
   have sg:aJ H2 (aN Hf L (.lst (gvs++[.ref g]))):=cO (sde.trans sf) nLH2
   have hLg:aN Hf L (.lst (gvs++[.ref g])) L=some (.lst (gvs++[.ref g])):=ak
   have T0f:Tp Hd (aN Hf L (.lst (gvs++[.ref g]))):=(Tp.of_same (se.trans sf)).trans tg
   have hGg:=(hGd.imp λ_ _ z=>BB.but z T0f).snoc (v:=.ref g) (r:=ps) ⟨g,rfl,tg _ _ hg⟩
   have hpdg:=T0f _ _ hpd
   have hPg:aN Hf L (.lst (gvs++[.ref g])) P=some (.lst tvs):=sg _ _ (s2 _ _ hP)
   show m9 K _ [some (.ref bp),some (.ref wp),some (.ref lt),some (.ref op),some (.ref P),some (.ref T),some (.ref pd),some (.ref L),some (.int (i:Nat)),some wv,some (.ref Dn)] _
   generalize aN Hf L (.lst (gvs++[.ref g]))=Hg at sg hLg T0f hGg hpdg hPg ⊢
   refine⟨_,rfl,_,rfl,_,rfl,_,rfl,.inr (.inl ⟨_,_,rfl,rfl,lD (v:=.ref np) (cq.of hPg) (by lia) (by rw[show((i:Int)+1).toNat=i+1 by lia];exact es) ⟨pd,np,wv,d,w,ss,rfl,hpdg,hwd.tp T0f,T0f _ _ hnpd,dne,by lia,λr2 Hh hr2 sh=>?_⟩⟩)⟩
   have fo':=fo.next (mc:=mc) hw es' gr.ok gr.sum (λks2 h=>by rw[hks] at h;cases h;exact ck)
   rw[<-gr.run] at fo'
   exact⟨_,_,_,r2,iZ d w.out ss,mc,gvs++[.ref g],gs++[ps],bs++[c],rfl,hr2,sh _ _ hLg,hGg.imp λ_ _ z=>BB.but z (Tp.of_same sh),fo',⟨ks',t',hks',hts',ck',hmem⟩,sg.trans sh⟩
 ·rintro σ' Ha ⟨o8,o9,o10,pc,c,m,gvs,gs,bs,rfl,hpc,hLa,hGA,fo,⟨ks,t,hks,hts,ck,cm'⟩,sa⟩
  rw[hW.len] at fo hks hts
  obtain⟨t0,sp,st0⟩:=tb.fin ks t hks hts
  obtain⟨ssk,ebk,dk,tk⟩:=cm.turn pl hks
  have tn:=tnd _ t hts
  obtain⟨tv,_,etv,e2,⟨Dt,rfl,hDt⟩⟩:=hTA.get (i:=ws.length) (by lia)
  rw[hts] at e2;cases e2
  have hDt:H2 Dt=some (.dT (c5 t)):=hDt
  have tbl:tbs.length=ws.length+1:=by rw[hTA.len];exact tl
  have etv':tbs[tbs.length-1]?=some (.ref Dt):=by rw[tbl,cA];exact etv
  have kf:=tk.few
  show m7 K _ [some (.ref bp),some (.ref wp),some (.ref lt),some (.ref op),some (.ref P),some (.ref T),some (.ref pc),some (.ref L),o8,o9,o10] Ha
  refine⟨(by show 0<=sizeLine;decide),λDn nDn=>?_⟩
  have hDn:aN Ha Dn (.lst []) Dn=some (.lst (([]:List Nat).map λi=>V.int (i:Nat))):=ak
  have sc:aJ Ha (aN Ha Dn (.lst [])):=(aJ.refl Ha).new nDn
  have nDnH:H2 Dn=none:=sa.free nDn
  have LDn:L≠Dn:=aL hLa nDn
  have s2c:=sa.trans sc
  have hGc:=hGA.imp λ_ _ z=>BB.but z (Tp.of_same sc)
  show m5 K _ [some (.ref bp),some (.ref wp),some (.ref lt),some (.ref op),some (.ref P),some (.ref T),some (.ref pc),some (.ref L),o8,o9,some (.ref Dn)] _
  generalize aN Ha Dn (.lst [])=Hc at hDn sc s2c hGc ⊢
  refine⟨λmm σ' H'=>∃pd d ps,σ'=[some (.ref bp),some (.ref wp),some (.ref lt),some (.ref op),some (.ref P),some (.ref T),some (.ref pd),some (.ref L),o8,o9,some (.ref Dn)]/\H' pd=some (.tup (cw d))/\EE ks t c m ps d mm/\H' Dn=some (.lst (ps.map λi=>V.int (i:Nat)))/\H' L=some (.lst gvs)/\bo (BB H') gvs gs/\aJ H2 H',⟨m,pc,c,[],rfl,sc _ _ hpc,EE.zero ck cm',hDn,sc _ _ hLa,hGc,s2c⟩,?_⟩
  rintro mc σ' Hd ⟨pd,d,ps,rfl,hpd,gr,hDnd,hLd,hGd,sd⟩
  have r1:=sd _ _ hT2
  have r2:=sd _ _ hDt
  have dl:=(tk.inn d gr.ink).len
  have dne:d≠[]:=λz=>by rw[z] at dl;have:(0:Nat)=n:=dl;lia
  refine⟨_,rfl,1,rfl,su (v:=.ref Dt) r1 etv' ⟨_,rfl,Dt,_,rfl,oj r2 hpd (fS tn gr.num),.inl ⟨rfl,_,rfl,mz (λnq=>?_) (λyq=>?_)⟩⟩⟩
  ·obtain⟨mm,rfl,hex⟩:∃mm,mc=mm+1/\∃x∈kts d,(x,mm)∈t:=by
    rcases sp.s3 d mc gr.num with z|⟨x,hx,mm,hm,e⟩
    ·have:=((st0 d mc).mp z).2.2
     rw[this] at nq
     exact absurd rfl nq
    ·exact⟨mm,e,x,hx,hm⟩
   refine⟨λσ' H'=>∃m',m'<mm+1/\∃pd d ps,σ'=[some (.ref bp),some (.ref wp),some (.ref lt),some (.ref op),some (.ref P),some (.ref T),some (.ref pd),some (.ref L),o8,o9,some (.ref Dn)]/\H' pd=some (.tup (cw d))/\EE ks t c m ps d m'/\H' Dn=some (.lst (ps.map λi=>V.int (i:Nat)))/\H' L=some (.lst gvs)/\bo (BB H') gvs gs/\aJ H2 H',λ_ _ z=>z,?_⟩
   refine wY (λQ' qq=>⟨_,rfl,1,rfl,su (v:=.ref Dt) r1 etv' qq⟩) r2 tn hpd dne (by lia) gr.num (λx hx=>exT _ ks t hks hts x (tk.cl d gr.ink x hx)) hex hDnd (by have:=gr.few kf;lia) λj pc' H' hj hjm hpc' hDn' kp=>⟨mm,cZ _,pc',nB d j,ps++[j],rfl,hpc',gr.next tn tk.cl hj hjm,hDn',kp _ _ LDn hLd,hGd.imp λ_ _ z=>?_,λb u hb=>?_⟩
   ·obtain⟨p,e,hp⟩:=z
    exact⟨p,e,kp _ _ (λy=>by rw[y,hDnd] at hp;cases hp) hp⟩
   ·exact kp b u (λy=>by rw[y,nDnH] at hb;cases hb) (sd _ _ hb)
  ·have mc0:mc=0:=by
    have yq:V.int (mc:Nat)=V.int 0:=yq
    injection yq with yq
    lia
   subst mc0
   have wk:Bz ord d=true:=by
    rcases sp.s3 d 0 gr.num with z|⟨x,hx,mm,hm,e⟩
    ·exact((st0 d 0).mp z).2.1
    ·exact absurd e (by lia)
   show m4 K _ [some (.ref bp),some (.ref wp),some (.ref lt),some (.ref op),some (.ref P),some (.ref T),some (.ref pd),some (.ref L),o8,o9,some (.ref Dn)] Hd
   refine⟨_,rfl,L,_,rfl,.inl ⟨cq.of hLd,λg1 ng1=>?_⟩⟩
   have se1:aJ Hd (aN Hd g1 (.tup gvs)):=(aJ.refl Hd).new ng1
   have hg1:aN Hd g1 (.tup gvs) g1=some (.tup gvs):=ak
   generalize aN Hd g1 (.tup gvs)=He at se1 hg1 ⊢
   refine⟨_,rfl,Dn,_,rfl,.inl ⟨cq.of (se1 _ _ hDnd),λg ng=>⟨(by show 1<=sizeLine;decide),λu nu=>?_⟩⟩⟩
   have se2:aJ He (aN (aN He g (.tup (ps.map λi=>V.int (i:Nat)))) u (.tup [.ref g])):=((aJ.refl He).new ng).new nu
   have hg:aN (aN He g (.tup (ps.map λi=>V.int (i:Nat)))) u (.tup [.ref g]) g=some (.tup (ps.map λi=>V.int (i:Nat))):=(aJ.refl _).new nu _ _ ak
   have hu:aN (aN He g (.tup (ps.map λi=>V.int (i:Nat)))) u (.tup [.ref g]) u=some (.tup [.ref g]):=ak
   generalize aN (aN He g (.tup (ps.map λi=>V.int (i:Nat)))) u (.tup [.ref g])=Hf at se2 hg hu ⊢
   have sdf:=se1.trans se2
   have fin:∀(z:Addr) (Hz:Hp),Hz z=some (.tup (gvs++[.ref g]))->aJ Hf Hz->Q (.ref z) Hz:=λz Hz hz sz=>by
    have l1:=fo.len
    have l2:=fo.ln2
    refine q z (gvs++[.ref g]) (gs++[ps]) (bs++[c]) pss kss ts ss0 t00 m0 Hz hz ((hGd.imp λ_ _ y=>BB.but y (Tp.of_same (sdf.trans sz))).snoc ⟨g,rfl,sz _ _ hg⟩) pts tb e0' ht0 hm0 ⟨by rw[ai,l1];rfl,by rw[ai,l2];rfl,fo.fst,λk ps' d' h1 h2=>?_,λk ps' d' d'' w' ss' h1 h2 h3 h4 h5=>?_,λps' d' h1 h2=>?_,λk d' ks2 h1 h2=>?_⟩ ?_ ((s02.trans sd).trans (sdf.trans sz))
    ·by_cases ck2:k<ws.length
     ·rw[av (by lia)] at h1 h2
      exact fo.ok k ps' d' h1 h2
     ·have ki:k=ws.length:=by have:=(ae.mp h1).1;rw[ai,aI] at this;lia
      subst ki
      rw[ao (by lia),l1,bj] at h1
      rw[ao (by lia),l2,bj] at h2
      cases h1;cases h2;exact gr.ok
    ·have kl2:k<ws.length:=(ae.mp h4).1
     rw[av (by lia)] at h1 h2
     exact fo.nxt k ps' d' d'' w' ss' h1 h2 h3 h4 h5
    ·rw[ao (by lia),l1,bj] at h1
     rw[ao (by lia),l2,bj] at h2
     cases h1;cases h2
     rw[<-gr.run];exact wk
    ·by_cases ck2:k<ws.length
     ·rw[av (by lia)] at h1
      exact fo.mem k d' ks2 h1 h2
     ·have ki:k=ws.length:=by have:=(ae.mp h1).1;rw[ai,aI] at this;lia
      subst ki
      rw[ao (by lia),l2,bj] at h1
      rw[hks] at h2
      cases h1;cases h2;exact ck
    ·rw[aB,gu]
     have:=fo.sum
     have:=gr.sum
     show _+(ps.length+0)=m0
     lia
   have g1f:=se2 _ _ hg1
   by_cases ge:gvs=[]
   ·subst ge
    exact .inl ⟨g1,u,_,rfl,rfl,cE.of g1f,cE.of hu,fin u Hf hu (aJ.refl Hf)⟩
   ·refine .inr (.inr (.inr (.inr ⟨g1,u,_,_,rfl,rfl,cE.of g1f,cE.of hu,ge,bW (bG (by rw[hGd.len,fo.len];show _+1<=_;lia)),(λz=>by cases z),λ_ z nz=>fin z _ ak ((aJ.refl Hf).new nz)⟩)))
abbrev CT:List Nat:=[1,2,3,2,3,3,2,3,4,4,4,4,1,2,3,5]
theorem Ia{K:Fg}{vs:List V}{H:Hp}{Q:VK}{E:XK}(h:rM K vs H Q E):Bs K {nx:=λ_ H'=>Q .non H',rt:=Q} (start zw vs) H:=by
 obtain⟨st,k,rfl,S,hk,q⟩:=h
 refine⟨(by show 16<=sizeLine;decide),λl nl=>?_⟩
 have S1:=S.new (o:=.lst (CT.map λz:Nat=>V.int (z:Nat))) nl
 have s1:aJ H (aN H l (.lst (CT.map λz:Nat=>V.int (z:Nat)))):=(aJ.refl H).new nl
 have hl:aN H l (.lst (CT.map λz:Nat=>V.int (z:Nat))) l=some (.lst (CT.map λz:Nat=>V.int (z:Nat))):=ak
 have nst:l≠st:=λz=>by obtain⟨_,e⟩:=S.lst;rw[z,e] at nl;cases nl
 refine⟨_,rfl,st,16,k,rfl,S1,by lia,by decide,by decide,λd H2 d0 d1 S2 B2=>?_⟩
 have h2:=B2 _ _ nst hl
 have dl:d.toNat<CT.length:=by show d.toNat<16;lia
 have ok:∀z∈CT,1<=z/\z<=5:=by decide
 obtain⟨z1,z5⟩:=ok _ (cf dl)
 exact lD (v:=.int ((CT[d.toNat]'dl:Nat):Int)) (cq.of h2) d0 (by rw[aH,aa dl];rfl) (q _ H2 z1 z5 S2 λb u n e=>B2 b u n (s1 b u e))
theorem LJ{K:Fg}{H:Hp}{t c:Addr}{x:V}{ys:List V}{Q:VK}(ht:H t=some (.tup [x]))(hc:H c=some (.tup ys))(hl:ys.length<=1000)(q:∀(p:Addr) (H':Hp),H' p=some (.tup (x::ys))->aJ H H'->Q (.ref p) H'):dq K (.ref t) (.ref c) H Q:=by
 refine .inr (.inr (.inr ⟨t,c,[x],ys,rfl,rfl,cE.of ht,cE.of hc,by simp,bW (bG (by rw[aI];lia)),λz=>?_,λ_ p np=>q p _ ak ((aJ.refl H).new np)⟩))
 subst z
 exact q t H ht (aJ.refl H)
theorem JD{K:Fg}{H:Hp}{a:Addr}{xs:List V}{Q:VK}(ha:H a=some (.tup xs))(ne:xs≠[])(q:∀(p:Addr),H p=none->Q (.ref p) (aN H p (.tup xs.dropLast))):FH K (.ref a) none (some (-1)) H Q:=by
 refine .inr ⟨a,xs,rfl,cE.of ha,?_,λp np=>?_⟩
 ·rintro⟨_,z⟩
  have hl:0<xs.length:=dN.mpr ne
  have e:HT.sIx xs.length xs.length (some (-1))=xs.length-1:=by
   show(if(-1:Int)<0 then((-1:Int)+(xs.length:Int)).toNat else min (-1:Int).toNat xs.length)=xs.length-1
   rw[if_pos (by decide)];lia
  lia
 ·rw[Gm ne];exact q p np
theorem mE(b:Bt):(cw b).dropLast=cw b.dropLast:=by unfold cw;rw[List.map_dropLast]
theorem yF{b:Bt}(h:b≠[]):cw b≠[]:=λz=>h (List.map_eq_nil_iff.mp z)
theorem wG{b:Bt}(y:Str)(h:b≠[]):jj b y=some y::(b.map (Bg.blank y)).dropLast:=by
 obtain⟨d,o,rfl⟩:∃d o,b=d++[o]:=⟨b.dropLast,b.getLast h,(cD h).symm⟩
 unfold jj qu
 simp[List.take_append,dS]
theorem v8{K:Fg}{vs:List V}{H:Hp}{Q:VK}{E:XK}(h:hU K vs H Q E):oI K {nx:=λ_ H'=>Q .non H',rt:=Q} (start j8 vs) H:=by
 obtain⟨bp,B,x,rfl,hB,ne,l10,q⟩:=h
 refine⟨_,rfl,rfl,_,rfl,?_⟩
 rw[qm,xg]
 cases x with
 |none=>exact nS ⟨_,rfl,q bp H hB (aJ.refl H)⟩
 |some y=>
  refine jo ?_
  show lG K _ [some (.ref bp),some (.str y)] H
  refine⟨_,rfl,(by show 1<=sizeLine;decide),λt nt=>?_⟩
  have s1:aJ H (aN H t (.tup [.str y])):=(aJ.refl H).new nt
  have ht:aN H t (.tup [.str y]) t=some (.tup [.str y]):=ak
  generalize aN H t (.tup [.str y])=H1 at s1 ht ⊢
  have hB1:=s1 _ _ hB
  refine .inr ⟨_,rfl,bp,rfl,⟨_,cE.of hB1⟩,λD nD=>?_⟩
  refine iR (xs:=cw B) (λi σ' H'=>∃o,σ'=[some (.ref bp),some (.str y),o]/\H' D=some (.lst (cw ((B.take i).map (Bg.blank y))))/\aJ H1 H') ⟨none,rfl,ak,(aJ.refl H1).new nD⟩ ?_ ?_ ?_
  ·rintro i σ' H' _ ⟨_,_,_,s⟩;exact cE.of (s _ _ hB1)
  ·rintro i v σ' H2 hv ⟨o,rfl,hD,s⟩
   obtain⟨oy,ey,rfl⟩:=mF hv
   have li:(cw ((B.take i).map (Bg.blank y))).length<=1000:=by rw[cC,af,aS];lia
   refine fB ⟨_,rfl,(by show 2<=sizeLine;decide),λl nl=>?_⟩
   have s3:aJ H2 (aN H2 l (.lst [oV oy,.non])):=(aJ.refl H2).new nl
   have hl:aN H2 l (.lst [oV oy,.non]) l=some (.lst [oV oy,.non]):=ak
   generalize aN H2 l (.lst [oV oy,.non])=H3 at s3 hl ⊢
   have fin:∀c:V,c=oV (Bg.blank y oy)->∃ys,H3 D=some (.lst ys)/\ys.length<sizeLine/\∃o1,[some (V.ref bp),some (V.str y),some (oV oy)]=[some (.ref bp),some (.str y),o1]/\aN H3 D (.lst (ys++[c])) D=some (.lst (cw ((B.take (i+1)).map (Bg.blank y))))/\aJ H1 (aN H3 D (.lst (ys++[c]))):=by
    rintro c rfl
    refine⟨_,s3 _ _ hD,bG (by lia),_,rfl,?_,cO (s.trans s3) nD⟩
    rw[ak,fh ey,aB];unfold cw;rw[aB];rfl
   refine⟨_,rfl,_,rfl,.inl ⟨C9 oy (some y),.inr ⟨_,rfl,?_⟩⟩⟩
   by_cases c:oy=some y
   ·rw[decide_eq_true (show oV oy=V.str y by rw[c];rfl)]
    exact lD (v:=.non) (cq.of hl) (by decide) rfl (fin _ (by unfold Bg.blank;rw[if_pos c];rfl))
   ·rw[decide_eq_false (show ¬oV oy=V.str y from λz=>c (yD (b:=some y) z))]
    exact lD (v:=oV oy) (cq.of hl) (by decide) rfl (fin _ (by unfold Bg.blank;rw[if_neg c]))
  ·rintro σ' H2 ⟨o,_,hD,s⟩
   rw[cC,a7] at hD
   refine⟨D,_,rfl,.inl ⟨cq.of hD,λP nP=>?_⟩⟩
   have s3:aJ H1 (aN H2 P (.tup (cw (B.map (Bg.blank y))))):=s.new nP
   have hP:aN H2 P (.tup (cw (B.map (Bg.blank y)))) P=some (.tup (cw (B.map (Bg.blank y)))):=ak
   generalize aN H2 P (.tup (cw (B.map (Bg.blank y))))=H3 at s3 hP ⊢
   refine⟨1,rfl,_,rfl,JD hP (yF (by simpa using ne)) λp np=>?_⟩
   have s4:aJ H3 (aN H3 p (.tup (cw (B.map (Bg.blank y))).dropLast)):=(aJ.refl H3).new np
   refine LJ (s4 _ _ (s3 _ _ ht)) ak (by rw[mE,cC,cY,af];lia) λr H' hr s5=>q r H' ?_ (((s1.trans s3).trans s4).trans s5)
   rw[hr,mE]
   show some (HO.tup (cw (some y::(B.map (Bg.blank y)).dropLast)))=_
   rw[<-wG y ne];rfl
structure Oz(K:Fg)(H:Hp)(st lf fd:Addr)(ss:List Str)(n kk:Nat)(H':Hp)(m:Nat)(ls fs:Bt):Prop where
 hlf:H' lf=some (.lst (cw ls))
 hfd:H' fd=some (.lst (cw fs))
 lm:ls.length=m
 ll:ls.length+fs.length=n
 has:∀z∈ss,some z∈ls\/some z∈fs
 S:∃k',ma K H' st k'/\k'<=kk+fs.length
 B:iY st H H'
theorem KL{K:Fg}{vs:List V}{H:Hp}{Q:VK}{E:XK}(h:uY K vs H Q E):Ei K {nx:=λ_ H'=>Q .non H',rt:=Q} (start xT vs) H:=by
 obtain⟨st,nd,nm,n,k,ss,ys,rfl,S,hk,nst,hnm,y20,hnd,sn,n5,q⟩:=h
 refine⟨_,rfl,nd,_,rfl,.inr (cE.of hnd),λl1 nl1=>?_⟩
 have S1:=S.new (o:=.lst (ss.map V.str)) nl1
 have s1:aJ H (aN H l1 (.lst (ss.map V.str))):=(aJ.refl H).new nl1
 have hl1:aN H l1 (.lst (ss.map V.str)) l1=some (.lst (ss.map V.str)):=ak
 have n1st:l1≠st:=λz=>by obtain⟨_,e⟩:=S.lst;rw[z,e] at nl1;cases nl1
 generalize aN H l1 (.lst (ss.map V.str))=H1 at S1 s1 hl1 ⊢
 have hnd1:=s1 _ _ hnd
 have hnm1:=s1 _ _ hnm
 refine⟨_,rfl,_,rfl,_,_,rfl,.inr ⟨_,cE.of hnd1,rfl⟩,_,_,rfl,rfl,?_⟩
 rw[af]
 refine⟨_,rfl,by lia,by lia,λD nD=>?_⟩
 have nDst:D≠st:=λz=>by obtain⟨_,e⟩:=S1.lst;rw[z,e] at nD;cases nD
 have nD1:D≠l1:=λz=>by rw[z,hl1] at nD;cases nD
 refine pF (λj σ' H'=>∃(us:Bt) (o:Option V),σ'=[some (.ref st),some (.int (n:Nat)),some (.ref nd),some (.ref nm),none,none,o]/\H' D=some (.lst (cw us))/\us.length=j/\ma K H' st (k+j)/\iY st H1 H') ⟨[],none,rfl,ak,rfl,S1.new nD,(iY.refl st H1).new nD⟩ ?_ ?_
 ·rintro j σ' H2 hj ⟨us,o,rfl,hD,ul,S2,B2⟩
  have hj':j<n-ss.length:=by have:j<((n:Int)-(ss.length:Int)).toNat:=hj;lia
  refine fB ⟨_,rfl,_,rfl,st,nm,k+j,ys,rfl,S2,by lia,nst,B2 _ _ nst hnm1,y20,λm H3 _ S3 B3=>?_⟩
  have hD3:=B3 _ _ nDst hD
  refine⟨_,hD3,bG (by rw[cC];lia),us++[m],_,rfl,?_,by rw[ai,ul];rfl,S3.mono .upd_at hD3 (Ne.symm nDst),λb u nb e=>?_⟩
  ·rw[ak,qm];unfold cw;rw[aB];rfl
  ·rw[aA (aL e nD)];exact B3 b u nb (B2 b u nb e)
 ·rintro σ' H2 ⟨us,o,_,hD,ul,S2,B2⟩
  have ul':us.length=n-ss.length:=by have:us.length=((n:Int)-(ss.length:Int)).toNat:=ul;lia
  have S2:ma K H2 st (k+us.length):=by rw[ul];exact S2
  have hl2:=B2 _ _ n1st hl1
  have eo:ss.map V.str++cw us=cw (ss.map some++us):=by rw[rP];unfold cw;rw[aB]
  refine .inr (.inr (.inl ⟨l1,D,_,_,rfl,rfl,hl2,hD,bW (bG (by rw[af,cC];lia)),λlf nlf=>?_⟩))
  rw[eo]
  have S3:=S2.new (o:=.lst (cw (ss.map some++us))) nlf
  have B20:iY st H H2:=λb u nb e=>B2 b u nb (s1 b u e)
  have B3:iY st H (aN H2 lf (.lst (cw (ss.map some++us)))):=B20.new nlf
  have hlf:aN H2 lf (.lst (cw (ss.map some++us))) lf=some (.lst (cw (ss.map some++us))):=ak
  have nlfst:lf≠st:=λz=>by obtain⟨_,e⟩:=S2.lst;rw[z,e] at nlf;cases nlf
  have Hlf:H lf=none:=by
   cases ee:H lf with
   |none=>rfl
   |some u=>rw[B2 lf u nlfst (s1 lf u ee)] at nlf;cases nlf
  show xw K _ [some (.ref st),some (.int (n:Nat)),some (.ref nd),some (.ref nm),some (.ref lf),none] _
  generalize aN H2 lf (.lst (cw (ss.map some++us)))=H3 at S3 B3 hlf ⊢
  refine⟨(by show 0<=sizeLine;decide),λfd nfd=>?_⟩
  have S4:=S3.new (o:=.lst []) nfd
  have B4:iY st H (aN H3 fd (.lst [])):=B3.new nfd
  have hfd:aN H3 fd (.lst []) fd=some (.lst []):=ak
  have hlf4:aN H3 fd (.lst []) lf=some (.lst (cw (ss.map some++us))):=by rw[aA (aL hlf nfd)];exact hlf
  have nfdst:fd≠st:=λz=>by obtain⟨_,e⟩:=S3.lst;rw[z,e] at nfd;cases nfd
  have nff:fd≠lf:=λz=>by rw[z,hlf] at nfd;cases nfd
  have Hfd:H fd=none:=by
   cases ee:H fd with
   |none=>rfl
   |some u=>rw[B3 fd u nfdst ee] at nfd;cases nfd
  show xu K _ [some (.ref st),some (.int (n:Nat)),some (.ref nd),some (.ref nm),some (.ref lf),some (.ref fd)] _
  generalize aN H3 fd (.lst [])=H4 at S4 B4 hfd hlf4 ⊢
  refine⟨λm σ' H'=>∃ls fs,σ'=[some (.ref st),some (.int (n:Nat)),some (.ref nd),some (.ref nm),some (.ref lf),some (.ref fd)]/\Oz K H st lf fd ss n (k+us.length) H' m ls fs,⟨_,ss.map some++us,[],rfl,hlf4,hfd,rfl,by rw[ai,af,gq];lia,λz hz=>.inl (ax.mpr (.inl (aD.mpr ⟨z,hz,rfl⟩))),⟨_,S4,aw _⟩,B4⟩,?_⟩
  rintro m σ' H5 ⟨ls,fs,rfl,A⟩
  obtain⟨k',S5,kf⟩:=A.S
  have ll:=A.ll
  have lm:=A.lm
  refine⟨_,rfl,_,_,rfl,.inl ⟨_,cq.of A.hlf,rfl⟩,_,_,rfl,rfl,_,rfl,?_⟩
  rw[cC]
  refine dy (λc=>?_) (λc=>?_)
  ·have c:(0:Int)<(ls.length:Int):=c
   refine⟨λσ' H'=>∃m',m'<m/\∃ls fs,σ'=[some (.ref st),some (.int (n:Nat)),some (.ref nd),some (.ref nm),some (.ref lf),some (.ref fd)]/\Oz K H st lf fd ss n (k+us.length) H' m' ls fs,λ_ _ z=>z,?_⟩
   refine⟨_,rfl,.inl ⟨rfl,_,cq.of A.hfd⟩,_,rfl,.inl ⟨rfl,_,cq.of A.hlf⟩,_,rfl,_,rfl,_,_,rfl,.inl ⟨_,cq.of A.hlf,rfl⟩,st,_,k',rfl,S5,by lia,by rw[cC];lia,by rw[cC];lia,λd H6 d0 d1 S6 B6=>?_⟩
   rw[cC] at d1
   have dl:d.toNat<ls.length:=by lia
   have h6:=B6 _ _ nlfst A.hlf
   have g6:=B6 _ _ nfdst A.hfd
   refine⟨lf,_,d,d.toNat,oV (ls[d.toNat]'dl),rfl,rfl,h6,by lia,by lia,?_,yE (aa dl),?_⟩
   ·unfold seqIndex?
    rw[if_neg (show ¬(d<0) by lia),cC]
    simp[d0,d1]
   ·have ke:(cw ls).eraseIdx d.toNat=cw (ls.eraseIdx d.toNat):=Cy _ _ _
    rw[ke]
    have S7:=S6.mono (H':=aN H6 lf (.lst (cw (ls.eraseIdx d.toNat)))) .upd_at h6 (Ne.symm nlfst)
    have g7:aN H6 lf (.lst (cw (ls.eraseIdx d.toNat))) fd=some (.lst (cw fs)):=by rw[aA nff];exact g6
    have h7:aN H6 lf (.lst (cw (ls.eraseIdx d.toNat))) lf=some (.lst (cw (ls.eraseIdx d.toNat))):=ak
    have T7:iY st H (aN H6 lf (.lst (cw (ls.eraseIdx d.toNat)))):=λb u nb e=>by rw[aA (aL e Hlf)];exact B6 b u nb (A.B b u nb e)
    generalize aN H6 lf (.lst (cw (ls.eraseIdx d.toNat)))=H7 at S7 g7 h7 T7 ⊢
    have le:(ls.eraseIdx d.toNat).length=ls.length-1:=by rw[fH,if_pos dl]
    refine⟨fd,_,_,rfl,rfl,g7,bG (by rw[cC];lia),(ls.eraseIdx d.toNat).length,by lia,ls.eraseIdx d.toNat,fs++[ls[d.toNat]'dl],rfl,by rw[aA (Ne.symm nff)];exact h7,?_,rfl,by rw[le,ai,aI];lia,λz hz=>?_,⟨k'+1,S7.mono .upd_at g7 (Ne.symm nfdst),by rw[ai,aI];lia⟩,λb u nb e=>by rw[aA (aL e Hfd)];exact T7 b u nb e⟩
    ·rw[ak];unfold cw;rw[aB];rfl
    ·rcases A.has z hz with h|h
     ·by_cases c2:ls[d.toNat]'dl=some z
      ·exact .inr (by rw[c2];simp)
      ·refine .inl ?_
       rw[List.mem_eraseIdx_iff_getElem?]
       obtain⟨i,hi,ei⟩:=aR.mp h
       exact⟨i,λz2=>c2 (by subst z2;exact ei),by rw[aa hi,ei]⟩
     ·exact .inr (ax.mpr (.inl h))
  ·have c:¬(0:Int)<(ls.length:Int):=c
   have l0:ls=[]:=bD.mp (by lia)
   subst l0
   show xt K _ [some (.ref st),some (.int (n:Nat)),some (.ref nd),some (.ref nm),some (.ref lf),some (.ref fd)] H5
   have ll:0+fs.length=n:=ll
   refine⟨_,rfl,fd,_,rfl,.inl ⟨cq.of A.hfd,λp np=>q p fs k' _ ak (by lia) (λz hz=>?_) (S5.new np) (by lia) (A.B.new np)⟩⟩
   rcases A.has z hz with h|h
   ·cases h
   ·exact h
theorem FC{κ:Type}[DecidableEq κ]{kvs:List (κ×V)}{k:κ}(h:∀v,(k,v)∉kvs):cW kvs k=none:=by
 unfold cW
 rw[List.find?_eq_none.mpr λx hx=>?_]
 ·rfl
 ·intro z
  exact h x.2 (by rw[<-of_decide_eq_true z];exact hx)
theorem xK{κ:Type}[DecidableEq κ]:∀{kvs:List (κ×V)} {k:κ} {v:V},(kvs.map (·.1)).Nodup->(k,v)∈kvs->cW kvs k=some v
 |[],_,_,_,h=>by cases h
 |p::r,k,v,nd,h=>by
  rw[bz,bS] at nd
  by_cases e:p.1=k
  ·rw[fV e]
   rcases aM.mp h with h|h
   ·rw[<-h]
   ·exact absurd (aD.mpr ⟨_,h,rfl⟩) (by rw[e] at nd;exact nd.1)
  ·rw[fU e]
   rcases aM.mp h with h|h
   ·exact absurd (by rw[<-h]) e
   ·exact xK nd.2 h
theorem uo(os:Bt){k:Nat}{o:Option Str}(h:os[k]?=some o):pY os k↔o∉os.take k:=by
 have kl:=(ae.mp h).1
 constructor
 ·intro f hm
  obtain⟨j,hj,e⟩:=aR.mp hm
  rw[aS] at hj
  rw[List.getElem_take] at e
  exact f j (by lia) (by rw[h,aa (by lia),e])
 ·intro hn j hj e
  rw[h] at e
  have:(os.take k)[j]?=some o:=by rw[jx,if_pos hj];exact e
  exact hn (aC this)
theorem MR{K:Fg}{vs:List V}{H:Hp}{Q:VK}{E:XK}(h:tE K vs H Q E):IR K {nx:=λ_ H'=>Q .non H',rt:=Q} (start F0 vs) H:=by
 obtain⟨b,n,os,ns,rfl,hb,hn,l1000,q⟩:=h
 refine⟨(by show 0<=sizeLine;decide),λF nF=>?_⟩
 have s1:aJ H (aN H F (.lst [])):=(aJ.refl H).new nF
 have hF1:aN H F (.lst []) F=some (.lst (cw ((bq os ns).take 0))):=ak
 show Bw K _ [some (.ref b),some (.ref n),some (.ref F),none,none] _
 generalize aN H F (.lst [])=H1 at s1 hF1 ⊢
 refine⟨_,rfl,b,rfl,⟨_,cE.of (s1 _ _ hb)⟩,kC (xs:=cw os) (λi σ' H'=>∃o3 o4,σ'=[some (.ref b),some (.ref n),some (.ref F),o3,o4]/\H' F=some (.lst (cw ((bq os ns).take i)))/\aJ H H') ⟨none,none,rfl,hF1,s1⟩ ?_ ?_ ?_⟩
 ·rintro i σ' H' _ ⟨_,_,_,_,s⟩;exact cE.of (s _ _ hb)
 ·rintro i v σ' H2 p hv np ⟨o3,o4,rfl,hF,s2⟩
  obtain⟨o,ho,rfl⟩:=mF hv
  have il:i<os.length:=(ae.mp ho).1
  obtain⟨w,hw,pk⟩:=tu (ns:=ns) ho
  have sl:=dE os ns
  refine⟨p,_,rfl,cE.of ak,rfl,_,_,rfl,_,_,rfl,rfl,?_⟩
  have s3:aJ H2 (aN H2 p (.tup [.int (i:Nat),oV o])):=(aJ.refl H2).new np
  show Bv K _ [some (.ref b),some (.ref n),some (.ref F),some (.int (i:Nat)),some (oV o)] _
  generalize aN H2 p (.tup [.int (i:Nat),oV o])=H3 at s3 ⊢
  refine⟨_,rfl,.inl ⟨rfl,_,cq.of (s3 _ _ hF)⟩,_,rfl,(by show 2<=sizeLine;decide),λlc nlc=>?_⟩
  have s4:aJ H3 (aN H3 lc (.lst [.non,oV o])):=(aJ.refl H3).new nlc
  have hlc:aN H3 lc (.lst [.non,oV o]) lc=some (.lst [.non,oV o]):=ak
  generalize aN H3 lc (.lst [.non,oV o])=H4 at s4 hlc ⊢
  have s24:=(s2.trans s3).trans s4
  have fin:∀(H5:Hp),aJ H4 H5->∃l xs y,V.ref F=.ref l/\[oV w]=[y]/\H5 l=some (.lst xs)/\xs.length<sizeLine/\∃o3' o4',[some (V.ref b),some (.ref n),some (.ref F),some (.int (i:Nat)),some (oV o)]=[some (.ref b),some (.ref n),some (.ref F),o3',o4']/\aN H5 l (.lst (xs++[y])) F=some (.lst (cw ((bq os ns).take (i+1))))/\aJ H (aN H5 l (.lst (xs++[y]))):=λH5 s5=>by
   refine⟨F,_,_,rfl,rfl,s5 _ _ (s4 _ _ (s3 _ _ hF)),bG (by rw[cC,aS];lia),_,_,rfl,?_,cO (s24.trans s5) nF⟩
   rw[ak,fh hw];unfold cw;rw[aB];rfl
  have hn4:=s24 _ _ hn
  have hb4:=s24 _ _ hb
  have no:(∀H5,aJ H4 H5->w=none->fF K (.ref lc) (.int 0) H5 λx H'=>∃l xs y,V.ref F=.ref l/\[x]=[y]/\H' l=some (.lst xs)/\xs.length<sizeLine/\∃o3' o4',[some (V.ref b),some (.ref n),some (.ref F),some (.int (i:Nat)),some (oV o)]=[some (.ref b),some (.ref n),some (.ref F),o3',o4']/\aN H' l (.lst (xs++[y])) F=some (.lst (cw ((bq os ns).take (i+1))))/\aJ H (aN H' l (.lst (xs++[y])))):=λH5 s5 e=>lD (v:=.non) (cq.of (s5 _ _ hlc)) (by decide) rfl (by have:=fin H5 s5;rw[e] at this;exact this)
  have yes:(∀H5,aJ H4 H5->w=o->fF K (.ref lc) (.int 1) H5 λx H'=>∃l xs y,V.ref F=.ref l/\[x]=[y]/\H' l=some (.lst xs)/\xs.length<sizeLine/\∃o3' o4',[some (V.ref b),some (.ref n),some (.ref F),some (.int (i:Nat)),some (oV o)]=[some (.ref b),some (.ref n),some (.ref F),o3',o4']/\aN H' l (.lst (xs++[y])) F=some (.lst (cw ((bq os ns).take (i+1))))/\aJ H (aN H' l (.lst (xs++[y])))):=λH5 s5 e=>lD (v:=oV o) (cq.of (s5 _ _ hlc)) (by decide) rfl (by have:=fin H5 s5;rw[e] at this;exact this)
  refine⟨_,rfl,_,rfl,n,_,rfl,.inr (cE.of hn4),by cases o<;>rfl,by rw[rP];exact iS _,?_⟩
  rw[show(if false=true then !sr (oV o) (ns.map V.str) else sr (oV o) (ns.map V.str))=decide (o∈ns.map some) by rw[rP];exact wV o _]
  refine⟨_,rfl,dy (λc=>?_) (λc=>?_)⟩
  ·refine⟨_,rfl,_,rfl,_,rfl,_,rfl,.inr ⟨b,_,rfl,cE.of hb4,?_,λpc npc=>?_⟩⟩
   ·rintro⟨_,z⟩
    rw[HT.sIx_nat,cC] at z
    lia
   ·rw[ui]
    have s5:aJ H4 (aN H4 pc (.tup ((cw os).take i))):=(aJ.refl H4).new npc
    have hpc:aN H4 pc (.tup ((cw os).take i)) pc=some (.tup (cw (os.take i))):=by rw[ak];unfold cw;rw[j5]
    generalize aN H4 pc (.tup ((cw os).take i))=H5 at s5 hpc ⊢
    refine⟨pc,_,rfl,.inr (cE.of hpc),by cases o<;>rfl,iS _,?_⟩
    rw[show(if true=true then !sr (oV o) (cw (os.take i)) else sr (oV o) (cw (os.take i)))=!decide (o∈os.take i) by rw[wV];rfl]
    refine .inr ⟨_,rfl,?_⟩
    by_cases d:o∈os.take i
    ·rw[decide_eq_true d]
     exact no H5 s5 (pk.2 λz=>(uo os ho).mp z.2 d)
    ·rw[decide_eq_false d]
     exact yes H5 s5 (pk.1 ⟨c,(uo os ho).mpr d⟩)
  ·exact .inr ⟨_,rfl,no H4 (aJ.refl H4) (pk.2 λz=>c z.1)⟩
 ·rintro σ' H2 ⟨o3,o4,rfl,hF,s2⟩
  rw[cC,<-dE os ns,a7] at hF
  exact⟨_,rfl,F,_,rfl,.inl ⟨cq.of hF,λp np=>q p _ ak (s2.new np)⟩⟩
theorem qt{H:Hp}{a:Addr}{p:Pr}:vP H a (f9 p)↔∃b,H a=some (.tup [.int (p.1:Nat),.ref b])/\H b=some (.tup (cw p.2)):=by
 unfold vP f9
 constructor
 ·rintro⟨b,h1,h2⟩
  exact⟨b,h1,by rw[<-d5];exact h2⟩
 ·rintro⟨b,h1,h2⟩
  exact⟨b,h1,by rw[d5];exact h2⟩
theorem sP.same{H H':Hp}{v:V}{p:Pr}(h:sP H v p)(s:Tp H H'):sP H' v p:=let⟨a,e,k⟩:=h;⟨a,e,k.tp s⟩
theorem MP{K:Fg}{vs:List V}{H:Hp}{Q:VK}{E:XK}(h:tD K vs H Q E):IL K {nx:=λ_ H'=>Q .non H',rt:=Q} (start BS vs) H:=by
 obtain⟨bp,wp,pt,k,b,ws,pss,ss,rfl,hb,l10,A,es,q⟩:=h
 obtain⟨pvs,hpt,hP⟩:=A.pts
 have pl:=A.len
 have kk:=(ae.mp es).1
 obtain⟨_,ss',ev,es',np,rfl,hnp⟩:=hP.get kk
 rw[es] at es';cases es'
 have few:=A.few ss (aC es)
 refine⟨_,rfl,_,rfl,_,rfl,lD (v:=.ref np) (cq.of hpt) (cz _) (by rw[aU];exact ev) ⟨bp,np,b,ss,rfl,hb,hnp,by lia,λp1 H1 hp1 s1=>?_⟩⟩
 show Bi K _ [some (.int (k:Nat)),some (.ref p1),some (.ref pt)] H1
 have hpt1:=s1 _ _ hpt
 have hnp1:=s1 _ _ hnp
 refine .inr ⟨_,rfl,_,rfl,lD (v:=.ref np) (cq.of hpt1) (cz _) (by rw[aU];exact ev) ⟨np,rfl,⟨_,cE.of hnp1⟩,λD nD=>?_⟩⟩
 refine iR (xs:=ss.map V.str) (λi σ' H'=>∃o,σ'=[some (.int (k:Nat)),some (.ref p1),some (.ref pt),o]/\H' D=some (.lst (((ss.take i).map λy=>decide (some y∈bq b ss)).map V.bl))/\aJ H1 H') ⟨none,rfl,ak,(aJ.refl H1).new nD⟩ ?_ ?_ ?_
 ·rintro i σ' H' _ ⟨_,_,_,s⟩;exact cE.of (s _ _ hnp1)
 ·rintro i v σ' H2 hv ⟨o,rfl,hD,s⟩
  obtain⟨y,hy,rfl⟩:=qH hv
  have il:i<ss.length:=(ae.mp hy).1
  refine fB ⟨_,rfl,_,rfl,p1,_,rfl,.inr (cE.of (s _ _ hp1)),rfl,iS _,?_⟩
  rw[show(if false=true then !sr (V.str y) (cw (bq b ss)) else sr (V.str y) (cw (bq b ss)))=decide (some y∈bq b ss) from CB y _]
  refine⟨_,hD,bG (by rw[af,af,aS];lia),_,rfl,?_,cO s nD⟩
  rw[ak,fz,hy,aB,aB];rfl
 ·rintro σ' H2 ⟨o,_,hD,s2⟩
  rw[af,a7] at hD
  refine⟨D,_,rfl,cq.of hD,_,rfl,?_⟩
  have e:(ss.map λy=>decide (some y∈bq b ss)).all id=jH (bq b ss) ss:=by unfold jH;rw[List.all_map];rfl
  rw[e]
  cases hh:jH (bq b ss) ss with
  |true=>
   refine nS ⟨_,rfl,_,rfl,(by show 2<=sizeLine;decide),λt nt=>⟨(by show 1<=sizeLine;decide),λl nl=>?_⟩⟩
   have s3:aJ H2 (aN H2 t (.tup [.int (k:Nat),.ref p1])):=(aJ.refl H2).new nt
   have ht:aN H2 t (.tup [.int (k:Nat),.ref p1]) t=some (.tup [.int (k:Nat),.ref p1]):=ak
   generalize aN H2 t (.tup [.int (k:Nat),.ref p1])=H3 at s3 ht nl ⊢
   have s4:aJ H3 (aN H3 l (.lst [.ref t])):=(aJ.refl H3).new nl
   have s:=(s1.trans s2).trans s3
   refine q l [.ref t] _ (s.free nl) ak ?_ (s.trans s4)
   unfold jQ
   rw[if_pos hh]
   exact bo.nil.snoc (v:=.ref t) (r:=(k,bq b ss)) ⟨t,rfl,qt.mpr ⟨p1,s4 _ _ ht,s4 _ _ (s3 _ _ (s2 _ _ hp1))⟩⟩
  |false=>
   refine jo ?_
   show Bf K _ [some (.int (k:Nat)),some (.ref p1),some (.ref pt)] H2
   refine⟨(by show 0<=sizeLine;decide),λl nl=>?_⟩
   refine q l [] _ ((s1.trans s2).free nl) ak ?_ ((s1.trans s2).new nl)
   unfold jQ
   rw[if_neg (by rw[hh];exact Bool.false_ne_true)]
   exact bo.nil
theorem uv(k:Nat)(b:Bt)(ss:List Str):(jQ k b ss).length<=1:=by
 unfold jQ
 split
 ·exact aw _
 ·exact a8 _
theorem uf(pss:List (List Str))(p:Pr):∀l:Bt,((l.map (LI pss p)).flatten).length<=l.length
 |[]=>aw _
 |o::r=>by
  have ih:=uf pss p r
  rw[bz,c8,ai,bf]
  cases o with
  |none=>show 0+_<=_;lia
  |some x=>
   have:=uv p.1 (some x::p.2.dropLast) ((pss[p.1]?).getD [])
   show(jQ p.1 (some x::p.2.dropLast) ((pss[p.1]?).getD [])).length+_<=_
   lia
theorem KM{K:Fg}{vs:List V}{H:Hp}{Q:VK}{E:XK}(h:qE K vs H Q E):Et K {nx:=λ_ H'=>Q .non H',rt:=Q} (start DG vs) H:=by
 obtain⟨a,wp,pt,⟨k,b⟩,ws,pss,rfl,hk,ne,l5,kw,A,q⟩:=h
 obtain⟨bp,ha,hb⟩:=qt.mp hk
 have ne:b≠[]:=ne
 have l5:b.length<=5:=l5
 have kw:k<=ws.length:=kw
 have ha:H a=some (.tup [.int (k:Nat),.ref bp]):=ha
 have hb:H bp=some (.tup (cw b)):=hb
 obtain⟨wvs,hwp,hW⟩:=A.wks
 have wl:=hW.len
 have pl:=A.len
 refine⟨_,rfl,a,_,rfl,cE.of ha,rfl,_,_,rfl,_,_,rfl,rfl,?_⟩
 show xC K _ [some (.ref a),some (.ref wp),some (.ref pt),some (.int (k:Nat)),some (.ref bp),none,none,none] H
 refine⟨(by show 0<=sizeLine;decide),λw5 n5=>?_⟩
 have s1:aJ H (aN H w5 (.lst [])):=(aJ.refl H).new n5
 have hw5:aN H w5 (.lst []) w5=some (.lst []):=ak
 show xB K _ [some (.ref a),some (.ref wp),some (.ref pt),some (.int (k:Nat)),some (.ref bp),some (.ref w5),none,none] _
 generalize aN H w5 (.lst [])=H1 at s1 hw5 ⊢
 refine⟨(by show 0<=sizeLine;decide),λl6 n6=>?_⟩
 have s2:aJ H1 (aN H1 l6 (.lst [])):=(aJ.refl H1).new n6
 have hl6:aN H1 l6 (.lst []) l6=some (.lst []):=ak
 have n56:w5≠l6:=aL hw5 n6
 have hw52:=s2 _ _ hw5
 have H6:H l6=none:=s1.free n6
 show xA K _ [some (.ref a),some (.ref wp),some (.ref pt),some (.int (k:Nat)),some (.ref bp),some (.ref w5),some (.ref l6),none] _
 generalize aN H1 l6 (.lst [])=H2 at s2 hl6 hw52 ⊢
 have s02:=s1.trans s2
 have rest:∀(l5':Addr) (us1:List V) (H5:Hp),H l5'=none->H5 l5'=some (.lst us1)->bo (sP H5) us1 (Ld ws pss (k,b))->H5 l6=some (.lst [])->l5'≠l6->aJ H H5->rS K {nx:=λ_ H'=>Q .non H',rt:=Q} [some (.ref a),some (.ref wp),some (.ref pt),some (.int (k:Nat)),some (.ref bp),some (.ref l5'),some (.ref l6),none] H5:=λl5' us1 H5 n5' h5 A5 h65 n56 s5=>by
  have A50:=A
  obtain⟨ss,es⟩:∃ss,pss[k]?=some ss:=⟨_,aa (by lia)⟩
  refine .inr ⟨_,rfl,bp,rfl,⟨_,cE.of (s5 _ _ hb)⟩,sZ (xs:=cw b) (λi σ' H'=>∃o7 us2,σ'=[some (.ref a),some (.ref wp),some (.ref pt),some (.int (k:Nat)),some (.ref bp),some (.ref l5'),some (.ref l6),o7]/\H' l6=some (.lst us2)/\bo (sP H') us2 (((b.take i).map (LI pss (k,b))).flatten)/\H' l5'=some (.lst us1)/\bo (sP H') us1 (Ld ws pss (k,b))/\aJ H H') ⟨none,[],rfl,h65,bo.nil,h5,A5,s5⟩ ?_ ?_ ?_⟩
  ·rintro i σ' H' _ ⟨_,_,_,_,_,_,_,s⟩;exact cE.of (s _ _ hb)
  ·rintro i v σ' H6' hv ⟨o7,us2,rfl,h6,A6,h56,A56,s6⟩
   obtain⟨o,eo,rfl⟩:=mF hv
   have il:i<b.length:=(ae.mp eo).1
   have u2:us2.length<=5:=by
    rw[A6.len]
    have:=uf pss (k,b) (b.take i)
    rw[aS] at this
    lia
   show xy K _ [some (.ref a),some (.ref wp),some (.ref pt),some (.int (k:Nat)),some (.ref bp),some (.ref l5'),some (.ref l6),some (oV o)] H6'
   refine⟨_,rfl,rfl,_,rfl,?_⟩
   rw[xg,Bool.not_not]
   cases o with
   |none=>
    refine jo ⟨_,us2,rfl,h6,?_,h56,A56,s6⟩
    rw[fh eo,aB,List.flatten_append]
    show bo _ _ (_++[])
    rw[dJ];exact A6
   |some x=>
    refine nS ⟨_,rfl,.inl ⟨rfl,_,cq.of h6⟩,_,rfl,_,rfl,(by show 1<=sizeLine;decide),λt nt=>?_⟩
    have s7:aJ H6' (aN H6' t (.tup [oV (some x)])):=(aJ.refl H6').new nt
    have ht:aN H6' t (.tup [oV (some x)]) t=some (.tup [oV (some x)]):=ak
    generalize aN H6' t (.tup [oV (some x)])=H7 at s7 ht ⊢
    refine⟨_,rfl,1,rfl,_,rfl,JD (s7 _ _ (s6 _ _ hb)) (yF ne) λc nc=>?_⟩
    have s8:aJ H7 (aN H7 c (.tup (cw b).dropLast)):=(aJ.refl H7).new nc
    refine LJ (s8 _ _ ht) ak (by rw[mE,cC,cY];lia) λr H9 hr s9=>?_
    have hr:H9 r=some (.tup (cw (some x::b.dropLast))):=by rw[hr,mE];rfl
    have s69:=(s7.trans s8).trans s9
    have s09:=s6.trans s69
    refine⟨_,rfl,r,wp,pt,k,some x::b.dropLast,ws,pss,ss,rfl,hr,by rw[bf,cY];lia,A.same s09,es,λl us H10 nl hl hA s10=>?_⟩
    have s610:=s69.trans s10
    have h610:=s610 _ _ h6
    have ul:us.length<=1:=by rw[hA.len];exact uv _ _ _
    refine⟨l6,l,_,_,rfl,rfl,h610,hl,bW (bG (by lia)),?_⟩
    have tp:Tp H10 (aN H10 l6 (.lst (us2++us))):=(Tp.refl H10).lst h610
    have tp6:Tp H6' (aN H10 l6 (.lst (us2++us))):=(Tp.of_same s610).trans tp
    refine⟨_,us2++us,rfl,ak,?_,by rw[aA n56];exact s610 _ _ h56,A56.imp λ_ _ z=>sP.same z tp6,cO (s09.trans s10) H6⟩
    rw[fh eo,aB,List.flatten_append]
    refine bo.appF (A6.imp λ_ _ z=>sP.same z tp6) ?_
    show bo _ us (jQ k (some x::b.dropLast) ((pss[k]?).getD [])++[])
    rw[dJ,es]
    exact hA.imp λ_ _ z=>sP.same z tp
  ·rintro σ' H6' ⟨o7,us2,rfl,h6,A6,h56,A56,s6⟩
   rw[cC,a7] at A6
   show xx K _ [some (.ref a),some (.ref wp),some (.ref pt),some (.int (k:Nat)),some (.ref bp),some (.ref l5'),some (.ref l6),o7] H6'
   refine⟨_,rfl,_,rfl,(by show 2<=sizeLine;decide),λt nt=>?_⟩
   have s7:aJ H6' (aN H6' t (.tup [.ref l5',.ref l6])):=(aJ.refl H6').new nt
   exact q (.ref t) _ ⟨t,l5',l6,us1,us2,rfl,ak,s7 _ _ h56,s7 _ _ h6,n5',H6,A56.imp λ_ _ z=>sP.same z (Tp.of_same s7),A6.imp λ_ _ z=>sP.same z (Tp.of_same s7)⟩ (s6.trans s7)
 refine⟨_,rfl,_,rfl,_,_,rfl,.inr ⟨_,cE.of (s02 _ _ hwp),rfl⟩,_,_,rfl,rfl,_,rfl,dy (λc=>?_) (λc=>?_)⟩
 ·have c:((k:Nat):Int)<(wvs.length:Int):=c
  have kl:k<ws.length:=by lia
  obtain⟨_,w,ew,ew',wa,wt,rfl,hwa,hwt⟩:=hW.get kl
  obtain⟨ss',es'⟩:∃ss,pss[k+1]?=some ss:=⟨_,aa (by lia)⟩
  refine⟨_,rfl,.inl ⟨_,_,rfl,rfl,_,rfl,_,rfl,_,rfl,D1 (s02 _ _ hwp) (cz _) (v:=.ref wa) (by rw[aU];exact ew) (D1 (s02 _ _ hwa) (by decide) (v:=gB w.out) rfl ⟨bp,b,w.out,rfl,s02 _ _ hb,ne,by lia,λr H3 hr s3=>?_⟩)⟩⟩
  have s03:=s02.trans s3
  refine⟨_,rfl,r,wp,pt,k+1,zN b w.out,ws,pss,ss',rfl,hr,by rw[yf];lia,A.same s03,es',λl us H4 nl hl hA s4=>?_⟩
  show rS K _ [some (.ref a),some (.ref wp),some (.ref pt),some (.int (k:Nat)),some (.ref bp),some (.ref l),some (.ref l6),none] H4
  have nl6:l≠l6:=λz=>by rw[z,s3 _ _ hl6] at nl;cases nl
  refine rest l us H4 (s03.free nl) hl ?_ (s4 _ _ (s3 _ _ hl6)) nl6 (s03.trans s4)
  unfold Ld
  rw[ew']
  show bo _ _ (jQ (k+1) (zN b w.out) ((pss[k+1]?).getD []))
  rw[es']
  exact hA
 ·have c:¬((k:Nat):Int)<(wvs.length:Int):=c
  refine rest w5 [] H2 n5 hw52 ?_ hl6 n56 s02
  unfold Ld
  rw[bg (by show ws.length<=k;lia)]
  exact bo.nil
theorem qi{ss:List Str}{b:Bt}(nd:ss.Nodup)(h:∀z∈ss,some z∈b):ss.length<=b.length:=by
 have:=iz (zs:=b) (show(ss.map some).Nodup from jL.mpr (nd.imp λh z=>h (Option.some.inj z))) λo ho=>by
  obtain⟨z,hz,rfl⟩:=aD.mp ho
  exact h z hz
 rwa [af] at this
def kc(n:Nat)(ws:List Wk)(pss:List (List Str))(p:Pr):Prop:=p.1<=ws.length/\∀ss,pss[p.1]?=some ss->kQ n ss p.2/\ss.length<=n
theorem Ah{α:Type}{m:Nat}:∀{ls:List (List α)},(∀l∈ls,l.length<=m)->ls.flatten.length<=m*ls.length
 |[],_=>a8 _
 |l::r,h=>by
  have ih:=Ah (ls:=r) λl hl=>h l (aY _ hl)
  have:=h l aZ
  rw[c8,ai,bf,Nat.mul_succ]
  lia
theorem wO{n:Nat}{ws:List Wk}{pss:List (List Str)}{ks:List Pr}(pl:pss.length=ws.length+1)(w10:ws.length<=10)(n5:n<=5)(nd:ks.Nodup)(h:∀p∈ks,kc n ws pss p):ks.length<=85536:=by
 have h1:=iz (zs:=((bZ (ws.length+1)).map λk=>if((pss[k]?).getD []).length<=5 then(ya ((pss[k]?).getD []) n).map λb=>((k,b):Pr) else[]).flatten) nd λp hp=>by
  obtain⟨a,b⟩:=h p hp
  have e:pss[p.1]?=some (pss[p.1]'(by lia)):=aa _
  obtain⟨b1,b2⟩:=b _ e
  refine ku.mpr ⟨(ya (pss[p.1]'(by lia)) n).map λb=>((p.1,b):Pr),aD.mpr ⟨p.1,gR.mpr (by lia),?_⟩,aD.mpr ⟨p.2,ue b1,rfl⟩⟩
  rw[e]
  show(if(pss[p.1]'(by lia)).length<=5 then _ else _)=_
  rw[if_pos (by lia)];rfl
 have h2:=Ah (m:=7776) (ls:=(bZ (ws.length+1)).map λk=>if((pss[k]?).getD []).length<=5 then(ya ((pss[k]?).getD []) n).map λb=>((k,b):Pr) else[]) λl hl=>by
  obtain⟨k,hk,rfl⟩:=aD.mp hl
  split
  ·next c=>
   rw[af,ud]
   have h2:(((pss[k]?).getD []).length+1) ^ n<=6 ^ n:=Nat.pow_le_pow_left (by lia) n
   have h3:(6:Nat) ^ n<=6 ^ 5:=Nat.pow_le_pow_right (by decide) n5
   have h4:(6:Nat) ^ 5=7776:=by decide
   lia
  ·exact a8 _
 rw[af,c9] at h2
 have:7776*(ws.length+1)<=7776*11:=Nat.mul_le_mul_left _ (by lia)
 lia
theorem qh{k:Nat}{b:Bt}{ss:List Str}{q:Pr}(h:q∈jQ k b ss):q=(k,bq b ss)/\jH (bq b ss) ss=true:=by
 unfold jQ at h
 split at h
 ·next c=>exact⟨aj.mp h,c⟩
 ·cases h
theorem G4{ws:List Wk}{pss:List (List Str)}{p q:Pr}(h:q∈mv ws pss p):(∃w,ws[p.1]?=some w/\q∈jQ (p.1+1) (zN p.2 w.out) ((pss[p.1+1]?).getD []))\/∃x,some x∈p.2/\q∈jQ p.1 (some x::p.2.dropLast) ((pss[p.1]?).getD []):=by
 rcases ax.mp h with h|h
 ·unfold Ld at h
  cases e:ws[p.1]? with
  |none=>rw[e] at h;cases h
  |some w=>rw[e] at h;exact .inl ⟨w,rfl,h⟩
 ·obtain⟨l,hl,hq⟩:=ku.mp h
  obtain⟨o,ho,rfl⟩:=aD.mp hl
  cases o with
  |none=>cases hq
  |some x=>exact .inr ⟨x,ho,hq⟩
theorem kc.mv{n:Nat}{ws:List Wk}{pss:List (List Str)}(pl:pss.length=ws.length+1)(pos:1<=n)(snd:∀ss∈pss,ss.Nodup){p q:Pr}(h:kc n ws pss p)(hq:q∈mv ws pss p):kc n ws pss q:=by
 obtain⟨h1,h2⟩:=h
 have e:pss[p.1]?=some (pss[p.1]'(by lia)):=aa _
 have bl:=(h2 _ e).1.len
 have len:∀{k:Nat} {b:Bt} {ss:List Str},pss[k]?=some ss->b.length=n->jH (bq b ss) ss=true->kQ n ss (bq b ss)/\ss.length<=n:=λ{k b ss} es hb hh=>by
  have:=qi (snd ss (aC es)) (ny.mp hh)
  rw[dE,hb] at this
  exact⟨tw hb,this⟩
 rcases G4 hq with⟨w,ew,hq⟩|⟨x,hx,hq⟩
 ·have kl:=(ae.mp ew).1
  obtain⟨rfl,hh⟩:=qh hq
  refine⟨by show p.1+1<=_;lia,λss es=>?_⟩
  have es:pss[p.1+1]?=some ss:=es
  rw[es] at hh ⊢
  exact len es (by rw[yf];exact bl) hh
 ·obtain⟨rfl,hh⟩:=qh hq
  refine⟨h1,λss es=>?_⟩
  have es:pss[p.1]?=some ss:=es
  rw[es] at hh ⊢
  exact len es (by rw[bf,cY];lia) hh
theorem EF.mono{H0 H H':Hp}{v:V}{ws:List Wk}{pss:List (List Str)}{p:Pr}(h:EF H0 H v ws pss p)(k:∀b us,H0 b=none->H b=some (.lst us)->H' b=some (.lst us))(t:Tp H H'):EF H0 H' v ws pss p:=by
 obtain⟨a,l1,l2,us1,us2,rfl,h1,h2,h3,n1,n2,A1,A2⟩:=h
 exact⟨a,l1,l2,us1,us2,rfl,t _ _ h1,k _ _ n1 h2,k _ _ n2 h3,n1,n2,A1.imp λ_ _ z=>sP.same z t,A2.imp λ_ _ z=>sP.same z t⟩
theorem EF.base{H0 H1 H:Hp}{v:V}{ws:List Wk}{pss:List (List Str)}{p:Pr}(h:EF H0 H v ws pss p)(k:∀b us,H0 b=none->H b=some (.lst us)->H1 b=none):EF H1 H v ws pss p:=by
 obtain⟨a,l1,l2,us1,us2,rfl,h1,h2,h3,n1,n2,A1,A2⟩:=h
 exact⟨a,l1,l2,us1,us2,rfl,h1,h2,h3,k _ _ n1 h2,k _ _ n2 h3,A1,A2⟩
structure FJ(n:Nat)(H0 H:Hp)(D T:Addr)(ws:List Wk)(pss:List (List Str))(p0:Pr)(H':Hp)(kvs:List (KP×V))(ks todo:List Pr)(us:List V):Prop where
 hD:H' D=some (.dP kvs)
 keys:kvs.map (·.1)=ks.map f9
 val:∀(i:Nat) k u p,kvs[i]?=some (k,u)->ks[i]?=some p->EF H0 H' u ws pss p
 nd:ks.Nodup
 pin:∀p∈ks,kc n ws pss p
 ind:∀P:Pr->Prop,P p0->(∀p,P p->∀q∈mv ws pss p,P q)->∀p∈ks,P p
 ent:p0∈ks
 hT:H' T=some (.lst us)
 tA:bo (sP H') us todo
 tnd:todo.Nodup
 tsub:∀p∈todo,p∈ks
 sm:aJ H H'
theorem FJ.find{n:Nat}{H0 H H':Hp}{D T:Addr}{ws:List Wk}{pss:List (List Str)}{p0 p:Pr}{kvs:List (KP×V)}{ks todo:List Pr}{us:List V}(A:FJ n H0 H D T ws pss p0 H' kvs ks todo us)(hp:p∈ks):∃u,cW kvs (f9 p)=some u/\EF H0 H' u ws pss p:=by
 obtain⟨i,hi,e⟩:=aR.mp hp
 have kl:kvs.length=ks.length:=by have:=congrArg gH A.keys;rwa [af,af] at this
 have ek:kvs[i]?=some (kvs[i]'(by lia)):=aa _
 generalize hkv:kvs[i]'(by lia)=kv at ek
 obtain⟨k,u⟩:=kv
 have e1:(kvs.map (·.1))[i]?=some k:=by rw[aH,ek];rfl
 rw[A.keys,aH,aa hi,e] at e1
 have e1:f9 p=k:=Option.some.inj e1
 refine⟨u,?_,A.val i k u p ek (by rw[aa hi,e])⟩
 rw[e1]
 refine xK ?_ (aC ek)
 rw[A.keys]
 exact jL.mpr (A.nd.imp λh z=>h (Az z))
theorem FJ.not{n:Nat}{H0 H H':Hp}{D T:Addr}{ws:List Wk}{pss:List (List Str)}{p0 p:Pr}{kvs:List (KP×V)}{ks todo:List Pr}{us:List V}(A:FJ n H0 H D T ws pss p0 H' kvs ks todo us)(hp:p∉ks):cW kvs (f9 p)=none:=FC λv hv=>by
 have:f9 p∈kvs.map (·.1):=aD.mpr ⟨_,hv,rfl⟩
 rw[A.keys] at this
 obtain⟨q,hq,e⟩:=aD.mp this
 rw[Az e] at hq
 exact hp hq
theorem AO{K:Fg}{vs:List V}{H:Hp}{Q:VK}{E:XK}(h:lg K vs H Q E):sH K {nx:=λ_ H'=>Q .non H',rt:=Q} (start si vs) H:=by
 obtain⟨a,wp,pt,n,p0,ws,pss,rfl,hk,A,pos,n5,snd,pz,b0,q⟩:=h
 have pl:=A.len
 have w10:=A.w10
 obtain⟨ss0,es0⟩:∃ss,pss[0]?=some ss:=⟨_,aa (by lia)⟩
 have in0:kc n ws pss p0:=⟨by lia,λss es=>by rw[pz] at es;exact b0 ss es⟩
 have blen:∀{p:Pr},kc n ws pss p->p.2.length=n:=λ{p} hp=>(hp.2 _ (aa (by have:=hp.1;lia))).1.len
 have bne:∀{p:Pr},kc n ws pss p->p.2≠[]:=λ{p} hp z=>by have:=blen hp;rw[z] at this;have:(0:Nat)=n:=this;lia
 intro D nD
 have s1:aJ H (aN H D (.dP [])):=(aJ.refl H).new nD
 have hD1:aN H D (.dP []) D=some (.dP []):=ak
 generalize aN H D (.dP [])=H1 at s1 hD1 ⊢
 refine⟨_,rfl,_,rfl,_,rfl,_,rfl,a,wp,pt,p0,ws,pss,rfl,hk.tp (Tp.of_same s1),bne in0,by rw[blen in0];exact n5,in0.1,A.same s1,λv H2 mv0 s2=>?_⟩
 have s02:=s1.trans s2
 have hD2:=s2 _ _ hD1
 refine⟨hD2,f9 p0,a,rfl,hk.tp (Tp.of_same s02),?_⟩
 have tp3:Tp H2 (aN H2 D (.dP [(f9 p0,v)])):=λb xs e=>by rw[aA (oq e hD2 (λz=>by cases z))];exact e
 have s3:aJ H (aN H2 D (.dP [(f9 p0,v)])):=cO s02 nD
 have hD3:aN H2 D (.dP [(f9 p0,v)]) D=some (.dP [(f9 p0,v)]):=ak
 have mv3:EF H1 (aN H2 D (.dP [(f9 p0,v)])) v ws pss p0:=mv0.mono (λb us nb e=>by rw[aA (oq e hD2 (λz=>by cases z))];exact e) tp3
 show oH K _ [some (.ref a),some (.ref wp),some (.ref pt),some (.ref D),none,none,none,none] _
 generalize aN H2 D (.dP [(f9 p0,v)])=H3 at tp3 s3 hD3 mv3 ⊢
 refine⟨_,rfl,(by show 1<=sizeLine;decide),λT nT=>?_⟩
 have s4:aJ H3 (aN H3 T (.lst [.ref a])):=(aJ.refl H3).new nT
 have hT4:aN H3 T (.lst [.ref a]) T=some (.lst [.ref a]):=ak
 have nTH:H T=none:=s3.free nT
 have TD:T≠D:=λz=>by rw[z,hD3] at nT;cases nT
 have s34:=s3.trans s4
 have mv4:EF (aN H T (.lst [])) (aN H3 T (.lst [.ref a])) v ws pss p0:=(mv3.base λb us nb e=>by
  rw[aA (aL e nT)];exact s1.free nb).mono (λb us _ e=>s4 _ _ e) (Tp.of_same s4)
 have I4:FJ n (aN H T (.lst [])) H D T ws pss p0 (aN H3 T (.lst [.ref a])) [(f9 p0,v)] [p0] [p0] [.ref a]:=by
  refine⟨s4 _ _ hD3,rfl,λi k u p h1 h2=>?_,by simp,λp hp=>by rw[aj.mp hp];exact in0,λP hP _ p hp=>by rw[aj.mp hp];exact hP,aj.mpr rfl,hT4,bo.nil.snoc (v:=.ref a) (r:=p0) ⟨a,rfl,hk.tp (Tp.of_same s34)⟩,by simp,λp hp=>hp,s34⟩
  cases i with
  |zero=>cases h1;cases h2;exact mv4
  |succ i=>simp at h1
 show oG K _ [some (.ref a),some (.ref wp),some (.ref pt),some (.ref D),some (.ref T),none,none,none] _
 generalize aN H3 T (.lst [.ref a])=H4 at I4 ⊢
 have few:∀{H':Hp} {kvs:List (KP×V)} {ks todo:List Pr} {us:List V},FJ n (aN H T (.lst [])) H D T ws pss p0 H' kvs ks todo us->ks.length<=85536/\todo.length<=85536:=λI=>by
  have h1:=wO pl w10 n5 I.nd I.pin
  have h2:=iz I.tnd (zs:=_) I.tsub
  exact⟨h1,by lia⟩
 refine⟨λm σ' H'=>∃o5 o6 o7 kvs ks todo us,σ'=[some (.ref a),some (.ref wp),some (.ref pt),some (.ref D),some (.ref T),o5,o6,o7]/\FJ n (aN H T (.lst [])) H D T ws pss p0 H' kvs ks todo us/\(∀p∈ks,p∈todo\/∀q∈mv ws pss p,q∈ks)/\2*(85536-ks.length)+todo.length=m,⟨_,none,none,none,_,_,_,_,rfl,I4,λp hp=>.inl hp,rfl⟩,?_⟩
 rintro m σ' H5 ⟨o5,o6,o7,kvs,ks,todo,us,rfl,I,cl,hm⟩
 obtain⟨kf,tf⟩:=few I
 have ul:=I.tA.len
 refine⟨_,rfl,_,_,rfl,.inl ⟨_,cq.of I.hT,rfl⟩,_,_,rfl,rfl,_,rfl,dy (λc=>?_) (λc=>?_)⟩
 ·have c:(0:Int)<(us.length:Int):=c
  refine⟨λσ' H'=>∃m',m'<m/\∃o5 o6 o7 kvs ks todo us,σ'=[some (.ref a),some (.ref wp),some (.ref pt),some (.ref D),some (.ref T),o5,o6,o7]/\FJ n (aN H T (.lst [])) H D T ws pss p0 H' kvs ks todo us/\(∀p∈ks,p∈todo\/∀q∈mv ws pss p,q∈ks)/\2*(85536-ks.length)+todo.length=m',λ_ _ z=>z,?_⟩
  have tne:todo≠[]:=λz=>by rw[z] at ul;have:us.length=0:=ul;lia
  obtain⟨td,p,rfl⟩:∃td p,todo=td++[p]:=⟨todo.dropLast,todo.getLast tne,(cD tne).symm⟩
  obtain⟨us',u,rfl,tA',ap,rfl,hap⟩:=I.tA.lastF
  have pks:p∈ks:=I.tsub p (by simp)
  refine⟨_,rfl,_,rfl,.inl ⟨rfl,_,cq.of I.hT⟩,T,_,.ref ap,rfl,rfl,I.hT,?_,?_⟩
  ·rw[ai,aI,cA,ao (aw _),bj];rfl
  rw[eh]
  have tp6:Tp H5 (aN H5 T (.lst us')):=(Tp.refl H5).lst I.hT
  have I6:FJ n (aN H T (.lst [])) H D T ws pss p0 (aN H5 T (.lst us')) kvs ks td us':=by
   refine⟨by rw[aA (Ne.symm TD)];exact I.hD,I.keys,λi k u p h1 h2=>(I.val i k u p h1 h2).mono (λb us nb e=>?_) tp6,I.nd,I.pin,I.ind,I.ent,ak,tA'.imp λ_ _ z=>sP.same z tp6,(cu.mp I.tnd).1,λp hp=>I.tsub p (ax.mpr (.inl hp)),cO I.sm nTH⟩
   rw[aA (λz=>by rw[z,ak] at nb;cases nb)];exact e
  have hap6:=hap.tp tp6
  generalize aN H5 T (.lst us')=H6 at tp6 I6 hap6 ⊢
  obtain⟨u,hu,mvu⟩:=I6.find pks
  refine⟨D,u,rfl,⟨kvs,f9 p,ap,.inl I6.hD,rfl,hap6,hu.symm⟩,?_⟩
  obtain⟨t,l1,l2,us1,us2,rfl,ht,h1,h2,n1,n2,A1,A2⟩:=mvu
  refine⟨t,_,rfl,cE.of ht,rfl,_,_,rfl,_,_,rfl,rfl,?_⟩
  show oF K _ [some (.ref a),some (.ref wp),some (.ref pt),some (.ref D),some (.ref T),some (.ref l1),some (.ref l2),o7] H6
  have u1:us1.length<=1:=by
   rw[A1.len]
   unfold Ld
   split
   ·exact a8 _
   ·exact uv _ _ _
  have u2:us2.length<=5:=by
   rw[A2.len]
   have:=uf pss p p.2
   have bl:=blen (I.pin p pks)
   show(Od pss p).length<=5
   unfold Od
   lia
  refine .inl ⟨_,rfl,_,rfl,.inr (.inr (.inl ⟨l1,l2,_,_,rfl,rfl,h1,h2,bW (bG (by lia)),λL nL=>?_⟩))⟩
  have s7:aJ H6 (aN H6 L (.lst (us1++us2))):=(aJ.refl H6).new nL
  have hL7:aN H6 L (.lst (us1++us2)) L=some (.lst (us1++us2)):=ak
  have LT:L≠T:=λz=>by rw[z,I6.hT] at nL;cases nL
  have LD:L≠D:=λz=>by rw[z,I6.hD] at nL;cases nL
  have mvA:bo (sP (aN H6 L (.lst (us1++us2)))) (us1++us2) (mv ws pss p):=bo.appF (A1.imp λ_ _ z=>sP.same z (Tp.of_same s7)) (A2.imp λ_ _ z=>sP.same z (Tp.of_same s7))
  have I7:FJ n (aN H T (.lst [])) H D T ws pss p0 (aN H6 L (.lst (us1++us2))) kvs ks td us':=⟨s7 _ _ I6.hD,I6.keys,λi k u p h1 h2=>(I6.val i k u p h1 h2).mono (λb us _ e=>s7 _ _ e) (Tp.of_same s7),I6.nd,I6.pin,I6.ind,I6.ent,s7 _ _ I6.hT,I6.tA.imp λ_ _ z=>sP.same z (Tp.of_same s7),I6.tnd,I6.tsub,I6.sm.trans s7⟩
  generalize aN H6 L (.lst (us1++us2))=H7 at s7 hL7 mvA I7 ⊢
  refine⟨L,rfl,⟨_,cq.of hL7⟩,qg (xs:=us1++us2) (λj σ' H'=>∃o7 kvs ks td us',σ'=[some (.ref a),some (.ref wp),some (.ref pt),some (.ref D),some (.ref T),some (.ref l1),some (.ref l2),o7]/\FJ n (aN H T (.lst [])) H D T ws pss p0 H' kvs ks td us'/\(∀r∈ks,r∈td\/r=p\/∀q∈mv ws pss r,q∈ks)/\p∈ks/\(∀q∈(mv ws pss p).take j,q∈ks)/\2*(85536-ks.length)+td.length<m/\H' L=some (.lst (us1++us2))/\bo (sP H') (us1++us2) (mv ws pss p)) ⟨o7,kvs,ks,td,us',rfl,I7,λr hr=>?_,pks,λq hq=>by simp at hq,?_,hL7,mvA⟩ ?_ ?_ ?_⟩
  ·rcases cl r hr with h|h
   ·rcases ax.mp h with h|h
    ·exact .inl h
    ·exact .inr (.inl (aj.mp h))
   ·exact .inr (.inr h)
  ·rw[ai,aI] at hm;lia
  ·rintro j σ' H' _ ⟨_,_,_,_,_,_,_,_,_,_,_,hL,_⟩;exact cq.of hL
  ·rintro j x σ' H8 hx ⟨o7,kvs,ks,td,us',rfl,I8,cl8,p8,tk8,m8,hL8,mv8⟩
   obtain⟨qq,eq,aq,rfl,haq⟩:=mv8.of_v hx
   have qmv:qq∈mv ws pss p:=aC eq
   obtain⟨kf8,tf8⟩:=few I8
   show oE K _ [some (.ref a),some (.ref wp),some (.ref pt),some (.ref D),some (.ref T),some (.ref l1),some (.ref l2),some (.ref aq)] H8
   by_cases c2:qq∈ks
   ·obtain⟨u,hu,_⟩:=I8.find c2
    refine⟨_,rfl,_,rfl,D,some u,rfl,⟨kvs,f9 qq,aq,.inl I8.hD,rfl,haq,hu.symm⟩,_,rfl,jo ?_⟩
    refine⟨_,kvs,ks,td,us',rfl,I8,cl8,p8,λr hr=>?_,m8,hL8,mv8⟩
    rw[fh eq] at hr
    rcases ax.mp hr with h|h
    ·exact tk8 r h
    ·rw[aj.mp h];exact c2
   ·refine⟨_,rfl,_,rfl,D,none,rfl,⟨kvs,f9 qq,aq,.inl I8.hD,rfl,haq,(I8.not c2).symm⟩,_,rfl,nS ?_⟩
    have qin:kc n ws pss qq:=(I8.pin p p8).mv pl pos snd qmv
    refine⟨_,rfl,_,rfl,_,rfl,aq,wp,pt,qq,ws,pss,rfl,haq,bne qin,by rw[blen qin];exact n5,qin.1,A.same I8.sm,λv9 H9 mv9 s9=>?_⟩
    have hD9:=s9 _ _ I8.hD
    have kl:kvs.length=ks.length:=by have:=congrArg gH I8.keys;rwa [af,af] at this
    refine⟨_,rfl,_,rfl,D,_,rfl,⟨kvs,f9 qq,aq,hD9,rfl,haq.tp (Tp.of_same s9),bG (by lia),rfl⟩,?_⟩
    rw[mJ _ (I8.not c2)]
    have tp10:Tp H9 (aN H9 D (.dP (kvs++[(f9 qq,v9)]))):=λb xs e=>by rw[aA (oq e hD9 (λz=>by cases z))];exact e
    have l10:∀b us,H9 b=some (.lst us)->aN H9 D (.dP (kvs++[(f9 qq,v9)])) b=some (.lst us):=λb us e=>by rw[aA (oq e hD9 (λz=>by cases z))];exact e
    have hD10:aN H9 D (.dP (kvs++[(f9 qq,v9)])) D=some (.dP (kvs++[(f9 qq,v9)])):=ak
    have s10:aJ H (aN H9 D (.dP (kvs++[(f9 qq,v9)]))):=cO (I8.sm.trans s9) nD
    show oD K _ [some (.ref a),some (.ref wp),some (.ref pt),some (.ref D),some (.ref T),some (.ref l1),some (.ref l2),some (.ref aq)] _
    generalize aN H9 D (.dP (kvs++[(f9 qq,v9)]))=H10 at tp10 l10 hD10 s10 ⊢
    have hT10:=l10 _ _ (s9 _ _ I8.hT)
    have ul8:=I8.tA.len
    refine⟨_,rfl,.inl ⟨rfl,_,cq.of hT10⟩,_,rfl,T,us',.ref aq,rfl,rfl,hT10,bG (by lia),?_⟩
    have tp11:Tp H10 (aN H10 T (.lst (us'++[.ref aq]))):=(Tp.refl H10).lst hT10
    have tp811:Tp H8 (aN H10 T (.lst (us'++[.ref aq]))):=((Tp.of_same s9).trans tp10).trans tp11
    have l11:∀b us,b≠T->H9 b=some (.lst us)->aN H10 T (.lst (us'++[.ref aq])) b=some (.lst us):=λb us nb e=>by rw[aA nb];exact l10 _ _ e
    have nbT:∀b,aN H T (.lst []) b=none->b≠T:=λb nb z=>by rw[z,ak] at nb;cases nb
    have nd':(ks++[qq]).Nodup:=cu.mpr ⟨I8.nd,by simp,λx hx y hy z=>c2 (by rw[<-aj.mp hy,<-z];exact hx)⟩
    have pin':∀p∈ks++[qq],kc n ws pss p:=λr hr=>by
     rcases ax.mp hr with h|h
     ·exact I8.pin r h
     ·rw[aj.mp h];exact qin
    have kf':=wO pl w10 n5 nd' pin'
    rw[ai,aI] at kf'
    have mvq:EF (aN H T (.lst [])) (aN H10 T (.lst (us'++[.ref aq]))) v9 ws pss qq:=(mv9.base λb us nb e=>by
     have bT:b≠T:=λz=>by rw[z,I8.hT] at nb;cases nb
     rw[aA bT];exact I8.sm.free nb).mono (λb us nb e=>l11 b us (nbT b nb) e) (tp10.trans tp11)
    refine⟨_,kvs++[(f9 qq,v9)],ks++[qq],td++[qq],us'++[.ref aq],rfl,⟨by rw[aA (Ne.symm TD)];exact hD10,?_,λi k u r h1 h2=>?_,nd',pin',λP hP hs r hr=>?_,ax.mpr (.inl I8.ent),ak,(I8.tA.imp λ_ _ z=>sP.same z tp811).snoc ⟨aq,rfl,haq.tp tp811⟩,?_,λr hr=>?_,cO s10 nTH⟩,λr hr=>?_,ax.mpr (.inl p8),λr hr=>?_,?_,l11 L _ LT (s9 _ _ hL8),mv8.imp λ_ _ z=>sP.same z tp811⟩
    ·rw[aB,aB,I8.keys];rfl
    ·by_cases ci:i<kvs.length
     ·rw[av ci] at h1
      rw[av (by lia)] at h2
      exact(I8.val i k u r h1 h2).mono (λb us nb e=>l11 b us (nbT b nb) (s9 _ _ e)) tp811
     ·have:i=kvs.length:=by have:=(ae.mp h1).1;rw[ai,aI] at this;lia
      subst this
      rw[ao (aw _),bj] at h1
      rw[ao (by lia),show kvs.length-ks.length=0 by lia] at h2
      cases h1;cases h2;exact mvq
    ·rcases ax.mp hr with h|h
     ·exact I8.ind P hP hs r h
     ·rw[aj.mp h];exact hs p (I8.ind P hP hs p p8) qq qmv
    ·exact cu.mpr ⟨I8.tnd,by simp,λx hx y hy z=>c2 (by rw[<-aj.mp hy,<-z];exact I8.tsub x hx)⟩
    ·rcases ax.mp hr with h|h
     ·exact ax.mpr (.inl (I8.tsub r h))
     ·exact ax.mpr (.inr h)
    ·rcases ax.mp hr with h|h
     ·rcases cl8 r h with h|h|h
      ·exact .inl (ax.mpr (.inl h))
      ·exact .inr (.inl h)
      ·exact .inr (.inr λq hq=>ax.mpr (.inl (h q hq)))
     ·exact .inl (ax.mpr (.inr h))
    ·rw[fh eq] at hr
     rcases ax.mp hr with h|h
     ·exact ax.mpr (.inl (tk8 r h))
     ·exact ax.mpr (.inr h)
    ·rw[ai,ai,aI];lia
  ·rintro σ' H8 ⟨o7,kvs,ks,td,us',rfl,I8,cl8,p8,tk8,m8,hL8,mv8⟩
   rw[mv8.len,a7] at tk8
   refine⟨_,m8,_,_,_,kvs,ks,td,us',rfl,I8,λr hr=>?_,rfl⟩
   rcases cl8 r hr with h|rfl|h
   ·exact .inl h
   ·exact .inr tk8
   ·exact .inr h
 ·have c:¬(0:Int)<(us.length:Int):=c
  have t0:todo=[]:=bD.mp (by lia)
  subst t0
  show oC K _ [some (.ref a),some (.ref wp),some (.ref pt),some (.ref D),some (.ref T),o5,o6,o7] H5
  refine⟨_,rfl,q (.ref D) ks H5 ⟨D,kvs,rfl,I.hD,nD,I.keys,λi k u p h1 h2=>(I.val i k u p h1 h2).base λb us nb e=>?_⟩ ⟨I.nd,I.ent,λp hp=>?_,I.ind⟩ kf I.sm⟩
  ·have bT:b≠T:=λz=>by rw[z,ak] at nb;cases nb
   rw[aA bT] at nb;exact nb
  ·rcases cl p hp with h|h
   ·cases h
   ·exact h
def Om(n:Nat)(ws:List Wk)(pss:List (List Str))(k:Nat):Prop:=(∀(j:Nat) ss,j<=k->pss[j]?=some ss->ss.length<=n)/\∀(j:Nat) w y ss,j<k->ws[j]?=some w->w.out=some y->pss[j+1]?=some ss->(ss.filter λz=>!decide (some y=some z)).length+1<=n
theorem C4{n:Nat}{last:List Str}{ws:List Wk}{pss:List (List Str)}{B:Bt}{ss0:List Str}{ks:List Pr}(P:rj last ws pss)(pos:1<=n)(Bl:B.length=n)(es:pss[0]?=some ss0)(h0:∀z∈ss0,some z∈B)(r:F9 ws pss (0,bq B ss0) ks):∀p∈ks,p.1<=ws.length/\(∀ss,pss[p.1]?=some ss->ED n ss p.2)/\Om n ws pss p.1:=by
 have pl:=P.len
 refine r.ind _ ⟨a8 _,λss e=>?_,λj ss hj e=>?_,λj w y ss hj=>absurd hj (dv _)⟩ λp hp q hq=>?_
 ·have e:pss[0]?=some ss:=e
  rw[es] at e;cases e
  exact qC Bl h0
 ·have:j=0:=by have:j<=0:=hj;lia
  subst this
  rw[es] at e;cases e
  rw[<-Bl]
  exact qi (P.at_ 0 _ es).nd h0
 ·obtain⟨h1,h2,h3,h4⟩:=hp
  have e:pss[p.1]?=some (pss[p.1]'(by lia)):=aa _
  have fu:=h2 _ e
  rcases G4 hq with⟨w,ew,hq⟩|⟨x,hx,hq⟩
  ·have kl:=(ae.mp ew).1
   obtain⟨rfl,hh⟩:=qh hq
   have e':pss[p.1+1]?=some (pss[p.1+1]'(by lia)):=aa _
   generalize hs:pss[p.1+1]'(by lia)=ss' at e'
   rw[e'] at hh ⊢
   have hh:jH (iZ p.2 w.out ss') ss'=true:=by
    have:iZ p.2 w.out ss'=bq (zN p.2 w.out) ss':=by unfold iZ zN;cases w.out<;>rfl
    rw[this];exact hh
   have ew2:bq (zN p.2 w.out) ss'=iZ p.2 w.out ss':=by unfold iZ zN;cases w.out<;>rfl
   have fu':=EB fu.inn.len hh
   refine⟨by show p.1+1<=_;lia,λss e2=>?_,λj ss hj e2=>?_,λj w2 y ss hj a b c=>?_⟩
   ·have e2:some ss'=some ss:=e2
    cases e2
    show ED n ss' (bq (zN p.2 w.out) ss')
    rw[ew2];exact fu'
   ·have hj:j<=p.1+1:=hj
    by_cases c:j=p.1+1
    ·subst c
     rw[e'] at e2;cases e2
     rw[<-fu'.inn.len]
     exact qi (P.at_ _ _ e').nd fu'.has
    ·exact h3 j ss (by lia) e2
   ·have hj:j<p.1+1:=hj
    by_cases c2:j=p.1
    ·subst c2
     rw[ew] at a;cases a
     rw[e'] at c;cases c
     have nb:p.2≠[]:=λz=>by have:=fu.inn.len;rw[z] at this;have:(0:Nat)=n:=this;lia
     have hw:iZ p.2 w.out ss'=bq (jj p.2 y) ss':=by unfold iZ;rw[b]
     have l':=fu'.inn.len
     have:=qi (b:=(iZ p.2 w.out ss').tail) (ss:=ss'.filter λz=>!decide (some y=some z)) ((P.at_ _ _ e').nd.sublist f7) λz hz=>by
      obtain⟨z1,z2⟩:=a9.mp hz
      have zy:z≠y:=λe=>by rw[e] at z2;simp at z2
      obtain⟨i,hi,ei⟩:=aR.mp (fu'.has z z1)
      have ei':(iZ p.2 w.out ss')[i]?=some (some z):=by rw[aa hi,ei]
      rw[hw] at ei'
      obtain⟨_,h⟩:=(rK nb).mp ei'
      rcases h with⟨_,h⟩|⟨j,rfl,_⟩
      ·exact absurd h zy
      ·have:(iZ p.2 w.out ss').tail[j]?=some (some z):=by rw[List.getElem?_tail,aa hi,ei]
       exact aC this
     rw[List.length_tail,l'] at this
     lia
    ·exact h4 j w2 y ss (by lia) a b c
  ·obtain⟨rfl,hh⟩:=qh hq
   generalize hs:pss[p.1]'(by lia)=ss at e
   rw[e] at hh ⊢
   refine⟨h1,λss2 e2=>?_,h3,h4⟩
   have e2:some ss=some ss2:=e2
   cases e2
   have pl2:p.2.length=n:=fu.inn.len
   exact qC (by rw[bf,cY];lia) λz hz=>A7 (ny.mp hh z hz)
theorem C5{n:Nat}{last:List Str}{ws:List Wk}{pss:List (List Str)}{B:Bt}{ss0:List Str}{ks:List Pr}(P:rj last ws pss)(pos:1<=n)(Bl:B.length=n)(es:pss[0]?=some ss0)(h0:∀z∈ss0,some z∈B)(r:F9 ws pss (0,bq B ss0) ks){p:Pr}(hp:p∈ks)(e:p.1=ws.length):BX n ws pss:=by
 have pl:=P.len
 obtain⟨_,_,h3,h4⟩:=C4 P pos Bl es h0 r p hp
 rw[e] at h3 h4
 refine⟨λss hs=>?_,λk w y ss a b c=>h4 k w y ss (ae.mp a).1 a b c⟩
 obtain⟨k,hk⟩:=List.mem_iff_getElem?.mp hs
 have:=(ae.mp hk).1
 exact h3 k ss (by lia) hk
theorem CC{K:Fg}{p:Addr}{xs:List V}{v:V}{H:Hp}{Q:VK}(h:H p=some (.tup (xs++[v])))(q:Q v H):fF K (.ref p) (.int (-1)) H Q:=.inr (.inl ⟨p,_,-1,v,rfl,rfl,cE.of h,zM xs v,q⟩)
theorem G7(d:Bt)(o:Option Str):cw (d++[o])=cw d++[oV o]:=by unfold cw;rw[aB];rfl
theorem JP(o:Option Str)(rs:List Str):sr (oV o) (rs.map V.str)=decide (o∈rs.map some):=by rw[rP];exact wV o _
theorem Fy{B C d:Bt}{z:Str}{ss:List Str}{ps:List Nat}(e:C=d++[some z])(hl:C.length=B.length)(hz:z∈ss)(nz:some z∉d)(h:dI (bq B ss) ps/\bq C ss=iB (bq B ss) ps):dI (bq B ss) (ps++[B.length-1])/\bq (some z::d) ss=iB (bq B ss) (ps++[B.length-1]):=by
 have dl:d.length+1=B.length:=by rw[<-hl,e,ai];rfl
 have at_:C[B.length-1]?=some (some z):=by rw[e,<-dl,cA,ao (aw _),bj];rfl
 have sz:(bq C ss)[B.length-1]?=some (some z):=eI.mpr ⟨at_,λj hj q=>by
  rw[e,av (by lia)] at q
  exact nz (aC q),hz⟩
 have sl:(bq C ss).length=B.length:=by rw[dE];exact hl
 have pc:mI (bq C ss)=[B.length-1]:=by rw[qp (by rw[sl];exact sz),sl]
 refine⟨pP h.1 (by rw[<-h.2,pc];exact aj.mpr rfl),?_⟩
 rw[xo,<-h.2,rA sz,<-KW at_ hz]
 unfold M5
 rw[at_,e,eh];rfl
theorem Ic{K:Fg}{vs:List V}{H:Hp}{Q:VK}{E:XK}(h:rO K vs H Q E):Bx K {nx:=λ_ H'=>Q .non H',rt:=Q} (start zx vs) H:=by
 obtain⟨bp,rp,B,rs,rfl,hb,hr,ne,l10,rl,q⟩:=h
 show vy K _ [some (.ref bp),some (.ref rp),some (.int 0)] H
 refine⟨λm σ' H'=>∃(pb:Addr) (l1 l2:Bt),σ'=[some (.ref pb),some (.ref rp),some (.int (l2.length:Nat))]/\H' pb=some (.tup (cw (l2++l1)))/\B=l1++l2/\l2.Nodup/\(∀o∈l2,o∈rs.map some)/\(∀ss,(∀z∈rs,z∈ss)->dI (bq B ss) (kE B.length l2.length)/\bq (l2++l1) ss=iB (bq B ss) (kE B.length l2.length))/\l1.length=m/\aJ H H',⟨_,bp,B,[],rfl,hb,by simp,by simp,λo ho=>by simp at ho,λss _=>⟨trivial,rfl⟩,rfl,aJ.refl H⟩,?_⟩
 rintro m σ' H1 ⟨pb,l1,l2,rfl,hpb,eB,nd,lin,stp,lm,s1⟩
 have l2r:l2.length<=rs.length:=by have:=iz nd lin;rwa [af] at this
 have bl:l1.length+l2.length=B.length:=by rw[eB,ai]
 have l1ne:l1≠[]:=λz=>by rw[z] at bl;have:0+l2.length=B.length:=bl;lia
 obtain⟨d,o,rfl⟩:∃d o,l1=d++[o]:=⟨l1.dropLast,l1.getLast l1ne,(cD l1ne).symm⟩
 have ec:l2++(d++[o])=(l2++d)++[o]:=by simp
 rw[ec] at hpb
 have hpb':=hpb
 rw[G7] at hpb'
 have mem:∀x,x∈l2++(d++[o])↔x∈B:=λx=>by rw[eB];simp only[ax];exact Or.comm
 have leave:∀(H2:Hp),aJ H1 H2->(o∈rs.map some->o∈l2++d)->vq K {nx:=λ_ H'=>Q .non H',rt:=Q} [some (.ref pb),some (.ref rp),some (.int (l2.length:Nat))] H2:=λH2 s2 hx=>by
  refine⟨_,rfl,_,rfl,(by show 2<=sizeLine;decide),λt nt=>?_⟩
  have s3:aJ H2 (aN H2 t (.tup [.ref pb,.int (l2.length:Nat)])):=(aJ.refl H2).new nt
  refine q t pb (l2++(d++[o])) l2.length _ ak (by rw[ec];exact s3 _ _ (s2 _ _ hpb)) (by lia) (by rw[ai,pS];exact bl) mem stp (λz hz e=>?_) ((s1.trans s2).trans s3)
  rw[ec] at e ⊢
  have cl:(l2++d).length=B.length-1:=by rw[<-bl,ai,ai];show _=_+1+_-1;lia
  rw[<-cl,ao (aw _),bj] at e
  have e:o=some z:=Option.some.inj e
  rw[eh,<-e]
  exact hx (by rw[e];exact aD.mpr ⟨z,hz,rfl⟩)
 refine⟨_,rfl,1,rfl,CC hpb' ⟨_,rfl,rp,_,rfl,.inl (cq.of (s1 _ _ hr)),by cases o<;>rfl,by rw[rP];exact iS _,?_⟩⟩
 rw[show(if false=true then !sr (oV o) (rs.map V.str) else sr (oV o) (rs.map V.str))=decide (o∈rs.map some) from JP o rs]
 refine⟨_,rfl,dy (λc=>?_) (λc=>leave H1 (aJ.refl H1) λz=>absurd z c)⟩
 refine⟨_,rfl,1,rfl,CC hpb' ⟨_,rfl,1,rfl,_,rfl,JD hpb (yF (by simp)) λpc npc=>?_⟩⟩
 have ed:(cw (l2++d++[o])).dropLast=cw (l2++d):=by rw[mE,eh]
 rw[ed]
 have s2:aJ H1 (aN H1 pc (.tup (cw (l2++d)))):=(aJ.refl H1).new npc
 have hpc:aN H1 pc (.tup (cw (l2++d))) pc=some (.tup (cw (l2++d))):=ak
 generalize aN H1 pc (.tup (cw (l2++d)))=H2 at s2 hpc ⊢
 refine⟨pc,_,rfl,.inr (cE.of hpc),by cases o<;>rfl,iS _,?_⟩
 rw[show(if true=true then !sr (oV o) (cw (l2++d)) else sr (oV o) (cw (l2++d)))=!decide (o∈l2++d) by rw[wV];rfl]
 refine⟨_,rfl,mz (λc2=>?_) (λc2=>leave H2 s2 λ_=>c2)⟩
 obtain⟨z,hz,rfl⟩:=aD.mp c
 refine⟨λσ' H'=>∃m',m'<m/\∃(pb:Addr) (l1 l2:Bt),σ'=[some (.ref pb),some (.ref rp),some (.int (l2.length:Nat))]/\H' pb=some (.tup (cw (l2++l1)))/\B=l1++l2/\l2.Nodup/\(∀o∈l2,o∈rs.map some)/\(∀ss,(∀z∈rs,z∈ss)->dI (bq B ss) (kE B.length l2.length)/\bq (l2++l1) ss=iB (bq B ss) (kE B.length l2.length))/\l1.length=m'/\aJ H H',λ_ _ z=>z,?_⟩
 have hpb2:=s2 _ _ hpb'
 show vx K _ [some (.ref pb),some (.ref rp),some (.int (l2.length:Nat))] H2
 refine⟨_,rfl,1,rfl,CC hpb2 ⟨(by show 1<=sizeLine;decide),λt nt=>?_⟩⟩
 have s3:aJ H2 (aN H2 t (.tup [oV (some z)])):=(aJ.refl H2).new nt
 have ht:aN H2 t (.tup [oV (some z)]) t=some (.tup [oV (some z)]):=ak
 generalize aN H2 t (.tup [oV (some z)])=H3 at s3 ht ⊢
 refine⟨_,rfl,1,rfl,_,rfl,JD (s3 _ _ (s2 _ _ hpb)) (yF (by simp)) λc3 nc3=>?_⟩
 rw[ed]
 have s4:aJ H3 (aN H3 c3 (.tup (cw (l2++d)))):=(aJ.refl H3).new nc3
 refine LJ (s4 _ _ ht) ak (by rw[cC,ai];rw[ai] at bl;lia) λr H5 hr5 s5=>?_
 have hr5:H5 r=some (.tup (cw (some z::l2++d))):=by rw[hr5];rfl
 have s15:=((s2.trans s3).trans s4).trans s5
 show vw K _ [some (.ref r),some (.ref rp),some (.int (l2.length:Nat))] H5
 refine⟨_,rfl,.inl ⟨_,_,rfl,rfl,?_⟩⟩
 show vt K _ [some (.ref r),some (.ref rp),some (.int ((some z::l2).length:Nat))] H5
 have nd':(some z::l2).Nodup:=bS.mpr ⟨λy=>c2 (ax.mpr (.inl y)),nd⟩
 have lin':∀o∈some z::l2,o∈rs.map some:=λo ho=>by
  rcases aM.mp ho with rfl|ho
  ·exact aD.mpr ⟨z,hz,rfl⟩
  ·exact lin o ho
 have l2r':(some z::l2).length<=rs.length:=by have:=iz nd' lin';rwa [af] at this
 rw[ai,aI] at bl lm
 refine⟨_,rfl,_,rfl,_,_,rfl,.inr ⟨_,cE.of hr5,rfl⟩,_,_,rfl,rfl,_,rfl,dy (λc4=>?_) (λc4=>?_)⟩
 ·have c4:((cw (some z::l2++d)).length:Int)<(((some z::l2).length:Nat):Int):=c4
  rw[cC,ai] at c4
  exfalso;lia
 ·refine⟨d.length,by lia,r,d,some z::l2,rfl,hr5,by rw[eB];simp,nd',lin',λss hss=>?_,rfl,s1.trans s15⟩
  have:=Fy (B:=B) (C:=l2++(d++[some z])) (d:=l2++d) (z:=z) ec (by rw[ai,ai,aI];lia) (hss z hz) c2 (stp ss hss)
  have ep:kE B.length (some z::l2).length=kE B.length l2.length++[B.length-1]:=by unfold kE;rw[bf,List.replicate_succ']
  rw[ep]
  exact this
def mq(n:Nat)(B:Bt)(ws:List Wk)(pss:List (List Str))(ss0:List Str)(k:Nat)(C:Bt)(ss:List Str)(c:Nat):Prop:=∀kss ts,p7 n B ws pss (aV n none) kss ts->(∀ks,kss[k]?=some ks->bq C ss∈ks)/\∀t0 t m,ts[0]?=some t0->ts[k]?=some t->(bq C ss,m)∈t->∃m0,m0<=c+m/\(bq B ss0,m0)∈t0
theorem mq.zero{n:Nat}{B:Bt}{ws:List Wk}{pss:List (List Str)}{ss0:List Str}(es:pss[0]?=some ss0):mq n B ws pss ss0 0 B ss0 0:=λkss ts tb=>by
 refine⟨λks hk=>(tb.cm.fst ks ss0 hk es).ent _ (aj.mpr rfl),λt0 t m h1 h2 h3=>?_⟩
 rw[h1] at h2;cases h2
 exact⟨m,by lia,h3⟩
theorem mq.step{n:Nat}{B:Bt}{last:List Str}{ws:List Wk}{pss:List (List Str)}{ss0 ss ss':List Str}{k c:Nat}{C C':Bt}{w:Wk}{ps:List Nat}(h:mq n B ws pss ss0 k C ss c)(P:rj last ws pss)(ew:ws[k]?=some w)(es:pss[k]?=some ss)(es':pss[k+1]?=some ss')(ne:C'≠[])(ok:dI (bq C ss) ps)(er:bq C' ss=iB (bq C ss) ps)(hh:∀z∈ss',some z∈zN C' w.out):mq n B ws pss ss0 (k+1) (zN C' w.out) ss' (c+ps.length):=λkss ts tb=>by
 have pl:=P.len
 have kl:=(ae.mp ew).1
 have cl:=tb.cm.len
 have tl:=tb.len
 obtain⟨h1,h2⟩:=h kss ts tb
 have hk:kss[k]?=some (kss[k]'(by lia)):=aa _
 have ht:ts[k]?=some (ts[k]'(by lia)):=aa _
 generalize kss[k]'(by lia)=ks at hk
 generalize ts[k]'(by lia)=t at ht
 have in1:=h1 ks hk
 have cls:=tb.cm.cl pl k ks hk
 have in2:bq C' ss∈ks:=by rw[er];exact Ba cls in1 ok
 have eb:bq (zN C' w.out) ss'=iZ (bq C' ss) w.out ss':=Gi ne (P.thru ew es es')
 have hb:jH (iZ (bq C' ss) w.out ss') ss'=true:=by
  rw[<-eb]
  exact ny.mpr λz hz=>qD hz (hh z hz)
 refine⟨λks' hk'=>?_,λt0 t' m a b d=>?_⟩
 ·rw[eb]
  exact(tb.cm.nxt k ks ks' w ss' hk hk' ew es').ent _ (a9.mpr ⟨aD.mpr ⟨_,in2,rfl⟩,hb⟩)
 ·rw[eb] at d
  obtain⟨tt,sp,st⟩:=tb.mid k ks t t' w ss' hk ht b ew es'
  obtain⟨m1,l1,hm1⟩:=sp.start cls in1 ok ((st (iB (bq C ss) ps) m).mpr ⟨by rw[<-er];exact in2,by rw[<-er];exact d⟩)
  obtain⟨m0,l0,hm0⟩:=h2 t0 t m1 a ht hm1
  exact⟨m0,by lia,hm0⟩
theorem mq.fin{n:Nat}{B:Bt}{last:List Str}{ws:List Wk}{pss:List (List Str)}{ss0 ss:List Str}{c:Nat}{C:Bt}(h:mq n B ws pss ss0 ws.length C ss c)(P:rj last ws pss)(Cl:C.length=n):∀kss ts t m,p7 n B ws pss (aV n none) kss ts->ts[0]?=some t->(bq B ss0,m)∈t->m<=c:=λkss ts t m tb ht hm=>by
 have cl:=tb.cm.len
 have tl:=tb.len
 obtain⟨h1,h2⟩:=h kss ts tb
 have hk:kss[ws.length]?=some (kss[ws.length]'(by lia)):=aa _
 have ht':ts[ws.length]?=some (ts[ws.length]'(by lia)):=aa _
 have in1:=h1 _ hk
 obtain⟨t0,sp,st⟩:=tb.fin _ _ hk ht'
 obtain⟨m1,l1,hm1⟩:=sp.s1 (bq C ss) 0 ((st _ _).mpr ⟨in1,by
  have:(bq C ss).length=n:=by rw[dE];exact Cl
  rw[<-this];exact vE _,rfl⟩)
 obtain⟨m0,l0,hm0⟩:=h2 t _ m1 ht ht' hm1
 have:=tG (tb.nd P.len ht).1 hm hm0
 lia
theorem DJ{K:Fg}{te:TE}{s0 s1 s2 s4 s5 s6 s7 s8 s9:Option V}{pb tn:Addr}{b:Bt}{ss:List Str}{H:Hp}{Q:Bool->Hp->Prop}(hte:∀R:VK,R (.ref tn) H->te [s0,s1,s2,some (.ref pb),s4,s5,s6,s7,s8,s9] H R)(hb:H pb=some (.tup (cw b)))(hn:H tn=some (.tup (ss.map V.str)))(few:ss.length<=1000)(has:∀z∈ss,some z∈b)(q:∀H',aJ H H'->Q true H') :
  tB (fQ (Fd K) (ar (d6 [] 1 (jk K te) (aQ 10) jE (bN ((y8 K false)) (ay 10) (ay 3))) aP)) [s0,s1,s2,some (.ref pb),s4,s5,s6,s7,s8,s9] H Q:=by
 refine .inr (hte _ ⟨tn,rfl,⟨_,cE.of hn⟩,λD nD=>?_⟩)
 refine iR (xs:=ss.map V.str) (λi σ' H'=>∃o,σ'=[s0,s1,s2,some (.ref pb),s4,s5,s6,s7,s8,s9,o]/\H' D=some (.lst ((aV i true).map V.bl))/\aJ H H') ⟨none,rfl,ak,(aJ.refl H).new nD⟩ ?_ ?_ ?_
 ·rintro i σ' H' _ ⟨_,_,_,s⟩;exact cE.of (s _ _ hn)
 ·rintro i v σ' H1 hv ⟨o,rfl,hD,s⟩
  obtain⟨y,hy,rfl⟩:=qH hv
  have il:i<ss.length:=(ae.mp hy).1
  refine fB ⟨_,rfl,_,rfl,pb,_,rfl,.inr (cE.of (s _ _ hb)),rfl,iS b,?_⟩
  rw[show(if false=true then !sr (V.str y) (cw b) else sr (V.str y) (cw b))=decide (some y∈b) from CB y b,decide_eq_true (has y (aC hy))]
  refine⟨_,hD,bG (by rw[af,fj];lia),_,rfl,?_,cO s nD⟩
  rw[ak,List.replicate_succ',aB];rfl
 ·rintro σ' H1 ⟨o,_,hD,s⟩
  refine⟨D,_,rfl,cq.of hD,_,rfl,?_⟩
  have:(aV (ss.map V.str).length true).all id=true:=by simp
  rw[this]
  exact q H1 s
theorem yL{K:Fg}{vs:List V}{H:Hp}{Q:VK}{E:XK}(h:kq K vs H Q E):qJ K {nx:=λ_ H'=>Q .non H',rt:=Q} (start gY vs) H:=by
 obtain⟨bp,wp,pt,lt,n,B,ws,last,dd,ss0,pvs,pss,rfl,hB,Bl,n1,n5,WA,F,hpt,hP,P,wd,es0,h0,q⟩:=h
 obtain⟨⟨wvs,hwp,hW⟩,hlt⟩:=id WA
 have wl:=hW.len
 have pl:=P.len
 have w100:=F.w100
 have d64:=F.d64
 have sfew:∀{k:Nat} {ss:List Str},pss[k]?=some ss->ss.length<=5:=λe=>by have:=wd.len _ (aC e);lia
 refine⟨_,rfl,?_⟩
 show mY K _ [some (.ref bp),some (.ref wp),some (.ref pt),some (.ref bp),some (.int 0),none,none,none,none,none] H
 refine⟨_,rfl,wp,rfl,⟨_,cE.of hwp⟩,kC (xs:=wvs) (λi σ' H'=>∃pb C c ss o5 o6 o7 o8 o9,σ'=[some (.ref bp),some (.ref wp),some (.ref pt),some (.ref pb),some (.int ((c:Nat):Int)),o5,o6,o7,o8,o9]/\H' pb=some (.tup (cw C))/\C.length=n/\pss[i]?=some ss/\(∀z∈ss,some z∈C)/\mq n B ws pss ss0 i C ss c/\aJ H H') ⟨bp,B,0,ss0,none,none,none,none,none,rfl,hB,Bl,es0,h0,mq.zero es0,aJ.refl H⟩ ?_ ?_ ?_⟩
 ·rintro i σ' H' _ ⟨_,_,_,_,_,_,_,_,_,_,_,_,_,_,_,s⟩;exact cE.of (s _ _ hwp)
 ·rintro i wv σ' H1 tt hwv ntt ⟨pb,C,c,ss,o5,o6,o7,o8,o9,rfl,hpb,Cl,es,hC,tp,s1⟩
  obtain⟨w,ew,wa,wt,rfl,hwa,hwt⟩:=hW.of_v hwv
  have il:i<ws.length:=(ae.mp ew).1
  obtain⟨_,ss',ev',es',np,rfl,hnp⟩:=hP.get (i:=i+1) (by lia)
  have Cne:C≠[]:=λz=>by rw[z] at Cl;have:(0:Nat)=n:=Cl;lia
  have s2:aJ H1 (aN H1 tt (.tup [.int (i:Nat),.ref wa])):=(aJ.refl H1).new ntt
  have htt:aN H1 tt (.tup [.int (i:Nat),.ref wa]) tt=some (.tup [.int (i:Nat),.ref wa]):=ak
  generalize aN H1 tt (.tup [.int (i:Nat),.ref wa])=H2 at s2 htt ⊢
  have s02:=s1.trans s2
  refine⟨tt,_,rfl,cE.of htt,rfl,_,_,rfl,_,_,rfl,wa,_,rfl,cE.of (s02 _ _ hwa),rfl,_,_,rfl,_,_,rfl,rfl,rfl,?_⟩
  show mX K _ [some (.ref bp),some (.ref wp),some (.ref pt),some (.ref pb),some (.int ((c:Nat):Int)),some (.int (i:Nat)),some (.ref wt),some (gB w.out),o8,o9] H2
  have hnp2:=s02 _ _ hnp
  have sf':=sfew es'
  refine .inr ⟨_,rfl,_,rfl,.inl ⟨_,_,rfl,rfl,lD (v:=.ref np) (cq.of (s02 _ _ hpt)) (by lia) (by rw[show((i:Int)+1).toNat=i+1 by lia];exact ev') ⟨np,rfl,⟨_,cE.of hnp2⟩,λD nD=>?_⟩⟩⟩
  refine iR (xs:=ss'.map V.str) (λj σ' H'=>∃o,σ'=[some (.ref bp),some (.ref wp),some (.ref pt),some (.ref pb),some (.int ((c:Nat):Int)),some (.int (i:Nat)),some (.ref wt),some (gB w.out),o8,o9,o]/\H' D=some (.lst (((ss'.take j).filter λy=>!decide (w.out=some y)).map V.str))/\aJ H2 H') ⟨none,rfl,ak,(aJ.refl H2).new nD⟩ ?_ ?_ ?_
  ·rintro j σ' H' _ ⟨_,_,_,s⟩;exact cE.of (s _ _ hnp2)
  ·rintro j x σ' H3 hx ⟨o,rfl,hD,s⟩
   obtain⟨y,hy,rfl⟩:=qH hx
   have fl:((ss'.take j).filter λy=>!decide (w.out=some y)).length<=ss'.length:=br (bx _ _) (by rw[aS];exact iw _ _)
   refine⟨_,rfl,_,rfl,.inl ⟨xi y w.out,_,rfl,?_⟩⟩
   have tk:(ss'.take (j+1)).filter (λy=>!decide (w.out=some y))=((ss'.take j).filter λy=>!decide (w.out=some y))++if(!decide (w.out=some y))=true then[y] else[]:=by
    rw[mf,hy,eW]
    congr 1
    show[y].filter _=_
    rw[cX]
    split<;>simp_all
   rw[D5]
   refine mz (λhs=>?_) (λhs=>?_)
   ·refine⟨_,rfl,_,hD,bG (by rw[af];lia),_,rfl,?_,cO s nD⟩
    rw[ak,tk,decide_eq_false hs,aB];rfl
   ·refine⟨_,rfl,?_,s⟩
    rw[tk,decide_eq_true hs]
    simpa using hD
  ·rintro σ' H3 ⟨o,_,hD,s3⟩
   rw[af,a7] at hD
   have s03:=s02.trans s3
   have work:∀(pb':Addr) (C':Bt) (c' j:Nat) (o9:Option V) (H5:Hp),H5 pb'=some (.tup (cw C'))->C'.length=n->(∀o,o∈C'↔o∈C)->dI (bq C ss) (kE n j)->bq C' ss=iB (bq C ss) (kE n j)->(∀z∈ss',some z∈zN C' w.out)->c'=c+j->aJ H H5->mT K {nx:=λσ' H'=>∃pb C c ss o5 o6 o7 o8 o9,σ'=[some (.ref bp),some (.ref wp),some (.ref pt),some (.ref pb),some (.int ((c:Nat):Int)),o5,o6,o7,o8,o9]/\H' pb=some (.tup (cw C))/\C.length=n/\pss[i+1]?=some ss/\(∀z∈ss,some z∈C)/\mq n B ws pss ss0 (i+1) C ss c/\aJ H H',rt:=Q,ct:=λσ' H'=>∃pb C c ss o5 o6 o7 o8 o9,σ'=[some (.ref bp),some (.ref wp),some (.ref pt),some (.ref pb),some (.int ((c:Nat):Int)),o5,o6,o7,o8,o9]/\H' pb=some (.tup (cw C))/\C.length=n/\pss[i+1]?=some ss/\(∀z∈ss,some z∈C)/\mq n B ws pss ss0 (i+1) C ss c/\aJ H H',bk:=jF K {nx:=λ_ H'=>Q .non H',rt:=Q}} [some (.ref bp),some (.ref wp),some (.ref pt),some (.ref pb'),some (.int ((c':Nat):Int)),some (.int (i:Nat)),some (.ref wt),some (gB w.out),some (.ref D),o9] H5:=λpb' C' c' j o9 H5 hpb' Cl' mem ok er hh ec s5=>by
    have Cne':C'≠[]:=λz=>by rw[z] at Cl';have:(0:Nat)=n:=Cl';lia
    obtain⟨i100,_⟩:=F.ins w (aC ew)
    refine DJ (K:=K) (b:=C') (ss:=w.ins) (tn:=wt) (λR hR=>⟨_,rfl,hR⟩) hpb' (s5 _ _ hwt) (by lia) (λz hz=>(mem _).mpr (hC z (P.ins ew es z hz))) λH6 s6=>jo ?_
    show mS K _ [some (.ref bp),some (.ref wp),some (.ref pt),some (.ref pb'),some (.int ((c':Nat):Int)),some (.int (i:Nat)),some (.ref wt),some (gB w.out),some (.ref D),o9] H6
    refine⟨_,rfl,_,rfl,pb',C',w.out,rfl,s6 _ _ hpb',Cne',by lia,λr H7 hr s7=>?_⟩
    have st:=tp.step P ew es es' Cne' ok er hh
    refine⟨r,zN C' w.out,c',ss',_,_,_,_,_,rfl,hr,by rw[yf];exact Cl',es',hh,?_,(s5.trans s6).trans s7⟩
    rw[ec]
    have ll:(kE n j).length=j:=by unfold kE;rw[fj]
    rw[ll] at st
    exact st
   show mW K _ [some (.ref bp),some (.ref wp),some (.ref pt),some (.ref pb),some (.int ((c:Nat):Int)),some (.int (i:Nat)),some (.ref wt),some (gB w.out),some (.ref D),o9] H3
   refine⟨_,rfl,rfl,_,rfl,?_⟩
   rw[qm,xg,Bool.not_not,<-qm]
   have hpb3:=s3 _ _ (s2 _ _ hpb)
   cases ho:w.out with
   |none=>
    refine jo ?_
    rw[ho] at work
    exact work pb C c 0 o9 H3 hpb3 Cl (λ_=>Iff.rfl) trivial rfl (λz hz=>hC z (P.thru ew es es' z hz (by rw[ho];exact λe=>by cases e))) rfl s03
   |some y=>
    refine nS ?_
    rw[ho] at hD work
    have room:=wd.mid i w y ss' ew ho es'
    refine⟨_,rfl,_,rfl,pb,D,C,_,rfl,hpb3,hD,Cne,by lia,by rw[Cl];exact room,λt pb' C' j H4 ht hpb4 jl Cl4 mem stp ext s4=>?_⟩
    refine⟨t,_,rfl,cE.of ht,rfl,_,_,rfl,_,_,rfl,rfl,?_⟩
    show mV K _ [some (.ref bp),some (.ref wp),some (.ref pt),some (.ref pb'),some (.int ((c:Nat):Int)),some (.int (i:Nat)),some (.ref wt),some (gB (some y)),some (.ref D),some (.int (j:Nat))] H4
    refine⟨_,rfl,_,rfl,_,_,rfl,.inr ⟨_,cE.of hpb4,rfl⟩,_,_,rfl,rfl,_,rfl,dy (λc4=>?_) (λc4=>?_)⟩
    ·have c4:((cw C').length:Int)<((j:Nat):Int):=c4
     rw[cC] at c4
     exfalso;lia
    ·show mU K _ [some (.ref bp),some (.ref wp),some (.ref pt),some (.ref pb'),some (.int ((c:Nat):Int)),some (.int (i:Nat)),some (.ref wt),some (gB (some y)),some (.ref D),some (.int (j:Nat))] H4
     have Cne':C'≠[]:=λz=>by rw[z] at Cl4;have:(0:Nat)=C.length:=Cl4;lia
     have rin:∀z∈ss'.filter (λy'=>!decide (some y=some y')),z∈ss:=λz hz=>by
      obtain⟨z1,z2⟩:=a9.mp hz
      refine P.thru ew es es' z z1 λe=>?_
      rw[ho] at e
      rw[e] at z2;simp at z2
     obtain⟨ok,er⟩:=stp ss rin
     rw[Cl] at ok er
     refine⟨_,rfl,_,rfl,.inl ⟨_,_,rfl,rfl,?_⟩⟩
     refine work pb' C' (c+j) j _ H4 hpb4 (by rw[Cl4];exact Cl) mem ok er (λz hz=>?_) rfl (s03.trans s4)
     show some z∈jj C' y
     rw[wG y Cne']
     by_cases e:z=y
     ·rw[e];exact aZ
     ·have zr:z∈ss'.filter (λy'=>!decide (some y=some y')):=a9.mpr ⟨hz,by simp;exact λq=>e q.symm⟩
      have zc:some z∈C':=(mem _).mpr (hC z (rin z zr))
      have zd:some z∈C'.dropLast:=by
       rw[<-cD Cne'] at zc
       rcases ax.mp zc with h|h
       ·exact h
       ·refine ext z zr ?_
        rw[<-Cl4,<-d8,List.getLast?_eq_some_getLast Cne',<-aj.mp h]
      refine aY _ ?_
      rw[<-List.map_dropLast]
      refine aD.mpr ⟨some z,zd,?_⟩
      unfold Bg.blank
      rw[if_neg λq=>e (Option.some.inj q)]
 ·rintro σ' H1 ⟨pb,C,c,ss,o5,o6,o7,o8,o9,rfl,hpb,Cl,es,hC,tp,s1⟩
  rw[wl] at es tp
  have pvl:pvs.length=ws.length+1:=by rw[hP.len];exact pl
  obtain⟨_,ss2,ev,es2,np,rfl,hnp⟩:=hP.get (i:=ws.length) (by lia)
  rw[es] at es2;cases es2
  have sf:=sfew es
  show jF K _ [some (.ref bp),some (.ref wp),some (.ref pt),some (.ref pb),some (.int ((c:Nat):Int)),o5,o6,o7,o8,o9] H1
  refine DJ (K:=K) (b:=C) (ss:=ss) (tn:=np) (λR hR=>⟨_,rfl,1,rfl,su (v:=.ref np) (s1 _ _ hpt) (by rw[pvl,cA];exact ev) hR⟩) hpb (s1 _ _ hnp) (by lia) hC λH3 s3=>jo ?_
  exact⟨_,rfl,q c H3 (tp.fin P Cl) (s1.trans s3)⟩
theorem EY{d:Addr}{kvs:List (KP×V)}{ob:Obj}{g:TG}{tb:TS}{D:lT}{σ:St}{H:Hp}(Pv:Nat->St->Hp->Prop)(h0:Pv 0 σ H)(hl:∀i σ H,i<=kvs.length->Pv i σ H->H d=some (.frz ob (.dP kvs)))
  (hs:∀i k v b σ H,kvs[i]?=some (k,v)->vP H b k->Pv i σ H->g (.ref b) σ H λσ2 H2=>tb {D with nx:=Pv (i+1),ct:=Pv (i+1),bk:=D.nx} σ2 H2) (hd:∀σ H,Pv kvs.length σ H->D.nx σ H) :
  ∃W:Nat->Nat->St->Hp->Prop,(∃m,W 0 m σ H)/\∀i m σ H,W i m σ H->
   ((zg d kvs ob).stop i H/\D.nx σ H)\/((zg d kvs ob).go i H/\∃N:St->Hp->Prop,(∀σ' H',N σ' H'->∃m',m'<m/\W (i+1) m' σ' H')/\∀x H',(zg d kvs ob).yld i H x H'->g x σ H' λσ2 H2=>tb {D with nx:=N,ct:=N,bk:=D.nx} σ2 H2):=by
 refine⟨λi m σ H=>m=kvs.length-i/\i<=kvs.length/\Pv i σ H,⟨kvs.length,by simp,a8 _,h0⟩,?_⟩
 rintro i m σ H ⟨rfl,hi,p⟩
 have q:=hl i σ H hi p
 by_cases hlt:i<kvs.length
 ·refine .inr ⟨⟨q,hlt⟩,Pv (i+1),λσ' H' p'=>⟨kvs.length-(i+1),by lia,rfl,hlt,p'⟩,?_⟩
  rintro x H' ⟨rfl,k,v,b,e,rfl,hb⟩
  exact hs i k v b σ H' e hb p
 ·have e:i=kvs.length:=by lia
  subst e
  exact .inl ⟨⟨q,aw _⟩,hd σ H p⟩
theorem Cg{js:List Nat}{kk:Nat}{d:Addr}{kvs:List (KP×V)}{ob:Obj}{g:TG}{tc:TT}{te:TE}{R:Hp->Prop}{σ:St}{H:Hp}{D:Addr}(Pv:Nat->St->Hp->Prop)(h0:Pv 0 (um js kk σ) (aN H D (.lst [])))(hl:∀i σ H,i<=kvs.length->Pv i σ H->H d=some (.frz ob (.dP kvs)))
  (hs:∀i k v b σ H,kvs[i]?=some (k,v)->vP H b k->Pv i σ H->g (.ref b) σ H λσ2 H2=>jr D tc te {nx:=Pv (i+1),rt:=λ_ _=>False,ct:=Pv (i+1),bk:=λ_ H'=>R H'} σ2 H2) (hd:∀σ H,Pv kvs.length σ H->R H) :
  ∃W:Nat->Nat->St->Hp->Prop,(∃m,W 0 m (um js kk σ) (aN H D (.lst [])))/\∀i m σ H,W i m σ H->
   ((zg d kvs ob).stop i H/\R H)\/((zg d kvs ob).go i H/\∃N:St->Hp->Prop,(∀σ' H',N σ' H'->∃m',m'<m/\W (i+1) m' σ' H')/\∀x H',(zg d kvs ob).yld i H x H'->g x σ H' λσ2 H2=>jr D tc te {nx:=N,rt:=λ_ _=>False,ct:=N,bk:=λ_ H'=>R H'} σ2 H2):=
 EY (D:={nx:=λ_ H'=>R H',rt:=λ_ _=>False}) Pv h0 hl hs hd
theorem K3(gs:List (List Nat)):(gs.map λg=>((g.length:Nat):Int)).sum=(((gs.map (·.length)).sum:Nat):Int):=by
 induction gs with
 |nil=>rfl
 |cons g r ih=>rw[bz,List.sum_cons,ih,bz,List.sum_cons];simp
theorem E6{K:Fg}{s0 s1 s2 s3 s4 s5 s6 s7 s8 s9 s10:Option V}{gp D:Addr}{gvs:List V}{gs:List (List Nat)}{H0:Hp}{R:Hp->Prop}(hg:H0 gp=some (.tup gvs))(hA:bo (BB H0) gvs gs)(few:gs.length<=1000)(nD:H0 D=none)(hR:∀H',H' D=some (.lst ((gs.map λg=>((g.length:Nat):Int)).map V.int))->aJ H0 H'->R H') :
  ∃W:Nat->Nat->St->Hp->Prop,(∃m,W 0 m (um [] 1 [s0,s1,s2,s3,s4,s5,s6,s7,s8,s9,s10]) (aN H0 D (.lst [])))/\∀i m σ H,W i m σ H->((FQ K gp).stop i H/\R H)\/((FQ K gp).go i H/\∃N:St->Hp->Prop,(∀σ' H',N σ' H'->∃m',m'<m/\W (i+1) m' σ' H')/\∀x H',(FQ K gp).yld i H x H'->aQ 11 x σ H' λσ2 H2=>jr D jE (fQ (gF K) (ar (ay 11) aP)) {nx:=N,rt:=λ_ _=>False,ct:=N,bk:=λ_ H'=>R H'} σ2 H2):=by
 refine iR (xs:=gvs) (λi σ' H'=>∃o,σ'=[s0,s1,s2,s3,s4,s5,s6,s7,s8,s9,s10,o]/\H' D=some (.lst ((((gs.take i).map λg=>((g.length:Nat):Int))).map V.int))/\aJ H0 H') ⟨none,rfl,ak,(aJ.refl H0).new nD⟩ ?_ ?_ ?_
 ·rintro i σ' H' _ ⟨_,_,_,s⟩;exact cE.of (s _ _ hg)
 ·rintro i v σ' H1 hv ⟨o,rfl,hD,s⟩
  obtain⟨g,eg,p,rfl,hp⟩:=hA.of_v hv
  refine fB ⟨_,rfl,_,_,rfl,.inr ⟨_,cE.of (s _ _ hp),rfl⟩,_,hD,bG (by rw[af,af,aS];lia),_,rfl,?_,cO s nD⟩
  rw[ak,fh eg,aB,aB,af];rfl
 ·rintro σ' H1 ⟨o,_,hD,s⟩
  have gl:gvs.length=gs.length:=hA.len
  rw[gl,a7] at hD
  exact hR H1 hD s
theorem LQ{K:Fg}{H:Hp}{p p' t t':Addr}{wd:Str}{k:Int}{ss:List Str}{Q:VK}(hp:H p=some (.tup [.str wd,.int k,.ref t]))(ht:H t=some (.tup (ss.map V.str)))(hp':H p'=some (.tup [.str wd,.int k,.ref t']))(ht':H t'=some (.tup (ss.map V.str)))(q:Q (.bl true) H):HP K (.ref p) (.ref p') H Q:=by
 refine .inl ⟨p,p',_,_,rfl,rfl,.inr ⟨cE.of hp,cE.of hp',rfl⟩,.inr ⟨[true,true,true],rfl,rfl,λj x y e h1 h2 h3=>?_,q⟩⟩
 match j,h1,h2,h3 with
 |0,h1,h2,h3=>
  cases h1;cases h2;cases h3
  have:=BI.flat (K:=K) (H:=H) (d:=4) (x:=.str wd) (y:=.str wd) rfl rfl
  simpa[vU] using this
 |1,h1,h2,h3=>
  cases h1;cases h2;cases h3
  have:=BI.flat (K:=K) (H:=H) (d:=4) (x:=.int k) (y:=.int k) rfl rfl
  simpa[vU] using this
 |2,h1,h2,h3=>cases h1;cases h2;cases h3;exact GB ht ht'
 |n+3,h1,_,_=>simp at h1
theorem N3{K:Fg}{vs:List V}{H:Hp}{Q:VK}{E:XK}(h:yX K vs H Q E):Lu K {nx:=λ_ H'=>Q .non H',rt:=Q} (start DF vs) H:=by
 obtain⟨scr,zs,rfl,hscr,hzs,q⟩:=h
 refine⟨_,rfl,(by show 3<=sizeLine;decide),λst hst=>?_⟩
 have S1:ma K (aN H st (.lst [.ref scr,.int 0,.int 0])) st 0:=⟨scr,zs,0,ak,hscr.mono (.of_same ((aJ.refl H).new hst)),hzs⟩
 show Bp K _ [some (.ref scr),some (.ref st),none,none,none,none,none,none,none,none,none] (aN H st (.lst [.ref scr,.int 0,.int 0]))
 generalize aN H st (.lst [.ref scr,.int 0,.int 0])=H1 at S1 ⊢
 refine⟨_,rfl,st,0,rfl,S1,by decide,λn H2 n1 n5' S2 B2=>?_⟩
 show Bo K _ [some (.ref scr),some (.ref st),some (.int (n:Nat)),none,none,none,none,none,none,none,none] H2
 refine⟨_,rfl,_,rfl,_,rfl,.inl ⟨_,_,rfl,rfl,st,(n:Nat)+2,1,rfl,S2,by decide,by lia,by lia,λd H3 d0 d1 S3 B3=>.inl ⟨_,_,rfl,rfl,?_⟩⟩⟩
 obtain⟨nn,hnn,nn1,nn6⟩:∃nn:Nat,(1:Int)+d=(nn:Int)/\1<=nn/\nn<=7:=⟨(1+d).toNat,by lia,by lia,by lia⟩
 refine⟨st,nn,2,by rw[<-hnn];rfl,S3,by decide,by lia,λnm ys k4 H4 nnm yl ynd ynm hnm S4 hk4 B4=>?_⟩
 have nst:nm≠st:=λz=>by obtain⟨_,e⟩:=S3.lst;rw[z,e] at nnm;cases nnm
 show Bn K _ [some (.ref scr),some (.ref st),some (.int (n:Nat)),some (.ref nm),none,none,none,none,none,none,none] H4
 refine⟨_,rfl,_,rfl,(by show 5<=sizeLine;decide),λl5 n5=>?_⟩
 have S5:=S4.new (o:=.lst [V.int 10,V.int 10,V.int 10,V.int 6,V.int 3]) n5
 have h5:aN H4 l5 (.lst [V.int 10,V.int 10,V.int 10,V.int 6,V.int 3]) l5=some (.lst [V.int 10,V.int 10,V.int 10,V.int 6,V.int 3]):=ak
 have nm5:aN H4 l5 (.lst [V.int 10,V.int 10,V.int 10,V.int 6,V.int 3]) nm=some (.lst (ys.map V.str)):=by rw[aA (aL hnm n5)];exact hnm
 generalize aN H4 l5 (.lst [V.int 10,V.int 10,V.int 10,V.int 6,V.int 3])=H5 at S5 h5 nm5 ⊢
 obtain⟨mo,hmo,mo10⟩:∃mo:Nat,([V.int 10,V.int 10,V.int 10,V.int 6,V.int 3]:List V)[((n:Int)-1).toNat]?=some (.int (mo:Nat))/\mo<=10:=by
  match n,n1,n5' with
  |1,_,_=>exact⟨10,rfl,by decide⟩
  |2,_,_=>exact⟨10,rfl,by decide⟩
  |3,_,_=>exact⟨10,rfl,by decide⟩
  |4,_,_=>exact⟨6,rfl,by decide⟩
  |5,_,_=>exact⟨3,rfl,by decide⟩
  |n+6,_,h=>exact absurd h (by lia)
  |0,h,_=>exact absurd h (by lia)
 refine⟨_,rfl,_,_,rfl,rfl,lD (cq.of h5) (by lia) hmo ⟨st,nm,mo,k4,ys,rfl,S5,by lia,nst,nm5,by lia,by lia,by lia,λwp wvs ws k6 H6 hwp hW wl wok S6 hk6 B6=>?_⟩⟩
 show Bm K _ [some (.ref scr),some (.ref st),some (.int (n:Nat)),some (.ref nm),some (.ref wp),none,none,none,none,none,none] H6
 refine⟨_,rfl,_,rfl,_,rfl,st,nm,n,k6,ys,rfl,S6,by lia,nst,B6 _ _ nst nm5,by lia,by lia,λlt last k7 H7 hlt ll lm lin S7 hk7 B7=>?_⟩
 have tp7:=ye S6 B7
 have hnm7:=B7 _ _ nst (B6 _ _ nst nm5)
 have WA:p9 H7 wp lt ws last:=⟨⟨wvs,tp7 _ _ hwp,hW.imp λ_ _ z=>z.tp tp7⟩,hlt⟩
 have F:Lb ys last ws:=⟨by lia,by lia,by lia,λw mw=>⟨br (wok w mw).1 (by decide),(wok w mw).2⟩,lin⟩
 have w10:ws.length<=10:=by lia
 show Es K _ [some (.ref scr),some (.ref st),some (.int (n:Nat)),some (.ref nm),some (.ref wp),some (.ref lt),none,none,none,none,none] H7
 refine⟨_,rfl,_,rfl,_,rfl,wp,lt,nm,ws,last,ys,rfl,WA,F,hnm7,ynd,λpt tvs pss H8 npt hpt hA P s8=>?_⟩
 have S8:=S7.same s8
 have hnm8:=s8 _ _ hnm7
 have WA8:=WA.same s8
 have pl:=P.len
 have ptst:pt≠st:=λz=>by obtain⟨_,e⟩:=S7.lst;rw[z,e] at npt;cases npt
 obtain⟨_,ss,es,es',np,rfl,hnp⟩:=hA.get (i:=0) (by lia)
 show Er K _ [some (.ref scr),some (.ref st),some (.int (n:Nat)),some (.ref nm),some (.ref wp),some (.ref lt),some (.ref pt),none,none,none,none] H8
 refine⟨_,rfl,_,rfl,_,rfl,(n:Nat),wp,lt,ws,last,ys,pss,rfl,WA8,F,P,λfv H9 hc s9=>?_⟩
 have hpt9:=s9 _ _ hpt
 have hnp9:=s9 _ _ hnp
 show Ep K _ [some (.ref scr),some (.ref st),some (.int (n:Nat)),some (.ref nm),some (.ref wp),some (.ref lt),some (.ref pt),some fv,none,none,none] H9
 have gd:pss.getD 0 []=ss:=by rw[bU,es'];rfl
 refine⟨_,rfl,lD (cq.of hpt9) (by decide) es ⟨_,_,rfl,.inr ⟨_,cE.of hnp9,rfl⟩,_,rfl,_,_,rfl,rfl,_,rfl,dy (λc=>?_) (λc=>?_)⟩⟩
 ·-- too many are wanted at once
  have c:((n:Nat):Int)<(((ss.map V.str).length:Nat):Int):=c
  rw[af] at c
  have hcr:BF (n:Nat) ws pss (ws.length+1) 0=(show Option (Str×Nat×List Str) from some ("ahead",0,ss)):=by
   unfold BF
   rw[gd,if_pos c]
  rw[hcr] at hc
  obtain⟨p,t,rfl,hp,ht⟩:=hc
  refine⟨_,rfl,_,rfl,lD (cq.of hpt9) (by decide) es ⟨(by show 3<=sizeLine;decide),λp2 np2=>?_⟩⟩
  have s10:aJ H9 (aN H9 p2 (.tup [.str "ahead",.int 0,.ref np])):=(aJ.refl H9).new np2
  exact LQ (s10 _ _ hp) (s10 _ _ ht) ak (s10 _ _ hnp9) (q _)
 have c:¬((n:Nat):Int)<(((ss.map V.str).length:Nat):Int):=c
 rw[af] at c
 have sl:ss.length<=n:=by lia
 show Eo K _ [some (.ref scr),some (.ref st),some (.int (n:Nat)),some (.ref nm),some (.ref wp),some (.ref lt),some (.ref pt),some fv,none,none,none] H9
 have S9:=S8.same s9
 refine⟨_,rfl,_,rfl,_,rfl,lD (cq.of hpt9) (by decide) es ⟨_,rfl,st,np,nm,n,k7,ss,ys,rfl,S9,by lia,nst,s9 _ _ hnm8,by lia,hnp9,sl,by lia,λbp B k10 H10 hbp Bl Bh S10 hk10 B10=>?_⟩⟩
 have tp:=ye S9 B10
 have WA10:p9 H10 wp lt ws last:=by
  obtain⟨⟨wvs,a,b⟩,c⟩:=WA8.same s9
  exact⟨⟨wvs,tp _ _ a,b.imp λ_ _ z=>z.tp tp⟩,tp _ _ c⟩
 have hpt10:=B10 _ _ ptst hpt9
 have hA10:bo (Gd H10) tvs pss:=hA.imp λ_ _ z=>z.mono λb xs e=>tp _ _ (s9 _ _ e)
 have hnp10:=tp _ _ hnp9
 have Bne:B≠[]:=λz=>by rw[z] at Bl;have:(0:Nat)=n:=Bl;lia
 have h0:∀ss,pss[0]?=some ss->∀z∈ss,some z∈B:=λss' e z hz=>by rw[es'] at e;cases e;exact Bh z hz
 have d64:=F.d64
 have sfew:∀ss∈pss,ss.length<=7:=λss ms=>by
  obtain⟨j,hj⟩:=fG ms
  have:=iz (P.at_ j ss hj).nd λy hy=>BA F.lst (λw m=>(F.ins w (eC m)).2) (((P.at_ j ss hj).mem y).mp hy)
  lia
 show En K _ [some (.ref scr),some (.ref st),some (.int (n:Nat)),some (.ref nm),some (.ref wp),some (.ref lt),some (.ref pt),some fv,some (.ref bp),none,none] H10
 refine⟨_,rfl,rfl,_,rfl,?_⟩
 cases hr:BF (n:Nat) ws pss (ws.length+1) 0 with
 |some x=>
  obtain⟨wdd,kk,sx⟩:=x
  rw[hr] at hc
  obtain⟨fp,_,rfl,_,_⟩:=hc
  refine nS ?_
  have WP:LG H10 wp pt ws pss:=⟨WA10.1,⟨tvs,hpt10,hA10⟩,pl,λss hs=>by have:=sfew ss hs;lia,w10⟩
  refine⟨_,rfl,_,rfl,lD (cq.of hpt10) (by decide) es ⟨bp,np,B,ss,rfl,hbp,hnp10,by lia,λpv H11 hpv s11=>⟨(by show 2<=sizeLine;decide),λpk npk=>?_⟩⟩⟩
  have s12:aJ H11 (aN H11 pk (.tup [.int 0,.ref pv])):=(aJ.refl H11).new npk
  have hpk:aN H11 pk (.tup [.int 0,.ref pv]) pk=some (.tup [.int 0,.ref pv]):=ak
  generalize aN H11 pk (.tup [.int 0,.ref pv])=H12 at s12 hpk ⊢
  have s1012:=s11.trans s12
  refine⟨_,rfl,_,rfl,pk,wp,pt,n,(0,bq B ss),ws,pss,rfl,qt.mpr ⟨pv,hpk,s12 _ _ hpv⟩,WP.same s1012,n1,n5',λss ms=>?_,rfl,λss2 e2=>?_,λv ks H13 PA R kf s13=>?_⟩
  ·obtain⟨j,hj⟩:=fG ms
   exact(P.at_ j ss hj).nd
  ·rw[es'] at e2;cases e2
   exact⟨tw Bl,sl⟩
  obtain⟨D,kvs,rfl,hD,_,keys,_⟩:=PA
  have s1013:=s1012.trans s13
  obtain⟨⟨wvs',hwp13,hW13⟩,_⟩:=WA10.same s1013
  show Em K _ [some (.ref scr),some (.ref st),some (.int (n:Nat)),some (.ref nm),some (.ref wp),some (.ref lt),some (.ref pt),some (.ref fp),some (.ref bp),some (.ref D),none] H13
  have wD:wp≠D:=λz=>by rw[z,hD] at hwp13;cases hwp13
  refine⟨_,rfl,D,kvs,rfl,hD,λob DD nDD=>?_⟩
  refine Cg (λi σ' H'=>∃o,σ'=[some (.ref scr),some (.ref st),some (.int (n:Nat)),some (.ref nm),some (.ref wp),some (.ref lt),some (.ref pt),some (.ref fp),some (.ref bp),some (.ref D),none,o]/\H' DD=some (.lst [])/\aJ (aN H13 D (.frz ob (.dP kvs))) H') ⟨none,rfl,ak,(aJ.refl _).new nDD⟩ ?_ ?_ ?_
  ·rintro i σ' H' _ ⟨_,_,_,s⟩;exact s _ _ ak
  ·rintro i k v b σ' H14 hk hb ⟨o,rfl,hDD,s14⟩
   obtain⟨p,hp,rfl⟩:∃p,ks[i]?=some p/\f9 p=k:=by
    have e1:(kvs.map (·.1))[i]?=some k:=by rw[aH,hk];rfl
    rw[keys,aH] at e1
    obtain⟨p,hp,e⟩:=gU.mp e1
    exact⟨p,hp,e⟩
   obtain⟨bb,hb1,_⟩:=qt.mp hb
   have hwp14:H14 wp=some (.tup wvs'):=s14 _ _ (by rw[aA wD];exact hwp13)
   refine⟨_,rfl,D1 hb1 (by decide) (v:=.int (p.1:Nat)) rfl ⟨_,rfl,_,_,rfl,.inr ⟨_,cE.of hwp14,rfl⟩,.inr (.inr (.inl ⟨rfl,_,rfl,?_⟩))⟩⟩
   have ne:¬V.int (p.1:Nat)=V.int (wvs'.length:Nat):=λz=>by
    injection z with z
    have e:p.1=ws.length:=by rw[<-hW13.len];lia
    have:=(zS pl).mpr (C5 P n1 Bl es' Bh R (aC hp) e)
    rw[this] at hr;cases hr
   rw[decide_eq_false ne]
   exact jo ⟨_,rfl,hDD,s14⟩
  ·rintro σ' H14 ⟨o,_,hDD,s14⟩
   refine .inr ⟨D,kvs,kvs,ob,hD,s14 _ _ ak,?_⟩
   have nDD':DD≠D:=λz=>by rw[z,s14 _ _ ak] at hDD;cases hDD
   refine⟨_,_,rfl,.inl ⟨_,cq.of (by rw[aA nDD'];exact hDD),rfl⟩,.inr (.inr (.inl ⟨rfl,?_⟩))⟩
   exact q _
 |none=>
  rw[hr] at hc
  have hc:fv=.non:=hc
  subst hc
  have wd:=(zS pl).mp hr
  refine jo ?_
  show El K _ [some (.ref scr),some (.ref st),some (.int (n:Nat)),some (.ref nm),some (.ref wp),some (.ref lt),some (.ref pt),some .non,some (.ref bp),none,none] H10
  refine⟨_,rfl,_,rfl,_,rfl,bp,wp,pt,lt,n,B,ws,last,ys,ss,tvs,pss,rfl,hbp,Bl,n1,n5',WA10,F,hpt10,hA10,P,wd,es',Bh,λcc H11 hcc s11=>?_⟩
  show Ek K _ [some (.ref scr),some (.ref st),some (.int (n:Nat)),some (.ref nm),some (.ref wp),some (.ref lt),some (.ref pt),some .non,some (.ref bp),none,some (.int (cc:Nat))] H11
  refine⟨_,rfl,rfl,_,rfl,jo ?_⟩
  obtain⟨dims,cmp⟩:=JM P wd n1 n5' Bl h0
  show Ej K _ [some (.ref scr),some (.ref st),some (.int (n:Nat)),some (.ref nm),some (.ref wp),some (.ref lt),some (.ref pt),some .non,some (.ref bp),none,some (.int (cc:Nat))] H11
  refine .inr ⟨_,rfl,_,rfl,_,rfl,bp,wp,lt,n,B,ws,last,ys,rfl,⟨s11 _ _ hbp,Bl,(WA10.same s11).1,F.w100⟩,n1,n5',WA10.same s11,F,dims,cmp,λgp gvs gs bs pss' kss ts ss' t m H12 hgp hG P' tb es2 et hm fo sm s12=>?_⟩
  cases P'.one P
  rw[es'] at es2
  cases es2
  have gl:=fo.len
  refine⟨gp,rfl,⟨_,cE.of hgp⟩,λD nD=>E6 hgp hG (by lia) nD λH13 hD s13=>⟨D,_,rfl,cq.of hD,?_⟩⟩
  rw[K3,sm]
  refine⟨_,rfl,_,_,rfl,rfl,?_⟩
  have le:=hcc kss ts t m tb et hm
  show Q (V.bl (decide (((m:Nat):Int)<=((cc:Nat):Int)))) H13
  rw[decide_eq_true (show((m:Nat):Int)<=((cc:Nat):Int) by lia)]
  exact q H13
end Bg
end
namespace Bg
open PySem PySem.Spec PyProof.Rows L2
section
variable{P:Program}{w:World}{K:Fg}{mg:Str->Option Value}{base:Heap}
end
theorem all_mk{l:PySem.W.OpenLaw}{w:World}{K:Fg}{h:Heap}{mg:Str->Option Value}{fa:Addr}(X:K.In h)(G:h.Ns mainGlobals mg)(hfa:mg "law"=some (.ref fa))
  (l0:c6 K "any_order" oz)
  (l1:c6 K "pushed" uP)
  (l2:c6 K "set_anew" k9)
  (l3:c6 K "kept" AZ)
  (l4:c6 K "places_to_keep" gG)
  (l5:c6 K "next_keep" kj)
  (l6:c6 K "seen" A0)
  (l7:c6 K "worked" uR)
  (l8:c6 K "belts_ahead" jb)
  (l9:c6 K "spread" uQ)
  (l10:c6 K "weaker" pO)
  (l11:c6 K "has_all" mM)
  (l12:c6 K "turned" pN)
  (l13:c6 K "belts_that_come" eP)
  (l14:c6 K "without" mN)
  (l15:c6 K "wanted_at" oA)
  (l16:c6 K "counted" jU)
  (l17:c6 K "followed" qB)
  (l18:c6 K "fewest" uO)
  (l19:c6 K "_law_behind_work" kh)
  (l20:c6 K "_law_turned" A4)
  (l21:c6 K "_law_by_turning" hJ)
  (l22:c6 K "_law_seen" Iq)
  (l23:c6 K "_law_good" C8)
  (l24:c6 K "_law_moves" Ed)
  (l25:c6 K "_law_all_pairs" sD)
  (l26:c6 K "_law_draw" Io)
  (l27:c6 K "_law_thing" Ee)
  (l28:c6 K "_law_begin" yR)
  (l29:c6 K "crowded" sF)
  (l30:c6 K "_law_is_wanted" sE)
  (l31:c6 K "_law_points" uS)
  (l32:c6 K "_law_last" Ip)
  (l33:c6 K "_law_works" yT)
  (l34:c6 K "_law_names" yS)
  (l35:c6 K "_law_places" A3)
  (l36:c6 K "law" Ec)
  (z_len:bE K mainGlobals "len"=some none) (z_range:bE K mainGlobals "range"=some none) (z_divmod:bE K mainGlobals "divmod"=some none) (z_max:bE K mainGlobals "max"=some none) (z_min:bE K mainGlobals "min"=some none) (z_sum:bE K mainGlobals "sum"=some none) (z_all:bE K mainGlobals "all"=some none) (z_isinstance:bE K mainGlobals "isinstance"=some none) (z_int:bE K mainGlobals "int"=some none) (z_bool:bE K mainGlobals "bool"=some none) (z_list:bE K mainGlobals "list"=some none) (z_tuple:bE K mainGlobals "tuple"=some none) (z_enumerate:bE K mainGlobals "enumerate"=some none) (z_zip:bE K mainGlobals "zip"=some none) (z_sorted:bE K mainGlobals "sorted"=some none) (z_set:bE K mainGlobals "set"=some none) (z_dict:bE K mainGlobals "dict"=some none) (z_str:bE K mainGlobals "str"=some none) (z_any:bE K mainGlobals "any"=some none) (z_reversed:bE K mainGlobals "reversed"=some none) (z_abs:bE K mainGlobals "abs"=some none) :
  ∃fd:FuncData,(∀(s:Shared) (v:Value),BindsTo s fd ⟨[v],[]⟩ [("_law_script",v)])/\∀base:Heap,K.In base->base.Ns mainGlobals mg->vG l.prog w K mg base Jg FR fa fd F3 (yX K):=by
 have B:kP mg:=⟨a6 X G z_len,a6 X G z_range,a6 X G z_divmod,a6 X G z_max,a6 X G z_min,a6 X G z_sum,a6 X G z_all,a6 X G z_isinstance,a6 X G z_int,a6 X G z_bool,a6 X G z_list,a6 X G z_tuple,a6 X G z_enumerate,a6 X G z_zip,a6 X G z_sorted,a6 X G z_set,a6 X G z_dict,a6 X G z_str,a6 X G z_any,a6 X G z_reversed,a6 X G z_abs⟩
 refine Nw (k:=Li) X G hfa l36 (λbase=>?_) λ_ _ _ _=>N3
 have c_p_any_order:n0 l.prog w K mg base:=md X G l0 (vR B) λ_ _ _ _=>wb
 have c_p_pushed:tN l.prog w K mg base:=md X G l1 (Cj B) λ_ _ _ _=>CZ
 have c_p_set_anew:kR l.prog w K mg base:=md X G l2 (ym B c_p_pushed) λ_ _ _ _=>yN
 have c_p_kept:pW l.prog w K mg base:=md X G l3 (Gn B c_p_set_anew) λ_ _ _ _=>HY
 have c_p_places_to_keep:gy l.prog w K mg base:=md X G l4 (pG B) λ_ _ _ _=>pM
 have c_p_next_keep:n8 l.prog w K mg base:=md X G l5 (vS B c_p_places_to_keep c_p_kept) λ_ _ _ _=>wc
 have c_p_seen:pX l.prog w K mg base:=md X G l6 (Gp B) λ_ _ _ _=>HZ
 have c_p_worked:kS l.prog w K mg base:=md X G l7 (Cp B c_p_set_anew c_p_seen) λ_ _ _ _=>C3
 have c_p_belts_ahead:lB l.prog w K mg base:=md X G l8 (sQ B) λ_ _ _ _=>sT
 have c_p_spread:tO l.prog w K mg base:=md X G l9 (Ck B c_p_belts_ahead) λ_ _ _ _=>C0
 have c_p_weaker:tQ l.prog w K mg base:=md X G l10 (Co B) λ_ _ _ _=>C2
 have c_p_has_all:r8 l.prog w K mg base:=md X G l11 (z9 B) λ_ _ _ _=>AU
 have c_p_turned:tP l.prog w K mg base:=md X G l12 (Cn B c_p_places_to_keep c_p_kept) λ_ _ _ _=>C1
 have c_p_belts_that_come:je l.prog w K mg base:=md X G l13 (nQ B c_p_has_all c_p_turned c_p_worked c_p_seen) λ_ _ _ _=>nX
 have c_p_without:mi l.prog w K mg base:=md X G l14 (Aa B) λ_ _ _ _=>AV
 have c_p_wanted_at:iF l.prog w K mg base:=md X G l15 (vT B c_p_without) λ_ _ _ _=>we
 have c_p_counted:rY l.prog w K mg base:=md X G l16 (zZ B c_p_spread c_p_worked c_p_weaker c_p_belts_that_come c_p_wanted_at) λ_ _ _ _=>AR
 have c_p_followed:pV l.prog w K mg base:=md X G l17 (yk B c_p_kept c_p_next_keep c_p_worked c_p_seen c_p_counted c_p_wanted_at) λ_ _ _ _=>yM
 have c_p_fewest:tL l.prog w K mg base:=md X G l18 (Ci B c_p_any_order c_p_followed) λ_ _ _ _=>CY
 have c_behind_work:j6 l.prog w K mg base:=md X G l19 (vQ B) λ_ _ _ _=>v8
 have c_turned:zb l.prog w K mg base:=md X G l20 (Gs B) λ_ _ _ _=>Ic
 have c_by_turning:pU l.prog w K mg base:=md X G l21 (yj B c_behind_work c_turned) λ_ _ _ _=>yL
 have c_seen:BG l.prog w K mg base:=md X G l22 (LO B) λ_ _ _ _=>MR
 have c_good:FL l.prog w K mg base:=md X G l23 (LM B c_seen) λ_ _ _ _=>MP
 have c_moves:DB l.prog w K mg base:=md X G l24 (JF B c_good c_behind_work) λ_ _ _ _=>KM
 have c_all_pairs:rW l.prog w K mg base:=md X G l25 (zX B c_moves) λ_ _ _ _=>AO
 have c_draw:mh l.prog w K mg base:=md X G l26 (LK B) λ_ _ _ _=>MO
 have c_thing:xO l.prog w K mg base:=md X G l27 (JI B c_draw) λ_ _ _ _=>KO
 have c_begin:DA l.prog w K mg base:=md X G l28 (JE B c_draw c_thing) λ_ _ _ _=>KL
 have c_p_crowded:rZ l.prog w K mg base:=md X G l29 (z0 B c_p_without c_p_wanted_at) λ_ _ _ _=>AS
 have c_is_wanted:rX l.prog w K mg base:=md X G l30 (zY B) λ_ _ _ _=>AQ
 have c_points:za l.prog w K mg base:=md X G l31 (Gr B c_is_wanted) λ_ _ _ _=>Ib
 have c_last:FM l.prog w K mg base:=md X G l32 (LN B c_draw) λ_ _ _ _=>MQ
 have c_works:DE l.prog w K mg base:=md X G l33 (JJ B c_draw c_thing) λ_ _ _ _=>KQ
 have c_names:DC l.prog w K mg base:=md X G l34 (JG B c_draw) λ_ _ _ _=>KN
 have c_places:y9 l.prog w K mg base:=md X G l35 (@Gq _ _ _ _ _ B c_draw) λ_ _ _ _=>Ia
 intro _ _ _ _ _ _ _ hr;exact Nj B c_p_fewest c_by_turning c_seen c_all_pairs c_begin c_p_crowded c_points c_last c_works c_draw c_names c_places hr
theorem MV{K:Fg}{H:Hp}{a:Addr}{ns:List Int}(o:Js H)(h:cq K H a (ns.map V.int)):jO K H a ns:=by
 rcases h with(h|h)|h
 ·rcases o a with z|⟨ob,xs,z⟩<;>rw[h] at z<;>cases z
 ·exact .inl h
 ·exact .inr h
theorem walk{l:PySem.W.OpenLaw}{q:Program}{loose:List Str}{XP:(Str->Option Value)->Heap->Prop}{YP:World->Heap->Prop}{d:DefRec}{K:Params->Fg}(hn:l.most=some 63)(hdf:d.params.defaults=[])
  (hY:∀(w:World) (h:Heap),YP w h->(K w.params).In h)
  (F:∀(w:World) (mg:Str->Option Value) (fa:Addr) (h:Heap),(K w.params).In h->h.Ns mainGlobals mg->mg d.name=some (.ref fa)->
   ∃fd:FuncData,(∀(s:Shared) (u:Value),BindsTo s fd ⟨[u],[]⟩ [("_law_script",u)])/\∀base:Heap,(K w.params).In base->base.Ns mainGlobals mg->vG l.prog w (K w.params) mg base Jg FR fa fd F3 (yX (K w.params))) :
  PySem.W.WalkO q loose XP YP l.row.toRowW d [] (λf vs=>tJ f vs):=
 L2.walk_of (n:=63) (k:=FR) (x:="_law_script") (CX:=λ_=>Jg) (sp:=λw=>yX (K w.params)) hn (by decide) hdf ⟨rfl,by decide,by decide⟩ hY F (λ_ _ a ns hl hO hS=>⟨a,ns,rfl,MV hO hS,hl,λ_=>rfl⟩) λ_ _ _ _ _ z=>z
end Bg
open PySem PySem.W PyProof.Rows
def PySem.W.Fast.tw8277540599473006557:Unit:=()
def PySem.W.Fast.tw9723874776100484037:Unit:=()
def PySem.W.Fast.tw18233375763093283330:Unit:=()
def PySem.W.Fast.tw18320053143859892603:Unit:=()
def PySem.W.Fast.tw9599392463671839411:Unit:=()
def PySem.W.Fast.tw15093765457786286123:Unit:=()
def PySem.W.Fast.tw12989567891157328107:Unit:=()
def PySem.W.Fast.tw16882143660154620861:Unit:=()
def PySem.W.Fast.tw6638545128434726375:Unit:=()
def PySem.W.Fast.tw642276981232715566:Unit:=()
def PySem.W.Fast.tw15660836703240970407:Unit:=()
def PySem.W.Fast.tw13182100448207653389:Unit:=()
set_option maxRecDepth 100000 in
set_option maxHeartbeats 0 in
theorem PySem.Challenge.cw_beltgarth_k65_whole_crowded_or_done_holds : PySem.Challenge.rw_beltgarth_k65_whole_crowded_or_done.Holds := by
 w_on;o_law;k_head;(case hw=>w_witness2)
 k_fill
 refine Bg.walk (l:=PySem.Challenge.rw_beltgarth_k65_whole_crowded_or_done) rfl rfl (λw h Y=>PySem.W.kIn_of Y) ?F
 case F=>
  intro w mg fa h KX G hmg
  refine' Bg.all_mk KX G hmg ?l0 ?l1 ?l2 ?l3 ?l4 ?l5 ?l6 ?l7 ?l8 ?l9 ?l10 ?l11 ?l12 ?l13 ?l14 ?l15 ?l16 ?l17 ?l18 ?l19 ?l20 ?l21 ?l22 ?l23 ?l24 ?l25 ?l26 ?l27 ?l28 ?l29 ?l30 ?l31 ?l32 ?l33 ?l34 ?l35 ?l36 ?z_len ?z_range ?z_divmod ?z_max ?z_min ?z_sum ?z_all ?z_isinstance ?z_int ?z_bool ?z_list ?z_tuple ?z_enumerate ?z_zip ?z_sorted ?z_set ?z_dict ?z_str ?z_any ?z_reversed ?z_abs
  case z_len|z_range|z_divmod|z_max|z_min|z_sum|z_all|z_isinstance|z_int|z_bool|z_list|z_tuple|z_enumerate|z_zip|z_sorted|z_set|z_dict|z_str|z_any|z_reversed|z_abs=>k_is
  all_goals (refine' Bg.defAt ?a ?l ?c ?k;(case a|l|c|k=>k_is))
