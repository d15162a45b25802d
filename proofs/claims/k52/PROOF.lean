import PyProof.Rows.All
import Wide.All
import OpenK.AllK
import Wide.FinOn
import Lean
import PyProof.EqAt
import PyProof.EqKinds
import PyProof.TupleCall
import PyProof.FactsAll.NoneType_1
import KE.KRevIter
import PyProof.TupleOps
import PyProof.FactsAll.subtypes_4
import PyProof.FactsAll.tuple
import PyProof.DictWalks
import PyProof.TupleOfGen
import PyProof.WalkInts
import PyProof.SeqI3
import PyProof.SetKind
import PyProof.Rows.SetFrom
import PyProof.FactsAll.set
import PyProof.DictIter
import PyProof.WalksMore
import PyProof.MakeMany
import KE.KDictSum
import KE.KIntText
import KE.IntTextLaws
import PySem.Challenge.RW_beltgarth_k52_papers_let_by
import PyProof.Rows.Range3
import PyProof.NoPylong
set_option Elab.async false
set_option autoImplicit true
set_option linter.all false
set_option maxHeartbeats 1000000
set_option maxHeartbeats 3200000
set_option maxHeartbeats 4000000
set_option maxRecDepth 100000
set_option relaxedAutoImplicit true
open List renaming length_map->aa,getElem?_eq_some_iff->ae,getElem?_eq_getElem->ag,length_append->aq,mem_singleton->au,replicate->ax,size_toArray->aA,map_append->aC,mem_of_getElem?->aD,getElem?_map->aG,getElem?_append_right->aI,length_take->aL,mem_cons->aQ,length_singleton->aR,getElem?_append_left->aS,take_of_length_le->aT,length_replicate->aU,getElem?_set_self->aY,mem_append->a8,append_assoc->bj,mem_append_right->bq,mem_cons_self->bw,getElem?_set_ne->bz,mem_cons_of_mem->bF,length_cons->bI,length_reverse->bJ,mem_iff_getElem->bP,append_nil->bU,mem_append_left->bZ,take_length->cf,map_cons->cg,length_pos_iff->cu,length_eq_zero_iff->cx,all_eq_true->cK,lookup_cons->cL,map_take->cM,replicate_succ->cP,length_drop->cV,length_set->dc,map_map->de,mem_filter->df,getLast?_eq_getElem?->dG,length_filter_le->dH,getElem?_take->dJ,getElem_mem->dM,mem_of_mem_take->dR,nodup_cons->dX,length->ef,not_mem_nil->eA,getElem?_eq_none->eM,find?_cons->eQ,foldl_cons->eR,length_nil->eS,flatten_cons->eU,mem_map->eV,take_add_one->eW,mem_range->ff,mem_filterMap->fo,nil_append->fF,range->fX,filterMap_cons->gj,length_filterMap_le->gm,forIn_cons->gx,head?_eq_getElem?->gL,length_pos_of_mem->gM,reverse_cons->gN,any_cons->iz,map_drop->iA,length_dropLast->iE,map_eq_nil_iff->iU,take_succ_cons->iV,drop_zero->ja,forIn_nil->jb,map_replicate->jc,mem_replicate->jd,length_range->jE,take_sublist->jF,map_reverse->jZ,mem_reverse->j3,take_append->j4,foldl->kq,of_mem_zip->lh,take_zero->lQ,all_cons->mQ,map_nil->oq,lookup->qN
open PySem.Heap renaming get?_push_of_some->av,lt_size->aJ,get?_push_size->aM,get?_update_other->dv,get?_update_self->eK,size_push->fb
open Nat renaming le_refl->ay,ne_of_lt->aZ,lt_of_lt_of_le->bA,zero_le->bQ,le_trans->bS,le_of_lt->dg,lt_irrefl->dq,sub_self->dw,not_lt_zero->dE,add_sub_cancel_left->gE,ne_of_gt->iW,mul_le_mul->lR,mul_comm->ou,sub_zero->ow
open Int renaming toNat_natCast->aB,natCast_nonneg->aN,emod_lt_of_pos->cR,emod_nonneg->cU,toNat->dj,eq_ofNat_of_zero_le->fc
open PySem.W renaming mg_none_of->a9,nsIn->bH,fnOf->cW,keepIn->dy,codeIn->eD,methodObj->jG,mg_of->mR
open PyProof.Rows renaming callWith_type1->bL,slot_tuple_getitem->dF
open Option renaming map_some->bV,getD_some->dk,isSome_iff_exists->eZ,map_eq_some_iff->fq,isSome_map->gP
open PySem renaming mem_of_lookup->cQ,call->sU
open Array renaming length_toList->dY,getElem?_eq_getElem->eP,getElem?_toList->ik,toArray_toList->iD,toList_append->iT,forIn_toList->i9,toList->oo
open PySem.F renaming slot_dict_get->fN,args_tuple_add_2->gq,args_dict_get_3->gF,entry_tuple_add->gG,entry_dict_get->gQ,slot_tuple_add->gR
abbrev Fg := PySem.W.Frag
section
namespace Bg
theorem Os{α:Type}{P:List α->Prop}{us:List α}(h:us.length=0)(k:P []):P us:=by cases us with|nil=>exact k|cons a r=>cases h
theorem N7{α:Type}{P:List α->Prop}{us:List α}(h:us.length=1)(k:∀x0,P [x0]):P us:=by cases us with|nil=>cases h|cons a r=>exact Os (P:=λr=>P (a::r)) (Nat.succ.inj h) (k a)
theorem N8{α:Type}{P:List α->Prop}{us:List α}(h:us.length=2)(k:∀x0 x1,P [x0,x1]):P us:=by cases us with|nil=>cases h|cons a r=>exact N7 (P:=λr=>P (a::r)) (Nat.succ.inj h) (k a)
theorem N9{α:Type}{P:List α->Prop}{us:List α}(h:us.length=3)(k:∀x0 x1 x2,P [x0,x1,x2]):P us:=by cases us with|nil=>cases h|cons a r=>exact N8 (P:=λr=>P (a::r)) (Nat.succ.inj h) (k a)
theorem Oa{α:Type}{P:List α->Prop}{us:List α}(h:us.length=4)(k:∀x0 x1 x2 x3,P [x0,x1,x2,x3]):P us:=by cases us with|nil=>cases h|cons a r=>exact N9 (P:=λr=>P (a::r)) (Nat.succ.inj h) (k a)
theorem Ot{α:Type}{P:List α->Prop}{us:List α}(h:us.length=5)(k:∀x0 x1 x2 x3 x4,P [x0,x1,x2,x3,x4]):P us:=by cases us with|nil=>cases h|cons a r=>exact Oa (P:=λr=>P (a::r)) (Nat.succ.inj h) (k a)
theorem Ob{α:Type}{P:List α->Prop}{us:List α}(h:us.length=6)(k:∀x0 x1 x2 x3 x4 x5,P [x0,x1,x2,x3,x4,x5]):P us:=by cases us with|nil=>cases h|cons a r=>exact Ot (P:=λr=>P (a::r)) (Nat.succ.inj h) (k a)
theorem Ou{α:Type}{P:List α->Prop}{us:List α}(h:us.length=7)(k:∀x0 x1 x2 x3 x4 x5 x6,P [x0,x1,x2,x3,x4,x5,x6]):P us:=by cases us with|nil=>cases h|cons a r=>exact Ob (P:=λr=>P (a::r)) (Nat.succ.inj h) (k a)
theorem N6{α:Type}{us:List α}(h:us.length=1):∃x0,us=[x0]:=N7 (P:=λus=>∃x0,us=[x0]) h λx0=>⟨x0,rfl⟩
theorem Ol{α:Type}{us:List α}(h:us.length=2):∃x0 x1,us=[x0,x1]:=N8 (P:=λus=>∃x0 x1,us=[x0,x1]) h λx0 x1=>⟨x0,x1,rfl⟩
theorem Om{α:Type}{us:List α}(h:us.length=3):∃x0 x1 x2,us=[x0,x1,x2]:=N9 (P:=λus=>∃x0 x1 x2,us=[x0,x1,x2]) h λx0 x1 x2=>⟨x0,x1,x2,rfl⟩
theorem On{α:Type}{us:List α}(h:us.length=4):∃x0 x1 x2 x3,us=[x0,x1,x2,x3]:=Oa (P:=λus=>∃x0 x1 x2 x3,us=[x0,x1,x2,x3]) h λx0 x1 x2 x3=>⟨x0,x1,x2,x3,rfl⟩
theorem Oo{α:Type}{us:List α}(h:us.length=6):∃x0 x1 x2 x3 x4 x5,us=[x0,x1,x2,x3,x4,x5]:=Ob (P:=λus=>∃x0 x1 x2 x3 x4 x5,us=[x0,x1,x2,x3,x4,x5]) h λx0 x1 x2 x3 x4 x5=>⟨x0,x1,x2,x3,x4,x5,rfl⟩
theorem Oq{α:Type}{us:List α}(h:us.length=7):∃x0 x1 x2 x3 x4 x5 x6,us=[x0,x1,x2,x3,x4,x5,x6]:=Ou (P:=λus=>∃x0 x1 x2 x3 x4 x5 x6,us=[x0,x1,x2,x3,x4,x5,x6]) h λx0 x1 x2 x3 x4 x5 x6=>⟨x0,x1,x2,x3,x4,x5,x6,rfl⟩
end Bg
end
section
namespace L2
open PySem PySem.Spec PyProof.Rows
abbrev jC:=Sum Int Str
def m5:jC->Value->Bool
 |.inl k,v=>Value.isInt k v
 |.inr x,v=>Value.isStrOf x v
def MH(w:World):jC->Int
 |.inl k=>hashInt k
 |.inr x=>hashStr w x
theorem dU:∀{k:jC} {v:Value},m5 k v=true->(∃i t,k=Sum.inl i/\v=Value.int i t)\/(∃x t,k=Sum.inr x/\v=Value.str x t)
 |.inl i,v,h=>by
  obtain⟨t,e⟩:=Value.isInt_shape (k:=i) (v:=v) h
  exact .inl ⟨i,t,rfl,e⟩
 |.inr x,v,h=>by
  obtain⟨t,e⟩:=Value.isStrOf_shape (x:=x) (v:=v) h
  exact .inr ⟨x,t,rfl,e⟩
theorem EL(i:Int)(t:Tok):m5 (.inl i) (.int i t)=true:=by simp[m5,Value.isInt]
theorem EM(x:Str)(t:Tok):m5 (.inr x) (.str x t)=true:=by simp[m5,Value.isStrOf]
theorem K6(a b:Int):decide ((Sum.inl a:jC)=Sum.inl b)=(a==b):=by
 by_cases e:a=b
 ·subst e;simp
 ·have h:¬(Sum.inl a:jC)=Sum.inl b:=λq=>e (Sum.inl.inj q)
  rw[decide_eq_false h]
  exact(beq_eq_false_iff_ne.mpr e).symm
theorem La(a b:Str):decide ((Sum.inr a:jC)=Sum.inr b)=decide (a=b):=by
 by_cases e:a=b
 ·subst e;simp
 ·have h:¬(Sum.inr a:jC)=Sum.inr b:=λq=>e (Sum.inr.inj q)
  rw[decide_eq_false h,decide_eq_false e]
theorem K7(a:Int)(b:Str):decide ((Sum.inl a:jC)=Sum.inr b)=false:=decide_eq_false (λq=>nomatch q)
theorem K9(a:Str)(b:Int):decide ((Sum.inr a:jC)=Sum.inl b)=false:=decide_eq_false (λq=>nomatch q)
def d9(prog:Program)(w:World):PySem.KeyKind prog w jC where
 is:=m5
 hash:=MH w
 inj:=λv a b ha hb=>by
  rcases dU ha with⟨i,t,rfl,rfl⟩|⟨x,t,rfl,rfl⟩
  ·rcases dU hb with⟨j,u,rfl,e⟩|⟨y,u,rfl,e⟩
   ·injection e with e1 _;rw[e1]
   ·exact nomatch e
  ·rcases dU hb with⟨j,u,rfl,e⟩|⟨y,u,rfl,e⟩
   ·exact nomatch e
   ·injection e with e1 _;rw[e1]
 byValue:=λk v h=>by
  rcases dU h with⟨i,t,rfl,rfl⟩|⟨x,t,rfl,rfl⟩<;>rfl
 pyHash:=λhv h=>by
  rcases dU hv with⟨i,t,rfl,rfl⟩|⟨x,t,rfl,rfl⟩
  ·exact wpAny_pyHash_int h
  ·exact wpAny_pyHash_str h
 eqBool:=λhu hv h=>by
  rcases dU hu with⟨i,t,rfl,rfl⟩|⟨x,t,rfl,rfl⟩
  ·rcases dU hv with⟨j,u,rfl,rfl⟩|⟨y,u,rfl,rfl⟩
   ·rw[K6] at h;exact wpAny_eqBool_int h
   ·rw[K7] at h;exact SeqAt.EqAt.int_str i t y u _ _ _ _ h
  ·rcases dU hv with⟨j,u,rfl,rfl⟩|⟨y,u,rfl,rfl⟩
   ·rw[K9] at h;exact SeqAt.EqAt.str_int x t j u _ _ _ _ h
   ·rw[La] at h;exact wpAny_eqBool_str h
 «strs»:=λk x t v h=>by
  rcases dU h with⟨i,u,rfl,e⟩|⟨y,u,rfl,e⟩
  ·exact nomatch e
  ·injection e with e1 _
   subst e1
   cases v<;>rfl
theorem Ab(prog:Program)(w:World)(i:Int)(t:Tok):(d9 prog w).is (.inl i) (.int i t)=true:=EL i t
theorem Ac(prog:Program)(w:World)(x:Str)(t:Tok):(d9 prog w).is (.inr x) (.str x t)=true:=EM x t
section
variable{prog:Program}{w:World}{A:Around}{E:Value->Shared->Prop}{s:Shared}
theorem oI(n:String):(some (Value.builtin n)==some Value.none)=false:=by rfl
theorem Gg{Q:Int->Shared->Prop}(h:Q 0xFCA86420 {s with toks:=s.toks+1}):wpAny (model prog w) A (pyHash .none) Q E s:=by
 unfold pyHash
 have hT:s.TypeIs .none "NoneType":=rfl
 refine wpAny_bind ?_
 have hv:[Value.none].any Value.onHeap=false:=rfl
 rw[cRoomFor,if_neg (by rw[hv];exact Bool.false_ne_true)];refine wpAny_pure ?_
 refine wpAny_bind (wpAny_specialOf hT F.slot_NoneType_hash.lookup ?_)
 show wpAny _ _ (if(some (Value.builtin "NoneType.__hash__")==some Value.none)=true then _ else _) Q E s
 rw[if_neg (by rw[oI];exact Bool.false_ne_true)]
 refine wpAny_bind (wpAny_specialOf hT F.slot_NoneType_hash.lookup ?_)
 show wpAny _ _ (callSpecialIfBoundUnlessNone? .none "__hash__" _ >>= _) Q E s
 refine wpAny_bind (wpAny_callSpecialIfBoundUnlessNone?_slot hT F.slot_NoneType_hash
  (wpAny_call_entry F.slot_NoneType_hash hT F.entry_NoneType_hash
   (show wpAny _ _ (do ret (<-mkInt 0xFCA86420)) _ _ s from wpAny_ret_mkInt ?_) (F.args_NoneType_hash_1 _)))
 show wpAny _ _ (if(decide (-(2:Int) ^ 63<=0xFCA86420)&&decide ((0xFCA86420:Int)<2 ^ 63))=true then _ else _) Q E _
 rw[if_pos (by decide)]
 exact wpAny_pure h
end
abbrev dm:=Option jC
def Kc:dm->Value->Bool
 |none,.none=>true
 |none,_=>false
 |some k,v=>m5 k v
def NP(w:World):dm->Int
 |none=>0xFCA86420
 |some k=>MH w k
theorem eY:∀{k:dm} {v:Value},Kc k v=true->(k=none/\v=Value.none)\/∃k',k=some k'/\m5 k' v=true
 |some k',v,h=>.inr ⟨k',rfl,h⟩
 |none,.none,_=>.inl ⟨rfl,rfl⟩
theorem Lb(a:jC):decide ((some a:dm)=none)=false:=decide_eq_false (λq=>nomatch q)
theorem K8(a:jC):decide ((none:dm)=some a)=false:=decide_eq_false (λq=>nomatch q)
theorem Lc(a b:jC):decide ((some a:dm)=some b)=decide (a=b):=by
 by_cases e:a=b
 ·subst e;simp
 ·rw[decide_eq_false e,decide_eq_false (λq=>e (Option.some.inj q))]
theorem wt{k:jC}:m5 k .none=false:=by cases k<;>rfl
def iB(prog:Program)(w:World):PySem.KeyKind prog w dm where
 is:=Kc
 hash:=NP w
 inj:=λv a b ha hb=>by
  rcases eY ha with⟨rfl,rfl⟩|⟨a',rfl,ha⟩
  ·rcases eY hb with⟨rfl,_⟩|⟨b',rfl,hb2⟩
   ·rfl
   ·rw[wt] at hb2;cases hb2
  ·rcases eY hb with⟨rfl,rfl⟩|⟨b',rfl,hb⟩
   ·exact absurd (show m5 a' .none=true from ha) (by rw[wt];decide)
   ·rw[(d9 prog w).inj v a' b' ha hb]
 byValue:=λk v h=>by
  rcases eY h with⟨rfl,rfl⟩|⟨k',rfl,h⟩
  ·rfl
  ·exact(d9 prog w).byValue k' v h
 pyHash:=λhv h=>by
  rcases eY hv with⟨rfl,rfl⟩|⟨k',rfl,hk⟩
  ·exact Gg h
  ·exact(d9 prog w).pyHash (k:=k') hk h
 eqBool:=λhu hv h=>by
  rcases eY hu with⟨rfl,rfl⟩|⟨a',rfl,ha⟩
  ·rcases eY hv with⟨rfl,rfl⟩|⟨b',rfl,hb⟩
   ·exact SeqAt.EqAt.same _ _ _ _ _ (by simpa using h)
   ·rw[K8] at h
    rcases dU hb with⟨j,u,rfl,rfl⟩|⟨y,u,rfl,rfl⟩
    ·exact SeqAt.EqAt.none_int j u _ _ _ _ h
    ·exact SeqAt.EqAt.none_str y u _ _ _ _ h
  ·rcases eY hv with⟨rfl,rfl⟩|⟨b',rfl,hb⟩
   ·rw[Lb] at h
    rcases dU ha with⟨j,u,rfl,rfl⟩|⟨y,u,rfl,rfl⟩
    ·exact SeqAt.EqAt.int_none j u _ _ _ _ h
    ·exact SeqAt.EqAt.str_none y u _ _ _ _ h
   ·rw[Lc] at h
    exact(d9 prog w).eqBool (a:=a') (b:=b') ha hb h
 «strs»:=λk x t v h=>by
  rcases eY h with⟨rfl,e⟩|⟨k',rfl,h⟩
  ·exact nomatch e
  ·exact(d9 prog w).strs k' x t v h
section
variable{prog:Program}{w:World}{K:Type}[DecidableEq K](knd:KeyKind prog w K)
def dN(h:Heap)(k:K×List K)(a:Addr):Prop:=∃o v b n,h.get? a=some o/\o.cls=.type "tuple"/\o.data=.seq #[v,.ref b] n/\knd.is k.1 v=true/\IsTupleKey knd h k.2 b
variable{knd}
theorem dN.typeIs{s:Shared}{k:K×List K}{a:Addr}(x:dN knd s.heap k a):s.TypeIs (.ref a) "tuple":=let⟨o,_,_,_,ho,hc,_⟩:=x;⟨o,ho,hc⟩
theorem dN.inj{h:Heap}{a:Addr}{x y:K×List K}(hx:dN knd h x a)(hy:dN knd h y a):x=y:=by
 obtain⟨o,v,b,n,ho,_,hd,h1,h2⟩:=hx
 obtain⟨o',v',b',n',ho',_,hd',h1',h2'⟩:=hy
 obtain rfl:o=o':=Option.some.inj (ho.symm.trans ho')
 rw[hd] at hd'
 injection hd' with e _
 have e:[v,Value.ref b]=[v',Value.ref b']:=congrArg oo e
 injection e with e1 e2
 injection e2 with e2 _
 injection e2 with e2
 subst e1 e2
 exact Prod.ext (knd.inj _ _ _ h1 h1') (h2.inj h2')
theorem dN.keeps{h h':Heap}{k:K×List K}{a d:Addr}{o:Obj}{es ep}(x:dN knd h k a)(ho:h.get? d=some o)(hd:o.data=.dict es ep)(hs:Heap.SameBut d h h'):dN knd h' k a:=by
 obtain⟨o',v,b,n,ho',hc,hd',h1,h2⟩:=x
 have hne:a≠d:=by
  rintro rfl
  obtain rfl:o'=o:=Option.some.inj (ho'.symm.trans ho)
  rw[hd] at hd';exact nomatch hd'
 exact⟨o',v,b,n,(hs.2 a hne).trans ho',hc,hd',h1,h2.keeps ho hd hs⟩
def ud(knd:KeyKind prog w K)(k:K×List K):Int:=reduceHash (Builtin.Tuple.tupleHashOf [knd.hash k.1,tupleKeyHash knd k.2])
variable{A:Around}{E:Value->Shared->Prop}{s:Shared}
theorem pU{k:K×List K}{a:Addr}{Q:Int->Shared->Prop}(hu:A.units+1<cLine)(hk:dN knd s.heap k a)(h:Q (ud knd k) {s with toks:=s.toks+(k.2.length+3)}) :
  wpAny (model prog w) A (pyHash (.ref a)) Q E s:=by
 have hT:=hk.typeIs
 obtain⟨o,v,b,n,ho,_,hd,h1,h2⟩:=hk
 unfold pyHash
 first|unfold pyHashByItsType|skip
 first|refine wpAny_bind (wpAny_cRoomFor_or (.inr (by lia)) ?_)|skip
 refine wpAny_bind (wpAny_specialOf hT F.slot_tuple_hash.lookup ?_)
 show wpAny _ _ (if(some (Value.builtin "tuple.__hash__")==some Value.none)=true then _ else _) Q E s
 rw[if_neg (by rw[beq_builtin_none];exact Bool.false_ne_true)]
 refine wpAny_bind (wpAny_specialOf hT F.slot_tuple_hash.lookup ?_)
 show wpAny _ _ (callSpecialIfBoundUnlessNone? (.ref a) "__hash__" _ >>= _) Q E s
 refine wpAny_bind (wpAny_callSpecialIfBoundUnlessNone?_slot hT F.slot_tuple_hash (wpAny_call_entry F.slot_tuple_hash hT F.entry_tuple_hash ?_ (F.args_tuple_hash_1 _)))
 show wpAny _ _ (Builtin.Tuple.tupleItemsOf (.ref a) >>= _) _ _ s
 refine wpAny_bind (wpAny_tupleItemsOf ho hd ?_)
 refine wpAny_bind ?_
 rw[<-i9]
 refine wpAny_forIn_list _
  (λrest (bb:Array Int) s'=>(rest=[v,.ref b]/\bb.toList=[]/\s'=s)\/(rest=[.ref b]/\bb.toList=[knd.hash k.1]/\s'={s with toks:=s.toks+1})\/(rest=[]/\bb.toList=[knd.hash k.1,tupleKeyHash knd k.2]/\s'={s with toks:=s.toks+1+(k.2.length+1)}))
  _ ?_ ?_ _ _ (.inl ⟨rfl,rfl,rfl⟩)
 ·rintro x rest bb s' (⟨e,hb,rfl⟩|⟨e,hb,rfl⟩|⟨e,_⟩)
  ·injection e with e1 e2
   subst e1 e2
   refine wpAny_bind (knd.pyHash h1 ?_)
   first
    |exact wpAny_pure (.inr (.inl ⟨rfl,by simp[hb],rfl⟩))
    |exact wpAny_bind (wpAny_pure (wpAny_pure (.inr (.inl ⟨rfl,by simp[hb],rfl⟩))))
  ·injection e with e1 e2
   subst e1 e2
   refine wpAny_bind (wpAny_pyHash_tuple (ks:=k.2) (by show A.units+1<cLine;lia) h2 ?_)
   first
    |exact wpAny_pure (.inr (.inr ⟨rfl,by simp[hb],rfl⟩))
    |exact wpAny_bind (wpAny_pure (wpAny_pure (.inr (.inr ⟨rfl,by simp[hb],rfl⟩))))
  ·cases e
 ·rintro bb s' (⟨e,_⟩|⟨e,_⟩|⟨_,hb,rfl⟩)
  ·cases e
  ·cases e
  ·show wpAny _ _ (retInt (Builtin.Tuple.tupleHashOf bb.toList)) _ _ _
   rw[hb]
   refine wpAny_ret_mkInt ?_
   show wpAny _ _ (if(decide (-(2:Int) ^ 63<=Builtin.Tuple.tupleHashOf [knd.hash k.1,tupleKeyHash knd k.2])&&decide (Builtin.Tuple.tupleHashOf [knd.hash k.1,tupleKeyHash knd k.2]<2 ^ 63))=true then _ else _) Q E _
   unfold ud reduceHash at h
   have et:s.toks+(k.2.length+3)=s.toks+1+(k.2.length+1)+1:=by lia
   rw[et] at h
   by_cases hr:(decide (-(2:Int) ^ 63<=Builtin.Tuple.tupleHashOf [knd.hash k.1,tupleKeyHash knd k.2])&&decide (Builtin.Tuple.tupleHashOf [knd.hash k.1,tupleKeyHash knd k.2]<2 ^ 63))=true
   ·rw[if_pos hr]
    rw[if_pos hr] at h
    exact wpAny_pure h
   ·rw[if_neg hr]
    rw[if_neg hr] at h
    exact wpAny_bind (wpAny_rule (wpAny_pure h))
theorem yu{x y:K×List K}{a b:Addr}{P:Fin->Shared->Prop}(hu:A.units<cLine)(hx:dN knd s.heap x a)(hy:dN knd s.heap y b)(h:P (.done (.ret (.bool (decide (x=y))))) s) :
  wpAny (model prog w) A (Builtin.«tuple.__eq__» ⟨[.ref a,.ref b],[]⟩) P E s:=by
 have hTb:=hy.typeIs
 obtain⟨oa,va,ba,na,hoa,_,hda,ha1,ha2⟩:=hx
 obtain⟨ob,vb,bb,nb,hob,_,hdb,hb1,hb2⟩:=hy
 show wpAny _ _ (isInstance (.ref b) (.type "tuple") >>= _) _ _ s
 refine wpAny_bind (wpAny_isInstance hTb isSubtype_tuple_tuple ?_)
 simp only[Bool.not_true,Bool.false_eq_true,if_false]
 refine wpAny_bind (wpAny_tupleItemsOf hoa hda ?_)
 refine wpAny_bind (wpAny_tupleItemsOf hob hdb ?_)
 refine wpAny_bind ?_
 have dx:decide (x=y)=(decide (x.1=y.1)&&decide (x.2=y.2)):=by
  by_cases c1:x.1=y.1
  ·by_cases c2:x.2=y.2
   ·rw[decide_eq_true c1,decide_eq_true c2,decide_eq_true (Prod.ext c1 c2)];rfl
   ·rw[decide_eq_true c1,decide_eq_false c2,decide_eq_false λz=>c2 (congrArg Prod.snd z)];rfl
  ·rw[decide_eq_false c1,decide_eq_false λz=>c1 (congrArg Prod.fst z)];rfl
 refine wpAny_forIn_list _
  (λrest r s'=>r.1=none/\s'=s/\(rest=[(va,vb),(.ref ba,.ref bb)]\/(rest=[(.ref ba,.ref bb)]/\x.1=y.1)\/(rest=[]/\x=y)))
  _ ?_ ?_ _ _ ⟨rfl,rfl,.inl rfl⟩
 ·rintro⟨u,v⟩ rest r s' ⟨hr,rfl,e|⟨e,e1⟩|⟨e,_⟩⟩
  ·injection e with e1 e2
   injection e1 with e3 e4
   subst e3 e4 e2
   refine wpAny_bind (knd.eqBool (a:=x.1) (b:=y.1) ha1 hb1 ?_)
   by_cases hk:x.1=y.1
   ·rw[decide_eq_true hk]
    simp only[Bool.not_true,Bool.false_eq_true,if_false]
    exact wpAny_pure ⟨rfl,rfl,.inr (.inl ⟨trivial,hk⟩)⟩
   ·rw[decide_eq_false hk]
    simp only[Bool.not_false,if_true]
    rw[dx,decide_eq_false hk] at h
    exact wpAny_bind (wpAny_pure (wpAny_pure (wpAny_pure h)))
  ·injection e with e2 e3
   injection e2 with e4 e5
   subst e4 e5 e3
   refine wpAny_bind (wpAny_eqBool_tuple (x:=x.2) (y:=y.2) hu ha2 hb2 ?_)
   by_cases hk:x.2=y.2
   ·rw[decide_eq_true hk]
    simp only[Bool.not_true,Bool.false_eq_true,if_false]
    exact wpAny_pure ⟨rfl,rfl,.inr (.inr ⟨trivial,Prod.ext e1 hk⟩)⟩
   ·rw[decide_eq_false hk]
    simp only[Bool.not_false,if_true]
    rw[dx,decide_eq_false hk,Bool.and_false] at h
    exact wpAny_bind (wpAny_pure (wpAny_pure (wpAny_pure h)))
  ·cases e
 ·rintro⟨r1,r2⟩ s' ⟨hr,rfl,e|⟨e,_⟩|⟨_,e⟩⟩
  ·cases e
  ·cases e
  ·simp only at hr
   subst hr
   refine wpAny_pure ?_
   rw[decide_eq_true e] at h
   exact h
theorem pT{x y:K×List K}{a b:Addr}{Q:Bool->Shared->Prop}(hu:A.units+1<cLine)(hx:dN knd s.heap x a)(hy:dN knd s.heap y b)(h:Q (decide (x=y)) s) :
  wpAny (model prog w) A (eqBool (.ref a) (.ref b)) Q E s:=by
 unfold eqBool
 try with_reducible refine wpAny_holding ?_
 show wpAny _ _ (if(Value.ref a==Value.ref b)=true then _ else _) Q E s
 by_cases hab:(Value.ref a==Value.ref b)=true
 ·rw[if_pos hab]
  have e:a=b:=by have:=eq_of_beq hab;injection this
  subst e
  obtain rfl:=hx.inj hy
  exact wpAny_bind (wpAny_rule (wpAny_pure (by simpa using h)))
 ·rw[if_neg hab]
  exact wpAny_bind (wpAny_richCompare_same_room (op:=.Eq) hx.typeIs hy.typeIs F.slot_tuple_eq
   (wpAny_call_entry F.slot_tuple_eq hx.typeIs F.entry_tuple_eq (yu (by show A.units+1<cLine;lia) hx hy ⟨_,rfl,(λe=>nomatch e),wpAny_truthy_bool h⟩) (F.args_tuple_eq_2 _ _)) (by lia))
theorem Ak{n:Nat}{ks:List K}{a:Addr}{Q:Bool->Shared->Prop}(hk:IsTupleKey knd s.heap ks a)(h:Q true s):wpAny (model prog w) A (eqIsQuiet (n+1) (.ref a)) Q E s:=by
 have hT:=hk.typeIs
 obtain⟨o,items,n,ho,_,hd,hi⟩:=hk
 unfold eqIsQuiet
 refine wpAny_bind (wpAny_specialOf hT F.slot_tuple_eq.lookup ?_)
 show wpAny _ _ (isInstance (.ref a) (.type "tuple") >>= _) _ _ s
 refine wpAny_bind (wpAny_isInstance hT isSubtype_tuple_tuple ?_)
 simp only[Bool.not_true,Bool.false_eq_true,if_false]
 refine wpAny_bind (wpAny_seqItems ho hd ?_)
 refine wpAny_bind ?_
 show wpAny _ _ (forIn items _ _) _ _ s
 rw[<-i9]
 refine wpAny_forIn_list _ (λrest r s'=>r.1=none/\s'=s/\∀v∈rest,carriedByValue v=true) _ ?_ ?_ _ _ ⟨rfl,rfl,hi.byValue⟩
 ·rintro v rest r s' ⟨hr,rfl,hall⟩
  rw[eqIsQuiet_byValue _ (hall v bw)]
  refine wpAny_bind (wpAny_pure ?_)
  simp only[Bool.not_true,Bool.false_eq_true,if_false]
  exact wpAny_pure ⟨rfl,rfl,λu hu'=>hall u (bF _ hu')⟩
 ·rintro⟨r1,r2⟩ s' ⟨hr,rfl,_⟩
  simp only at hr
  subst hr
  exact wpAny_pure h
theorem Cv{k:K×List K}{a:Addr}{Q:Bool->Shared->Prop}(hk:dN knd s.heap k a)(h:Q true s):wpAny (model prog w) A (eqIsQuiet 8 (.ref a)) Q E s:=by
 have hT:=hk.typeIs
 obtain⟨o,v,b,n,ho,_,hd,h1,h2⟩:=hk
 unfold eqIsQuiet
 refine wpAny_bind (wpAny_specialOf hT F.slot_tuple_eq.lookup ?_)
 show wpAny _ _ (isInstance (.ref a) (.type "tuple") >>= _) _ _ s
 refine wpAny_bind (wpAny_isInstance hT isSubtype_tuple_tuple ?_)
 simp only[Bool.not_true,Bool.false_eq_true,if_false]
 refine wpAny_bind (wpAny_seqItems ho hd ?_)
 refine wpAny_bind ?_
 show wpAny _ _ (forIn #[v,Value.ref b] _ _) _ _ s
 rw[<-i9]
 refine wpAny_forIn_list _ (λrest r s'=>r.1=none/\s'=s/\∀v∈rest,carriedByValue v=true\/v=.ref b) _ ?_ ?_ _ _ ⟨rfl,rfl,λu hu=>?_⟩
 ·rintro v rest r s' ⟨hr,rfl,hall⟩
  have fin:wpAny (model prog w) A (eqIsQuiet 7 v) (λx s2=>x=true/\s2=s') E s':=by
   rcases hall v bw with c|c
   ·rw[eqIsQuiet_byValue _ c]
    exact wpAny_pure ⟨rfl,rfl⟩
   ·subst c
    exact Ak h2 ⟨rfl,rfl⟩
  refine wpAny_bind (wpAny_mono fin (λx s2 hx=>?_) λ_ _ z=>z)
  obtain⟨rfl,rfl⟩:=hx
  simp only[Bool.not_true,Bool.false_eq_true,if_false]
  exact wpAny_pure ⟨rfl,rfl,λu hu'=>hall u (bF _ hu')⟩
 ·rintro⟨r1,r2⟩ s' ⟨hr,rfl,_⟩
  simp only at hr
  subst hr
  exact wpAny_pure h
 ·have hu:u∈[v,Value.ref b]:=hu
  rcases aQ.mp hu with rfl|hu
  ·exact .inl (knd.byValue _ _ h1)
  ·exact .inr (au.mp hu)
end
def GC{prog:Program}{w:World}{K:Type}[DecidableEq K](knd:KeyKind prog w K):HeapKind prog w (K×List K) where
 is:=dN knd
 hash:=ud knd
 draws:=λk=>k.2.length+3
 room:=λA=>A.units+1<cLine
 inj:=λhx hy=>hx.inj hy
 keeps:=λx ho hd hs=>x.keeps ho hd hs
 pyHash:=λhu hk h=>pU hu hk h
 eqBool:=λhu hx hy h=>pT hu hx hy h
 quiet:=λhk h=>Cv hk h
inductive V where
 |non|bl (b:Bool)|int (i:Int)|str (x:Str)|byt (b:Array UInt8)|flt (b:UInt64)|ref (a:Addr)|ty (n:String)
 deriving DecidableEq
def c6:V->Value->Prop
 |.non,u=>u=Value.none
 |.bl b,u=>u=Value.bool b
 |.int i,u=>∃t,u=Value.int i t
 |.str x,u=>∃t,u=Value.str x t
 |.byt b,u=>∃t,u=Value.bytes b t
 |.flt b,u=>∃t,u=Value.float b t
 |.ref a,u=>u=Value.ref a
 |.ty n,u=>u=Value.type n
abbrev cy:List V->List Value->Prop:=Paired c6
theorem cy.length{xs:List V}{us:List Value}(r:cy xs us):xs.length=us.length:=Paired.length r
theorem cy.get:∀{xs:List V} {us:List Value} {i:Nat} {x:V},cy xs us->xs[i]?=some x->∃u,us[i]?=some u/\c6 x u
 |_,_,_,_,.nil,e=>by simp at e
 |_,_,0,_,.cons r _,e=>by simp at e;subst e;exact⟨_,rfl,r⟩
 |_,_,i+1,x,.cons _ t,e=>by
  obtain⟨u,h1,h2⟩:=cy.get (i:=i) (x:=x) t (by simpa using e)
  exact⟨u,by simpa using h1,h2⟩
theorem cy.set{x:V}{u:Value}(r:c6 x u):∀{xs:List V} {us:List Value} (i:Nat),cy xs us->cy (xs.set i x) (us.set i u)
 |_,_,_,.nil=>.nil
 |_,_,0,.cons _ t=>.cons r t
 |_,_,i+1,.cons q t=>.cons q (cy.set r i t)
theorem cy.append:∀{xs ys:List V} {us ws:List Value},cy xs us->cy ys ws->cy (xs++ys) (us++ws)
 |_,_,_,_,.nil,s=>s
 |_,_,_,_,.cons r t,s=>.cons r (cy.append t s)
theorem cy.take:∀{xs:List V} {us:List Value} (n:Nat),cy xs us->cy (xs.take n) (us.take n)
 |_,_,0,_=>.nil
 |_,_,_+1,.nil=>.nil
 |_,_,n+1,.cons r t=>.cons r (cy.take n t)
theorem cy.drop:∀{xs:List V} {us:List Value} (n:Nat),cy xs us->cy (xs.drop n) (us.drop n)
 |_,_,0,r=>r
 |_,_,_+1,.nil=>.nil
 |_,_,n+1,.cons _ t=>cy.drop n t
def zt:Option V->Option Value->Prop
 |some v,some u=>c6 v u
 |none,none=>True
 |_,_=>False
def KV{κ:Type}:List (κ×V)->List (κ×Value)->Prop:=Paired λ(p:κ×V) (q:κ×Value)=>p.1=q.1/\c6 p.2 q.2
def kV:jC->V
 |.inl i=>.int i
 |.inr x=>.str x
def kN:dm->V
 |none=>.non
 |some k=>kV k
inductive HO where
  |lst (xs:List V)
  |tup (xs:List V)
  |dK (kvs:List (jC×V))|dT (kvs:List (List dm×V))|dP (kvs:List ((dm×List dm)×V))
  |set (S:Int->Bool) (n:Nat)
  |ins (C dx:Addr) (fs:List (Str×V))
  |own (x:Addr)
  |xd (fs:List (Str×V))
  |met (f x:Addr)
  |rng (lo hi:Int)
  |frz (o:Obj) (u:HO)
  |tbl (ps:Array Value)
  |ext (φ:Heap->Prop)
abbrev Hp:=Addr->Option HO
def upd(H:Hp)(a:Addr)(o:HO):Hp:=λb=>if b=a then some o else H b
theorem ai{H:Hp}{a:Addr}{o:HO}:upd H a o a=some o:=by unfold upd;rw[if_pos rfl]
theorem aF{H:Hp}{a b:Addr}{o:HO}(h:b≠a):upd H a o b=H b:=by unfold upd;rw[if_neg h]
theorem yX{H:Hp}{a:Addr}{o u:HO}:upd (upd H a o) a u=upd H a u:=by
 funext b;unfold upd;split<;>rfl
theorem Kb{H:Hp}{a b:Addr}{o u:HO}(h:H a=some o)(h':H b=some u)(d:o≠u):a≠b:=by
 intro e;subst e;rw[h] at h';exact d (Option.some.inj h')
theorem ar{H:Hp}{a b:Addr}{o:HO}(h:H a=some o)(h':H b=none):a≠b:=by
 intro e;subst e;rw[h] at h';cases h'
def jg(h:Heap)(a:Addr)(items:Array Value):Prop:=∃o,h.get? a=some o/\(o.cls=.type "tuple"/\o.dict=none)/\∃n,o.data=.seq items n
theorem jg.tup{h:Heap}{a:Addr}{items:Array Value}(x:jg h a items):IsTup h a items:=let⟨o,e,c,n⟩:=x;⟨o,e,c.1,n⟩
theorem jg.lt{h:Heap}{a:Addr}{items:Array Value}(x:jg h a items):a<h.objs.size:=let⟨_,e,_⟩:=x;aJ e
theorem jg.new(h:Heap)(items:Array Value):jg (h.push {cls:=.type "tuple",data:=.seq items}) h.objs.size items:=⟨_,aM _ rfl,⟨rfl,rfl⟩,_,rfl⟩
section
variable(P:Program)(w:World)
def fh(H:Hp)(h:Heap)(a:Addr):HO->Prop
 |.lst xs=>xs.length<=sizeLine/\∃(its:List Value) (n:Nat),cy xs its/\h.get? a=some {cls:=.type "list",data:=.seq its.toArray n}
 |.tup xs=>xs.length<=sizeLine/\∃its:List Value,cy xs its/\jg h a its.toArray
 |.dK kvs=>kvs.length<=sizeLine/\(a==sysModules)=false/\∃vs,KV kvs vs/\h.DictOf (d9 P w) a vs
 |.dT kvs=>kvs.length<=sizeLine/\(a==sysModules)=false/\∃xs:List (List dm×Addr×Value),
   Paired (λ(p:List dm×V) (q:List dm×Addr×Value)=>p.1=q.1/\H q.2.1=some (.tup (p.1.map kN))/\c6 p.2 q.2.2) kvs xs/\
   ∃o es ep,h.get? a=some o/\o.ExactDict/\o.data=.dict es ep/\es.toList=xs.map (entryOfKey (tupleKind (iB P w)))/\(xs.map (·.1)).Nodup
 |.dP kvs=>kvs.length<=sizeLine/\(a==sysModules)=false/\∃xs:List ((dm×List dm)×Addr×Value),
   Paired (λ(p:(dm×List dm)×V) (q:(dm×List dm)×Addr×Value)=>p.1=q.1/\(∃b,H q.2.1=some (.tup [kN p.1.1,.ref b])/\H b=some (.tup (p.1.2.map kN)))/\c6 p.2 q.2.2) kvs xs/\
   ∃o es ep,h.get? a=some o/\o.ExactDict/\o.data=.dict es ep/\es.toList=xs.map (entryOfKey (GC (iB P w)))/\(xs.map (·.1)).Nodup
 |.set S n=>h.SetOf (intKind P w) a S n
 |.ins C dx fs=>H dx=some (.own a)/\fs.length<=1000/\dx≠a/\h.get? a=some (PySem.W.instObj C dx)/\
   ∃mA,h.Ns1 dx mA/\(∀f,zt (fs.lookup f) (mA f))/\PySem.Within mA (fs.map (·.1))
 |.own _=>∃o,h.get? a=some o
 |.xd fs=>∃mA,h.Ns1 a mA/\∀f,zt (fs.lookup f) (mA f)
 |.rng lo hi=>∃t u v,h.get? a=some {cls:=.type "range",data:=.fields #[.int lo t,.int hi u,.int 1 v]}
 |.frz o u=>h.get? a=some o/\fh H h a u
 |.tbl ps=>h.get? a=some {cls:=.none,data:=.fields ps}
 |.met f x=>h.get? a=some (jG (.ref f) (.ref x))
 |.ext φ=>φ h/\(∃o,h.get? a=some o)/\∀h1 h2:Heap,φ h1->(∀o,h1.get? a=some o->h2.get? a=some o)->φ h2
def oE(H:Hp)(h:Heap):Prop:=∀a o,H a=some o->fh P w H h a o
end
section
variable{P:Program}{w:World}{H H':Hp}{h h':Heap}{a:Addr}{o:HO}
theorem fh.lt(x:fh P w H h a o):a<h.objs.size:=by
 cases o with
 |lst xs=>obtain⟨_,_,_,_,e⟩:=x;exact aJ e
 |tup xs=>obtain⟨_,_,_,p⟩:=x;exact p.lt
 |dK kvs=>obtain⟨_,_,_,_,o,_,_,e,_⟩:=x;exact aJ e
 |dT kvs=>obtain⟨_,_,_,_,o,_,_,e,_⟩:=x;exact aJ e
 |dP kvs=>obtain⟨_,_,_,_,o,_,_,e,_⟩:=x;exact aJ e
 |set S n=>obtain⟨o,_,_,_,e,_⟩:=x;exact aJ e
 |ins C dx fs=>obtain⟨_,_,_,e,_⟩:=x;exact aJ e
 |own y=>obtain⟨_,e⟩:=x;exact aJ e
 |xd fs=>obtain⟨_,⟨_,_,_,e,_⟩,_⟩:=x;exact aJ e
 |rng lo hi=>obtain⟨_,_,_,e⟩:=x;exact aJ e
 |frz ob u=>obtain⟨e,_⟩:=x;exact aJ e
 |tbl ps=>exact aJ (show h.get? a=some _ from x)
 |met f y=>exact aJ (show h.get? a=some _ from x)
 |ext φ=>obtain⟨_,⟨_,e⟩,_⟩:=x;exact aJ e
theorem Paired.mapP{α β:Type}{F G:α->β->Prop}:∀{l₁:List α} {l₂:List β},Paired F l₁ l₂->(∀a b,F a b->G a b)->Paired G l₁ l₂
 |_,_,.nil,_=>.nil
 |_,_,.cons r t,f=>.cons (f _ _ r) (Paired.mapP t f)
theorem fh.stay(x:fh P w H h a o)(k:∀b u,(b=a\/H b=some (.own a))->h.get? b=some u->h'.get? b=some u)
  (ho:∀b,H b=some (.own a)->H' b=some (.own a)) (ht:∀b xs,H b=some (.tup xs)->H' b=some (.tup xs)):fh P w H' h' a o:=by
 induction o with
 |lst xs=>obtain⟨z,its,n,r,e⟩:=x;exact⟨z,its,n,r,k _ _ (.inl rfl) e⟩
 |tup xs=>obtain⟨z,its,r,ob,e,c⟩:=x;exact⟨z,its,r,ob,k _ _ (.inl rfl) e,c⟩
 |dK kvs=>obtain⟨z,y,vs,r,ob,es,ep,e,c⟩:=x;exact⟨z,y,vs,r,ob,es,ep,k _ _ (.inl rfl) e,c⟩
 |dT kvs=>
  obtain⟨z,y,xs,r,ob,es,ep,e,c⟩:=x
  exact⟨z,y,xs,Paired.mapP r λp q z=>⟨z.1,ht _ _ z.2.1,z.2.2⟩,ob,es,ep,k _ _ (.inl rfl) e,c⟩
 |dP kvs=>
  obtain⟨z,y,xs,r,ob,es,ep,e,c⟩:=x
  exact⟨z,y,xs,Paired.mapP r λp q z=>⟨z.1,let⟨b,h1,h2⟩:=z.2.1;⟨b,ht _ _ h1,ht _ _ h2⟩,z.2.2⟩,ob,es,ep,k _ _ (.inl rfl) e,c⟩
 |set S n=>obtain⟨ob,es,ep,t,e,c⟩:=x;exact⟨ob,es,ep,t,k _ _ (.inl rfl) e,c⟩
 |ins C dx fs=>
  obtain⟨d,z,ne,e,mA,⟨od,es,ep,e2,c⟩,r⟩:=x
  exact⟨ho _ d,z,ne,k _ _ (.inl rfl) e,mA,⟨od,es,ep,k _ _ (.inr d) e2,c⟩,r⟩
 |own y=>obtain⟨ob,e⟩:=x;exact⟨ob,k _ _ (.inl rfl) e⟩
 |xd fs=>obtain⟨mA,⟨od,es,ep,e,c⟩,r⟩:=x;exact⟨mA,⟨od,es,ep,k _ _ (.inl rfl) e,c⟩,r⟩
 |rng lo hi=>obtain⟨t,u,v,e⟩:=x;exact⟨t,u,v,k _ _ (.inl rfl) e⟩
 |frz ob u ih=>obtain⟨e,q⟩:=x;exact⟨k _ _ (.inl rfl) e,ih q⟩
 |tbl ps=>
  have e:h.get? a=some {cls:=.none,data:=.fields ps}:=x
  show h'.get? a=some {cls:=.none,data:=.fields ps}
  exact k a _ (.inl rfl) e
 |met f y=>
  have e:h.get? a=some (jG (.ref f) (.ref y)):=x
  show h'.get? a=some (jG (.ref f) (.ref y))
  exact k a _ (.inl rfl) e
 |ext φ=>obtain⟨p,⟨o,e⟩,st⟩:=x;exact⟨st _ _ p λo q=>k _ _ (.inl rfl) q,⟨o,k _ _ (.inl rfl) e⟩,st⟩
theorem oE.lt(x:oE P w H h)(e:H a=some o):a<h.objs.size:=(x a o e).lt
theorem oE.fresh(x:oE P w H h)(e:h.objs.size<=a):H a=none:=by
 cases q:H a with
 |none=>rfl
 |some u=>exact absurd (bA (x.lt q) e) (dq _)
theorem oE.kept(x:oE P w H h)(k:∀b u,h.get? b=some u->h'.get? b=some u):oE P w H h':=λa o e=>
 (x a o e).stay (λb u _ q=>k b u q) (λ_ q=>q) λ_ _ q=>q
theorem oE.laid(x:oE P w H h)(k:∀b u,h.get? b=some u->h'.get? b=some u)(hp:h.objs.size<=a)(new:fh P w (upd H a o) h' a o):oE P w (upd H a o) h':=λb u e=>by
 have hn:=x.fresh hp
 by_cases hb:b=a
 ·subst hb;rw[ai] at e;cases e;exact new
 ·rw[aF hb] at e
  exact(x b u e).stay (λc v _ q=>k c v q) (λc q=>by rw[aF (ar q hn)];exact q) λc xs q=>by rw[aF (ar q hn)];exact q
end
def Rd(H:Hp)(a:Addr)(u:HO):Prop:=H a=some u\/∃o,H a=some (.frz o u)
theorem Rd.ok{P:Program}{w:World}{H:Hp}{h:Heap}{a:Addr}{u:HO}(r:Rd H a u)(x:oE P w H h):fh P w H h a u:=by
 rcases r with r|⟨o,r⟩
 ·exact x a u r
 ·obtain⟨_,q⟩:=x a _ r
  exact q
def Ms:Option HO->Prop
 |some (.lst _)=>True
 |some (.dK _)=>True
 |some (.dT _)=>True
 |some (.dP _)=>True
 |some (.set _ _)=>True
 |some (.ins _ _ _)=>True
 |some (.ext _)=>True
 |_=>False
section
variable{P:Program}{w:World}{H:Hp}{h h':Heap}{x e:Addr}{o':HO}
theorem oE.write(ok:oE P w H h)(mu:Ms (H x))(he:e=x\/H e=some (.own x))(k:∀b u,b≠e->h.get? b=some u->h'.get? b=some u)(heo:∃u,h'.get? e=some u)
  (new:fh P w (upd H x o') h' x o'):oE P w (upd H x o') h':=λb u q=>by
 have nown:∀c y,H c=some (.own y)->c≠x:=λc y r z=>by subst z;rw[r] at mu;exact mu
 have ntup:∀c xs,H c=some (.tup xs)->c≠x:=λc xs r z=>by subst z;rw[r] at mu;exact mu
 by_cases hb:b=x
 ·subst hb;rw[ai] at q;cases q;exact new
 ·rw[aF hb] at q
  by_cases hbe:b=e
  ·have q':H b=some (.own x):=by
    rcases he with z|z
    ·exact absurd (hbe.trans z) hb
    ·rw[hbe];exact z
   rw[q] at q';cases q'
   obtain⟨v,hv⟩:=heo
   exact⟨v,by rw[hbe];exact hv⟩
  ·refine(ok b u q).stay (λc v hc r=>k c v ?_ r) (λc r=>by rw[aF (nown c b r)];exact r) λc xs r=>by rw[aF (ntup c xs r)];exact r
   rcases hc with rfl|hc
   ·exact hbe
   ·rintro rfl
    rcases he with z|z
    ·exact nown c b hc z
    ·rw[hc] at z;cases z;exact hb rfl
end
structure Un(fs ex:List Addr)(H H':Hp)(h h':Heap):Prop where
 keep:∀b o,h.get? b=some o->H b=none->b∉fs->b∉ex->h'.get? b=some o
 slot:∀b o,h.get? b=some o->H b=none->b∈fs->b∉ex->∃sl,h'.get? b=some {o with slots:=sl}
 free:∀b o,h.get? b=some o->H b=none->b∉ex->H' b=none
 there:∀b o,h.get? b=some o->b∉ex->∃o',h'.get? b=some o'
 tups:∀b xs,H b=some (.tup xs)->H' b=some (.tup xs)
 frzs:∀b o u,H b=some (.frz o u)->H' b=some (.frz o u)
 tbls:∀b ps,H b=some (.tbl ps)->∃more,H' b=some (.tbl (ps++more))
section
variable{fs fs' ex ex':List Addr}{H H1 H2:Hp}{h h1 h2 h':Heap}{a x e:Addr}{o:HO}
theorem Un.any(u:Un fs ex H H1 h h1){b:Addr}{ob:Obj}(q:h.get? b=some ob)(n:H b=none)(hx:b∉ex):∃sl,h1.get? b=some {ob with slots:=sl}:=by
 by_cases hb:b∈fs
 ·exact u.slot b ob q n hb hx
 ·exact⟨ob.slots,u.keep b ob q n hb hx⟩
theorem Un.kept(k:∀b u,h.get? b=some u->h'.get? b=some u):Un fs ex H H h h':=
 ⟨λb ob q _ _ _=>k b ob q,λb ob q _ _ _=>⟨ob.slots,k b ob q⟩,λ_ _ _ n _=>n,λb ob q _=>⟨ob,k b ob q⟩,λ_ _ q=>q,λ_ _ _ q=>q,λ_ ps q=>⟨#[],by rw[q];simp⟩⟩
theorem Un.refl:Un fs ex H H h h:=Un.kept λ_ _ q=>q
theorem Un.laid(k:∀b u,h.get? b=some u->h'.get? b=some u)(hp:h.objs.size<=a)(hn:H a=none):Un fs ex H (upd H a o) h h' where
 keep:=λb u q _ _ _=>k b u q
 slot:=λb u q _ _ _=>⟨u.slots,k b u q⟩
 free:=λb u q n _=>by rw[aF (aZ (bA (aJ q) hp))];exact n
 there:=λb u q _=>⟨u,k b u q⟩
 tups:=λb xs q=>by rw[aF (ar q hn)];exact q
 frzs:=λb u xs q=>by rw[aF (ar q hn)];exact q
 tbls:=λb ps q=>⟨#[],by rw[aF (ar q hn),q];simp⟩
theorem Un.write(mu:Ms (H x))(he:e=x\/H e=some (.own x))(k:∀b u,b≠e->h.get? b=some u->h'.get? b=some u)(heo:∃u,h'.get? e=some u):Un fs ex H (upd H x o) h h':=by
 have hx:∀b,H b=none->b≠x:=λb n z=>by subst z;rw[n] at mu;exact mu
 have hb:∀b,H b=none->b≠e:=λb n z=>by
  subst z
  rcases he with r|r
  ·exact hx b n r
  ·rw[n] at r;cases r
 have hm:∀b u,H b=some u->¬Ms (some u)->b≠x:=λb u q nm z=>by subst z;rw[q] at mu;exact nm mu
 refine⟨λb u q n _ _=>k b u (hb b n) q,λb u q n _ _=>⟨u.slots,k b u (hb b n) q⟩,λb u q n _=>by rw[aF (hx b n)];exact n,λb u q _=>?_,
  λb xs q=>by rw[aF (hm b _ q λz=>z)];exact q,λb u xs q=>by rw[aF (hm b _ q λz=>z)];exact q,λb ps q=>⟨#[],by rw[aF (hm b _ q λz=>z),q];simp⟩⟩
 by_cases hbe:b=e
 ·subst hbe;exact heo
 ·exact⟨u,k b u hbe q⟩
end
def NF(h:Heap)(H:Hp):List Addr:=(fX h.objs.size).filter λa=>(H a).isSome
def yc(h:Heap)(H:Hp):Heap:=PySem.W.hideAll h (NF h H)
theorem Ez(h:Heap)(H:Hp):(yc h H).objs.size=h.objs.size:=PySem.W.hideAll_size _ _
theorem Gh{h:Heap}{H:Hp}{b:Addr}{o:Obj}(e:h.get? b=some o)(n:H b=none):(yc h H).get? b=some o:=
 PySem.W.hideAll_get _ e λhm=>by
  have q:(H b).isSome=true:=(df.mp hm).2
  rw[n] at q;simp at q
theorem IP{h:Heap}{H:Hp}{b:Addr}{o:Obj}(e:(yc h H).get? b=some o):h.get? b=some o/\H b=none:=by
 have e':h.get? b=some o:=PySem.W.of_hideAll (NF h H) e
 refine⟨e',?_⟩
 cases q:H b with
 |none=>rfl
 |some x=>
  have hm:b∈NF h H:=df.mpr ⟨ff.mpr (aJ e'),by simp[q]⟩
  have z:(yc h H).get? b=none:=PySem.W.hideAll_none (NF h H) hm
  rw[z] at e;cases e
structure Mod(K:Fg)(mg:Str->Option Value)(base:Heap):Prop where
 kin:K.In base
 glob:base.Ns mainGlobals mg
 blt:∃mb,base.Ns builtinsNs mb/\∀x:Str,x≠"__name__"->mb x=bootBuiltins x
 nolimit:base.NoLimit
structure Cx where
 prog:Program
 w:World
 K:Fg
 mg:Str->Option Value
 base:Heap
 A:Around
 N:List Str
 s₀:Shared
 H₀:Hp
 env:Env
 outer:List Env
 stack:List Env
 ex:List Addr
 fn:Str->Bool
 calm:Bool
 pn:List (Addr×Obj)
 xe:Value->Shared->Prop
def Gc(l:List Env):List Addr:=l.filterMap (·.frame)
abbrev Cx.fs(X:Cx):List Addr:=Gc X.outer
def Ny(sc:Scope)(x:Str):Prop:=sc.names.lookup x=some .local\/sc.names.lookup x=some .cell\/sc.names.lookup x=some .free
def FI(sc:Scope)(x:Str):Prop:=sc.names.lookup x=some .local\/sc.names.lookup x=some .cell
def NH(env:Env)(h:Heap)(m:Str->Option Value)(x:Str)(u:Value):Prop:=
 (env.kindOf x=some .local/\m x=some u)\/((env.kindOf x=some .cell\/env.kindOf x=some .free)/\∃c,env.cells.lookup x=some c/\h.IsCell c (some u))
structure Cx.Ok(X:Cx):Prop where
 mod:Mod X.K X.mg X.base
 kind:X.env.scope.kind=.function
 glob:X.env.globals=mainGlobals
 blt:X.env.builtins=builtinsNs
 above:X.s₀.heap.objs.size<=X.env.locals
 inj:∀x y c,X.env.cells.lookup x=some c->X.env.cells.lookup y=some c->x=y
 has:∀x,(X.env.kindOf x=some .cell\/X.env.kindOf x=some .free)->∃c,X.env.cells.lookup x=some c
 cab:∀x c,X.fn x=true->X.env.cells.lookup x=some c->X.s₀.heap.objs.size<=c
 hd:X.calm=true->X.A.handled=none
 frames:X.A.frames=some X.stack
 stk:X.stack=X.outer\/(X.stack=X.env::X.outer/\X.env.frame=some X.env.locals)
 exf:∀b∈X.ex,b≠X.env.locals/\∀x c,X.env.cells.lookup x=some c->c≠b
 bs:∀b o,X.base.get? b=some o->X.s₀.heap.get? b=some o/\X.H₀ b=none
 bsz:X.base.objs.size<=X.s₀.heap.objs.size
 noex:∀b o,X.base.get? b=some o->b∉X.ex
 exfs:∀b∈X.ex,b∉X.fs
 funs:X.s₀.heap.FunFrames X.base X.outer
 frf:∀b∈X.fs,X.H₀ b=none
structure bT(X:Cx)(pins:List (Addr×Obj))(σ:List (Option V))(H:Hp)(s:Shared):Prop where
 ok:X.Ok
 os:s.os=X.s₀.os
 bare:AllBare s.gens
 base:Un X.fs X.ex X.H₀ H X.s₀.heap s.heap
 loc:∃m,s.heap.Ns X.env.locals m/\∀(i:Nat) (x:Str) (v:V),X.N[i]?=some x->σ[i]?=some (some v)->Ny X.env.scope x->∃u,c6 v u/\NH X.env s.heap m x u
 cell:∀x c,X.env.cells.lookup x=some c->∃v,s.heap.IsCell c v
 free:H X.env.locals=none
 freeC:∀x c,X.env.cells.lookup x=some c->H c=none
 pin:∀p∈X.pn++pins,s.heap.get? p.1=some p.2/\H p.1=none/\p.1≠X.env.locals/\p.1∉X.fs/\∀v,p.2.data≠.cell v
 hok:oE X.prog X.w H s.heap
 len:σ.length=X.N.length
section
variable{X:Cx}{pins:List (Addr×Obj)}{σ:List (Option V)}{H H':Hp}{s:Shared}{h':Heap}
theorem Cx.Ok.nofr(ok:X.Ok){b:Addr}{o:Obj}(e:X.base.get? b=some o):b∉X.fs:=λhb=>by
 have:=(ok.funs.mem hb).1
 rw[e] at this;cases this
theorem bT.bs(I:bT X pins σ H s):∀b o,X.base.get? b=some o->s.heap.get? b=some o/\H b=none:=λb o e=>
 ⟨I.base.keep b o (I.ok.bs b o e).1 (I.ok.bs b o e).2 (I.ok.nofr e) (I.ok.noex b o e),I.base.free b o (I.ok.bs b o e).1 (I.ok.bs b o e).2 (I.ok.noex b o e)⟩
theorem bT.bk(I:bT X pins σ H s):∀b o,X.base.get? b=some o->s.heap.get? b=some o:=λb o e=>(I.bs b o e).1
theorem bT.mod(I:bT X pins σ H s):Mod X.K X.mg X.base:=I.ok.mod
theorem bT.kIn(I:bT X pins σ H s):X.K.In s.heap:=I.ok.mod.kin.keeps I.bk
theorem bT.lt(I:bT X pins σ H s):X.env.locals<s.heap.objs.size:=let⟨_,hn,_⟩:=I.loc;hn.lt
theorem bT.sz(I:bT X pins σ H s):X.s₀.heap.objs.size<=s.heap.objs.size:=bS I.ok.above (dg I.lt)
theorem bT.nofs(I:bT X pins σ H s){a:Addr}(h:s.heap.objs.size<=a):a∉X.fs:=λhb=>by
 obtain⟨_,o,ho,_⟩:=I.ok.funs.mem hb
 exact absurd (bA (aJ ho) (bS I.sz h)) (dq _)
theorem bT.cne(I:bT X pins σ H s):∀x c,X.env.cells.lookup x=some c->c≠X.env.locals:=λx c e z=>by
 obtain⟨v,o,ho,hd⟩:=I.cell x c e
 obtain⟨m,⟨o',es,ep,ho',hd',_⟩,_⟩:=I.loc
 rw[z,ho'] at ho;cases ho;rw[hd'] at hd;cases hd
theorem bT.funs(I:bT X pins σ H s):s.heap.FunFrames X.base X.outer:=by
 have all:∀(l:List Env),(∀b∈Gc l,b∈X.fs)->X.s₀.heap.FunFrames X.base l->s.heap.FunFrames X.base l:=by
  intro l
  induction l with
  |nil=>intro _ _;trivial
  |cons env r ih=>
   intro hs hl
   obtain⟨hk,⟨L,o,hf,hn,ho,hd⟩,hr⟩:=hl
   have hL:L∈X.fs:=hs L (by unfold Gc;rw[gj,hf];exact bw)
   obtain⟨sl,e⟩:=I.base.slot L o ho (I.ok.frf L hL) hL λz=>I.ok.exfs L z hL
   exact⟨hk,⟨L,_,hf,hn,e,hd⟩,ih (λb hb=>hs b (by unfold Gc;rw[gj,hf];exact bF _ hb)) hr⟩
 exact all X.outer (λ_ hb=>hb) I.ok.funs
theorem bT.stack(I:bT X pins σ H s):s.heap.FunFrames X.base X.stack:=by
 rcases I.ok.stk with e|⟨e,hf⟩
 ·rw[e];exact I.funs
 ·rw[e]
  obtain⟨m,hn,_⟩:=I.loc
  refine .cons (by rw[I.ok.kind];decide) hf hn ?_ I.funs
  exact Heap.get?_none_of_le (bS I.ok.bsz I.ok.above)
theorem bT.stkSub(I:bT X pins σ H s):∀b∈Gc X.stack,b∈X.env.locals::X.fs:=λb hb=>by
 rcases I.ok.stk with e|⟨e,hf⟩
 ·rw[e] at hb;exact bF _ hb
 ·rw[e] at hb
  unfold Gc at hb
  rw[gj,hf] at hb
  exact hb
theorem bT.stkFree(I:bT X pins σ H s):∀b∈Gc X.stack,H b=none:=λb hb=>by
 rcases aQ.mp (I.stkSub b hb) with e|hb
 ·rw[e];exact I.free
 ·obtain⟨_,o,ho,_⟩:=I.ok.funs.mem hb
  exact I.base.free b o ho (I.ok.frf b hb) λz=>I.ok.exfs b z hb
theorem bT.step{g':Array GenState}{t':Nat}{d':Drawn}{ch:List Addr}(I:bT X pins σ H s)
  (hch:∀b∈ch,(b∈X.ex\/X.s₀.heap.objs.size<=b)/\b≠X.env.locals/\(∀x c,X.env.cells.lookup x=some c->c≠b)/\∀p∈X.pn++pins,p.1≠b)
  (keep:∀b o,b≠X.env.locals->b∉X.fs->b∉ch->s.heap.get? b=some o->H b=none->h'.get? b=some o)
  (slot:∀b o,b≠X.env.locals->b∈X.fs->b∉ch->s.heap.get? b=some o->H b=none->∃sl,h'.get? b=some {o with slots:=sl}) (free:∀b o,b∉ch->s.heap.get? b=some o->H b=none->H' b=none)
  (there:∀b o,b∉ch->s.heap.get? b=some o->∃o',h'.get? b=some o')
  (tups:∀b xs,H b=some (.tup xs)->H' b=some (.tup xs)) (frzs:∀b o u,H b=some (.frz o u)->H' b=some (.frz o u)) (tbls:∀b ps,H b=some (.tbl ps)->∃more,H' b=some (.tbl (ps++more)))
  (ns:∀m,s.heap.Ns X.env.locals m->h'.Ns X.env.locals m) (hok:oE X.prog X.w H' h') (hg:AllBare g') :
  bT X pins σ H' {s with heap:=h',gens:=g',drawn:=d',toks:=t'}:=by
 have neL:∀b o,X.s₀.heap.get? b=some o->b≠X.env.locals:=λb o e=>aZ (bA (aJ e) I.ok.above)
 have neC:∀b o,X.s₀.heap.get? b=some o->b∉X.ex->b∉ch:=λb o e hx hb=>by
  rcases(hch b hb).1 with z|z
  ·exact hx z
  ·exact absurd (bA (aJ e) z) (dq _)
 have cellK:∀x c,X.env.cells.lookup x=some c->∀v,s.heap.IsCell c v->h'.IsCell c v:=λx c e v ⟨o,ho,hd⟩=>by
  have nch:c∉ch:=λz=>(hch c z).2.2.1 x c e rfl
  by_cases hc:c∈X.fs
  ·obtain⟨sl,q⟩:=slot c o (I.cne x c e) hc nch ho (I.freeC x c e)
   exact⟨_,q,hd⟩
  ·exact⟨o,keep c o (I.cne x c e) hc nch ho (I.freeC x c e),hd⟩
 refine⟨I.ok,I.os,hg,⟨λb o e n hb hx=>?_,λb o e n hb hx=>?_,λb o e n hx=>?_,λb o e hx=>?_,λb xs e=>tups b xs (I.base.tups b xs e),λb o xs e=>frzs b o xs (I.base.frzs b o xs e),λb ps e=>?_⟩,?_,λx c e=>?_,?_,λx c e=>?_,λp hp=>?_,hok,I.len⟩
 ·exact keep b o (neL b o e) hb (neC b o e hx) (I.base.keep b o e n hb hx) (I.base.free b o e n hx)
 ·obtain⟨sl,e1⟩:=I.base.slot b o e n hb hx
  obtain⟨sl',e2⟩:=slot b _ (neL b o e) hb (neC b o e hx) e1 (I.base.free b o e n hx)
  exact⟨sl',e2⟩
 ·obtain⟨o',e1⟩:=I.base.there b o e hx
  exact free b o' (neC b o e hx) e1 (I.base.free b o e n hx)
 ·obtain⟨o',e1⟩:=I.base.there b o e hx
  exact there b o' (neC b o e hx) e1
 ·obtain⟨m1,e1⟩:=I.base.tbls b ps e
  obtain⟨m2,e2⟩:=tbls b _ e1
  exact⟨m1++m2,by rw[e2,Array.append_assoc]⟩
 ·obtain⟨m,hn,hl⟩:=I.loc
  refine⟨m,ns m hn,λi x v e1 e2 e3=>?_⟩
  obtain⟨u,r,l⟩:=hl i x v e1 e2 e3
  refine⟨u,r,?_⟩
  rcases l with l|⟨k,c,e,z⟩
  ·exact .inl l
  ·exact .inr ⟨k,c,e,cellK x c e _ z⟩
 ·obtain⟨v,z⟩:=I.cell x c e
  exact⟨v,cellK x c e v z⟩
 ·obtain⟨m,⟨o,_,_,ho,_⟩,_⟩:=I.loc
  exact free _ o (λz=>(hch _ z).2.1 rfl) ho I.free
 ·obtain⟨v,o,ho,hd⟩:=I.cell x c e
  exact free c o (λz=>(hch c z).2.2.1 x c e rfl) ho (I.freeC x c e)
 ·obtain⟨e,n,ne,nf,d⟩:=I.pin p hp
  have nch:p.1∉ch:=λz=>(hch p.1 z).2.2.2 p hp rfl
  exact⟨keep p.1 p.2 ne nf nch e n,free p.1 p.2 nch e n,ne,nf,d⟩
theorem bT.un{t':Nat}(I:bT X pins σ H s)(u:Un X.fs [] H H' s.heap h')(hok:oE X.prog X.w H' h'):bT X pins σ H' {s with heap:=h',toks:=t'}:=by
 obtain⟨m,⟨o,es,ep,ho,r⟩,_⟩:=id I.loc
 obtain⟨sl,hL⟩:=u.any ho I.free (by simp)
 exact I.step (g':=s.gens) (d':=s.drawn) (ch:=[]) (λ_ z=>nomatch z) (λb o _ hb _ e n=>u.keep b o e n hb (by simp)) (λb o _ hb _ e n=>u.slot b o e n hb (by simp)) (λb o _ e n=>u.free b o e n (by simp)) (λb o _ e=>u.there b o e (by simp)) u.tups u.frzs u.tbls (λm' hm=>by
  obtain⟨o',es',ep',ho',r'⟩:=hm
  rw[ho] at ho';cases ho'
  exact⟨_,es',ep',hL,r'⟩) hok I.bare
theorem bT.call{g':Array GenState}{t':Nat}{d':Drawn}{ch:List Addr}(I:bT X pins σ H s)(u:Un (Gc X.stack) ch H H' s.heap h')(hok:oE X.prog X.w H' h')(hg:AllBare g')
  (hch:∀b∈ch,(b∈X.ex\/X.s₀.heap.objs.size<=b)/\b≠X.env.locals/\(∀x c,X.env.cells.lookup x=some c->c≠b)/\∀p∈X.pn++pins,p.1≠b) :
  bT X pins σ H' {s with heap:=h',gens:=g',drawn:=d',toks:=t'}:=by
 obtain⟨m,⟨o,es,ep,ho,r⟩,_⟩:=id I.loc
 obtain⟨sl,hL⟩:=u.any ho I.free λz=>(hch _ z).2.1 rfl
 exact I.step (ch:=ch) hch (λb o hL hb hc e n=>u.keep b o e n (λz=>(aQ.mp (I.stkSub b z)).elim hL hb) hc) (λb o _ _ hc e n=>u.any e n hc) (λb o hc e n=>u.free b o e n hc) (λb o hc e=>u.there b o e hc) u.tups u.frzs u.tbls (λm' hm=>by
  obtain⟨o',es',ep',ho',r'⟩:=hm
  rw[ho] at ho';cases ho'
  exact⟨_,es',ep',hL,r'⟩) hok hg
theorem bT.turned{t':Nat}{it:Addr}(I:bT X pins σ H s)(k:∀b o,b≠it->s.heap.get? b=some o->h'.get? b=some o)(hn:H it=none)(hL:it≠X.env.locals)
  (h1:it∈X.ex\/X.s₀.heap.objs.size<=it) (h2:∀x c,X.env.cells.lookup x=some c->c≠it) (h3:∀p∈X.pn++pins,p.1≠it):bT X pins σ H {s with heap:=h',toks:=t'}:=by
 have nit:∀b u,H b=some u->b≠it:=λb u e z=>by rw[z,hn] at e;cases e
 refine I.step (g':=s.gens) (d':=s.drawn) (ch:=[it]) (λb hb=>?_) (λb o _ _ hc e _=>k b o (λz=>hc (by simp[z])) e) (λb o _ _ hc e _=>⟨o.slots,k b o (λz=>hc (by simp[z])) e⟩) (λ_ _ _ _ n=>n)
  (λb o hc e=>⟨o,k b o (λz=>hc (by simp[z])) e⟩) (λ_ _ e=>e) (λ_ _ _ e=>e) (λb ps e=>⟨#[],by rw[e];simp⟩) (λm hm=>?_) (λb u e=>?_) I.bare
 ·have e:b=it:=by simpa using hb
  subst e
  exact⟨h1,hL,h2,h3⟩
 ·obtain⟨o,es,ep,ho,r⟩:=hm
  exact⟨o,es,ep,k _ o (Ne.symm hL) ho,r⟩
 ·refine(I.hok b u e).stay (λc v hc q=>k c v ?_ q) (λ_ q=>q) λ_ _ q=>q
  rcases hc with z|z
  ·rw[z];exact nit b u e
  ·exact nit c _ z
theorem bT.tok(I:bT X pins σ H s)(t:Nat):bT X pins σ H {s with toks:=t}:=I.un (h':=s.heap) (t':=t) Un.refl I.hok
theorem bT.kept{t':Nat}(I:bT X pins σ H s)(k:∀b u,s.heap.get? b=some u->h'.get? b=some u):bT X pins σ H {s with heap:=h',toks:=t'}:=I.un (Un.kept k) (I.hok.kept k)
theorem bT.laid{a:Addr}{o:HO}{t':Nat}(I:bT X pins σ H s)(k:∀b u,s.heap.get? b=some u->h'.get? b=some u)(hp:s.heap.objs.size<=a)(new:fh X.prog X.w (upd H a o) h' a o) :
  bT X pins σ (upd H a o) {s with heap:=h',toks:=t'}:=I.un (Un.laid k hp (I.hok.fresh hp)) (I.hok.laid k hp new)
theorem bT.write{x e:Addr}{o:HO}{t':Nat}(I:bT X pins σ H s)(mu:Ms (H x))(he:e=x\/H e=some (.own x))(k:∀b u,b≠e->s.heap.get? b=some u->h'.get? b=some u)(heo:∃u,h'.get? e=some u)
  (new:fh X.prog X.w (upd H x o) h' x o):bT X pins σ (upd H x o) {s with heap:=h',toks:=t'}:=I.un (Un.write mu he k heo) (I.hok.write mu he k heo new)
theorem bT.pins_of{pins':List (Addr×Obj)}(I:bT X pins σ H s)(h:∀p∈pins',s.heap.get? p.1=some p.2/\H p.1=none/\p.1≠X.env.locals/\p.1∉X.fs/\∀v,p.2.data≠.cell v):bT X pins' σ H s:=
 ⟨I.ok,I.os,I.bare,I.base,I.loc,I.cell,I.free,I.freeC,λp hp=>(a8.mp hp).elim (λz=>I.pin p (bZ _ z)) (h p),I.hok,I.len⟩
theorem Ae{N:List Str}(hN:N.Nodup){i j:Nat}{x:Str}(a:N[i]?=some x)(b:N[j]?=some x):i=j:=by
 obtain⟨h1,e1⟩:=ae.mp a
 obtain⟨h2,e2⟩:=ae.mp b
 exact(List.getElem_inj hN).mp (e1.trans e2.symm)
theorem wM{M:Model}{A:Around}{E:Value->Shared->Prop}{i:Nat}{x:Str}{v:V}{u:Value}{Q:Unit->Shared->Prop}(I:bT X pins σ H s)(hN:X.N.Nodup)(hi:X.N[i]?=some x)(hx:FI X.env.scope x)(r:c6 v u)
  (h:∀s',bT X pins (σ.set i (some v)) H s'->(∃a,Heap.SameBut a s.heap s'.heap/\(a=X.env.locals\/X.env.cells.lookup x=some a))->Q () s') (hf:X.fn x=true\/X.env.scope.names.lookup x=some .local:=by first|exact .inl rfl|exact .inr rfl|assumption):wpAny M A (storeName X.env x u) Q E s:=by
 obtain⟨m,hn,hl⟩:=id I.loc
 have hcls:(X.env.scope.kind==.class || (X.env.scope.kind==.module&&X.env.locals != X.env.globals))=false:=by rw[I.ok.kind];rfl
 have hiσ:i<σ.length:=by rw[I.len];exact(ae.mp hi).1
 have cne:=I.cne
 have tracked:∀{a:Addr} {h':Heap},(∃o,s.heap.get? a=some o/\H a=none)->Heap.SameBut a s.heap h'->oE X.prog X.w H h':=λ{a h'} ha hs b ob e=>by
  obtain⟨_,_,hfree⟩:=ha
  refine(I.hok b ob e).stay (λc w' hc q=>(hs.2 c ?_).trans q) (λ_ q=>q) λ_ _ q=>q
  rintro rfl
  rcases hc with rfl|hc
  ·rw[hfree] at e;cases e
  ·rw[hfree] at hc;cases hc
 rcases hx with hk|hk
 ·refine wpAny_storeName_local hk hn (λh' hn' hs=>?_) hcls
  obtain⟨oL,_,_,hoL,_⟩:=id hn
  refine h _ ⟨I.ok,I.os,I.bare,⟨λb o e n hb hx=>?_,λb o e n hb hx=>?_,I.base.free,λb o e hx=>?_,I.base.tups,I.base.frzs,I.base.tbls⟩,⟨_,hn',λj y v' e1 e2 e3=>?_⟩,λy c e=>?_,I.free,I.freeC,λp hp=>?_,tracked ⟨oL,hoL,I.free⟩ hs,by simpa using I.len⟩ ⟨_,hs,.inl rfl⟩
  ·exact(hs.2 b (aZ (bA (aJ e) I.ok.above))).trans (I.base.keep b o e n hb hx)
  ·obtain⟨sl,e1⟩:=I.base.slot b o e n hb hx
   exact⟨sl,(hs.2 b (aZ (bA (aJ e) I.ok.above))).trans e1⟩
  ·obtain⟨o',e1⟩:=I.base.there b o e hx
   exact⟨o',(hs.2 b (aZ (bA (aJ e) I.ok.above))).trans e1⟩
  ·by_cases hj:j=i
   ·subst hj
    rw[hi] at e1;cases e1
    rw[aY hiσ] at e2
    cases e2
    exact⟨u,r,.inl ⟨hk,by simp⟩⟩
   ·rw[bz (Ne.symm hj)] at e2
    obtain⟨u',r',q⟩:=hl j y v' e1 e2 e3
    refine⟨u',r',?_⟩
    rcases q with⟨k,e⟩|⟨k,c,e,z⟩
    ·refine .inl ⟨k,?_⟩
     have:y≠x:=λe=>hj (Ae hN e1 (e ▸ hi))
     simp[this,e]
    ·exact .inr ⟨k,c,e,z.sameBut hs (cne y c e)⟩
  ·obtain⟨w',z⟩:=I.cell y c e
   exact⟨w',z.sameBut hs (cne y c e)⟩
  ·obtain⟨e,n,ne,nf,d⟩:=I.pin p hp
   exact⟨(hs.2 p.1 ne).trans e,n,ne,nf,d⟩
 ·have hfn:X.fn x=true:=by
   rcases hf with z|z
   ·exact z
   ·rw[z] at hk;cases hk
  obtain⟨c,hc⟩:=I.ok.has x (.inl hk)
  obtain⟨w',z⟩:=I.cell x c hc
  refine wpAny_storeName_cell I.ok.kind hk hc z (λh' hc' hs=>?_)
  obtain⟨oc,hoc,hocd⟩:=id z
  refine h {s with heap:=h'} ⟨I.ok,I.os,I.bare,⟨λb o e n hb hx=>?_,λb o e n hb hx=>?_,I.base.free,λb o e hx=>?_,I.base.tups,I.base.frzs,I.base.tbls⟩,⟨m,hn.sameBut hs (Ne.symm (cne x c hc)),λj y v' e1 e2 e3=>?_⟩,λy c' e=>?_,I.free,I.freeC,λp hp=>?_,tracked ⟨oc,hoc,I.freeC x c hc⟩ hs,by simpa using I.len⟩ ⟨c,hs,.inr hc⟩
  ·exact(hs.2 b (aZ (bA (aJ e) (I.ok.cab x c hfn hc)))).trans (I.base.keep b o e n hb hx)
  ·obtain⟨sl,e1⟩:=I.base.slot b o e n hb hx
   exact⟨sl,(hs.2 b (aZ (bA (aJ e) (I.ok.cab x c hfn hc)))).trans e1⟩
  ·obtain⟨o',e1⟩:=I.base.there b o e hx
   exact⟨o',(hs.2 b (aZ (bA (aJ e) (I.ok.cab x c hfn hc)))).trans e1⟩
  ·by_cases hj:j=i
   ·subst hj
    rw[hi] at e1;cases e1
    rw[aY hiσ] at e2
    cases e2
    exact⟨u,r,.inr ⟨.inl hk,c,hc,hc'⟩⟩
   ·rw[bz (Ne.symm hj)] at e2
    obtain⟨u',r',q⟩:=hl j y v' e1 e2 e3
    refine⟨u',r',?_⟩
    rcases q with q|⟨k,c',e,z'⟩
    ·exact .inl q
    ·refine .inr ⟨k,c',e,z'.sameBut hs ?_⟩
     rintro rfl
     exact hj (Ae hN e1 (I.ok.inj _ _ _ e hc ▸ hi))
  ·by_cases hcc:c'=c
   ·subst hcc;exact⟨_,hc'⟩
   ·obtain⟨w2,z2⟩:=I.cell y c' e
    exact⟨w2,z2.sameBut hs hcc⟩
  ·obtain⟨e,n,ne,nf,d⟩:=I.pin p hp
   refine⟨(hs.2 p.1 ?_).trans e,n,ne,nf,d⟩
   intro q
   rw[q,hoc] at e
   have q':oc=p.2:=Option.some.inj e
   exact d w' (by rw[<-q'];exact hocd)
theorem AA{M:Model}{A:Around}{E:Value->Shared->Prop}{i:Nat}{x:Str}{v:V}{u:Value}{Q:Unit->Shared->Prop}(I:bT X pins σ H s)(hN:X.N.Nodup)(hi:X.N[i]?=some x)(hx:FI X.env.scope x)(r:c6 v u)
  (h:∀s',bT X pins (σ.set i (some v)) H s'->Q () s') (hf:X.fn x=true\/X.env.scope.names.lookup x=some .local:=by first|exact .inl rfl|exact .inr rfl|assumption):wpAny M A (storeName X.env x u) Q E s:=
 wM I hN hi hx r (λs' I' _=>h s' I') hf
theorem bT.call'{s':Shared}{ch:List Addr}(I:bT X pins σ H s)(ho:s'.os=s.os)(u:Un (Gc X.stack) ch H H' s.heap s'.heap)(hok:oE X.prog X.w H' s'.heap)(hg:AllBare s'.gens)
  (hch:∀b∈ch,(b∈X.ex\/X.s₀.heap.objs.size<=b)/\b≠X.env.locals/\(∀x c,X.env.cells.lookup x=some c->c≠b)/\∀p∈X.pn++pins,p.1≠b):bT X pins σ H' s':=by
 obtain⟨h',g',d',t',o'⟩:=s'
 have e:o'=s.os:=ho
 subst e
 exact I.call (g':=g') (t':=t') (d':=d') u hok hg hch
end
abbrev XK:=Value->Option Addr->Hp->Prop
abbrev St:=List (Option V)
abbrev VK:=V->Hp->Prop
abbrev TE:=St->Hp->VK->Prop
abbrev TT:=St->Hp->(Bool->Hp->Prop)->Prop
abbrev TA:=St->Hp->(List V->Hp->Prop)->Prop
structure jB where
 nx:St->Hp->Prop
 rt:VK
 bk:St->Hp->Prop:=λ_ _=>False
 ct:St->Hp->Prop:=λ_ _=>False
abbrev TS:=jB->St->Hp->Prop
def EP(X:Cx)(pins:List (Addr×Obj))(σ:St)(Q:VK)(u:Value)(s':Shared):Prop:=∃v H',bT X pins σ H' s'/\c6 v u/\Q v H'
def TP(X:Cx)(pins:List (Addr×Obj))(σ:St)(Q:Bool->Hp->Prop)(b:Bool)(s':Shared):Prop:=∃H',bT X pins σ H' s'/\Q b H'
def AP(X:Cx)(pins:List (Addr×Obj))(σ:St)(Q:List V->Hp->Prop)(us:List Value)(s':Shared):Prop:=∃vs H',bT X pins σ H' s'/\cy vs us/\Q vs H'
def SP(X:Cx)(pins:List (Addr×Obj))(D:jB)(f:Flow)(s':Shared):Prop:=
 match f with
 |.next=>∃σ' H',bT X pins σ' H' s'/\D.nx σ' H'
 |.brk=>∃σ' H',bT X pins σ' H' s'/\D.bk σ' H'
 |.cont=>∃σ' H',bT X pins σ' H' s'/\D.ct σ' H'
 |.ret u=>∃v σ' H',bT X pins σ' H' s'/\c6 v u/\D.rt v H'
def PE(X:Cx)(e:Expr)(t:TE):Prop:=
 ∀(pins:List (Addr×Obj)) (s:Shared) (σ:St) (H:Hp) (Q:VK),bT X pins σ H s->t σ H Q->wpAny (model X.prog X.w) X.A (eval e X.env) (EP X pins σ Q) X.xe s
def PT(X:Cx)(e:Expr)(t:TT):Prop:=
 ∀(pins:List (Addr×Obj)) (s:Shared) (σ:St) (H:Hp) (Q:Bool->Hp->Prop),bT X pins σ H s->t σ H Q->wpAny (model X.prog X.w) X.A (isTrue e X.env (eval e X.env)) (TP X pins σ Q) X.xe s
def PW(X:Cx)(e:Expr)(t:TT):Prop:=
 ∀(whole:Sem Value) (pins:List (Addr×Obj)) (s:Shared) (σ:St) (H:Hp) (Q:Bool->Hp->Prop),bT X pins σ H s->t σ H Q->wpAny (model X.prog X.w) X.A (isTrue e X.env whole) (TP X pins σ Q) X.xe s
theorem PW.pt{X:Cx}{e:Expr}{t:TT}(h:PW X e t):PT X e t:=h _
def PA(X:Cx)(es:List Expr)(t:TA):Prop:=
 ∀(pos:Pos) (pins:List (Addr×Obj)) (s:Shared) (σ:St) (H:Hp) (Q:List V->Hp->Prop),bT X pins σ H s->t σ H Q->wpAny (model X.prog X.w) X.A (spliced (backTo pos (starEach es X.env))) (AP X pins σ Q) X.xe s
def PS(X:Cx)(st:Stmt)(t:TS):Prop:=
 ∀(pins:List (Addr×Obj)) (s:Shared) (σ:St) (H:Hp) (D:jB),bT X pins σ H s->t D σ H->wpAny (model X.prog X.w) X.A (exec st X.env) (SP X pins D) X.xe s
def Bf(X:Cx)(st:List Stmt)(t:TS):Prop:=
 ∀(pins:List (Addr×Obj)) (s:Shared) (σ:St) (H:Hp) (D:jB),bT X pins σ H s->t D σ H->wpAny (model X.prog X.w) X.A (execs st X.env) (SP X pins D) X.xe s
theorem fE{α:Type}{t:Sem α}{Q Q':α->Shared->Prop}{M:Model}{A:Around}{E:Value->Shared->Prop}{s:Shared}(h:wpAny M A t Q E s)(hQ:∀a s,Q a s->Q' a s):wpAny M A t Q' E s:=wpAny_mono h hQ λ_ _ x=>x
section
variable{X:Cx}
def aj(i:Nat):TE:=λσ H Q=>∃v,σ[i]?=some (some v)/\Q v H
def tC(v:V):TE:=λ_ H Q=>Q v H
theorem LA{i:Nat}{x:Str}{pos:Pos}(hN:X.N[i]?=some x)(hv:Ny X.env.scope x)(hd:(x==("__debug__":Str))=false:=by decide)(hcd:(x==("__classdict__":Str))=false:=by decide):PE X (.Name x pos) (aj i):=by
 intro pins s σ H Q I h
 obtain⟨v,e,h⟩:=h
 obtain⟨m,hn,hl⟩:=I.loc
 obtain⟨u,r,l⟩:=hl i x v hN e hv
 have fin:EP X pins σ Q u s:=⟨v,H,I,r,h⟩
 rcases l with⟨hk,hm⟩|⟨hk,c,hc,hcell⟩
 ·exact wpAny_Name (wpAny_loadName_local I.ok.kind hk hn hm fin) hd
 ·rcases hk with hk|hk
  ·exact wpAny_Name (wpAny_loadName_cell I.ok.kind hk hc hcell fin) hd
  ·exact wpAny_Name (wpAny_loadName_free I.ok.kind hk hc hcell fin hcd) hd
theorem Lu{i j pos}:PE X (.Constant (.int i) j pos) (tC (.int i)):=λ_ _ _ H _ I h=>wpAny_Constant_int ⟨.int i,H,I.tok _,⟨_,rfl⟩,h⟩
theorem MR{b j pos}:PE X (.Constant (.bool b) j pos) (tC (.bl b)):=λ_ _ _ H _ I h=>Constant_bool ⟨.bl b,H,I,rfl,h⟩
theorem Lw{j pos}:PE X (.Constant .none j pos) (tC .non):=λ_ _ _ H _ I h=>Constant_none ⟨.non,H,I,rfl,h⟩
theorem Ly{x j pos}:PE X (.Constant (.str x) j pos) (tC (.str x)):=λ_ _ _ H _ I h=>Calls.Constant_str ⟨.str x,H,I.tok _,⟨_,rfl⟩,h⟩
def Gl(X:Cx)(x:Str):Prop:=X.env.kindOf x=some .globalImplicit
theorem IJ{E:Value->Shared->Prop}{pins:List (Addr×Obj)}{s:Shared}{σ:St}{H:Hp}{x:Str}{u:Value}{pos:Pos}{Q:Value->Shared->Prop}(I:bT X pins σ H s)(hg:Gl X x)(hm:X.mg x=some u)(h:Q u s)
  (hd:(x==("__debug__":Str))=false:=by decide):wpAny (model X.prog X.w) X.A (eval (.Name x pos) X.env) Q E s:=
 Calls.Name_function_global I.ok.kind hg (Calls.loadGlobal_global (by rw[I.ok.glob];exact I.mod.glob.keeps I.bk) hm h) hd
theorem jo{E:Value->Shared->Prop}{pins:List (Addr×Obj)}{s:Shared}{σ:St}{H:Hp}{x:Str}{u:Value}{pos:Pos}{Q:Value->Shared->Prop}(I:bT X pins σ H s)(hg:Gl X x)(hm:X.mg x=none)(hv:bootBuiltins x=some u)(h:Q u s)
  (hn:x≠"__name__":=by decide) (hd:(x==("__debug__":Str))=false:=by decide):wpAny (model X.prog X.w) X.A (eval (.Name x pos) X.env) Q E s:=by
 obtain⟨mb,h1,h2⟩:=I.mod.blt
 exact Calls.Name_function_global I.ok.kind hg (Calls.loadGlobal_builtin (by rw[I.ok.glob];exact I.mod.glob.keeps I.bk) hm (by rw[I.ok.blt];exact h1.keeps I.bk) ((h2 x hn).trans hv) h) hd
theorem IV{x:Str}{v:V}{u:Value}{pos:Pos}(hg:Gl X x)(hm:X.mg x=none)(hv:bootBuiltins x=some u)(r:c6 v u)(hn:x≠"__name__":=by decide)(hd:(x==("__debug__":Str))=false:=by decide):PE X (.Name x pos) (tC v):=
 λ_ _ _ H _ I h=>jo I hg hm hv ⟨v,H,I,r,h⟩ hn hd
variable{a b:Expr}{ta tb:TE}{pos:Pos}
def tB(t:TE):TT:=λσ H Q=>t σ H λx H1=>∃c,x=.bl c/\Q c H1
theorem LN{e:Expr}{t:TE}(h:PE X e t)(he:∀whole,isTrue e X.env whole=(do let v <-whole;standAt e.pos;holding [v] (truthy v)):=by intro _;rfl):PT X e (tB t):=by
 intro pins s σ H Q I hw
 refine isTrue_plain (fE (h pins s σ H _ I hw) λv s1 ⟨x,H1,I1,r1,q1⟩=>?_) (he _)
 obtain⟨d,rfl,q⟩:=q1
 cases r1
 exact wpAny_truthy_bool ⟨H1,I1,q⟩
variable{tA tB':TT}{rest:List Expr}
def CK(t u:TT):TT:=λσ H Q=>t σ H λc H1=>if c=true then u σ H1 Q else Q false H1
def NC(t u:TT):TT:=λσ H Q=>t σ H λc H1=>if c=true then Q true H1 else u σ H1 Q
def Hi(t:TT):TT:=λσ H Q=>t σ H λc H1=>Q (!c) H1
theorem Jt(ha:PT X a tA):PW X (.BoolOp .And [a] pos) tA:=by
 intro wh pins s σ H Q I h
 refine isTrue_and (fE (ha pins s σ H Q I h) λc s1 e=>?_)
 cases c with
 |true=>exact isTrue_and_nil e
 |false=>exact e
theorem LQ(ha:PT X a tA):PW X (.BoolOp .Or [a] pos) tA:=by
 intro wh pins s σ H Q I h
 refine isTrue_or (fE (ha pins s σ H Q I h) λc s1 e=>?_)
 cases c with
 |false=>exact isTrue_or_nil e
 |true=>exact e
theorem LO(ha:PT X a tA)(hb:PW X (.BoolOp .And (b::rest) pos) tB'):PW X (.BoolOp .And (a::b::rest) pos) (CK tA tB'):=by
 intro wh pins s σ H Q I h
 refine isTrue_and (fE (ha pins s σ H _ I h) λc s1 ⟨H1,I1,q1⟩=>?_)
 cases c with
 |true=>exact hb wh pins s1 σ H1 Q I1 q1
 |false=>exact⟨H1,I1,q1⟩
theorem M3(ha:PT X a tA)(hb:PW X (.BoolOp .Or (b::rest) pos) tB'):PW X (.BoolOp .Or (a::b::rest) pos) (NC tA tB'):=by
 intro wh pins s σ H Q I h
 refine isTrue_or (fE (ha pins s σ H _ I h) λc s1 ⟨H1,I1,q1⟩=>?_)
 cases c with
 |true=>exact⟨H1,I1,q1⟩
 |false=>exact hb wh pins s1 σ H1 Q I1 q1
theorem LM(ha:PT X a tA):PT X (.UnaryOp .Not a pos) (Hi tA):=by
 intro pins s σ H Q I h
 exact isTrue_not (ha pins s σ H (λc H1=>Q (!c) H1) I h)
def AF(ta tb:TE):TE:=λσ H Q=>ta σ H λx H1=>∃c,x=.bl c/\if c=true then tb σ H1 Q else Q (.bl false) H1
def Mb(ta tb:TE):TE:=λσ H Q=>ta σ H λx H1=>∃c,x=.bl c/\if c=true then Q (.bl true) H1 else tb σ H1 Q
theorem Lx{op}{t:TE}(h:PE X a t):PE X (.BoolOp op [a] pos) t:=λpins s σ H Q I hw=>BoolOp_one (h pins s σ H Q I hw)
theorem Lq(ha:PE X a ta)(hb:PE X (.BoolOp .And (b::rest) pos) tb):PE X (.BoolOp .And (a::b::rest) pos) (AF ta tb):=by
 intro pins s σ H Q I h
 refine BoolOp_and (fE (ha pins s σ H _ I h) λv s1 ⟨x,H1,I1,r1,q1⟩=>?_)
 obtain⟨c,rfl,q1⟩:=q1
 cases r1
 refine wpAny_truthy_bool ?_
 cases c with
 |true=>exact hb pins s1 σ H1 Q I1 q1
 |false=>exact⟨.bl false,H1,I1,rfl,q1⟩
theorem MW(ha:PE X a ta)(hb:PE X (.BoolOp .Or (b::rest) pos) tb):PE X (.BoolOp .Or (a::b::rest) pos) (Mb ta tb):=by
 intro pins s σ H Q I h
 refine BoolOp_or (fE (ha pins s σ H _ I h) λv s1 ⟨x,H1,I1,r1,q1⟩=>?_)
 obtain⟨c,rfl,q1⟩:=q1
 cases r1
 refine wpAny_truthy_bool ?_
 cases c with
 |false=>exact hb pins s1 σ H1 Q I1 q1
 |true=>exact⟨.bl true,H1,I1,rfl,q1⟩
def NB(t:TT)(ta tb:TE):TE:=λσ H Q=>t σ H λc H1=>if c=true then ta σ H1 Q else tb σ H1 Q
theorem GF{c:Expr}(hc:PT X c tA)(ha:PE X a ta)(hb:PE X b tb):PE X (.IfExp c a b pos) (NB tA ta tb):=by
 intro pins s σ H Q I h
 refine wpAny_IfExp (fE (hc pins s σ H _ I h) λd s1 ⟨H1,I1,q1⟩=>?_)
 cases d with
 |true=>exact ha pins s1 σ H1 Q I1 q1
 |false=>exact hb pins s1 σ H1 Q I1 q1
end
def bY(K:Fg)(H:Hp)(a:Addr)(xs:List V):Prop:=
 Rd H a (.lst xs)\/
  ∃(o:Obj) (its:Array Value) (n:Nat),K.lookup a=some o/\o.cls=.type "list"/\o.dict=none/\o.data=.seq its n/\its.size<=sizeLine/\cy xs its.toList
def b4(K:Fg)(H:Hp)(a:Addr)(xs:List V):Prop:=
 Rd H a (.tup xs)\/
  ∃(o:Obj) (its:Array Value) (n:Nat),K.lookup a=some o/\o.cls=.type "tuple"/\o.data=.seq its n/\its.size<=sizeLine/\cy xs its.toList
def NM:Value->Option V
 |.none=>some .non
 |.bool b=>some (.bl b)
 |.int i _=>some (.int i)
 |.str x _=>some (.str x)
 |.bytes b _=>some (.byt b)
 |.float b _=>some (.flt b)
 |.ref a=>some (.ref a)
 |.type n=>some (.ty n)
 |_=>none
theorem c6.abs{x:V}{u:Value}(r:c6 x u):NM u=some x:=by
 cases x with
 |non=>cases r;rfl
 |bl _=>cases r;rfl
 |int _=>obtain⟨t,rfl⟩:=r;rfl
 |str _=>obtain⟨t,rfl⟩:=r;rfl
 |byt _=>obtain⟨t,rfl⟩:=r;rfl
 |flt _=>obtain⟨t,rfl⟩:=r;rfl
 |ref _=>cases r;rfl
 |ty _=>cases r;rfl
theorem c6.inj{x y:V}{u:Value}(r:c6 x u)(q:c6 y u):x=y:=Option.some.inj (r.abs.symm.trans q.abs)
theorem cy.inj:∀{xs ys:List V} {us:List Value},cy xs us->cy ys us->xs=ys
 |_,_,_,.nil,.nil=>rfl
 |_,_,_,.cons r t,.cons r' t'=>by rw[r.inj r',cy.inj t t']
section
variable{X:Cx}{pins:List (Addr×Obj)}{σ:St}{H:Hp}{s:Shared}{a:Addr}{xs ys:List V}
theorem bY.of{K:Fg}(h:H a=some (.lst xs)):bY K H a xs:=.inl (.inl h)
theorem b4.of{K:Fg}(h:H a=some (.tup xs)):b4 K H a xs:=.inl (.inl h)
theorem bT.list(I:bT X pins σ H s)(h:bY X.K H a xs):∃its:List Value,cy xs its/\PlainL s.heap a its.toArray/\xs.length<=sizeLine:=by
 rcases h with h|⟨o,its,n,hk,hc,hd,hs,hz,r⟩
 ·obtain⟨z,its,n,r,e⟩:=h.ok I.hok
  exact⟨its,r,⟨_,n,e,rfl,rfl,rfl⟩,z⟩
 ·refine⟨its.toList,r,⟨o,n,I.kIn a o hk,hc,hd,by simpa using hs⟩,?_⟩
  have e:=r.length
  simp only[dY] at e
  lia
theorem bT.tuple(I:bT X pins σ H s)(h:b4 X.K H a xs):∃its:List Value,cy xs its/\IsTup s.heap a its.toArray/\xs.length<=sizeLine:=by
 rcases h with h|⟨o,its,n,hk,hc,hs,hz,r⟩
 ·obtain⟨z,its,r,p⟩:=h.ok I.hok
  exact⟨its,r,p.tup,z⟩
 ·refine⟨its.toList,r,⟨o,I.kIn a o hk,hc,n,by simpa using hs⟩,?_⟩
  have e:=r.length
  simp only[dY] at e
  lia
theorem bT.list_inj(I:bT X pins σ H s)(h:bY X.K H a xs)(h':bY X.K H a ys):xs=ys:=by
 obtain⟨its,r,⟨o,n,e,_,_,d⟩,_⟩:=I.list h
 obtain⟨its',r',⟨o',n',e',_,_,d'⟩,_⟩:=I.list h'
 rw[e] at e';cases e'
 rw[d] at d'
 injection d' with d1 _
 have:its=its':=by simpa using congrArg oo d1
 subst this
 exact r.inj r'
theorem bT.tuple_inj(I:bT X pins σ H s)(h:b4 X.K H a xs)(h':b4 X.K H a ys):xs=ys:=by
 obtain⟨its,r,⟨o,e,_,n,d⟩,_⟩:=I.tuple h
 obtain⟨its',r',⟨o',e',_,n',d'⟩,_⟩:=I.tuple h'
 rw[e] at e';cases e'
 rw[d] at d'
 injection d' with d1 _
 have:its=its':=by simpa using congrArg oo d1
 subst this
 exact r.inj r'
end
abbrev Cx.wish(X:Cx)(E:Value->Shared->Prop):Cx:={X with xe:=E}
abbrev Cx.nox(X:Cx):Cx:=X.wish λ_ _=>False
theorem Cx.Ok.wish{X:Cx}(ok:X.Ok)(E:Value->Shared->Prop):(X.wish E).Ok:=
 ⟨ok.mod,ok.kind,ok.glob,ok.blt,ok.above,ok.inj,ok.has,ok.cab,ok.hd,ok.frames,ok.stk,ok.exf,ok.bs,ok.bsz,ok.noex,ok.exfs,ok.funs,ok.frf⟩
theorem Cx.Ok.unwish{X:Cx}{E:Value->Shared->Prop}(ok:(X.wish E).Ok):X.Ok:=
 ⟨ok.mod,ok.kind,ok.glob,ok.blt,ok.above,ok.inj,ok.has,ok.cab,ok.hd,ok.frames,ok.stk,ok.exf,ok.bs,ok.bsz,ok.noex,ok.exfs,ok.funs,ok.frf⟩
section
variable{X:Cx}{pins:List (Addr×Obj)}{σ:St}{H:Hp}{s:Shared}{E:Value->Shared->Prop}
theorem bT.wish(I:bT X pins σ H s)(E:Value->Shared->Prop):bT (X.wish E) pins σ H s:=⟨I.ok.wish E,I.os,I.bare,I.base,I.loc,I.cell,I.free,I.freeC,I.pin,I.hok,I.len⟩
theorem bT.unwish(I:bT (X.wish E) pins σ H s):bT X pins σ H s:=⟨I.ok.unwish,I.os,I.bare,I.base,I.loc,I.cell,I.free,I.freeC,I.pin,I.hok,I.len⟩
theorem SP.unwish{D:jB}{f:Flow}{s':Shared}(h:SP (X.wish E) pins D f s'):SP X pins D f s':=by
 cases f with
 |next=>obtain⟨σ',H',I,q⟩:=h;exact⟨σ',H',I.unwish,q⟩
 |brk=>obtain⟨σ',H',I,q⟩:=h;exact⟨σ',H',I.unwish,q⟩
 |cont=>obtain⟨σ',H',I,q⟩:=h;exact⟨σ',H',I.unwish,q⟩
 |ret u=>obtain⟨v,σ',H',I,r,q⟩:=h;exact⟨v,σ',H',I.unwish,r,q⟩
theorem Bf.nox{st:List Stmt}{t:TS}(h:Bf X.nox st t):Bf X st t:=λpins s σ H D I hw=>
 wpAny_mono (h pins s σ H D (I.wish _) hw) (λ_ _ q=>q.unwish) λ_ _ z=>False.elim z
end
section
variable{X:Cx}{st:Stmt}{rest:List Stmt}{t u:TS}{e:Expr}{te:TE}{pos:Pos}
def b5:TS:=λD σ H=>D.nx σ H
def bf(t u:TS):TS:=λD σ H=>t {D with nx:=u D} σ H
theorem Jq:Bf X [] b5:=λ_ _ σ H _ I h=>wpAny_execs_nil ⟨σ,H,I,h⟩
theorem GM(h1:PS X st t)(h2:Bf X rest u):Bf X (st::rest) (bf t u):=by
 intro pins s σ H D I h
 refine wpAny_execs_cons (fE (h1 pins s σ H {D with nx:=u D} I h) λf s1 q=>?_)
 cases f with
 |next=>
  obtain⟨σ',H',I',q⟩:=q
  exact h2 pins s1 σ' H' D I' q
 |ret v=>exact q
 |brk=>exact q
 |cont=>exact q
theorem Jr(h1:PS X st t):Bf X [st] t:=by
 intro pins s σ H D I h
 refine wpAny_execs_cons (fE (h1 pins s σ H D I h) λf s1 q=>?_)
 cases f with
 |next=>exact wpAny_execs_nil q
 |ret v=>exact q
 |brk=>exact q
 |cont=>exact q
theorem bT.quiet{pins:List (Addr×Obj)}{σ:St}{H:Hp}{s:Shared}(I:bT X pins σ H s):interactive X.env=false:=by simp[interactive,I.ok.kind]
def iK(te:TE):TS:=λD σ H=>te σ H λ_ H1=>D.nx σ H1
theorem Jo(he:PE X e te)(hs:swapsWith e none pos.line X.env=pure false:=by rfl):PS X (.Expr e pos) (iK te):=by
 intro pins s σ H D I h
 exact wpAny_Expr_any (fE (he pins s σ H _ I h) λv s1 ⟨x,H1,I1,r1,q1⟩=>⟨σ,H1,I1,q1⟩) I.quiet hs
def cF(te:TE):TS:=λD σ H=>te σ H D.rt
theorem LK(he:PE X e te):PS X (.Return (some e) pos) (cF te):=by
 intro pins s σ H D I h
 exact wpAny_Return_some (fE (he pins s σ H _ I h) λv s1 ⟨x,H1,I1,r1,q1⟩=>⟨x,σ,H1,I1,r1,q1⟩)
def Hj:TS:=λD _ H=>D.rt .non H
theorem Jp:PS X (.Return none pos) Hj:=λ_ _ σ H _ I h=>wpAny_Return_none ⟨.non,σ,H,I,rfl,h⟩
def di(c:TT)(t u:TS):TS:=λD σ H=>c σ H λb H1=>if b=true then t D σ H1 else u D σ H1
theorem MZ{c:Expr}{a b:List Stmt}{tc:TT}(hc:PT X c tc)(ha:Bf X a t)(hb:Bf X b u):PS X (.If c a b pos) (di tc t u):=by
 intro pins s σ H D I h
 refine wpAny_If (fE (hc pins s σ H _ I h) λd s1 ⟨H1,I1,q1⟩=>?_)
 cases d with
 |true=>exact ha pins s1 σ H1 D I1 q1
 |false=>exact hb pins s1 σ H1 D I1 q1
end
abbrev TG:=V->St->Hp->(St->Hp->Prop)->Prop
abbrev Ea:=List V->St->Hp->(St->Hp->Prop)->Prop
def PG(X:Cx)(target:Expr)(t:TG):Prop:=
 ∀(pins:List (Addr×Obj)) (s:Shared) (σ:St) (H:Hp) (v:V) (u:Value) (Q:St->Hp->Prop),bT X pins σ H s->c6 v u->t v σ H Q->
  wpAny (model X.prog X.w) X.A (assign target X.env u) (λ_ s'=>∃σ' H',bT X pins σ' H' s'/\Q σ' H') X.xe s
def Me(X:Cx)(ts:List Expr)(t:Ea):Prop:=
 ∀(pins:List (Addr×Obj)) (s:Shared) (σ:St) (H:Hp) (vs:List V) (us:List Value) (Q:St->Hp->Prop),bT X pins σ H s->cy vs us->t vs σ H Q->
  wpAny (model X.prog X.w) X.A (assignInOrder ((assignEach ts X.env).map (·.2)) us) (λ_ s'=>∃σ' H',bT X pins σ' H' s'/\Q σ' H') X.xe s
abbrev Ib:=V->V->V->Hp->(Hp->Prop)->Prop
def HZ(X:Cx)(t:Ib):Prop:=
 ∀(pins:List (Addr×Obj)) (s:Shared) (σ:St) (H:Hp) (o i v:V) (ov iv u:Value) (Q:Hp->Prop),bT X pins σ H s->c6 o ov->c6 i iv->c6 v u->t o i v H Q->
  wpAny (model X.prog X.w) X.A (setItem ov iv u) (λ_ s'=>∃H',bT X pins σ H' s'/\Q H') X.xe s
section
variable{X:Cx}{pos:Pos}
def aK(i:Nat):TG:=λv σ H Q=>Q (σ.set i (some v)) H
theorem Jb{i:Nat}{x:Str}(hN:X.N.Nodup)(hi:X.N[i]?=some x)(hx:FI X.env.scope x)(hf:X.fn x=true\/X.env.scope.names.lookup x=some .local:=by first|exact .inl rfl|exact .inr rfl|assumption):PG X (.Name x pos) (aK i):=by
 intro pins s σ H v u Q I r h
 exact wpAny_assign_Name (AA I hN hi hx r (λs' I'=>⟨_,H,I',h⟩) hf)
def mP:Ea:=λvs σ H Q=>vs=[]/\Q σ H
def eF(t:TG)(u:Ea):Ea:=λvs σ H Q=>∃v r,vs=v::r/\t v σ H λσ' H'=>u r σ' H' Q
theorem Jd:Me X [] mP:=by
 intro pins s σ H vs us Q I r h
 obtain⟨e,h⟩:=h
 subst e
 cases r
 exact assignInOrder_nil ⟨σ,H,I,h⟩
theorem GH{e:Expr}{es:List Expr}{t:TG}{u:Ea}(h1:PG X e t)(h2:Me X es u)
  (hs:(assignEach (e::es) X.env).map (·.2)=assign e X.env::(assignEach es X.env).map (·.2):=by rfl):Me X (e::es) (eF t u):=by
 intro pins s σ H vs us Q I r h
 obtain⟨v,vr,e1,h⟩:=h
 subst e1
 cases r with
 |cons r rr=>
  rw[hs]
  refine assignInOrder_cons (fE (h1 pins s σ H _ _ _ I r h) λ_ s1 ⟨σ1,H1,I1,q1⟩=>?_)
  exact h2 pins s1 σ1 H1 _ _ Q I1 rr q1
def nW(K:Fg)(n:Nat)(t:Ea):TG:=λv σ H Q=>∃a xs,v=.ref a/\b4 K H a xs/\xs.length=n/\t xs σ H Q
theorem LC{es:List Expr}{k:Nat}{t:Ea}{n:Nat}(hc:X.calm=true)(h:Me X es t)
  (hn:(assignEach es X.env).length=n:=by rfl) (hst:(assignEach es X.env).findIdx? (·.1)=none:=by rfl):PG X (.Tuple es k pos) (nW X.K n t):=by
 intro pins s σ H v u Q I r hw
 obtain⟨a,xs,e1,hq,hl,hw⟩:=hw
 subst e1
 cases r
 obtain⟨its,rv,ht,hz⟩:=I.tuple hq
 refine assign_Tuple_tuple (I.ok.hd hc) ht (by simp[hn,<-hl,rv.length]) hst λh' hx=>?_
 have I1:bT X pins σ H {s with heap:=h'}:=I.kept (t':=s.toks) λb o e=>hx b o (aZ (aJ e)) e
 exact h pins _ σ H xs _ Q I1 (by simpa using rv) hw
def oM(to ti:TE)(t:Ib):TG:=λv σ H Q=>to σ H λo H1=>ti σ H1 λi H2=>t o i v H2 λH3=>Q σ H3
theorem LB{o i:Expr}{to ti:TE}{t:Ib}(ho:PE X o to)(hi:PE X i ti)(hs:HZ X t)
  (ha:∀v,assign (.Subscript o i pos) X.env v=(do
   let ov <-holding [v] (eval o X.env)
   let iv <-holding [v,ov] (eval i X.env)
   standAt pos
   holding [v,ov,iv] (setItem ov iv v)
   release [v,ov,iv] []):=by intro _;rfl):PG X (.Subscript o i pos) (oM to ti t):=by
 intro pins s σ H v u Q I r h
 rw[ha]
 refine wpAny_bind (wpAny_holding (fE (ho pins s σ H _ I h) λov s1 ⟨x,H1,I1,r1,q1⟩=>?_))
 refine wpAny_bind (wpAny_holding (fE (hi pins s1 σ H1 _ I1 q1) λiv s2 ⟨y,H2,I2,r2,q2⟩=>?_))
 refine wpAny_bind (wpAny_standAt (wpAny_bind (wpAny_holding (fE (hs pins s2 σ H2 x y v ov iv u _ I2 r1 r2 r q2) λ_ s3 ⟨H3,I3,q3⟩=>?_))))
 exact wpAny_release ⟨σ,H3,I3,q3⟩
def bD(te:TE)(g:TG):TS:=λD σ H=>te σ H λx H1=>g x σ H1 D.nx
theorem LI{tg e:Expr}{te:TE}{g:TG}(he:PE X e te)(hg:PG X tg g)(hs:swapsWithSole [tg] e pos.line X.env=pure false:=by rfl)(hw:swappedStores [tg] e X.env=pure none:=by rfl)
  (h1:(assignEach [tg] X.env).map (·.2)=[assign tg X.env]:=by rfl):PS X (.Assign [tg] e pos) (bD te g):=by
 intro pins s σ H D I h
 refine wpAny_Assign_stores (fE (he pins s σ H _ I h) λv s1 ⟨x,H1,I1,r1,q1⟩=>?_) hs hw
 rw[h1]
 exact fE (hg pins s1 σ H1 x v _ I1 r1 q1) λ_ s2 q=>q
theorem LL{i:Nat}{x:Str}{e:Expr}{te:TE}{pos':Pos}(hN:X.N.Nodup)(hi:X.N[i]?=some x)(hx:FI X.env.scope x)(he:PE X e te)(hs:swapsWith e (some (.Name x pos')) pos.line X.env=pure false:=by rfl)(hf:X.fn x=true\/X.env.scope.names.lookup x=some .local:=by first|exact .inl rfl|exact .inr rfl|assumption) :
  PS X (.Assign [.Name x pos'] e pos) (bD te (aK i)):=by
 intro pins s σ H D I h
 refine wpAny_Assign_Name (fE (he pins s σ H _ I h) λv s1 ⟨y,H1,I1,r1,q1⟩=>?_) hs
 exact AA I1 hN hi hx r1 (λs2 I2=>⟨_,H1,I2,q1⟩) hf
end
section
variable{X:Cx}{pos:Pos}
def uB(c:TT)(tb:TS):TS:=λD σ H=>∃W:Nat->St->Hp->Prop,(∃m,W m σ H)/\∀m σ H,W m σ H->
 c σ H λb H1=>if b=true then ∃N:St->Hp->Prop,(∀σ' H',N σ' H'->∃m',m'<m/\W m' σ' H')/\tb {D with nx:=N,ct:=N,bk:=D.nx} σ H1 else D.nx σ H1
theorem GL{c:Expr}{body:List Stmt}{tc:TT}{tb:TS}(hp:PassesOwn (model X.prog X.w) X.A X.env X.xe)(hc:PT X c tc)(hb:Bf X body tb):PS X (.While c body [] pos) (uB tc tb):=by
 intro pins s σ H D I h
 obtain⟨W,⟨m0,w0⟩,turn⟩:=h
 refine wpAny_While (codeAny_whileLoop (λn s'=>∃σ' H',bT X pins σ' H' s'/\W n σ' H') ?_ m0 ⟨σ,H,I,w0⟩)
 rintro n s1 ⟨σ1,H1,I1,w1⟩
 refine wpAny_passesOwn hp (fE (hc pins s1 σ1 H1 _ I1 (turn n σ1 H1 w1)) λb s2 ⟨H2,I2,q2⟩=>?_)
 cases b with
 |true=>
  obtain⟨N,hN,q2⟩:=q2
  rw[if_pos rfl]
  refine wpAny_passesOwn hp (fE (hb pins s2 σ1 H2 _ I2 q2) λf s3 q3=>?_)
  cases f with
  |next=>
   obtain⟨σ3,H3,I3,n3⟩:=q3
   obtain⟨m',hm,w3⟩:=hN σ3 H3 n3
   exact⟨m',hm,σ3,H3,I3,w3⟩
  |cont=>
   obtain⟨σ3,H3,I3,n3⟩:=q3
   obtain⟨m',hm,w3⟩:=hN σ3 H3 n3
   exact⟨m',hm,σ3,H3,I3,w3⟩
  |brk=>exact q3
  |ret v=>exact q3
 |false=>
  rw[if_neg Bool.false_ne_true]
  exact wpAny_execs_nil ⟨σ1,H2,I2,q2⟩
end
structure It where
 go:Nat->Hp->Prop
 yld:Nat->Hp->V->Hp->Prop
 stop:Nat->Hp->Prop
def nO(X:Cx)(pins:List (Addr×Obj))(H:Hp)(b:Addr):Prop:=
 H b=none/\b≠X.env.locals/\b∉X.fs/\(b∈X.ex\/X.s₀.heap.objs.size<=b)/\(∀x c,X.env.cells.lookup x=some c->c≠b)/\∀p∈X.pn++pins,p.1≠b
theorem bT.fpOk{X:Cx}{pins:List (Addr×Obj)}{σ:St}{H H':Hp}{s:Shared}{b:Addr}(I:bT X pins σ H s)(hb:s.heap.objs.size<=b)(hn:H' b=none):nO X pins H' b:=by
 refine⟨hn,iW (bA I.lt hb),I.nofs hb,.inr (bS I.sz hb),λx c e z=>?_,λp hp z=>?_⟩
 ·obtain⟨v,q⟩:=I.cell x c e
  exact absurd (bA q.lt (by rw[z];exact hb)) (dq _)
 ·exact absurd (bA (aJ (I.pin p hp).1) (by rw[z];exact hb)) (dq _)
structure vp(P:Program)(w:World)(K:Fg)(tg:Expr)(J:It)(fp:List Addr)(it:Addr)(tn:Nat->Heap->Prop):Prop where
 mem:it∈fp
 obj:∀i h,tn i h->∀b∈fp,∃o,h.get? b=some o/\∀v,o.data≠.cell v
 keep:∀i h h',tn i h->(∀b∈fp,∀o,h.get? b=some o->h'.get? b=some o)->tn i h'
 item:∀(X:Cx),X.prog=P->X.w=w->X.K=K->X.calm=true->∀(i:Nat) (pins:List (Addr×Obj)) (s:Shared) (σ:St) (H:Hp) (E:Value->Shared->Prop),bT X pins σ H s->(∀b∈fp,nO X pins H b)->tn i s.heap->J.go i H->
  wpAny (model P w) X.A (pyNext (.ref it)) (λr s1=>∃u,r=some u/\
   wpAny (model P w) X.A (letOwnedTupleGo tg (.ref it) u) (λ_ s2=>∃x H',bT X pins σ H' s2/\c6 x u/\J.yld i H x H'/\tn (i+1) s2.heap/\∀b∈fp,H' b=none) E s1) E s
 done:∀(X:Cx),X.prog=P->X.w=w->X.K=K->X.calm=true->∀(i:Nat) (pins:List (Addr×Obj)) (s:Shared) (σ:St) (H:Hp) (E:Value->Shared->Prop),bT X pins σ H s->(∀b∈fp,nO X pins H b)->tn i s.heap->J.stop i H->
  wpAny (model P w) X.A (pyNext (.ref it)) (λr s1=>r=none/\bT X pins σ H s1) E s
 self:∀(A:Around) (i:Nat) (s:Shared) (Q:Value->Shared->Prop) (E:Value->Shared->Prop),tn i s.heap->Q (.ref it) s->wpAny (model P w) A (pyIter (.ref it)) Q E s
abbrev TI:=St->Hp->(It->Hp->Prop)->Prop
def N3(X:Cx)(pins:List (Addr×Obj))(σ:St)(tg:Expr)(R:It->Hp->Prop)(itv:Value)(s2:Shared):Prop:=
 ∃(it:Addr) (fp:List Addr) (tn:Nat->Heap->Prop) (J:It) (H':Hp),itv=.ref it/\bT X pins σ H' s2/\vp X.prog X.w X.K tg J fp it tn/\tn 0 s2.heap/\(∀b∈fp,nO X pins H' b)/\R J H'
def PI(X:Cx)(tg iter:Expr)(wi:TI):Prop:=
 ∀(pins:List (Addr×Obj)) (s:Shared) (σ:St) (H:Hp) (R:It->Hp->Prop),bT X pins σ H s->wi σ H R->
  wpAny (model X.prog X.w) X.A (eval iter X.env) (λv s1=>wpAny (model X.prog X.w) X.A (pyIter v) (N3 X pins σ tg R) X.xe s1) X.xe s
theorem Dp{M:Model}{A:Around}{E:Value->Shared->Prop}{s:Shared}{tg:Expr}{it:Addr}{u:Value}{o:Obj}{n:String}{vs:Array Value}{Q:Unit->Shared->Prop}(ho:s.heap.get? it=some o)(hc:o.cls=.type n)(hd:o.data=.fields vs)
  (hn:["enumerate","zip","dict_itemiterator","dict_reverseitemiterator","odict_iterator","itertools.zip_longest","itertools.pairwise"].contains n=false) (hQ:Q () s):wpAny M A (letOwnedTupleGo tg (.ref it) u) Q E s:=by
 unfold letOwnedTupleGo
 cases tg<;>first
  |exact wpAny_pure hQ
  |(cases u<;>first
    |exact wpAny_pure hQ
    |(refine wpAny_bind (wpAny_load ho ?_)
      rw[hc,hd]
      show wpAny M A (if(["enumerate","zip","dict_itemiterator","dict_reverseitemiterator","odict_iterator","itertools.zip_longest","itertools.pairwise"].contains n&&vs[0]?==some (rawInt _))=true then _ else _) Q E s
      rw[if_neg (by intro h;rw[hn,Bool.false_and] at h;cases h)]
      exact wpAny_pure hQ))
def J3(K:Fg)(a:Addr):It:=
 ⟨λi H=>∃xs x,bY K H a xs/\xs[i]?=some x,λi H x H'=>H'=H/\∀xs,bY K H a xs->xs[i]?=some x,λi H=>∃xs,bY K H a xs/\xs.length<=i⟩
def J4(K:Fg)(a:Addr):It:=
 ⟨λi H=>∃xs x,b4 K H a xs/\xs[i]?=some x,λi H x H'=>H'=H/\∀xs,b4 K H a xs->xs[i]?=some x,λi H=>∃xs,b4 K H a xs/\xs.length<=i⟩
def HQ(lo:Int)(n:Nat):It:=⟨λi _=>i<n,λi H x H'=>H'=H/\x=.int (lo+i),λi _=>n<=i⟩
theorem Fo{P:Program}{w:World}{K:Fg}{tg:Expr}(a it:Addr):vp P w K tg (J3 K a) [it] it (λi h=>h.IsListIter it a i) where
 mem:=by simp
 obj:=λi h st b hb=>by
  have e:b=it:=by simpa using hb
  subst e
  obtain⟨o,e,c,d⟩:=st
  exact⟨o,e,λv z=>by rw[d] at z;cases z⟩
 keep:=λi h h' st k=>st.at λo e=>k it (by simp) o e
 item:=by
  intro X hP hw hK hc i pins s σ H E I hf st hg
  subst hP hw hK
  obtain⟨xs,x,hq,hx⟩:=hg
  obtain⟨its,rv,p,hz⟩:=I.list hq
  obtain⟨u,hu,ru⟩:=rv.get hx
  obtain⟨f0,f1,f2,f3,f4,f5⟩:=hf it (by simp)
  refine wpAny_pyNext_list_item st p.isList (x:=u) (by simpa using hu) λh' st' sb=>?_
  have I1:bT X pins σ H {s with heap:=h'}:=I.turned (t':=s.toks) (λb o hb e=>(sb.2 b hb).trans e) f0 f1 f3 f4 f5
  obtain⟨o,e,c,d⟩:=id st'
  exact⟨u,rfl,Dp (s:={s with heap:=h'}) e c d (by decide) ⟨x,H,I1,ru,⟨rfl,λys hy=>by rw[I.list_inj hy hq];exact hx⟩,st',λb hb=>(hf b hb).1⟩⟩
 done:=by
  intro X hP hw hK hc i pins s σ H E I hf st hg
  subst hP hw hK
  obtain⟨xs,hq,hx⟩:=hg
  obtain⟨its,rv,p,hz⟩:=I.list hq
  obtain⟨f0,f1,f2,f3,f4,f5⟩:=hf it (by simp)
  have hl:=rv.length
  exact wpAny_pyNext_list_end (I.ok.hd hc) st p.isList (by simp;lia) λh' eb=>⟨rfl,I.turned (t':=s.toks) (λb o hb e=>eb b o hb e) f0 f1 f3 f4 f5⟩
 self:=λ_ _ _ _ _ st h=>wpAny_pyIter_listiter st h
theorem C0{P:Program}{w:World}{K:Fg}{tg:Expr}(a it:Addr):vp P w K tg (J4 K a) [it] it (λi h=>h.IsTupleIter it a i) where
 mem:=by simp
 obj:=λi h st b hb=>by
  have e:b=it:=by simpa using hb
  subst e
  obtain⟨o,e,c,d⟩:=st
  exact⟨o,e,λv z=>by rw[d] at z;cases z⟩
 keep:=λi h h' st k=>st.at λo e=>k it (by simp) o e
 item:=by
  intro X hP hw hK hc i pins s σ H E I hf st hg
  subst hP hw hK
  obtain⟨xs,x,hq,hx⟩:=hg
  obtain⟨its,rv,p,hz⟩:=I.tuple hq
  obtain⟨u,hu,ru⟩:=rv.get hx
  obtain⟨f0,f1,f2,f3,f4,f5⟩:=hf it (by simp)
  refine wpAny_pyNext_tuple_item st (show s.heap.IsTuple a its.toArray from p) (x:=u) (by simpa using hu) λh' st' sb=>?_
  have I1:bT X pins σ H {s with heap:=h'}:=I.turned (t':=s.toks) (λb o hb e=>(sb.2 b hb).trans e) f0 f1 f3 f4 f5
  obtain⟨o,e,c,d⟩:=id st'
  exact⟨u,rfl,Dp (s:={s with heap:=h'}) e c d (by decide) ⟨x,H,I1,ru,⟨rfl,λys hy=>by rw[I.tuple_inj hy hq];exact hx⟩,st',λb hb=>(hf b hb).1⟩⟩
 done:=by
  intro X hP hw hK hc i pins s σ H E I hf st hg
  subst hP hw hK
  obtain⟨xs,hq,hx⟩:=hg
  obtain⟨its,rv,p,hz⟩:=I.tuple hq
  obtain⟨f0,f1,f2,f3,f4,f5⟩:=hf it (by simp)
  have hl:=rv.length
  exact wpAny_pyNext_tuple_end (I.ok.hd hc) st (show s.heap.IsTuple a its.toArray from p) (by simp;lia) λh' eb=>⟨rfl,I.turned (t':=s.toks) (λb o hb e=>eb b o hb e) f0 f1 f3 f4 f5⟩
 self:=λ_ _ _ _ _ st h=>wpAny_pyIter_tupleiter st h
theorem CZ{P:Program}{w:World}{K:Fg}{tg:Expr}(it:Addr)(lo:Int)(n:Nat):vp P w K tg (HQ lo n) [it] it (λi h=>IsRangeIter h it (lo+(i:Nat)*1) ((n:Int)-(i:Nat)) 1) where
 mem:=by simp
 obj:=λi h st b hb=>by
  have e:b=it:=by simpa using hb
  subst e
  exact⟨_,st,λv z=>by
   have z':Data.fields _=Data.cell v:=z
   cases z'⟩
 keep:=λi h h' st k=>k it (by simp) _ st
 item:=by
  intro X hP hw hK hc i pins s σ H E I hf st hg
  subst hP hw hK
  obtain⟨f0,f1,f2,f3,f4,f5⟩:=hf it (by simp)
  have W:=Walks.range (prog:=X.prog) (w:=X.w) (I.ok.hd hc) it lo 1 n
  refine W.item i s _ _ hg st λv h' tk hv st' kk=>?_
  obtain⟨t,rfl⟩:=hv
  have I1:bT X pins σ H {s with heap:=h',toks:=tk}:=I.turned (λb o hb e=>kk b o (by simpa using hb) e) f0 f1 f3 f4 f5
  refine⟨_,rfl,Dp (s:={s with heap:=h',toks:=tk}) (n:="range_iterator") st' rfl rfl (by decide) ⟨.int (lo+i),H,I1,⟨t,?_⟩,⟨rfl,rfl⟩,st',λb hb=>(hf b hb).1⟩⟩
  rw[Int.mul_one]
 done:=by
  intro X hP hw hK hc i pins s σ H E I hf st hg
  subst hP hw hK
  obtain⟨f0,f1,f2,f3,f4,f5⟩:=hf it (by simp)
  exact wpAny_pyNext_range_end (I.ok.hd hc) st (by have:n<=i:=hg;lia) λh' eb=>⟨rfl,I.turned (t':=s.toks) (λb o hb e=>eb b o hb e) f0 f1 f3 f4 f5⟩
 self:=λ_ _ _ _ _ st h=>wpAny_pyIter_rangeiter st h
section
variable{X:Cx}{tg:Expr}
def J9(K:Fg)(tl:TE):TI:=λσ H R=>tl σ H λx H1=>∃a,x=.ref a/\(∃xs,bY K H1 a xs)/\R (J3 K a) H1
def ME(K:Fg)(tl:TE):TI:=λσ H R=>tl σ H λx H1=>∃a,x=.ref a/\(∃xs,b4 K H1 a xs)/\R (J4 K a) H1
theorem Jf{l:Expr}{tl:TE}(hl:PE X l tl):PI X tg l (J9 X.K tl):=by
 intro pins s σ H R I h
 refine fE (hl pins s σ H _ I h) λv s1 ⟨x,H1,I1,r1,q1⟩=>?_
 obtain⟨a,e,⟨xs,hq⟩,q⟩:=q1
 subst e
 cases r1
 obtain⟨its,rv,p,hz⟩:=I1.list hq
 refine wpAny_pyIter_list p.isList ?_
 refine⟨s1.heap.objs.size,[s1.heap.objs.size],_,_,H1,rfl,I1.kept (t':=s1.toks) λb o e=>av _ e,Fo a _,⟨_,aM _ rfl,rfl,rfl⟩,λb hb=>?_,q⟩
 have e:b=s1.heap.objs.size:=by simpa using hb
 subst e
 exact I1.fpOk (ay _) (I1.hok.fresh (ay _))
theorem LF{l:Expr}{tl:TE}(hl:PE X l tl):PI X tg l (ME X.K tl):=by
 intro pins s σ H R I h
 refine fE (hl pins s σ H _ I h) λv s1 ⟨x,H1,I1,r1,q1⟩=>?_
 obtain⟨a,e,⟨xs,hq⟩,q⟩:=q1
 subst e
 cases r1
 obtain⟨its,rv,p,hz⟩:=I1.tuple hq
 refine wpAny_pyIter_tuple (show s1.heap.IsTuple a its.toArray from p) ?_
 refine⟨s1.heap.objs.size,[s1.heap.objs.size],_,_,H1,rfl,I1.kept (t':=s1.toks) λb o e=>av _ e,C0 a _,⟨_,aM _ rfl,rfl,rfl⟩,λb hb=>?_,q⟩
 have e:b=s1.heap.objs.size:=by simpa using hb
 subst e
 exact I1.fpOk (ay _) (I1.hok.fresh (ay _))
theorem G4{pins:List (Addr×Obj)}{σ:St}{H:Hp}{s:Shared}{R:It->Hp->Prop}{E:Value->Shared->Prop}{lo hi:Int}{t u v:Tok}{tk:Nat}(I:bT X pins σ H s)(h1:-(2 ^ 62)<=lo)(h2:lo<2 ^ 62)(h3:-(2 ^ 62)<=hi)(h4:hi<2 ^ 62)
  (q:R (HQ lo (hi-lo).toNat) H):wpAny (model X.prog X.w) X.A (pyIter (.ref s.heap.objs.size)) (N3 X pins σ tg R) E {s with heap:=s.heap.push {cls:=.type "range",data:=.fields #[.int lo t,.int hi u,.int 1 v]},toks:=tk}:=by
 refine wpAny_pyIter_range (IsRange.new ..) (small_one h1 h2 h3 h4) ?_
 have I1:bT X pins σ H {s with heap:=s.heap.push {cls:=.type "range",data:=.fields #[.int lo t,.int hi u,.int 1 v]},toks:=tk}:=I.kept λb o e=>av _ e
 refine⟨(s.heap.push {cls:=.type "range",data:=.fields #[.int lo t,.int hi u,.int 1 v]}).objs.size,[(s.heap.push {cls:=.type "range",data:=.fields #[.int lo t,.int hi u,.int 1 v]}).objs.size],_,_,H,rfl,
  I1.kept (t':=tk) λb o e=>av _ e,CZ _ lo (hi-lo).toNat,?_,λb hb=>?_,q⟩
 ·have e1:lo+((0:Nat):Int)*1=lo:=by simp
  have e2:(((hi-lo).toNat:Nat):Int)-((0:Nat):Int)=Builtin.Range.rangeSize lo hi 1:=by rw[rangeSize_one];split<;>lia
  show IsRangeIter _ _ (lo+((0:Nat):Int)*1) ((((hi-lo).toNat:Nat):Int)-((0:Nat):Int)) 1
  rw[e1,e2]
  exact aM _ rfl
 ·have e:b=(s.heap.push {cls:=.type "range",data:=.fields #[.int lo t,.int hi u,.int 1 v]}).objs.size:=by simpa using hb
  subst e
  exact I1.fpOk (ay _) (I1.hok.fresh (ay _))
def ly(ta:TA):TI:=λσ H R=>ta σ H λvs H1=>∃j:Int,vs=[.int j]/\-(2 ^ 62)<=j/\j<2 ^ 62/\R (HQ 0 j.toNat) H1
theorem EW{a:Expr}{ta:TA}{p pos:Pos}(hg:Gl X "range")(hm:X.mg "range"=none)(ha:PA X [a] ta)(hs:starEach [a] X.env=[(false,eval a X.env)]:=by rfl):PI X tg (.Call (.Name "range" p) [a] [] pos) (ly ta):=by
 intro pins s σ H R I h
 refine Call_ (jo I hg hm boot_range (bL (fE (ha pos pins s σ H _ I h) λus s1 ⟨vs,H1,I1,r1,q1⟩=>?_) hs rfl))
 obtain⟨j,e,q1,q2,q⟩:=q1
 subst e
 cases r1 with
 |cons r rr=>
  cases rr
  obtain⟨t,rfl⟩:=r
  exact call_range_1 (G4 I1 (by lia) (by lia) q1 q2 (by simpa using q))
def jy(wi:TI)(g:TG)(tb:TS):TS:=λD σ H=>wi σ H λJ H1=>∃W:Nat->Nat->St->Hp->Prop,(∃m,W 0 m σ H1)/\∀i m σ H,W i m σ H->
 (J.stop i H/\D.nx σ H)\/(J.go i H/\∃N:St->Hp->Prop,(∀σ' H',N σ' H'->∃m',m'<m/\W (i+1) m' σ' H')/\∀x H',J.yld i H x H'->g x σ H' λσ2 H2=>tb {D with nx:=N,ct:=N,bk:=D.nx} σ2 H2)
def ue(fp:List Addr)(h:Heap):List (Addr×Obj):=fp.filterMap λb=>(h.get? b).map λo=>(b,o)
theorem kI{fp:List Addr}{h:Heap}{b:Addr}{o:Obj}(hb:b∈fp)(e:h.get? b=some o):(b,o)∈ue fp h:=fo.mpr ⟨b,hb,by rw[e];rfl⟩
theorem ES{fp:List Addr}{h:Heap}{p:Addr×Obj}(hp:p∈ue fp h):p.1∈fp/\h.get? p.1=some p.2:=by
 obtain⟨b,hb,e⟩:=fo.mp hp
 cases q:h.get? b with
 |none=>rw[q] at e;cases e
 |some o=>
  rw[q] at e
  have e':(b,o)=p:=Option.some.inj e
  subst e'
  exact⟨hb,q⟩
theorem bT.pinned{pins:List (Addr×Obj)}{σ:St}{H:Hp}{s:Shared}{fp:List Addr}(I:bT X pins σ H s)(hf:∀b∈fp,nO X pins H b)(ho:∀b∈fp,∃o,s.heap.get? b=some o/\∀v,o.data≠.cell v):bT X (pins++ue fp s.heap) σ H s:=
 I.pins_of λp hp=>(a8.mp hp).elim (λz=>I.pin p (bq _ z)) λz=>by
  obtain⟨hb,e⟩:=ES z
  obtain⟨f0,f1,f2,_⟩:=hf p.1 hb
  obtain⟨o,e',d⟩:=ho p.1 hb
  rw[e] at e';cases e'
  exact⟨e,f0,f1,f2,d⟩
theorem bT.unpinned{pins pl:List (Addr×Obj)}{σ:St}{H:Hp}{s:Shared}(I:bT X (pins++pl) σ H s):bT X pins σ H s:=I.pins_of λp hp=>I.pin p (bq _ (bZ _ hp))
theorem LJ{iter:Expr}{body:List Stmt}{wi:TI}{g:TG}{tb:TS}{pos:Pos}(hp:PassesOwn (model X.prog X.w) X.A X.env X.xe)(hc:X.calm=true)(hi:PI X tg iter wi)(hg:PG X tg g)(hb:Bf X body tb)
  (hs:∀x,foldedSetIterable iter X.env x=pure x:=by intro _;rfl):PS X (.For tg iter body [] pos) (jy wi g tb):=by
 intro pins s σ H D I h
 refine wpAny_For (fE (hi pins s σ H _ I h) λv s1 h1=>fE h1 λitv s2 h2=>?_) hs
 obtain⟨it,fp,tn,J,H2,e,I2,T,st2,f2,W,⟨m0,w0⟩,turn⟩:=h2
 subst e
 have stat:∀{H':Hp},(∀b∈fp,H' b=none)->∀b∈fp,nO X pins H' b:=λhn b hb=>⟨hn b hb,(f2 b hb).2⟩
 refine codeAny_forLoop_any (λn s'=>∃i σ' H',bT X pins σ' H' s'/\tn i s'.heap/\(∀b∈fp,H' b=none)/\W i n σ' H') ?_ m0 ⟨0,σ,H2,I2,st2,λb hb=>(f2 b hb).1,w0⟩
 rintro n s3 ⟨i,σ3,H3,I3,st3,fr3,w3⟩
 rcases turn i n σ3 H3 w3 with⟨stop,qn⟩|⟨go,N,hN,step⟩
 ·refine wpAny_passesOwn hp (fE (T.done X rfl rfl rfl hc i pins s3 σ3 H3 X.xe I3 (stat fr3) st3 stop) λr s4 ⟨hr,I4⟩=>?_)
  subst hr
  exact wpAny_execs_nil ⟨σ3,H3,I4,qn⟩
 ·refine wpAny_passesOwn hp (fE (T.item X rfl rfl rfl hc i pins s3 σ3 H3 X.xe I3 (stat fr3) st3 go) λr s4 ⟨u,hr,h4⟩=>?_)
  subst hr
  refine wpAny_passesOwn hp (fE h4 λ_ s5 ⟨x,H5,I5,r5,y5,st5,fr5⟩=>?_)
  have I5':=I5.pinned (stat fr5) (T.obj _ _ st5)
  refine wpAny_passesOwn hp (fE (hg _ s5 σ3 H5 x u _ I5' r5 (step x H5 y5)) λ_ s6 ⟨σ6,H6,I6,q6⟩=>?_)
  refine wpAny_passesOwn hp (fE (hb _ s6 σ6 H6 _ I6 q6) λf s7 q7=>?_)
  have again:∀{σ7:St} {H7:Hp},bT X (pins++ue fp s5.heap) σ7 H7 s7->N σ7 H7->∃m,m<n/\∃i σ' H',bT X pins σ' H' s7/\tn i s7.heap/\(∀b∈fp,H' b=none)/\W i m σ' H':=λ{σ7 H7} I7 n7=>by
   obtain⟨m',hm,w7⟩:=hN σ7 H7 n7
   refine⟨m',hm,i+1,σ7,H7,I7.unpinned,T.keep _ _ _ st5 λb hb o e=>(I7.pin (b,o) (bq _ (bq _ (kI hb e)))).1,λb hb=>?_,w7⟩
   obtain⟨o,e,d⟩:=T.obj _ _ st5 b hb
   exact(I7.pin (b,o) (bq _ (bq _ (kI hb e)))).2.1
  cases f with
  |next=>obtain⟨σ7,H7,I7,n7⟩:=q7;exact again I7 n7
  |cont=>obtain⟨σ7,H7,I7,n7⟩:=q7;exact again I7 n7
  |brk=>obtain⟨σ7,H7,I7,q7⟩:=q7;exact⟨σ7,H7,I7.unpinned,q7⟩
  |ret v=>obtain⟨x7,σ7,H7,I7,r7,q7⟩:=q7;exact⟨x7,σ7,H7,I7.unpinned,r7,q7⟩
end
theorem lW{K:Fg}{a:Addr}{xs:List V}{g:TG}{tb:TS}{D:jB}{σ:St}{H:Hp}(Pv:Nat->St->Hp->Prop)(h0:Pv 0 σ H)(hl:∀i σ H,i<=xs.length->Pv i σ H->bY K H a xs)
  (hs:∀i x σ H,xs[i]?=some x->Pv i σ H->g x σ H λσ2 H2=>tb {D with nx:=Pv (i+1),ct:=Pv (i+1),bk:=D.nx} σ2 H2) (hd:∀σ H,Pv xs.length σ H->D.nx σ H) :
  ∃W:Nat->Nat->St->Hp->Prop,(∃m,W 0 m σ H)/\∀i m σ H,W i m σ H->
   ((J3 K a).stop i H/\D.nx σ H)\/((J3 K a).go i H/\∃N:St->Hp->Prop,(∀σ' H',N σ' H'->∃m',m'<m/\W (i+1) m' σ' H')/\∀x H',(J3 K a).yld i H x H'->g x σ H' λσ2 H2=>tb {D with nx:=N,ct:=N,bk:=D.nx} σ2 H2):=by
 refine⟨λi m σ H=>m=xs.length-i/\i<=xs.length/\Pv i σ H,⟨xs.length,by simp,bQ _,h0⟩,?_⟩
 rintro i m σ H ⟨rfl,hi,p⟩
 have q:=hl i σ H hi p
 by_cases hlt:i<xs.length
 ·refine .inr ⟨⟨xs,xs[i],q,by simp[hlt]⟩,Pv (i+1),λσ' H' p'=>⟨xs.length-(i+1),by lia,rfl,hlt,p'⟩,λx H' y=>?_⟩
  obtain⟨e,y⟩:=y
  subst e
  exact hs i x σ _ (y xs q) p
 ·have e:i=xs.length:=by lia
  subst e
  exact .inl ⟨⟨xs,q,ay _⟩,hd σ H p⟩
theorem kG{K:Fg}{a:Addr}{xs:List V}{g:TG}{tb:TS}{D:jB}{σ:St}{H:Hp}(Pv:Nat->St->Hp->Prop)(h0:Pv 0 σ H)(hl:∀i σ H,i<=xs.length->Pv i σ H->b4 K H a xs)
  (hs:∀i x σ H,xs[i]?=some x->Pv i σ H->g x σ H λσ2 H2=>tb {D with nx:=Pv (i+1),ct:=Pv (i+1),bk:=D.nx} σ2 H2) (hd:∀σ H,Pv xs.length σ H->D.nx σ H) :
  ∃W:Nat->Nat->St->Hp->Prop,(∃m,W 0 m σ H)/\∀i m σ H,W i m σ H->
   ((J4 K a).stop i H/\D.nx σ H)\/((J4 K a).go i H/\∃N:St->Hp->Prop,(∀σ' H',N σ' H'->∃m',m'<m/\W (i+1) m' σ' H')/\∀x H',(J4 K a).yld i H x H'->g x σ H' λσ2 H2=>tb {D with nx:=N,ct:=N,bk:=D.nx} σ2 H2):=by
 refine⟨λi m σ H=>m=xs.length-i/\i<=xs.length/\Pv i σ H,⟨xs.length,by simp,bQ _,h0⟩,?_⟩
 rintro i m σ H ⟨rfl,hi,p⟩
 have q:=hl i σ H hi p
 by_cases hlt:i<xs.length
 ·refine .inr ⟨⟨xs,xs[i],q,by simp[hlt]⟩,Pv (i+1),λσ' H' p'=>⟨xs.length-(i+1),by lia,rfl,hlt,p'⟩,λx H' y=>?_⟩
  obtain⟨e,y⟩:=y
  subst e
  exact hs i x σ _ (y xs q) p
 ·have e:i=xs.length:=by lia
  subst e
  exact .inl ⟨⟨xs,q,ay _⟩,hd σ H p⟩
theorem iq{lo:Int}{n:Nat}{g:TG}{tb:TS}{D:jB}{σ:St}{H:Hp}(Pv:Nat->St->Hp->Prop)(h0:Pv 0 σ H)
  (hs:∀i σ H,i<n->Pv i σ H->g (.int (lo+i)) σ H λσ2 H2=>tb {D with nx:=Pv (i+1),ct:=Pv (i+1),bk:=D.nx} σ2 H2) (hd:∀σ H,Pv n σ H->D.nx σ H) :
  ∃W:Nat->Nat->St->Hp->Prop,(∃m,W 0 m σ H)/\∀i m σ H,W i m σ H->
   ((HQ lo n).stop i H/\D.nx σ H)\/((HQ lo n).go i H/\∃N:St->Hp->Prop,(∀σ' H',N σ' H'->∃m',m'<m/\W (i+1) m' σ' H')/\∀x H',(HQ lo n).yld i H x H'->g x σ H' λσ2 H2=>tb {D with nx:=N,ct:=N,bk:=D.nx} σ2 H2):=by
 refine⟨λi m σ H=>m=n-i/\i<=n/\Pv i σ H,⟨n,by simp,bQ _,h0⟩,?_⟩
 rintro i m σ H ⟨rfl,hi,p⟩
 by_cases hlt:i<n
 ·refine .inr ⟨hlt,Pv (i+1),λσ' H' p'=>⟨n-(i+1),by lia,rfl,hlt,p'⟩,λx H' y=>?_⟩
  obtain⟨e,y⟩:=y
  subst e y
  exact hs i σ _ hlt p
 ·have e:i=n:=by lia
  subst e
  exact .inl ⟨ay _,hd σ H p⟩
abbrev R2:=V->V->Hp->VK->Prop
def jh(X:Cx)(f:Value->Value->Sem Value)(r:R2):Prop:=
 ∀(pins:List (Addr×Obj)) (s:Shared) (σ:St) (H:Hp) (x y:V) (v u:Value) (Q:VK),bT X pins σ H s->c6 x v->c6 y u->r x y H Q->
  wpAny (model X.prog X.w) X.A (f v u) (EP X pins σ Q) X.xe s
def Nw(X:Cx)(f:Value->Sem Value)(r:V->Hp->VK->Prop):Prop:=
 ∀(pins:List (Addr×Obj)) (s:Shared) (σ:St) (H:Hp) (x:V) (v:Value) (Q:VK),bT X pins σ H s->c6 x v->r x H Q->
  wpAny (model X.prog X.w) X.A (f v) (EP X pins σ Q) X.xe s
def jf(X:Cx)(f:Value)(r:List V->Hp->VK->Prop):Prop:=
 ∀(pins:List (Addr×Obj)) (s:Shared) (σ:St) (H:Hp) (xs:List V) (us:List Value) (Q:VK),bT X pins σ H s->cy xs us->r xs H Q->
  wpAny (model X.prog X.w) X.A (call f us) (EP X pins σ Q) X.xe s
def aX(r:R2)(ta tb:TE):TE:=λσ H Q=>ta σ H λx H1=>tb σ H1 λy H2=>r x y H2 Q
def ND(r:V->Hp->VK->Prop)(ta:TE):TE:=λσ H Q=>ta σ H λx H1=>r x H1 Q
def rI(C:Int->Int->Prop)(g:Int->Int->V):R2:=λx y H Q=>∃i j,x=.int i/\y=.int j/\C i j/\Q (g i j) H
def HI(g:Int->Int->V):R2:=λx y H Q=>∃i j,x=.int i/\y=.int j/\Q (g i j) H
def rU(g:Int->V):V->Hp->VK->Prop:=λx H Q=>∃i,x=.int i/\Q (g i) H
section
variable{X:Cx}{a b c:Expr}{ta tb tc:TE}{pos:Pos}
theorem KA(ha:PE X a ta)(hb:PE X b tb){pins:List (Addr×Obj)}{s:Shared}{σ:St}{H:Hp}{R:V->V->Hp->Prop}(I:bT X pins σ H s)
  (h:ta σ H λx H1=>tb σ H1 λy H2=>R x y H2) {Q:Value->Shared->Prop} {f:Value->Value->Sem Value}
  (hf:∀v u s2 x y H2,bT X pins σ H2 s2->c6 x v->c6 y u->R x y H2->wpAny (model X.prog X.w) X.A (f v u) Q X.xe s2) :
  wpAny (model X.prog X.w) X.A (eval a X.env) (λv s₁=>wpAny (model X.prog X.w) X.A (eval b X.env) (λu s₂=>wpAny (model X.prog X.w) X.A (f v u) Q X.xe s₂) X.xe s₁) X.xe s:=by
 refine fE (ha pins s σ H _ I h) λv s1 ⟨x,H1,I1,r1,q1⟩=>?_
 refine fE (hb pins s1 σ H1 _ I1 q1) λu s2 ⟨y,H2,I2,r2,q2⟩=>?_
 exact hf v u s2 x y H2 I2 r1 r2 q2
theorem MV{op:Operator}{r:R2}(ho:jh X (binaryOp op) r)(ha:PE X a ta)(hb:PE X b tb):PE X (.BinOp a op b pos) (aX r ta tb):=by
 intro pins s σ H Q I h
 exact wpAny_BinOp (KA ha hb I h λv u s2 x y H2 I2 rx ry q=>ho pins s2 σ H2 x y v u Q I2 rx ry q)
theorem MX{op:UnaryOp}{r:V->Hp->VK->Prop}(ho:Nw X (unaryOp op) r)(ha:PE X a ta):PE X (.UnaryOp op a pos) (ND r ta):=by
 intro pins s σ H Q I h
 exact UnaryOp_ (fE (ha pins s σ H _ I h) λv s1 ⟨x,H1,I1,r1,q1⟩=>ho pins s1 σ H1 x v Q I1 r1 q1)
theorem NA{f:Value->Value->Sem Value}{C:Int->Int->Prop}{g:Int->Int->Int}
  (rule:∀(i j:Int) (t u:Tok) (s:Shared) (Q:Value->Shared->Prop) (E:Value->Shared->Prop),C i j->Q (.int (g i j) s.toks) {s with toks:=s.toks+1}->wpAny (model X.prog X.w) X.A (f (.int i t) (.int j u)) Q E s) :
  jh X f (rI C λi j=>.int (g i j)):=by
 intro pins s σ H x y v u Q I rx ry h
 obtain⟨i,j,rfl,rfl,hc,q⟩:=h
 obtain⟨t,rfl⟩:=rx
 obtain⟨t',rfl⟩:=ry
 exact rule i j t t' s _ _ hc ⟨.int (g i j),H,I.tok _,⟨_,rfl⟩,q⟩
theorem MO{f:Value->Value->Sem Value}{g:Int->Int->Int}
  (rule:∀(i j:Int) (t u:Tok) (s:Shared) (Q:Value->Shared->Prop) (E:Value->Shared->Prop),Q (.int (g i j) s.toks) {s with toks:=s.toks+1}->wpAny (model X.prog X.w) X.A (f (.int i t) (.int j u)) Q E s) :
  jh X f (HI λi j=>.int (g i j)):=by
 intro pins s σ H x y v u Q I rx ry h
 obtain⟨i,j,rfl,rfl,q⟩:=h
 obtain⟨t,rfl⟩:=rx
 obtain⟨t',rfl⟩:=ry
 exact rule i j t t' s _ _ ⟨.int (g i j),H,I.tok _,⟨_,rfl⟩,q⟩
theorem MN{f:Value->Value->Sem Value}{g:Int->Int->Bool}
  (rule:∀(i j:Int) (t u:Tok) (s:Shared) (Q:Value->Shared->Prop) (E:Value->Shared->Prop),Q (.bool (g i j)) s->wpAny (model X.prog X.w) X.A (f (.int i t) (.int j u)) Q E s) :
  jh X f (HI λi j=>.bl (g i j)):=by
 intro pins s σ H x y v u Q I rx ry h
 obtain⟨i,j,rfl,rfl,q⟩:=h
 obtain⟨t,rfl⟩:=rx
 obtain⟨t',rfl⟩:=ry
 exact rule i j t t' s _ _ ⟨.bl (g i j),H,I,rfl,q⟩
def Mi(i j:Int):Prop:=0<j/\j<1073741824
def Mj(i j:Int):Prop:=0<=j/\j<=1000000/\i.natAbs<2 ^ 64
def HJ(i j:Int):Prop:=(-(2 ^ 64)<i/\i<2 ^ 64)\/(-(2 ^ 64)<j/\j<2 ^ 64)
theorem HJ.ok{i j:Int}(h:HJ i j):IntMulOk i j:=by
 rcases h with⟨h1,h2⟩|⟨h1,h2⟩
 ·exact .of_left (intBits_le_64 h1 h2)
 ·exact .of_right (intBits_le_64 h1 h2)
theorem Lf:jh X (binaryOp .Add) (HI λi j=>.int (i+j)):=MO λ_ _ _ _ _ _ _ q=>add_int q
theorem yt:jh X (binaryOp .Sub) (HI λi j=>.int (i-j)):=MO λ_ _ _ _ _ _ _ q=>sub_int q
theorem Lk:jh X (binaryOp .Mult) (rI HJ λi j=>.int (i*j)):=NA λ_ _ _ _ _ _ _ hc q=>mul_int q hc.ok
theorem yo:jh X (binaryOp .FloorDiv) (rI Mi λi j=>.int (i / j)):=NA λi j _ _ _ _ _ hc q=>by
 have h1:(0:Int)<j:=hc.1
 have h2:j<1073741824:=hc.2
 exact floordiv_int (by lia) (by rw[Int.fdiv_eq_ediv_of_nonneg i (by lia)];exact q) (.inl (PyProof.noPylong_small (by lia)))
theorem ir:jh X (binaryOp .Mod) (rI (λ_ j=>0<j) λi j=>.int (i % j)):=NA λi j _ _ _ _ _ hc q=>by
 have h1:(0:Int)<j:=hc
 exact mod_int' (by lia) (by rw[Int.fmod_eq_emod_of_nonneg i (by lia)];exact q)
theorem yq:jh X (binaryOp .Pow) (rI Mj λi j=>.int (i ^ j.toNat)):=NA λ_ _ _ _ _ _ _ hc q=>pow_int_small hc.1 hc.2.1 hc.2.2 q
theorem Ow{f:Value->Sem Value}{g:Int->Int}
  (rule:∀(i:Int) (t:Tok) (s:Shared) (Q:Value->Shared->Prop) (E:Value->Shared->Prop),Q (.int (g i) s.toks) {s with toks:=s.toks+1}->wpAny (model X.prog X.w) X.A (f (.int i t)) Q E s) :
  Nw X f (rU λi=>.int (g i)):=by
 intro pins s σ H x v Q I rx h
 obtain⟨i,rfl,q⟩:=h
 obtain⟨t,rfl⟩:=rx
 exact rule i t s _ _ ⟨.int (g i),H,I.tok _,⟨_,rfl⟩,q⟩
theorem Hz:Nw X (unaryOp .USub) (rU λi=>.int (-i)):=Ow λ_ _ _ _ _ q=>neg_int q
end
def JQ:V->V->Bool
 |.non,.non=>true|.non,.int _=>true|.int _,.non=>true|.non,.bl _=>true|.bl _,.non=>true|.non,.str _=>true|.str _,.non=>true
 |.int _,.int _=>true|.bl _,.bl _=>true|.str _,.str _=>true|.byt _,.byt _=>true
 |.int _,.str _=>true|.str _,.int _=>true|.bl _,.str _=>true|.str _,.bl _=>true
 |_,_=>false
def Od:R2:=λx y H Q=>JQ x y=true/\Q (.bl (decide (x=y))) H
def Oe:R2:=λx y H Q=>JQ x y=true/\Q (.bl (!decide (x=y))) H
theorem Dj{i j:Int}:decide (V.int i=V.int j)=(i==j):=by
 rw[Bool.eq_iff_iff]
 simp
theorem F2{i j:Bool}:decide (V.bl i=V.bl j)=(i==j):=by
 rw[Bool.eq_iff_iff]
 simp
theorem Dk{i j:Str}:decide (V.str i=V.str j)=(i==j):=by
 rw[Bool.eq_iff_iff]
 simp
theorem Di{i j:Array UInt8}:decide (V.byt i=V.byt j)=(i.toList==j.toList):=by
 rw[Bool.eq_iff_iff]
 cases i
 cases j
 simp
section
variable{X:Cx}{a b c:Expr}{ta tb tc:TE}{pos:Pos}
theorem c9{pins:List (Addr×Obj)}{σ:St}{H:Hp}{s:Shared}{Q:VK}{k k':Bool}(I:bT X pins σ H s)(q:Q (.bl k) H)(e:k=k'):EP X pins σ Q (.bool k') s:=by
 subst e
 exact⟨.bl k,H,I,rfl,q⟩
theorem MP:jh X (compareOp .Eq) Od:=by
 intro pins s σ H x y v u Q I rx ry h
 obtain⟨hs,q⟩:=h
 cases x with
 |non=>
  cases rx
  cases y with
  |non=>cases ry;exact PySem.EqNone.eq_none_none (c9 I q (by simp))
  |bl j=>cases ry;exact PySem.EqNone.eq_none_bool (c9 I q (by simp))
  |int j=>obtain⟨t',rfl⟩:=ry;exact PySem.EqNone.eq_none_int (c9 I q (by simp))
  |str j=>obtain⟨t',rfl⟩:=ry;exact PySem.EqNone.eq_none_str (c9 I q (by simp))
  |_=>exact absurd (show false=true from hs) Bool.false_ne_true
 |bl i=>
  cases rx
  cases y with
  |non=>cases ry;exact PySem.EqNone.eq_bool_none (c9 I q (by simp))
  |bl j=>cases ry;exact eq_bool (c9 I q F2)
  |str j=>obtain⟨t',rfl⟩:=ry;exact PySem.EqMixed.eq_bool_str (c9 I q (by simp))
  |_=>exact absurd (show false=true from hs) Bool.false_ne_true
 |int i=>
  obtain⟨t,rfl⟩:=rx
  cases y with
  |non=>cases ry;exact PySem.EqNone.eq_int_none (c9 I q (by simp))
  |int j=>obtain⟨t',rfl⟩:=ry;exact eq_int (c9 I q Dj)
  |str j=>obtain⟨t',rfl⟩:=ry;exact PySem.EqMixed.eq_int_str (c9 I q (by simp))
  |_=>exact absurd (show false=true from hs) Bool.false_ne_true
 |str i=>
  obtain⟨t,rfl⟩:=rx
  cases y with
  |non=>cases ry;exact PySem.EqNone.eq_str_none (c9 I q (by simp))
  |bl j=>cases ry;exact PySem.EqMixed.eq_str_bool (c9 I q (by simp))
  |int j=>obtain⟨t',rfl⟩:=ry;exact PySem.EqMixed.eq_str_int (c9 I q (by simp))
  |str j=>obtain⟨t',rfl⟩:=ry;exact eq_str (c9 I q Dk)
  |_=>exact absurd (show false=true from hs) Bool.false_ne_true
 |byt i=>
  obtain⟨t,rfl⟩:=rx
  cases y with
  |byt j=>obtain⟨t',rfl⟩:=ry;exact PySem.W.eq_bytes (c9 I q Di)
  |_=>exact absurd (show false=true from hs) Bool.false_ne_true
 |_=>cases y<;>exact absurd (show false=true from hs) Bool.false_ne_true
theorem MQ:jh X (compareOp .NotEq) Oe:=by
 intro pins s σ H x y v u Q I rx ry h
 obtain⟨hs,q⟩:=h
 cases x with
 |non=>
  cases rx
  cases y with
  |non=>cases ry;exact PySem.EqNone.ne_none_none (c9 I q (by simp))
  |bl j=>cases ry;exact PySem.EqNone.ne_none_bool (c9 I q (by simp))
  |int j=>obtain⟨t',rfl⟩:=ry;exact PySem.EqNone.ne_none_int (c9 I q (by simp))
  |str j=>obtain⟨t',rfl⟩:=ry;exact PySem.EqNone.ne_none_str (c9 I q (by simp))
  |_=>exact absurd (show false=true from hs) Bool.false_ne_true
 |bl i=>
  cases rx
  cases y with
  |non=>cases ry;exact PySem.EqNone.ne_bool_none (c9 I q (by simp))
  |bl j=>cases ry;exact ne_bool (c9 I q (congrArg not F2))
  |str j=>obtain⟨t',rfl⟩:=ry;exact PySem.EqMixed.ne_bool_str (c9 I q (by simp))
  |_=>exact absurd (show false=true from hs) Bool.false_ne_true
 |int i=>
  obtain⟨t,rfl⟩:=rx
  cases y with
  |non=>cases ry;exact PySem.EqNone.ne_int_none (c9 I q (by simp))
  |int j=>obtain⟨t',rfl⟩:=ry;exact ne_int (c9 I q (congrArg not Dj))
  |str j=>obtain⟨t',rfl⟩:=ry;exact PySem.EqMixed.ne_int_str (c9 I q (by simp))
  |_=>exact absurd (show false=true from hs) Bool.false_ne_true
 |str i=>
  obtain⟨t,rfl⟩:=rx
  cases y with
  |non=>cases ry;exact PySem.EqNone.ne_str_none (c9 I q (by simp))
  |bl j=>cases ry;exact PySem.EqMixed.ne_str_bool (c9 I q (by simp))
  |int j=>obtain⟨t',rfl⟩:=ry;exact PySem.EqMixed.ne_str_int (c9 I q (by simp))
  |str j=>obtain⟨t',rfl⟩:=ry;exact ne_str (c9 I q (congrArg not Dk))
  |_=>exact absurd (show false=true from hs) Bool.false_ne_true
 |byt i=>
  obtain⟨t,rfl⟩:=rx
  cases y with
  |byt j=>obtain⟨t',rfl⟩:=ry;exact PySem.W.ne_bytes (c9 I q (congrArg not Di))
  |_=>exact absurd (show false=true from hs) Bool.false_ne_true
 |_=>cases y<;>exact absurd (show false=true from hs) Bool.false_ne_true
theorem oU:jh X (compareOp .Lt) (HI λi j=>.bl (decide (i<j))):=MN λ_ _ _ _ _ _ _ q=>lt_int q
theorem GB:jh X (compareOp .Gt) (HI λi j=>.bl (decide (j<i))):=MN λ_ _ _ _ _ _ _ q=>gt_int q
theorem yp:jh X (compareOp .Is) (λx y H Q=>y=.non/\Q (.bl (decide (x=.non))) H):=by
 intro pins s σ H x y v u Q I rx ry h
 obtain⟨rfl,q⟩:=h
 cases ry
 refine is_none_gen (c9 I q ?_)
 cases x<;>first
  |(cases rx;rfl)
  |(obtain⟨t,rfl⟩:=rx;rfl)
theorem oW:jh X (compareOp .IsNot) (λx y H Q=>y=.non/\Q (.bl (!decide (x=.non))) H):=by
 intro pins s σ H x y v u Q I rx ry h
 obtain⟨rfl,q⟩:=h
 cases ry
 refine isnot_none_gen (c9 I q ?_)
 cases x<;>first
  |(cases rx;rfl)
  |(obtain⟨t,rfl⟩:=rx;rfl)
theorem jh.or{f:Value->Value->Sem Value}{r r':R2}(h:jh X f r)(h':jh X f r'):jh X f (λx y H Q=>r x y H Q\/r' x y H Q):=by
 intro pins s σ H x y v u Q I rx ry q
 rcases q with q|q
 ·exact h pins s σ H x y v u Q I rx ry q
 ·exact h' pins s σ H x y v u Q I rx ry q
theorem IW{op:CmpOp}{r:R2}(ho:jh X (compareOp op) r)(ha:PE X a ta)(hb:PE X b tb)(hm:behindInMarks op b=false):PE X (.Compare a [op] [b] pos) (aX r ta tb):=by
 intro pins s σ H Q I h
 exact wpAny_Compare1 (KA ha hb I h λv u s2 x y H2 I2 rx ry q=>ho pins s2 σ H2 x y v u Q I2 rx ry q) hm
def bN(t:TE):TT:=λσ H Q=>t σ H λx H'=>∃k,x=.bl k/\Q k H'
theorem Js{op:CmpOp}{r:R2}(ho:jh X (compareOp op) r)(ha:PE X a ta)(hb:PE X b tb)(hm:behindInMarks op b=false):PT X (.Compare a [op] [b] pos) (bN (aX r ta tb)):=by
 intro pins s σ H Q I h
 refine wpAny_isTrue_Compare1 (fE (ha pins s σ H _ I h) λv s1 ⟨x,H1,I1,r1,q1⟩=>fE (hb pins s1 σ H1 _ I1 q1) λu s2 ⟨y,H2,I2,r2,q2⟩=>
  fE (ho pins s2 σ H2 x y v u _ I2 r1 r2 q2) λc s3 ⟨z,H3,I3,r3,k,e,q3⟩=>?_) hm
 subst e
 cases r3
 exact wpAny_truthy_bool ⟨H3,I3,q3⟩
theorem t8:(sizeLine:Nat)<2 ^ 63:=by rw[sizeLine_eq];decide
theorem Ck:jh X (binaryOp .Add) (λx y H Q=>∃i j,x=.str i/\y=.str j/\i.length+j.length<=sizeLine/\Q (.str (i++j)) H):=by
 intro pins s σ H x y v u Q I rx ry h
 obtain⟨i,j,rfl,rfl,hz,q⟩:=h
 obtain⟨t,rfl⟩:=rx
 obtain⟨t',rfl⟩:=ry
 exact add_str (λt' tk=>⟨.str (i++j),H,I.tok _,⟨_,rfl⟩,q⟩) hz
theorem nM{x:V}{us:List Value}(r:cy [x] us):∃u,us=[u]/\c6 x u:=by
 cases r with
 |cons r1 r2=>cases r2;exact⟨_,rfl,r1⟩
theorem DU{x y:V}{us:List Value}(r:cy [x,y] us):∃u w',us=[u,w']/\c6 x u/\c6 y w':=by
 cases r with
 |cons r1 r2=>
  cases r2 with
  |cons r3 r4=>cases r4;exact⟨_,_,rfl,r1,r3⟩
theorem wc(hc:X.calm=true):jf X (.builtin "max") (λxs H Q=>∃i j,xs=[.int i,.int j]/\Q (.int (if j>i then j else i)) H):=by
 intro pins s σ H xs us Q I r h
 obtain⟨i,j,rfl,q⟩:=h
 obtain⟨u,w',rfl,⟨t,rfl⟩,⟨t',rfl⟩⟩:=DU r
 refine max_two_ints (I.ok.hd hc) λh' tk k=>⟨_,H,I.kept k,?_,q⟩
 by_cases hj:j>i
 ·rw[if_pos hj,if_pos hj];exact⟨_,rfl⟩
 ·rw[if_neg hj,if_neg hj];exact⟨_,rfl⟩
theorem Eh(hc:X.calm=true):jf X (.builtin "min") (λxs H Q=>∃i j,xs=[.int i,.int j]/\Q (.int (if j<i then j else i)) H):=by
 intro pins s σ H xs us Q I r h
 obtain⟨i,j,rfl,q⟩:=h
 obtain⟨u,w',rfl,⟨t,rfl⟩,⟨t',rfl⟩⟩:=DU r
 refine min_two_ints (I.ok.hd hc) λh' tk k=>⟨_,H,I.kept k,?_,q⟩
 by_cases hj:j<i
 ·rw[if_pos hj,if_pos hj];exact⟨_,rfl⟩
 ·rw[if_neg hj,if_neg hj];exact⟨_,rfl⟩
theorem i7:jf X (.type "int") (λxs H Q=>(∃i,xs=[.int i]/\Q (.int i) H)\/∃k,xs=[.bl k]/\Q (.int (if k then 1 else 0)) H):=by
 intro pins s σ H xs us Q I r h
 rcases h with⟨i,rfl,q⟩|⟨k,rfl,q⟩
 ·obtain⟨u,rfl,t,rfl⟩:=nM r
  exact call_int_int ⟨.int i,H,I,⟨_,rfl⟩,q⟩
 ·obtain⟨u,rfl,r1⟩:=nM r
  cases r1
  exact call_int_bool ⟨.int (if k then 1 else 0),H,I.tok _,⟨_,rfl⟩,q⟩
def Mq(K:Fg)(x:V)(H:Hp)(n:Nat):Prop:=
 match x with
 |.str y=>y.length<=sizeLine/\n=y.length
 |.byt y=>y.size<=sizeLine/\n=y.size
 |.ref p=>(∃xs,bY K H p xs/\n=xs.length)\/∃xs,b4 K H p xs/\n=xs.length
 |_=>False
theorem FU:jf X (.builtin "len") (λxs H Q=>∃x n,xs=[x]/\Mq X.K x H n/\Q (.int n) H):=by
 intro pins s σ H xs us Q I r h
 obtain⟨x,n,rfl,e,q⟩:=h
 obtain⟨u,rfl,rx⟩:=nM r
 have hl:=t8
 have hs:sizeLine=16777216:=sizeLine_eq
 cases x with
 |str y=>
  obtain⟨t,rfl⟩:=rx
  obtain⟨hy,e'⟩:y.length<=sizeLine/\n=y.length:=e
  subst e'
  exact len_str (by lia) ⟨.int _,H,I.tok _,⟨_,rfl⟩,q⟩
 |byt y=>
  obtain⟨t,rfl⟩:=rx
  obtain⟨hy,e'⟩:y.size<=sizeLine/\n=y.size:=e
  subst e'
  exact PySem.W.len_bytes (by lia) ⟨.int _,H,I.tok _,⟨_,rfl⟩,q⟩
 |ref p=>
  cases rx
  have e':(∃xs,bY X.K H p xs/\n=xs.length)\/∃xs,b4 X.K H p xs/\n=xs.length:=e
  rcases e' with⟨xs,hx,e'⟩|⟨xs,hx,e'⟩
  ·subst e'
   obtain⟨its,r',pl,hz⟩:=I.list hx
   have hlen:=r'.length
   exact Calls.call_len_list pl.isList (by simp only[aA];lia) ⟨.int xs.length,H,I.tok _,⟨_,by simp only[aA];rw[hlen]⟩,q⟩
  ·subst e'
   obtain⟨its,r',pl,hz⟩:=I.tuple hx
   have hlen:=r'.length
   exact len_tuple pl (by simp only[aA];lia) ⟨.int xs.length,H,I.tok _,⟨_,by simp only[aA];rw[hlen]⟩,q⟩
 |_=>exact(show False from e).elim
end
section
variable{prog:Program}{w:World}{A:Around}{E:Value->Shared->Prop}{s:Shared}{K:Fg}{x dx C f:Addr}{mA:Str->Option Value}{name:Str}{v:Value}
end
section
variable{P:Program}{w:World}{H H':Hp}{h h':Heap}{a C dx:Addr}{fs fs':List (Str×V)}
end
section
variable{X:Cx}{pins:List (Addr×Obj)}{σ:St}{H:Hp}{s:Shared}{a C dx:Addr}{fs:List (Str×V)}{f:Str}{v:V}{A:Around}{E:Value->Shared->Prop}
end
section
variable{X:Cx}{o e value:Expr}{f:Str}{pos pos' tpos:Pos}{ta tv:TE}
end
section
variable{X:Cx}{pins:List (Addr×Obj)}{σ:St}{H:Hp}{s:Shared}{A:Around}{E:Value->Shared->Prop}{Q:Value->Shared->Prop}{c:Value}{b:Bool}
end
structure gU(k:Nat)(A:Around):Prop where
 hd:A.handled=none
 dp:A.depth+3*k+5<recursionLimit
 un:A.units+16*k+200<cLine
theorem gU.mono{j k:Nat}{A:Around}(r:gU k A)(h:j<=k):gU j A:=⟨r.hd,by have:=r.dp;lia,by have:=r.un;lia⟩
theorem gU.deeper{k:Nat}{A:Around}(r:gU (k+1) A)(env:Env):gU k (A.deeper env):=
 ⟨r.hd,by have:=r.dp;show A.depth+1+3*k+5<_;lia,by have:=r.un;show A.units+3+16*k+200<_;lia⟩
theorem gU.depth{k:Nat}{A:Around}(r:gU k A):A.depth<recursionLimit:=by have:=r.dp;lia
theorem gU.units{k:Nat}{A:Around}(r:gU k A):A.units+64<cLine:=by have:=r.un;lia
theorem gU.units0{k:Nat}{A:Around}(r:gU k A):A.units<cLine:=by have:=r.un;lia
def aE:TA:=λ_ H Q=>Q [] H
def ah(ta:TE)(tr:TA):TA:=λσ H Q=>ta σ H λx H1=>tr σ H1 λxs H2=>Q (x::xs) H2
section
variable{X:Cx}{e:Expr}{es:List Expr}{te:TE}{t:TA}{pos:Pos}
theorem Lp:PA X [] aE:=λ_ _ _ _ H Q I h=>Calls.spliced_nil ⟨[],H,I,.nil,h⟩
theorem IU(ha:PE X e te)(hr:PA X es t)(hs:starEach (e::es) X.env=(false,eval e X.env)::starEach es X.env:=by rfl):PA X (e::es) (ah te t):=by
 intro pos pins s σ H Q I h
 rw[hs]
 show wpAny _ _ (spliced ((false,eval e X.env)::backTo pos (starEach es X.env))) _ _ s
 refine Calls.spliced_cons (fE (ha pins s σ H _ I h) λu s1 ⟨x,H1,I1,r1,q1⟩=>?_)
 exact fE (hr pos pins s1 σ H1 _ I1 q1) λus s2 ⟨xs,H2,I2,r2,q2⟩=>⟨x::xs,H2,I2,.cons r1 r2,q2⟩
def b7(t:TA):TE:=λσ H Q=>t σ H λxs H1=>xs.length<=sizeLine/\∀p,H1 p=none->Q (.ref p) (upd H1 p (.tup xs))
def ki(t:TA):TE:=λσ H Q=>t σ H λxs H1=>xs.length<=sizeLine/\∀p,H1 p=none->Q (.ref p) (upd H1 p (.lst xs))
theorem Lz{x1}(h:PA X es t):PE X (.Tuple es x1 pos) (b7 t):=by
 intro pins s σ H Q I hq
 refine wpAny_Tuple_spliced (fE (h pos pins s σ H _ I hq) λus s1 ⟨xs,H1,I1,r,z,q⟩=>⟨by rw[<-r.length];exact z,?_⟩)
 have hf:H1 s1.heap.objs.size=none:=I1.hok.fresh (ay _)
 refine⟨.ref s1.heap.objs.size,upd H1 s1.heap.objs.size (.tup xs),I1.laid (t':=s1.toks) (λb u e=>av _ e) (ay _) ?_,rfl,q _ hf⟩
 exact⟨z,us,r,⟨_,aM _ rfl,⟨rfl,rfl⟩,_,rfl⟩⟩
theorem Lv(h:PA X es t):PE X (.List es pos) (ki t):=by
 intro pins s σ H Q I hq
 refine wpAny_List_spliced (fE (h pos pins s σ H _ I hq) λus s1 ⟨xs,H1,I1,r,z,q⟩=>⟨by rw[<-r.length];exact z,?_⟩)
 have hf:H1 s1.heap.objs.size=none:=I1.hok.fresh (ay _)
 refine⟨.ref s1.heap.objs.size,upd H1 s1.heap.objs.size (.lst xs),I1.laid (t':=s1.toks) (λb u e=>av _ e) (ay _) ?_,rfl,q _ hf⟩
 exact⟨z,us,0,r,aM _ rfl⟩
end
abbrev Sp:=List V->Hp->VK->XK->Prop
abbrev Fw:=List Env->Hp->Shared->XK->Value->Shared->Prop
structure HM(P:Program)(w:World)(K:Fg)(mg:Str->Option Value)(base:Heap)(A:Around)(outer:List Env)(s:Shared)(H:Hp):Prop where
 frames:A.frames=some outer
 mod:Mod K mg base
 bs:∀b o,base.get? b=some o->s.heap.get? b=some o/\H b=none
 bsz:base.objs.size<=s.heap.objs.size
 funs:s.heap.FunFrames base outer
 frf:∀b∈Gc outer,H b=none
 hok:oE P w H s.heap
 bare:AllBare s.gens
def CE(outer:List Env)(P:Program)(w:World)(H:Hp)(s:Shared)(Q:VK)(u:Value)(s':Shared):Prop:=
 ∃v H',s'.os=s.os/\AllBare s'.gens/\Un (Gc outer) [] H H' s.heap s'.heap/\oE P w H' s'.heap/\c6 v u/\Q v H'
def CR(CX:Fw)(outer:List Env)(P:Program)(w:World)(H:Hp)(s:Shared)(Q:VK)(E:XK)(r:Result)(s':Shared):Prop:=
 match r with
 |.ok (.ret u)=>CE outer P w H s Q u s'
 |.ok _=>False
 |.error e=>CX outer H s E e s'
structure pY(P:Program)(w:World)(K:Fg)(mg:Str->Option Value)(base:Heap)(CX:Fw)(k:Nat)(f:Addr)(fd:FuncData)(ps:List Str)(sp:Sp):Prop where
 len:∀vs H Q E,sp vs H Q E->vs.length=ps.length
 run:∀(A:Around) (outer:List Env) (s:Shared) (H:Hp) (args:Args) (us:List Value) (vs:List V) (Q:VK) (E:XK),gU k A->HM P w K mg base A outer s H->BindsTo s fd args (ps.zip us)->cy vs us->sp vs H Q E->
  codeAny (model P w) A (.call (.ref f) args) (CR CX outer P w H s Q E) s
section
variable{X:Cx}{pins:List (Addr×Obj)}{σ:St}{H:Hp}{s s':Shared}
theorem bT.env0(I:bT X pins σ H s):HM X.prog X.w X.K X.mg X.base X.A X.stack s H:=
 ⟨I.ok.frames,I.ok.mod,I.bs,bS I.ok.bsz I.sz,I.stack,I.stkFree,I.hok,I.bare⟩
theorem bT.after{Q:VK}{u:Value}(I:bT X pins σ H s)(h:CE X.stack X.prog X.w H s Q u s'):EP X pins σ Q u s':=by
 obtain⟨v,H',os,bare,un,hok,r,q⟩:=h
 obtain⟨hh,g,d,t,os'⟩:=s'
 obtain rfl:os'=s.os:=os
 exact⟨v,H',I.call (h':=hh) (g':=g) (d':=d) (t':=t) (ch:=[]) un hok bare (λb z=>absurd z (by simp)),r,q⟩
end
def a7(sp:Sp)(dvs:List V)(E:XK)(t:TA):TE:=λσ H Q=>t σ H λvs H1=>sp (vs++dvs) H1 Q E
def qO(K:Fg)(fd:FuncData)(ps:List Str)(ds:List Value):Prop:=
 ∀(s:Shared) (us:List Value),K.In s.heap->(us++ds).length=ps.length->BindsTo s fd ⟨us,[]⟩ (ps.zip (us++ds))
theorem qO.all{K:Fg}{fd:FuncData}{ps:List Str}(h:∀us:List Value,us.length=ps.length->bindArgs fd ⟨us,[]⟩=pure (ps.zip us)):qO K fd ps []:=λs us _ hl=>by
 rw[bU] at hl ⊢
 exact .of_eq (h us hl)
def By(CX:Fw)(X:Cx)(E:XK):Prop:=∀(pins:List (Addr×Obj)) (σ:St) (H:Hp) (s:Shared) (e:Value) (s':Shared),bT X pins σ H s->CX X.stack H s E e s'->X.xe e s'
section
variable{X:Cx}{CX:Fw}{k:Nat}{f C:Addr}{fd:FuncData}{ps:List Str}{sp:Sp}{dvs:List V}{ds:List Value}{E:XK}{x m:Str}{p pos apos:Pos}{e o:Expr}{es:List Expr}{ta:TE}{t:TA}
theorem L3{pins:List (Addr×Obj)}{σ:St}{H:Hp}{s:Shared}{Q:VK}{us:List Value}{vs:List V}(F:pY X.prog X.w X.K X.mg X.base CX k f fd ps sp)(hr:gU k X.A)(hb:qO X.K fd ps ds)(hd:cy dvs ds)(hx:By CX X E)
  (I:bT X pins σ H s) (r:cy vs us) (h:sp (vs++dvs) H Q E):wpAny (model X.prog X.w) X.A (call (.ref f) us) (EP X pins σ Q) X.xe s:=by
 have r2:cy (vs++dvs) (us++ds):=r.append hd
 have hl:(us++ds).length=ps.length:=by rw[<-r2.length];exact F.len _ _ _ _ h
 refine wpAny_call (codeAny_mono (F.run X.A X.stack s H ⟨us,[]⟩ (us++ds) (vs++dvs) Q E hr I.env0 (hb s us I.kIn hl) r2 h) λr s' hq=>?_)
 cases r with
 |error e=>exact hx pins σ H s e s' I hq
 |ok fl=>
  cases fl with
  |ret u=>exact I.after hq
  |next=>exact False.elim hq
  |brk=>exact False.elim hq
  |cont=>exact False.elim hq
theorem Dx(F:pY X.prog X.w X.K X.mg X.base CX k f fd ps sp)(hr:gU k X.A)(hg:Gl X x)(hm:X.mg x=some (.ref f))(hk:dy X.K (.ref f)=true)(hb:qO X.K fd ps ds)(hd:cy dvs ds)(hx:By CX X E)
  (ha:PA X (e::es) t) (hdb:(x==("__debug__":Str))=false:=by decide) (he:starEach (e::es) X.env=(false,eval e X.env)::starEach es X.env:=by rfl) (hpl:(backTo pos (starEach es X.env)).any (·.1)=false:=by rfl) :
  PE X (.Call (.Name x p) (e::es) [] pos) (a7 sp dvs E t):=by
 intro pins s σ H Q I h
 refine wpAny_Call_Name_kw (IJ I hg hm ?_ hdb)
 refine PySem.W.callWith_K (h₀:=X.base) I.ok.mod.kin hk (fE (ha pos pins s σ H _ I h) λus s1 ⟨vs,H1,I1,r,q⟩=>⟨I1.kIn,?_⟩) he hpl
 exact L3 F hr hb hd hx I1 r q
end
section
variable{X:Cx}{CX:Fw}{k:Nat}{f C:Addr}{fd:FuncData}{ps ks:List Str}{sp:Sp}{E:XK}{x m:Str}{p pos apos kpos:Pos}{e o:Expr}{es:List Expr}{kws:List Keyword}{te ta:TE}{t tk:TA}{nm:Option Str}
variable{g:List Value->List Value->List Value}{gV:List V->List V->List V}
end
structure mD(N P:List Str)(sc:Scope):Prop where
 kind:sc.kind=.function
 co:sc.isCoroutine=false
 gen:sc.isGenerator=false
 nd:N.Nodup
 pre:N.take P.length=P
 par:∀x∈P,sc.names.lookup x=some .local\/sc.names.lookup x=some .cell
 nofree:∀y∈sc.names,y.2≠.free
theorem wb{kindOf:Str->Option NameKind}{x:Str}:∀{binds:List (Str×Value)} {m:Str->Option Value},(∀v,(x,v)∉binds)->bindL kindOf binds m x=m x
 |[],_,_=>rfl
 |(n,v)::r,m,h=>by
  unfold bindL
  rw[wb λw hw=>h w (bF _ hw)]
  split
  ·have:x≠n:=by rintro rfl;exact h v bw
   simp[this]
  ·rfl
theorem v9{kindOf:Str->Option NameKind}{x:Str}:∀{binds:List (Str×Value)} {m:Str->Option Value},(∀v,(x,v)∉binds)->bindC kindOf binds m x=m x
 |[],_,_=>rfl
 |(n,v)::r,m,h=>by
  unfold bindC
  rw[v9 λw hw=>h w (bF _ hw)]
  split
  ·rfl
  ·have:x≠n:=by rintro rfl;exact h v bw
   simp[this]
theorem wa{kindOf:Str->Option NameKind}{x:Str}{v:Value}:∀{P:List Str} {vs:List Value} {i:Nat} {m:Str->Option Value},P.Nodup->P[i]?=some x->vs[i]?=some v->kindOf x=some .local->
  bindL kindOf (P.zip vs) m x=some v
 |[],_,_,_,_,h,_,_=>by simp at h
 |_::_,[],_,_,_,_,h,_=>by simp at h
 |p::P,w::vs,0,m,nd,h1,h2,hk=>by
  simp at h1 h2;subst h1;subst h2
  show bindL kindOf ((p,w)::P.zip vs) m p=_
  unfold bindL
  rw[wb λv hv=>(dX.mp nd).1 (lh hv).1,if_pos hk]
  simp
 |p::P,w::vs,i+1,m,nd,h1,h2,hk=>by
  show bindL kindOf ((p,w)::P.zip vs) m x=_
  unfold bindL
  exact wa (i:=i) (dX.mp nd).2 (by simpa using h1) (by simpa using h2) hk
theorem v8{kindOf:Str->Option NameKind}{x:Str}{v:Value}:∀{P:List Str} {vs:List Value} {i:Nat} {m:Str->Option Value},P.Nodup->P[i]?=some x->vs[i]?=some v->kindOf x≠some .local->
  bindC kindOf (P.zip vs) m x=some v
 |[],_,_,_,_,h,_,_=>by simp at h
 |_::_,[],_,_,_,_,h,_=>by simp at h
 |p::P,w::vs,0,m,nd,h1,h2,hk=>by
  simp at h1 h2;subst h1;subst h2
  show bindC kindOf ((p,w)::P.zip vs) m p=_
  unfold bindC
  rw[v9 λv hv=>(dX.mp nd).1 (lh hv).1,if_neg hk]
  simp
 |p::P,w::vs,i+1,m,nd,h1,h2,hk=>by
  show bindC kindOf ((p,w)::P.zip vs) m x=_
  unfold bindC
  exact v8 (i:=i) (dX.mp nd).2 (by simpa using h1) (by simpa using h2) hk
def cC(N:List Str)(vs:List V):St:=vs.map some++ax (N.length-vs.length) none
def xX(CX:Fw)(P:Program)(w:World)(K:Fg)(mg:Str->Option Value)(base:Heap)(N:List Str)(qual:Str)(scope:Scope)(f:Addr)(cd:Value)(A:Around)(outer:List Env)(s:Shared)(H:Hp)(E:XK):Cx where
 prog:=P
 w:=w
 K:=K
 mg:=mg
 base:=base
 A:=A.deeper (envOfC qual scope s.heap.objs.size f cd)
 N:=N
 s₀:=s
 H₀:=H
 env:=envOfC qual scope s.heap.objs.size f cd
 outer:=outer
 stack:=envOfC qual scope s.heap.objs.size f cd::outer
 ex:=[]
 calm:=true
 fn:=λ_=>true
 pn:=[]
 xe:=λe s'=>wpAny (model P w) (A.deeper (envOfC qual scope s.heap.objs.size f cd)) (leaving (envOfC qual scope s.heap.objs.size f cd) e) (λ_ s''=>CX outer H s E e s'') (λe' s''=>CX outer H s E e' s'') s'
theorem zH{sc:Scope}{n:Nat}{x:Str}(h:sc.names.lookup x=some .cell):∃c,(cellsFrom n sc.names []).lookup x=some c:=by
 have q:=PySem.W.cellsFrom_some sc.names n [] (.inl h)
 exact eZ.mp q
theorem EB{CX:Fw}{P:Program}{w:World}{K:Fg}{mg:Str->Option Value}{base:Heap}{N ps:List Str}{qual:Str}{scope:Scope}{f:Addr}{cd:Value}{A:Around}{outer:List Env}{s s1:Shared}{H:Hp}{E:XK}{us:List Value}{vs:List V}
  (S:mD N ps scope) (hd:A.handled=none) (e0:HM P w K mg base A outer s H) (hl:vs.length=ps.length) (r:cy vs us)
  (x:InCallC s s.heap.objs.size (bindL (envOfC qual scope s.heap.objs.size f cd).kindOf (ps.zip us) λ_=>none) (cellsFrom (s.heap.objs.size+1) scope.names []) (bindC (envOfC qual scope s.heap.objs.size f cd).kindOf (ps.zip us) λ_=>none) s1) :
  bT (xX CX P w K mg base N qual scope f cd A outer s H E) [] (cC N vs) H s1:=by
 have hpl:ps.length<=N.length:=by have:=congrArg ef S.pre;rw[aL] at this;lia
 obtain⟨h1,tk,rfl,hk⟩:=x.done
 have noA:∀b:Addr,b∉(xX CX P w K mg base N qual scope f cd A outer s H E).ex:=λb z=>absurd (show b∈([]:List Addr) from z) (by simp)
 refine⟨⟨e0.mod,S.kind,rfl,rfl,ay _,λy z c h1 h2=>?_,λy hy=>?_,λy c _ h=>?_,λ_=>hd,Around.frames_deeper e0.frames,.inr ⟨rfl,rfl⟩,λb z=>absurd z (noA b),e0.bs,e0.bsz,λb _ _=>noA b,λb z=>absurd z (noA b),e0.funs,e0.frf⟩,
  rfl,e0.bare,Un.kept hk,⟨_,x.toInCall.ns,λi y v h1 h2 h3=>?_⟩,λy c h=>⟨_,x.cell y c h⟩,e0.hok.fresh (ay _),λy c h=>?_,λp hp=>absurd (show p∈([]:List (Addr×Obj)) from hp) (by simp),e0.hok.kept hk,?_⟩
 ·exact name_of_addr x.apart (cQ h1) (cQ h2)
 ·have hy:scope.names.lookup y=some .cell\/scope.names.lookup y=some .free:=hy
  rcases hy with hy|hy
  ·exact zH hy
  ·exact absurd rfl (S.nofree _ (cQ hy))
 ·exact dg (x.above y c (cQ h))
 ·have hi:i<vs.length:=by
   unfold cC at h2
   by_cases hi:i<vs.length
   ·exact hi
   ·rw[aI (by simpa using hi)] at h2
    rw[List.getElem?_replicate] at h2
    split at h2<;>cases h2
  have ha:vs[i]?=some v:=by
   unfold cC at h2
   rw[aS (by simpa using hi),aG] at h2
   cases e:vs[i]? with
   |none=>rw[e] at h2;cases h2
   |some a=>rw[e] at h2;cases h2;rfl
  obtain⟨u,hu,rv⟩:=r.get ha
  have hp:ps[i]?=some y:=by
   rw[<-S.pre,List.getElem?_take_of_lt (by lia)];exact h1
  have ndP:ps.Nodup:=by rw[<-S.pre];exact S.nd.sublist (jF _ _)
  refine⟨u,rv,?_⟩
  rcases S.par y (aD hp) with k|k
  ·exact .inl ⟨k,wa ndP hp hu k⟩
  ·obtain⟨c,e⟩:=zH (n:=s.heap.objs.size+1) k
   refine .inr ⟨.inl k,c,e,?_⟩
   have q:=x.cell y c e
   rw[v8 ndP hp hu (by show scope.names.lookup y≠_;rw[k];decide)] at q
   exact q
 ·exact e0.hok.fresh (dg (x.above y c (cQ h)))
 ·unfold cC
  show _=N.length
  rw[aq,aa,aU]
  lia
theorem J8{CX:Fw}{P:Program}{w:World}{K:Fg}{mg:Str->Option Value}{base:Heap}{k:Nat}{f:Addr}{name qual:Str}{params:Arguments}{body:List Stmt}{scope:Scope}{dV kV doc pm cdv ct oc:Value}{an od:Option Addr}
  {osl:Array (Option Value)} {N ps:List Str} {sp:Sp} (lk:K.lookup f=some ⟨oc,od,.func (cW name qual params body scope dV kV doc pm an cdv ct),osl⟩) (hcd:eD K cdv qual=true) (S:mD N ps scope)
  (len:∀vs H Q E,sp vs H Q E->vs.length=ps.length)
  (hbody:∀(A:Around) (outer:List Env) (s:Shared) (H:Hp) (vs:List V) (Q:VK) (E:XK),gU k (A.deeper (envOfC qual scope s.heap.objs.size f cdv))->sp vs H Q E->
   ∃t,Bf (xX CX P w K mg base N qual scope f cdv A outer s H E) body t/\t {nx:=λ_ H'=>Q .non H',rt:=Q} (cC N vs) H) :
  pY P w K mg base CX (k+1) f (cW name qual params body scope dV kV doc pm an cdv ct) ps sp:=by
 refine⟨len,λA outer s H args us vs Q E hr e0 hb r hsp=>?_⟩
 have hl:=len _ _ _ _ hsp
 have KX:K.In s.heap:=e0.mod.kin.keeps λb o e=>(e0.bs b o e).1
 have lim:s.heap.NoLimit:=e0.mod.nolimit.keeps λb o e=>(e0.bs b o e).1
 have hkind:∀y∈ps.zip us,scope.names.lookup y.1=some .local\/(scope.names.lookup y.1=some .cell/\((cellsFrom (s.heap.objs.size+1) scope.names []).lookup y.1).isSome=true):=λ⟨n,v⟩ hy=>by
  rcases S.par n (lh hy).1 with q|q
  ·exact .inl q
  ·exact .inr ⟨q,PySem.W.cellsFrom_some _ _ _ (.inl q)⟩
 refine codeAny_call_function hr.depth (KX _ _ lk) rfl S.co S.gen rfl (PySem.W.codeRec_of KX hcd) (hb _ _ _ _ ?_)
 refine wpAny_newFunctionEnv_cells S.kind hkind λenv he s1 x=>?_
 subst he
 refine⟨lim.keeps x.toInCall.keep,codeAny_func ?_⟩
 obtain⟨t,ht,hq⟩:=hbody A outer s H vs Q E (hr.deeper _) hsp
 have I:bT (xX CX P w K mg base N qual scope f cdv A outer s H E) [] (cC N vs) H s1:=EB S hr.hd e0 hl r x
 refine wpAny_mono (ht [] s1 (cC N vs) H _ I hq) (λfl s' hs=>?_) λe s' hs=>hs
 have fin:∀{σ':St} {H':Hp} {v:V} {u:Value},bT (xX CX P w K mg base N qual scope f cdv A outer s H E) [] σ' H' s'->c6 v u->Q v H'->CE outer P w H s Q u s':=
  λ{σ' H' v u} J rv q=>⟨v,H',J.os,J.bare,J.base,J.hok,rv,q⟩
 cases fl with
 |ret u=>
  obtain⟨v,σ',H',J,rv,q⟩:=hs
  exact fin J rv q
 |next=>
  obtain⟨σ',H',J,q⟩:=hs
  exact fin (v:=V.non) (u:=Value.none) J rfl q
 |brk=>
  obtain⟨_,_,_,q⟩:=hs
  exact False.elim q
 |cont=>
  obtain⟨_,_,_,q⟩:=hs
  exact False.elim q
section
variable{X:Cx}{x:Str}{p pos:Pos}{e:Expr}{es:List Expr}{t:TA}{id T:String}{r:List V->Hp->VK->Prop}
def e8(r:List V->Hp->VK->Prop)(t:TA):TE:=λσ H Q=>t σ H λvs H1=>r vs H1 Q
theorem GD(hc:jf X (.builtin id) r)(hg:Gl X x)(hm:X.mg x=none)(hv:bootBuiltins x=some (.builtin id))(ha:PA X (e::es) t)(hn:x≠"__name__":=by decide)(hdb:(x==("__debug__":Str))=false:=by decide)
  (he:starEach (e::es) X.env=(false,eval e X.env)::starEach es X.env:=by rfl) (hpl:(backTo pos (starEach es X.env)).any (·.1)=false:=by rfl):PE X (.Call (.Name x p) (e::es) [] pos) (e8 r t):=by
 intro pins s σ H Q I h
 refine wpAny_Call_Name_kw (jo I hg hm hv ?_ hn hdb)
 exact PyProof.Rows.callWith_builtin1 (fE (ha pos pins s σ H _ I h) λus s1 ⟨vs,H1,I1,r1,q1⟩=>hc pins s1 σ H1 vs us Q I1 r1 q1) he hpl
theorem EU(hc:jf X (.type T) r)(hg:Gl X x)(hm:X.mg x=none)(hv:bootBuiltins x=some (.type T))(ha:PA X (e::es) t)(hn:x≠"__name__":=by decide)(hdb:(x==("__debug__":Str))=false:=by decide)
  (he:starEach (e::es) X.env=(false,eval e X.env)::starEach es X.env:=by rfl) (hpl:(backTo pos (starEach es X.env)).any (·.1)=false:=by rfl):PE X (.Call (.Name x p) (e::es) [] pos) (e8 r t):=by
 intro pins s σ H Q I h
 refine wpAny_Call_Name_kw (jo I hg hm hv ?_ hn hdb)
 exact bL (fE (ha pos pins s σ H _ I h) λus s1 ⟨vs,H1,I1,r1,q1⟩=>hc pins s1 σ H1 vs us Q I1 r1 q1) he hpl
end
end L2
namespace HT
open PySem PyProof.Rows
section
open PySem.SeqAt
open PySem.AutoSeq1 (wpAny_loadPart')
open PySem.MeetsSeq PySem.MeetsSeq2 PySem.MeetsSeq3
end
section
variable{prog:Program}{w:World}{A:Around}{E:Value->Shared->Prop}{s:Shared}
theorem cat_tup{t b:Addr}{vs ws:List Value}{Q:Value->Shared->Prop}(ht:IsTup s.heap t vs.toArray)(hb:IsTup s.heap b ws.toArray)(hv:vs≠[])
  (h1:ws=[]->Q (.ref t) s) (h2:ws≠[]->Q (.ref s.heap.objs.size) {s with heap:=s.heap.push {cls:=.type "tuple",data:=.seq (vs++ws).toArray}})
  (hsz:vs.length+ws.length<=sizeLine):wpAny (model prog w) A (binaryOp .Add (.ref t) (.ref b)) Q E s:=by
 obtain⟨⟨cls,dd,data,sl⟩,ho,hc,n,hd⟩:=id ht
 obtain⟨⟨cls2,dd2,data2,sl2⟩,ho2,hc2,n2,hd2⟩:=id hb
 simp only at hc hd hc2 hd2
 subst hc hd hc2 hd2
 have e:vs.toArray++ws.toArray=(vs++ws).toArray:=by simp
 by_cases hw:ws=[]
 ·exact concat_meets ⟨_,ho,rfl⟩ ⟨_,ho2,rfl⟩ noFill_tuple_add seq_tuple_add gR gG (gq _ _)
   (tuple_addW1 t b vs.toArray ws.toArray n n2 dd dd2 sl sl2 (by simpa using hv) (by simp[hw])) ⟨ho,ho2,h1 hw⟩
 ·refine concat_meets ⟨_,ho,rfl⟩ ⟨_,ho2,rfl⟩ noFill_tuple_add seq_tuple_add gR gG (gq _ _)
   (tuple_addW2 t b vs.toArray ws.toArray n n2 dd dd2 sl sl2 (by simpa using hv) (by simpa using hw) (by rw[aA,aA];exact hsz)) ⟨ho,ho2,?_⟩
  rw[e]
  exact h2 hw
def sIx(n d:Nat):Option Int->Nat
 |none=>d
 |some v=>if v<0 then(v+(n:Int)).toNat else min v.toNat n
theorem sIx_none(n d:Nat):sIx n d none=d:=rfl
theorem sIx_nat(n d k:Nat):sIx n d (some (k:Int))=min k n:=by
 show(if(k:Int)<0 then((k:Int)+(n:Int)).toNat else min (k:Int).toNat n)=min k n
 rw[if_neg (by lia),aB]
theorem L4(n d:Nat)(hd:d<=n)(o:Option Int):sIx n d o<=n:=by
 cases o with
 |none=>exact hd
 |some v=>
  show(if v<0 then(v+(n:Int)).toNat else min v.toNat n)<=n
  by_cases hv:v<0
  ·rw[if_pos hv];lia
  ·rw[if_neg hv];exact Nat.min_le_right _ _
theorem Dg(v:Int)(n d:Nat):(if v<0 then max (v+(n:Int)) 0 else min v (n:Int))=((sIx n d (some v):Nat):Int):=by
 show(if v<0 then max (v+(n:Int)) 0 else min v (n:Int))=(((if v<0 then(v+(n:Int)).toNat else min v.toNat n):Nat):Int)
 by_cases hv:v<0
 ·simp only[if_pos hv];lia
 ·simp only[if_neg hv];lia
theorem BD(lo hi:Option Int)(n:Nat):Builtin.Slice.sliceAdjust lo hi 1 (n:Int)=(((sIx n 0 lo:Nat):Int),((sIx n n hi:Nat):Int)):=by
 have h1:¬((1:Int)<0):=by lia
 unfold Builtin.Slice.sliceAdjust
 simp only[h1,if_false]
 refine Prod.ext ?_ ?_
 ·cases lo with
  |none=>rfl
  |some v=>exact Dg v n 0
 ·cases hi with
  |none=>rfl
  |some v=>exact Dg v n n
theorem Cp(i j:Nat):Builtin.Slice.slicePlaces (i:Int) (j:Int) 1=j-i:=by
 unfold Builtin.Slice.slicePlaces
 have h1:(1:Int)>0:=by lia
 simp only[h1,if_true,Int.ediv_one]
 split<;>lia
theorem ux{v:Value}{o:Option Int}{Q:Option Int->Shared->Prop}(p:IsPart v o)(h:Q o s):wpAny (model prog w) A (Builtin.Slice.slicePartIndex v) Q E s:=by
 cases p with
 |none=>exact slicePart_none h
 |int i t=>exact slicePart_int h
theorem kh{sl:Addr}{vl vu:Value}{lo hi:Option Int}{n:Nat}{Q:Int×Int×Nat->Shared->Prop}(hs:s.heap.IsSliceOf sl vl vu .none)(pl:IsPart vl lo)(pu:IsPart vu hi)
  (h:Q (((sIx n 0 lo:Nat):Int),1,sIx n n hi-sIx n 0 lo) s):wpAny (model prog w) A (Builtin.Slice.sliceApplied (.ref sl) (pure (n:Int))) Q E s:=by
 obtain⟨os,hos,hcs,hds⟩:=id hs
 unfold Builtin.Slice.sliceApplied Builtin.Slice.sliceFields
 refine wpAny_bind (wpAny_bind (wpAny_field hos hds (x:=vl) rfl (wpAny_bind (wpAny_field hos hds (x:=vu) rfl (wpAny_bind (wpAny_field hos hds (x:=.none) rfl (wpAny_pure ?_)))))))
 refine wpAny_bind (slicePart_none ?_)
 show wpAny _ _ (if((1:Int)==0)=true then _ else _) _ _ s
 rw[if_neg (by decide)]
 refine wpAny_bind (ux pl (wpAny_bind (ux pu (wpAny_bind (wpAny_pure ?_)))))
 show wpAny _ _ (match Builtin.Slice.sliceAdjust lo hi 1 (n:Int) with|(lo,hi)=>pure (lo,(1:Int),Builtin.Slice.slicePlaces lo hi 1)) _ _ s
 rw[BD lo hi n]
 show wpAny _ _ (pure (((sIx n 0 lo:Nat):Int),(1:Int),Builtin.Slice.slicePlaces ((sIx n 0 lo:Nat):Int) ((sIx n n hi:Nat):Int) 1)) _ _ s
 rw[Cp]
 exact wpAny_pure h
theorem GJ(xs:Array Value)(i k:Nat):((fX k).filterMap λ(m:Nat)=>xs[((i:Int)+(m:Int)*1).toNat]?).toArray=((xs.toList.drop i).take k).toArray:=by
 have e:(λ(m:Nat)=>xs[((i:Int)+(m:Int)*1).toNat]?)=λm=>xs[i+m]?:=by
  funext m
  have:((i:Int)+(m:Int)*1).toNat=i+m:=by lia
  rw[this]
 rw[e]
 have:=pick_run xs i k
 rw[List.filterMap_map] at this
 have e2:((λx=>xs[x]?) ∘ λx=>i+x)=λm=>xs[i+m]?:=rfl
 rw[e2] at this
 rw[this]
theorem getItem_tuple_cut{t sl:Addr}{items:Array Value}{vl vu:Value}{lo hi:Option Int}{Q:Value->Shared->Prop}(ht:IsTup s.heap t items)(hs:s.heap.IsSliceOf sl vl vu .none)(pl:IsPart vl lo)(pu:IsPart vu hi)
  (hw:¬(sIx items.size 0 lo=0/\sIx items.size items.size hi=items.size))
  (h:Q (.ref s.heap.objs.size) {s with heap:=s.heap.push {cls:=.type "tuple",data:=.seq ((items.toList.drop (sIx items.size 0 lo)).take (sIx items.size items.size hi-sIx items.size 0 lo)).toArray}})
  (hsz:items.size<=sizeLine):wpAny (model prog w) A (getItem (.ref t) (.ref sl)) Q E s:=by
 have htake:sizeOk (.seq ((items.toList.drop (sIx items.size 0 lo)).take (sIx items.size items.size hi-sIx items.size 0 lo)).toArray):=by
  show((items.toList.drop (sIx items.size 0 lo)).take (sIx items.size items.size hi-sIx items.size 0 lo)).toArray.size<=sizeLine
  rw[aA,aL,cV,dY]
  lia
 have hj:sIx items.size items.size hi<=items.size:=L4 _ _ (ay _) hi
 obtain⟨os,hos,hcs,hds⟩:=id hs
 have hTs:s.TypeIs (.ref sl) "slice":=⟨os,hos,hcs⟩
 unfold getItem
 try with_reducible refine wpAny_holding ?_
 first|refine wpAny_bind (wpAny_pure ?_)|skip
 refine wpAny_bind (wpAny_sequenceKey ht.typeIs (by decide) ?_)
 refine wpAny_bind (wpAny_callSpecial?_slot (name:=Str.ofString "__getitem__") ht.typeIs dF
  (wpAny_call_entry dF ht.typeIs entry_tuple_getitem ?_ (args_tuple_getitem _ _)))
 show wpAny _ _ (Builtin.Tuple.tupleItemsOf (.ref t) >>= _) _ _ s
 refine wpAny_bind (tupleItemsOf_ ht ?_)
 refine wpAny_bind (wpAny_typeOf hTs ?_)
 rw[if_pos (by decide)]
 refine wpAny_bind (kh hs pl pu ?_)
 have hno:¬((((sIx items.size 0 lo:Nat):Int)==0&&(1:Int)==1&&(sIx items.size items.size hi-sIx items.size 0 lo)==items.size)=true):=by
  intro q
  rw[Bool.and_eq_true,Bool.and_eq_true] at q
  have q1:((sIx items.size 0 lo:Nat):Int)=0:=eq_of_beq q.1.1
  have q2:sIx items.size items.size hi-sIx items.size 0 lo=items.size:=eq_of_beq q.2
  exact hw ⟨by lia,by lia⟩
 show wpAny _ _ (if(((sIx items.size 0 lo:Nat):Int)==0&&(1:Int)==1&&(sIx items.size items.size hi-sIx items.size 0 lo)==items.size)=true then _ else _) _ _ s
 rw[if_neg hno,GJ]
 first
  |exact wpAny_bind (m:=Builtin.Tuple.tupleExact _) (wpAny_newObj_type (wpAny_pure ⟨_,rfl,wpAny_pure h⟩) htake)
  |exact wpAny_bind (m:=Builtin.Tuple.tupleExact _) (wpAny_newObj_type (wpAny_bind (wpAny_pure (wpAny_pure ⟨_,rfl,wpAny_pure h⟩))) htake)
  |exact wpAny_bind (wpAny_bind (m:=Builtin.Tuple.tupleExact _) (wpAny_newObj_type (wpAny_pure (wpAny_pure ⟨_,rfl,wpAny_pure h⟩)) htake))
  |exact wpAny_bind (wpAny_bind (m:=Builtin.Tuple.tupleExact _) (wpAny_newObj_type (wpAny_pure ⟨_,rfl,wpAny_pure h⟩) htake))
end
end HT
namespace L2
open PySem PySem.Spec PyProof.Rows
abbrev TO:=St->Hp->(Option Int->Hp->Prop)->Prop
def PO(X:Cx)(e:Option Expr)(t:TO):Prop:=
 ∀(pins:List (Addr×Obj)) (s:Shared) (σ:St) (H:Hp) (Q:Option Int->Hp->Prop),bT X pins σ H s->t σ H Q->
  wpAny (model X.prog X.w) X.A (evalPart e X.env) (λu s'=>∃o H',bT X pins σ H' s'/\IsPart u o/\Q o H') X.xe s
def cY:TO:=λ_ H Q=>Q none H
def eI(t:TE):TO:=λσ H Q=>t σ H λx H1=>∃i,x=.int i/\Q (some i) H1
section
variable{X:Cx}{e:Expr}{te:TE}{lo hi:Option Expr}{tl th:TO}{pos p2:Pos}
theorem Jk:PO X none cY:=by
 intro pins s σ H Q I h
 rw[evalPart_none]
 exact wpAny_pure ⟨none,H,I,.none,h⟩
theorem Jl(h:PE X e te):PO X (some e) (eI te):=by
 intro pins s σ H Q I hw
 rw[evalPart_some]
 refine fE (h pins s σ H _ I hw) λu s1 ⟨x,H1,I1,r1,q1⟩=>?_
 obtain⟨i,rfl,q⟩:=q1
 obtain⟨t,rfl⟩:=r1
 exact⟨some i,H1,I1,.int i t,q⟩
def FO(X:Cx)(r:V->Option Int->Option Int->Hp->VK->Prop):Prop:=
 ∀(pins:List (Addr×Obj)) (s:Shared) (σ:St) (H:Hp) (x:V) (v vl vu:Value) (lo hi:Option Int) (sl:Addr) (Q:VK),bT X pins σ H s->c6 x v->s.heap.IsSliceOf sl vl vu .none->IsPart vl lo->IsPart vu hi->r x lo hi H Q->
  ∃T id,typeLookup (.type T) "__getitem__"=pure (some (.builtin id))/\s.TypeIs v T/\wpAny (model X.prog X.w) X.A (getItem v (.ref sl)) (EP X pins σ Q) X.xe s
theorem FO.or{r r':V->Option Int->Option Int->Hp->VK->Prop}(h:FO X r)(h':FO X r'):FO X (λx lo hi H Q=>r x lo hi H Q\/r' x lo hi H Q):=by
 intro pins s σ H x v vl vu lo hi sl Q I rx hs pl pu q
 rcases q with q|q
 ·exact h pins s σ H x v vl vu lo hi sl Q I rx hs pl pu q
 ·exact h' pins s σ H x v vl vu lo hi sl Q I rx hs pl pu q
def pj(r:V->Option Int->Option Int->Hp->VK->Prop)(te:TE)(tl th:TO):TE:=λσ H Q=>te σ H λx H1=>tl σ H1 λl H2=>th σ H2 λu H3=>r x l u H3 Q
theorem GG{r:V->Option Int->Option Int->Hp->VK->Prop}(hr:FO X r)(he:PE X e te)(hl:PO X lo tl)(hu:PO X hi th):PE X (.Subscript e (.Slice lo hi none p2) pos) (pj r te tl th):=by
 intro pins s σ H Q I h
 refine Subscript_ (fE (he pins s σ H _ I h) λv s1 ⟨x,H1,I1,r1,q1⟩=>?_)
 refine wpAny_Slice (fE (hl pins s1 σ H1 _ I1 q1) λvl s2 ⟨l,H2,I2,pl,q2⟩=>fE (hu pins s2 σ H2 _ I2 q2) λvu s3 ⟨u,H3,I3,pu,q3⟩=>?_)
 rw[evalPart_none]
 refine wpAny_pure ?_
 have I4:bT X pins σ H3 {s3 with heap:=s3.heap.push {cls:=.type "slice",data:=.fields #[vl,vu,.none]}}:=I3.kept (t':=s3.toks) λb ob q=>av _ q
 obtain⟨T,id,hT,ht,hg⟩:=hr pins {s3 with heap:=s3.heap.push {cls:=.type "slice",data:=.fields #[vl,vu,.none]}} σ H3 x v vl vu l u s3.heap.objs.size Q I4 r1 (Heap.IsSliceOf.new ..) pl pu q3
 show wpAny (model X.prog X.w) X.A (subscriptTail e (.Slice lo hi none p2) v (.ref s3.heap.objs.size)) (EP X pins σ Q) X.xe {s3 with heap:=s3.heap.push {cls:=.type "slice",data:=.fields #[vl,vu,.none]}}
 exact tail_any (ops:=[.ref s3.heap.objs.size,v]) ht hT hg (by with_unfolding_all rfl)
def jD(xs:List V)(lo hi:Option Int):List V:=(xs.drop (HT.sIx xs.length 0 lo)).take (HT.sIx xs.length xs.length hi-HT.sIx xs.length 0 lo)
theorem qW(xs:List V)(lo hi:Option Int):(jD xs lo hi).length<=xs.length:=by
 unfold jD
 rw[aL,cV]
 lia
def Ni(K:Fg):V->Option Int->Option Int->Hp->VK->Prop:=λx lo hi H Q=>∃a xs,x=.ref a/\b4 K H a xs/\
 ¬(HT.sIx xs.length 0 lo=0/\HT.sIx xs.length xs.length hi=xs.length)/\∀p,H p=none->Q (.ref p) (upd H p (.tup (jD xs lo hi)))
theorem L8:FO X (Ni X.K):=by
 intro pins s σ H x v vl vu lo hi sl Q I rx hs pl pu h
 obtain⟨a,xs,rfl,hx,hw,q⟩:=h
 cases rx
 obtain⟨its,r,ht,hz⟩:=I.tuple hx
 have hlen:its.toArray.size=xs.length:=by rw[aA];exact r.length.symm
 refine⟨"tuple",_,dF.lookup,ht.typeIs,?_⟩
 refine HT.getItem_tuple_cut ht hs pl pu (by rw[hlen];exact hw) ?_ (by rw[hlen];exact hz)
 rw[hlen]
 refine⟨.ref s.heap.objs.size,_,I.laid (t':=s.toks) (o:=.tup (jD xs lo hi)) (λb ob q=>av _ q) (ay _) ?_,rfl,q _ (I.hok.fresh (ay _))⟩
 exact⟨bS (qW xs lo hi) hz,_,(r.drop (HT.sIx xs.length 0 lo)).take (HT.sIx xs.length xs.length hi-HT.sIx xs.length 0 lo),jg.new _ _⟩
def Kh(K:Fg):R2:=λx y H Q=>∃a b xs ys,x=.ref a/\y=.ref b/\b4 K H a xs/\b4 K H b ys/\xs≠[]/\xs.length+ys.length<=sizeLine/\
 (ys=[]->Q (.ref a) H)/\(ys≠[]->∀p,H p=none->Q (.ref p) (upd H p (.tup (xs++ys))))
theorem cy.nil_iff{xs:List V}{us:List Value}(r:cy xs us):us=[]↔xs=[]:=by
 cases r with
 |nil=>simp
 |cons _ _=>simp
theorem IQ:jh X (binaryOp .Add) (Kh X.K):=by
 intro pins s σ H x y v u Q I rx ry h
 obtain⟨a,b,xs,ys,rfl,rfl,ha,hb,hx,hz,q1,q2⟩:=h
 cases rx
 cases ry
 obtain⟨its,r1,p1,_⟩:=I.tuple ha
 obtain⟨its2,r2,p2,_⟩:=I.tuple hb
 refine HT.cat_tup p1 p2 (λz=>hx (r1.nil_iff.mp z)) (λz=>⟨.ref a,H,I,rfl,q1 (r2.nil_iff.mp z)⟩) (λz=>?_) (by rw[<-r1.length,<-r2.length];exact hz)
 refine⟨.ref s.heap.objs.size,_,I.laid (t':=s.toks) (o:=.tup (xs++ys)) (λb ob q=>av _ q) (ay _) ?_,rfl,q2 (λw=>z (r2.nil_iff.mpr w)) _ (I.hok.fresh (ay _))⟩
 exact⟨by rw[aq];exact hz,_,r1.append r2,jg.new _ _⟩
end
def KP(n:Nat)(i:Int):Option Nat:=if 0<=i then(if i<n then some i.toNat else none) else if -(n:Int)<=i then some (i+n).toNat else none
def Kz{α:Type}(xs:List α)(i:Int):Option α:=(KP xs.length i).bind λj=>xs[j]?
theorem Dr{n:Nat}{i:Int}{j:Nat}(h:KP n i=some j):seqIndex? i n=some j/\j<n/\-(n:Int)<=i/\i<n:=by
 unfold KP at h
 by_cases h0:0<=i
 ·rw[if_pos h0] at h
  by_cases h1:i<n
  ·rw[if_pos h1] at h
   have e:i.toNat=j:=Option.some.inj h
   exact⟨by rw[seqIndex_of h0 h1,e],by lia,by lia,h1⟩
  ·rw[if_neg h1] at h;cases h
 ·rw[if_neg h0] at h
  by_cases h1:-(n:Int)<=i
  ·rw[if_pos h1] at h
   have e:(i+n).toNat=j:=Option.some.inj h
   exact⟨by rw[seqIndex_neg (by lia) h1,e],by lia,h1,by lia⟩
  ·rw[if_neg h1] at h;cases h
theorem xN{α:Type}{xs:List α}{i:Int}{v:α}(h:Kz xs i=some v):∃j,seqIndex? i xs.length=some j/\xs[j]?=some v/\j<xs.length/\-(xs.length:Int)<=i/\i<xs.length:=by
 unfold Kz at h
 cases e:KP xs.length i with
 |none=>rw[e] at h;cases h
 |some j=>
  rw[e] at h
  obtain⟨h1,h2,h3,h4⟩:=Dr e
  exact⟨j,h1,h,h2,h3,h4⟩
def xJ(b:Expr):Prop:=∀o i,subscripted b false o i=operate [o,i] (getItem o i)
def HH(X:Cx)(r:R2):Prop:=
 ∀(value slice:Expr) (pins:List (Addr×Obj)) (s:Shared) (σ:St) (H:Hp) (x y:V) (v u:Value) (Q:VK),bT X pins σ H s->c6 x v->c6 y u->r x y H Q->
  subscripted slice false v u=operate [v,u] (getItem v u)->wpAny (model X.prog X.w) X.A (subscriptTail value slice v u) (EP X pins σ Q) X.xe s
def Mr(X:Cx)(id:String)(r:V->List V->Hp->VK->Prop):Prop:=
 ∀(pins:List (Addr×Obj)) (s:Shared) (σ:St) (H:Hp) (x:V) (xs:List V) (v:Value) (us:List Value) (Q:VK),bT X pins σ H s->c6 x v->cy xs us->r x xs H Q->
  wpAny (model X.prog X.w) X.A (call (.builtin id) (v::us)) (EP X pins σ Q) X.xe s
section
variable{X:Cx}{a b:Expr}{ta tb:TE}{pos:Pos}
theorem HH.or{r r':R2}(h:HH X r)(h':HH X r'):HH X (λx y H Q=>r x y H Q\/r' x y H Q):=by
 intro value slice pins s σ H x y v u Q I rx ry q hs
 rcases q with q|q
 ·exact h value slice pins s σ H x y v u Q I rx ry q hs
 ·exact h' value slice pins s σ H x y v u Q I rx ry q hs
theorem MU{r:R2}(hr:HH X r)(ha:PE X a ta)(hb:PE X b tb)(hs:xJ b):PE X (.Subscript a b pos) (aX r ta tb):=by
 intro pins s σ H Q I h
 exact Subscript_ (KA ha hb I h λv u s2 x y H2 I2 rx ry q=>hr a b pins s2 σ H2 x y v u Q I2 rx ry q (hs _ _))
def M9(K:Fg):R2:=λx y H Q=>∃p xs i v,x=.ref p/\y=.int i/\bY K H p xs/\Kz xs i=some v/\Q v H
def Nb(K:Fg):R2:=λx y H Q=>∃p xs i v,x=.ref p/\y=.int i/\b4 K H p xs/\Kz xs i=some v/\Q v H
def Na:R2:=λx y H Q=>∃z i c,x=.str z/\y=.int i/\z.length<=sizeLine/\Kz z.cps.toList i=some c/\Q (.str ⟨#[c]⟩) H
theorem ID:HH X (M9 X.K):=by
 intro value slice pins s σ H x y v u Q I rx ry h hs
 obtain⟨p,xs,i,z,rfl,rfl,hq,he,q⟩:=h
 cases rx
 obtain⟨t,rfl⟩:=ry
 obtain⟨its,r,pl,hz⟩:=I.list hq
 obtain⟨j,h1,h2,h3,h4,h5⟩:=xN he
 obtain⟨w,ew,rw'⟩:=r.get h2
 have hl:=r.length
 have hn:=t8
 have fin:EP X pins σ Q w s:=⟨z,H,I,rw',q⟩
 by_cases h0:0<=i
 ·have hj:i.toNat=j:=by
   rw[seqIndex_of h0 h5] at h1
   exact Option.some.inj h1
  exact item_listR pl.isList h0 (by lia) (by rw[hj];simpa using ew) fin hs
 ·have hj:(i+(its.toArray.size:Int)).toNat=j:=by
   rw[seqIndex_neg (by lia) h4] at h1
   rw[aA,<-hl]
   exact Option.some.inj h1
  exact subscriptTail_builtinR (x:=w) pl.isList.typeIs slot_list_getitem.lookup
   (wpAny_getItem_list_neg (Q:=λr s'=>r=w/\EP X pins σ Q r s') pl.isList (by lia) (by rw[aA]<;>lia) (by lia) (by rw[hj];simpa using ew) ⟨rfl,fin⟩) hs
theorem KS:HH X (Nb X.K):=by
 intro value slice pins s σ H x y v u Q I rx ry h hs
 obtain⟨p,xs,i,z,rfl,rfl,hq,he,q⟩:=h
 cases rx
 obtain⟨t,rfl⟩:=ry
 obtain⟨its,r,pl,hz⟩:=I.tuple hq
 obtain⟨j,h1,h2,h3,h4,h5⟩:=xN he
 obtain⟨w,ew,rw'⟩:=r.get h2
 have hl:=r.length
 have hn:=t8
 have fin:EP X pins σ Q w s:=⟨z,H,I,rw',q⟩
 exact subscriptTail_builtinR (x:=w) pl.typeIs slot_tuple_getitem.lookup
  (getItem_tuple (j:=j) (Q:=λr s'=>r=w/\EP X pins σ Q r s') pl (by lia) (by lia) (by rw[aA,<-hl];exact h1) (by simpa using ew) ⟨rfl,fin⟩) hs
theorem KR:HH X Na:=by
 intro value slice pins s σ H x y v u Q I rx ry h hs
 obtain⟨z,i,c,rfl,rfl,hz,he,q⟩:=h
 obtain⟨t,rfl⟩:=rx
 obtain⟨t',rfl⟩:=ry
 obtain⟨j,h1,h2,h3,h4,h5⟩:=xN he
 have hl:z.cps.toList.length=z.length:=by simp[Str.length]
 rw[hl] at h1 h4 h5
 have hn:=t8
 exact tail_any (typeIs_str s z t) slot_str_getitem.lookup (getItem_str (c:=c) (by
  have e1:decide (i < -(2 ^ 63:Int))=false:=decide_eq_false (by lia)
  have e2:decide (i >= 2 ^ 63)=false:=decide_eq_false (by lia)
  rw[e1,e2,Bool.or_false]) (by rw[h1];simpa using h2) ⟨.str ⟨#[c]⟩,H,I.tok _,⟨_,rfl⟩,q⟩) hs
def cw(K:Fg):R2:=λx y H Q=>M9 K x y H Q\/Nb K x y H Q\/Na x y H Q
theorem KQ:HH X (cw X.K):=ID.or (KS.or KR)
theorem Ci(its:List Value)(n j:Nat)(u:Value):Obj.mapSeq (·.setIfInBounds j u) {cls:=.type "list",data:=.seq its.toArray n}={cls:=.type "list",data:=.seq (its.set j u).toArray n}:=by
 simp[Obj.mapSeq]
theorem bT.lst{pins:List (Addr×Obj)}{σ:St}{H:Hp}{s:Shared}{p:Addr}{xs:List V}(I:bT X pins σ H s)(h:H p=some (.lst xs)) :
  ∃(its:List Value) (n:Nat),cy xs its/\s.heap.get? p=some {cls:=.type "list",data:=.seq its.toArray n}/\xs.length<=sizeLine:=by
 obtain⟨z,its,n,r,e⟩:=I.hok p _ h
 exact⟨its,n,r,e,z⟩
theorem bT.lstUpd{pins:List (Addr×Obj)}{σ:St}{H:Hp}{s:Shared}{p:Addr}{xs ys:List V}{its its':List Value}{n n':Nat}{f:Obj->Obj}(I:bT X pins σ H s)(h:H p=some (.lst xs))
  (ho:s.heap.get? p=some {cls:=.type "list",data:=.seq its.toArray n}) (hf:f {cls:=.type "list",data:=.seq its.toArray n}={cls:=.type "list",data:=.seq its'.toArray n'}) (r:cy ys its') (hz:ys.length<=sizeLine) (t:Nat) :
  bT X pins σ (upd H p (.lst ys)) {s with heap:=s.heap.update p f,toks:=t}:=by
 have e:(s.heap.update p f).get? p=some {cls:=.type "list",data:=.seq its'.toArray n'}:=by
  rw[eK f ho (by rw[hf]<;>rfl),hf]
 refine I.write (x:=p) (e:=p) (by rw[h];trivial) (.inl rfl) (λb u hb q=>(dv _ _ (Ne.symm hb)).trans q) ⟨_,e⟩ ?_
 exact⟨hz,its',n',r,e⟩
def lA:V->V->V->Hp->(Hp->Prop)->Prop:=λo i v H Q=>∃p xs k j,o=.ref p/\i=.int k/\H p=some (.lst xs)/\KP xs.length k=some j/\Q (upd H p (.lst (xs.set j v)))
theorem ia:HZ X lA:=by
 intro pins s σ H o i v ov iv u Q I ro ri rv h
 obtain⟨p,xs,k,j,rfl,rfl,hp,hj,q⟩:=h
 cases ro
 obtain⟨t,rfl⟩:=ri
 obtain⟨its,n,r,ho,hz⟩:=I.lst hp
 obtain⟨h1,h2,h3,h4⟩:=Dr hj
 have hl:=r.length
 have hn:=t8
 have I':bT X pins σ (upd H p (.lst (xs.set j v))) {s with heap:=s.heap.update p (Obj.mapSeq (·.setIfInBounds j u))}:=
  I.lstUpd hp ho (Ci its n j u) (r.set rv j) (by rw[dc];exact hz) s.toks
 by_cases h0:0<=k
 ·have hk:k.toNat=j:=by
   rw[seqIndex_of h0 h4] at h1
   exact Option.some.inj h1
  exact PySem.W.ki_setAt ho h0 (by lia) (by rw[aA,<-hl];exact h4) (by rw[hk];exact⟨_,I',q⟩)
 ·have hk:(k+(its.toArray.size:Int)).toNat=j:=by
   rw[seqIndex_neg (by lia) h3] at h1
   rw[aA,<-hl]
   exact Option.some.inj h1
  exact PySem.W.ki_setBack ho (by lia) (by rw[aA,<-hl];exact h3) (by lia) (by rw[hk];exact⟨_,I',q⟩)
theorem yM(lo hi:Option Int)(n:Nat):(sliceBounds lo hi none n).1=((HT.sIx n 0 lo:Nat):Int)/\(sliceBounds lo hi none n).2.1=((HT.sIx n n hi:Nat):Int)/\(sliceBounds lo hi none n).2.2=1:=by
 refine⟨?_,?_,rfl⟩
 ·cases lo with
  |none=>simp[sliceBounds,HT.sIx]
  |some i=>
   simp only[sliceBounds,HT.sIx,Option.getD_none,show(1:Int)>0 by decide,if_true]
   by_cases h:i<0
   ·simp only[h,if_true]<;>lia
   ·simp only[h,if_false]<;>lia
 ·cases hi with
  |none=>simp[sliceBounds,HT.sIx]
  |some i=>
   simp only[sliceBounds,HT.sIx,Option.getD_none,show(1:Int)>0 by decide,if_true]
   by_cases h:i<0
   ·simp only[h,if_true]<;>lia
   ·simp only[h,if_false]<;>lia
theorem vK(its:List Value)(lo hi:Option Int):slicePick its.toArray lo hi none=((its.drop (HT.sIx its.length 0 lo)).take (HT.sIx its.length its.length hi-HT.sIx its.length 0 lo)).toArray:=by
 obtain⟨h1,h2,h3⟩:=yM lo hi its.toArray.size
 unfold slicePick
 rw[h1,h2,h3]
 simp only[sliceRange_one,pick_run,aA]<;>rfl
def Nh(K:Fg):V->Option Int->Option Int->Hp->VK->Prop:=λx lo hi H Q=>∃a xs,x=.ref a/\bY K H a xs/\∀p,H p=none->Q (.ref p) (upd H p (.lst (jD xs lo hi)))
theorem JV:FO X (Nh X.K):=by
 intro pins s σ H x v vl vu lo hi sl Q I rx hs pl pu h
 obtain⟨a,xs,rfl,hx,q⟩:=h
 cases rx
 obtain⟨its,r,ht,hz⟩:=I.list hx
 have hlen:=r.length
 refine⟨"list",_,slot_list_getitem.lookup,ht.isList.typeIs,?_⟩
 refine wpAny_getItem_list_slice ht.isList hs pl pu .none (by simp) ?_ (by rw[aA]<;>lia)
 rw[vK,<-hlen]
 refine⟨.ref s.heap.objs.size,_,I.laid (t':=s.toks) (o:=.lst (jD xs lo hi)) (λb ob q=>av _ q) (ay _) ?_,rfl,q _ (I.hok.fresh (ay _))⟩
 exact⟨bS (qW xs lo hi) hz,_,0,(r.drop (HT.sIx xs.length 0 lo)).take (HT.sIx xs.length xs.length hi-HT.sIx xs.length 0 lo),aM _ rfl⟩
def gJ:V->Bool
 |.non=>true
 |.bl _=>true
 |.int _=>true
 |.str _=>true
 |_=>false
def vw:V->V->Bool
 |.non,.non=>true
 |.bl a,.bl b=>a==b
 |.bl a,.int b=>(if a then 1 else 0)==b
 |.int a,.bl b=>a==(if b then 1 else 0)
 |.int a,.int b=>a==b
 |.str a,.str b=>a==b
 |_,_=>false
theorem BQ{A:Around}{s:Shared}{y x:V}{u v:Value}(ry:c6 y u)(rx:c6 x v)(fy:gJ y=true)(fx:gJ x=true):SeqAt.EqAt A s u v (vw y x):=by
 cases y with
 |non=>
  cases ry
  cases x with
  |non=>cases rx;exact SeqAt.EqAt.same _
  |bl b=>cases rx;exact SeqAt.EqAt.none_bool b
  |int b=>obtain⟨t,rfl⟩:=rx;exact SeqAt.EqAt.none_int b t
  |str b=>obtain⟨t,rfl⟩:=rx;exact SeqAt.EqAt.none_str b t
  |_=>exact absurd (show false=true from fx) Bool.false_ne_true
 |bl a=>
  cases ry
  cases x with
  |non=>cases rx;exact SeqAt.EqAt.bool_none a
  |bl b=>cases rx;exact SeqAt.EqAt.bool_bool a b
  |int b=>obtain⟨t,rfl⟩:=rx;exact SeqAt.EqAt.bool_int a b t
  |str b=>obtain⟨t,rfl⟩:=rx;exact SeqAt.EqAt.bool_str a b t
  |_=>exact absurd (show false=true from fx) Bool.false_ne_true
 |int a=>
  obtain⟨t',rfl⟩:=ry
  cases x with
  |non=>cases rx;exact SeqAt.EqAt.int_none a t'
  |bl b=>cases rx;exact SeqAt.EqAt.int_bool a t' b
  |int b=>obtain⟨t,rfl⟩:=rx;exact SeqAt.EqAt.int_int a t' b t
  |str b=>obtain⟨t,rfl⟩:=rx;exact SeqAt.EqAt.int_str a t' b t
  |_=>exact absurd (show false=true from fx) Bool.false_ne_true
 |str a=>
  obtain⟨t',rfl⟩:=ry
  cases x with
  |non=>cases rx;exact SeqAt.EqAt.str_none a t'
  |bl b=>cases rx;exact SeqAt.EqAt.str_bool a t' b
  |int b=>obtain⟨t,rfl⟩:=rx;exact SeqAt.EqAt.str_int a t' b t
  |str b=>obtain⟨t,rfl⟩:=rx;exact SeqAt.EqAt.str_str a t' b t
  |_=>exact absurd (show false=true from fx) Bool.false_ne_true
 |_=>exact absurd (show false=true from fy) Bool.false_ne_true
def BR(x:V)(u:Value):Bool:=match u with
 |.none=>vw .non x
 |.bool b=>vw (.bl b) x
 |.int i _=>vw (.int i) x
 |.str z _=>vw (.str z) x
 |_=>false
theorem F7{x y:V}{u:Value}(r:c6 y u)(f:gJ y=true):BR x u=vw y x:=by
 cases y with
 |non=>cases r;rfl
 |bl b=>cases r;rfl
 |int i=>obtain⟨t,rfl⟩:=r;rfl
 |str z=>obtain⟨t,rfl⟩:=r;rfl
 |_=>exact absurd (show false=true from f) Bool.false_ne_true
theorem oH{x:V}:∀{xs:List V} {us:List Value},cy xs us->xs.all gJ=true->us.any (BR x)=xs.any λy=>vw y x
 |_,_,.nil,_=>rfl
 |y::xs,u::us,.cons r t,f=>by
  rw[mQ,Bool.and_eq_true] at f
  rw[iz,iz,F7 r f.1,oH t f.2]
theorem lZ{A:Around}{s:Shared}{x:V}{v:Value}(rx:c6 x v)(fx:gJ x=true):∀{xs:List V} {us:List Value},cy xs us->xs.all gJ=true->∀u∈us,SeqAt.EqAt A s u v (BR x u)
 |_,_,.nil,_=>λu hu=>by cases hu
 |y::xs,u::us,.cons r t,f=>λu' hu=>by
  rw[mQ,Bool.and_eq_true] at f
  rcases aQ.mp hu with rfl|hu
  ·rw[F7 r f.1];exact BQ r rx f.1 fx
  ·exact lZ rx fx t f.2 u' hu
def fL(x:V)(xs:List V):Bool:=xs.any λy=>vw y x
def yx(K:Fg)(neg:Bool):R2:=λx y H Q=>∃p xs,y=.ref p/\(bY K H p xs\/b4 K H p xs)/\gJ x=true/\xs.all gJ=true/\Q (.bl (if neg then !fL x xs else fL x xs)) H
theorem eC:jh X (compareOp .In) (yx X.K false):=by
 intro pins s σ H x y v u Q I rx ry h
 obtain⟨p,xs,rfl,hq,fx,fs,q⟩:=h
 cases ry
 rcases hq with hq|hq
 ·obtain⟨its,r,pl,hz⟩:=I.list hq
  refine SeqAt.in_listAt (BR x) pl.isList (λw hw=>lZ rx fx r fs w (by simpa using hw)) ⟨.bl _,H,I,rfl,?_⟩
  rw[show its.toArray.any (BR x)=its.any (BR x) by simp,oH r fs]
  exact q
 ·obtain⟨its,r,pl,hz⟩:=I.tuple hq
  refine SeqAt.in_tupleAt (BR x) pl (λw hw=>lZ rx fx r fs w (by simpa using hw)) ⟨.bl _,H,I,rfl,?_⟩
  rw[show its.toArray.any (BR x)=its.any (BR x) by simp,oH r fs]
  exact q
theorem iY:jh X (compareOp .NotIn) (yx X.K true):=by
 intro pins s σ H x y v u Q I rx ry h
 obtain⟨p,xs,rfl,hq,fx,fs,q⟩:=h
 cases ry
 rcases hq with hq|hq
 ·obtain⟨its,r,pl,hz⟩:=I.list hq
  refine SeqAt.notIn_listAt (BR x) pl.isList (λw hw=>lZ rx fx r fs w (by simpa using hw)) ⟨.bl _,H,I,rfl,?_⟩
  rw[show its.toArray.any (BR x)=its.any (BR x) by simp,oH r fs]
  exact q
 ·obtain⟨its,r,pl,hz⟩:=I.tuple hq
  refine SeqAt.notIn_tupleAt (BR x) pl (λw hw=>lZ rx fx r fs w (by simpa using hw)) ⟨.bl _,H,I,rfl,?_⟩
  rw[show its.toArray.any (BR x)=its.any (BR x) by simp,oH r fs]
  exact q
theorem gX:jf X (.type "list") (λxs H Q=>∃p ys,xs=[.ref p]/\(bY X.K H p ys\/b4 X.K H p ys)/\∀l,H l=none->Q (.ref l) (upd H l (.lst ys))):=by
 intro pins s σ H xs us Q I r h
 obtain⟨p,ys,rfl,hq,q⟩:=h
 obtain⟨u,rfl,rx⟩:=nM r
 cases rx
 have fin:∀(its:List Value),cy ys its->ys.length<=sizeLine->∀(h':Heap) (c':Nat),(∀b o',s.heap.get? b=some o'->h'.get? b=some o')->
   h'.get? s.heap.objs.size=some {cls:=.type "list",dict:=none,data:=.seq its.toArray c',slots:=#[]}->EP X pins σ Q (.ref s.heap.objs.size) {s with heap:=h'}:=λits r' hz h' c' kp e=>
  ⟨.ref s.heap.objs.size,_,I.laid (t':=s.toks) kp (ay _) (show fh X.prog X.w _ h' _ (.lst ys) from⟨hz,its,c',r',e⟩),rfl,q _ (I.hok.fresh (ay _))⟩
 rcases hq with hq|hq
 ·obtain⟨its,r',pl,hz⟩:=I.list hq
  have hlen:=r'.length
  obtain⟨o,ho,hc,n,hd⟩:=pl.isList
  exact call_list_seq p (.inl rfl) ho hc hd (λh' c' kp e=>fin its r' hz h' c' kp e) (by simp only[aA]<;>lia)
 ·obtain⟨its,r',pl,hz⟩:=I.tuple hq
  have hlen:=r'.length
  obtain⟨o,ho,hc,n,hd⟩:=pl
  exact call_list_seq p (.inr rfl) ho hc hd (λh' c' kp e=>fin its r' hz h' c' kp e) (by simp only[aA]<;>lia)
theorem bE:jf X (.type "tuple") (λxs H Q=>∃p ys,xs=[.ref p]/\((bY X.K H p ys/\∀l,H l=none->Q (.ref l) (upd H l (.tup ys)))\/(b4 X.K H p ys/\Q (.ref p) H))):=by
 intro pins s σ H xs us Q I r h
 obtain⟨p,ys,rfl,h⟩:=h
 obtain⟨u,rfl,rx⟩:=nM r
 cases rx
 rcases h with⟨hq,q⟩|⟨hq,q⟩
 ·obtain⟨its,r',pl,hz⟩:=I.list hq
  have hlen:=r'.length
  refine call_tuple_list pl.isList (λh' kp=>?_) (by simp only[aA]<;>lia)
  have I1:bT X pins σ H {s with heap:=h'}:=I.kept (t':=s.toks) kp
  have I2:bT X pins σ (upd H h'.objs.size (.tup ys)) {s with heap:=h'.push {cls:=.type "tuple",data:=.seq its.toArray}}:=
   I1.laid (t':=s.toks) (λb o e=>av _ e) (ay _) (show fh X.prog X.w _ _ _ (.tup ys) from⟨hz,its,r',jg.new _ _⟩)
  exact⟨.ref h'.objs.size,_,I2,rfl,q _ (I1.hok.fresh (ay _))⟩
 ·obtain⟨its,r',pl,hz⟩:=I.tuple hq
  exact call_tuple_same pl ⟨.ref p,H,I,rfl,q⟩
def NW(K:Fg)(T:String)(x:V)(H:Hp):Prop:=match x with
 |.str _=>T="str"
 |.int _=>T="int"
 |.ref p=>(T="list"/\∃xs,bY K H p xs)\/(T="tuple"/\∃o,K.lookup p=some o/\o.cls=.type "tuple"/\o.dict=none)\/
   (T="dict"/\((∃kvs,H p=some (.dK kvs))\/∃kvs,H p=some (.dT kvs)))\/(T="set"/\∃S n,H p=some (.set S n))
 |_=>False
theorem Hy{pins:List (Addr×Obj)}{σ:St}{H:Hp}{s:Shared}{T:String}{x:V}{v:Value}(I:bT X pins σ H s)(r:c6 x v)(ty:NW X.K T x H) :
  s.TypeIs v T/\∀a,v=.ref a->∃ob,s.heap.get? a=some ob/\ob.dict=none:=by
 cases x with
 |str z=>
  obtain⟨t,rfl⟩:=r
  cases(show T="str" from ty)
  exact⟨typeIs_str s z t,λ_ e=>nomatch e⟩
 |int i=>
  obtain⟨t,rfl⟩:=r
  cases(show T="int" from ty)
  exact⟨typeIs_int s i t,λ_ e=>nomatch e⟩
 |ref p=>
  cases r
  rcases ty with⟨rfl,xs,hq⟩|⟨rfl,o,hk,hc,hd⟩|⟨rfl,hk⟩|⟨rfl,S,n,hk⟩
  ·obtain⟨its,_,pl,_⟩:=I.list hq
   refine⟨pl.isList.typeIs,λa e=>?_⟩
   cases e
   obtain⟨o,n,e,c,hd,_⟩:=pl
   exact⟨o,e,hd⟩
  ·refine⟨⟨o,I.kIn p o hk,hc⟩,λa e=>?_⟩
   cases e
   exact⟨o,I.kIn _ o hk,hd⟩
  ·have z:∃o,s.heap.get? p=some o/\o.ExactDict:=by
    rcases hk with⟨kvs,hk⟩|⟨kvs,hk⟩
    ·obtain⟨_,_,_,_,o,_,_,e,ex,_⟩:=I.hok p _ hk
     exact⟨o,e,ex⟩
    ·obtain⟨_,_,_,_,o,_,_,e,ex,_⟩:=I.hok p _ hk
     exact⟨o,e,ex⟩
   obtain⟨o,e,ex⟩:=z
   refine⟨⟨o,e,ex.1⟩,λa e2=>?_⟩
   cases e2
   exact⟨o,e,ex.2.1⟩
  ·obtain⟨o,_,_,_,e,ex,_⟩:=I.hok p _ hk
   refine⟨⟨o,e,ex.1⟩,λa e2=>?_⟩
   cases e2
   exact⟨o,e,ex.2.1⟩
 |_=>exact False.elim ty
def Ma(K:Fg)(T:String)(r:V->List V->Hp->VK->Prop)(to:TE):TE:=λσ H Q=>to σ H λx H1=>NW K T x H1/\r x [] H1 Q
def yP(K:Fg)(T:String)(r:V->List V->Hp->VK->Prop)(to:TE)(t:TA):TE:=λσ H Q=>to σ H λx H1=>NW K T x H1/\t σ H1 λxs H2=>r x xs H2 Q
variable{o e:Expr}{es:List Expr}{to:TE}{t:TA}{name:Str}{apos cpos:Pos}{T id:String}{r:V->List V->Hp->VK->Prop}
theorem Lr(pa:PlainAttrs T)(slot:Slot T name id)(hty:typeOf (.builtin id)=pure (.type "method_descriptor"))(hm:Mr X id r)(ho:PE X o to)
  (hbase:attributeBase o name X.env (eval o X.env)=eval o X.env:=by rfl) (hline:(apos.endLine==cpos.line)=true:=by rfl):PE X (.Call (.Attribute o name apos) [] [] cpos) (Ma X.K T r to):=by
 intro pins s σ H Q I h
 refine wpAny_Call_method0_late hbase hline (fE (ho pins s σ H _ I h) λv s1 ⟨x,H1,I1,r1,ty,q1⟩=>?_)
 obtain⟨h1,h2⟩:=Hy I1 r1 ty
 exact⟨T,id,pa,slot,hty,h1,h2,Calls.callWith_builtin rfl (PySem.evalArgs_none (hm pins s1 σ H1 x [] v [] Q I1 r1 .nil q1))⟩
theorem MS(pa:PlainAttrs T)(slot:Slot T name id)(hty:typeOf (.builtin id)=pure (.type "method_descriptor"))(hm:Mr X id r)(ho:PE X o to)(ha:PA X (e::es) t)
  (hbase:attributeBase o name X.env (eval o X.env)=eval o X.env:=by rfl)
  (hfew:((backTo cpos (starEach (e::es) X.env)).all (λx=>!x.1)&&(backToKw cpos (keywordEach [] X.env)).all (λx=>x.1.isSome)
   && decide ((e::es).length+([]:List Keyword).length+(if([]:List Keyword).isEmpty then 0 else 1)<30))=true:=by rfl)
  (hline:(apos.endLine==cpos.line)=true:=by rfl) (hs:starEach (e::es) X.env=(false,eval e X.env)::starEach es X.env:=by rfl) (hplain:(backTo cpos (starEach es X.env)).any (·.1)=false:=by rfl) :
  PE X (.Call (.Attribute o name apos) (e::es) [] cpos) (yP X.K T r to t):=by
 intro pins s σ H Q I h
 refine wpAny_Call_method_late hbase hfew hline rfl (fE (ho pins s σ H _ I h) λv s1 ⟨x,H1,I1,r1,ty,q1⟩=>?_)
 obtain⟨h1,h2⟩:=Hy I1 r1 ty
 refine⟨T,id,pa,slot,hty,h1,h2,?_⟩
 have hA:=ha cpos pins s1 σ H1 _ I1 q1
 rw[hs] at hA ⊢
 refine Calls.callWith_builtin (by show(false || (backTo cpos (starEach es X.env)).any (·.1))=false;rw[hplain]<;>rfl) (Calls.evalArgs_plain ?_)
 exact fE hA λus s2 ⟨vs,H2,I2,r2,q2⟩=>hm pins s2 σ H2 x vs v us Q I2 r1 r2 q2
end
def N2(X:Cx)(id:String)(r:V->List V->Hp->VK->Prop):Prop:=
 ∀(pins:List (Addr×Obj)) (s:Shared) (σ:St) (H:Hp) (x:V) (xs:List V) (v:Value) (us:List Value) (Q:VK),bT X pins σ H s->c6 x v->cy xs us->r x xs H Q->
  wpAny (model X.prog X.w) X.A (call (.builtin id) (v::us)) (EP X pins σ Q) X.xe s
theorem cy.one:∀{x:V} {us:List Value},cy [x] us->∃u,us=[u]/\c6 x u
 |_,_,.cons r .nil=>⟨_,rfl,r⟩
theorem cy.zero:∀{us:List Value},cy [] us->us=[]
 |_,.nil=>rfl
theorem cy.dropLast{xs:List V}{us:List Value}(h:cy xs us):cy xs.dropLast us.dropLast:=by
 induction h with
 |nil=>exact .nil
 |cons r t ih=>
  cases t with
  |nil=>exact .nil
  |cons q t'=>exact .cons r ih
theorem cy.reverse{xs:List V}{us:List Value}(h:cy xs us):cy xs.reverse us.reverse:=by
 induction h with
 |nil=>exact .nil
 |cons r t ih=>rw[gN,gN];exact cy.append ih (.cons r .nil)
theorem cy.rep{xs:List V}{us:List Value}(h:cy xs us):∀k:Nat,cy (ax k xs).flatten (ax k us).flatten
 |0=>.nil
 |k+1=>by
  rw[cP,cP,eU,eU]
  exact cy.append h (cy.rep h k)
theorem BS{α:Type}(l:List α):l.eraseIdx (l.length-1)=l.dropLast:=by
 induction l with
 |nil=>rfl
 |cons a r ih=>
  cases r with
  |nil=>rfl
  |cons b r=>
   have e:(a::b::r).length-1=((b::r).length-1)+1:=by
    have h1:(a::b::r).length=r.length+2:=rfl
    have h2:(b::r).length=r.length+1:=rfl
    lia
   rw[e,List.eraseIdx_cons_succ,ih]
   all_goals rfl
theorem qj(its:List Value):∀(k:Nat) (acc:List Value),
  kq (λx1 x2=>x1++x2) acc.toArray (ax k its.toArray)=(acc++(ax k its).flatten).toArray
 |0,acc=>by simp
 |k+1,acc=>by
  have e:acc.toArray++its.toArray=(acc++its).toArray:=by simp
  have e2:(acc++its)++(ax k its).flatten=acc++(ax (k+1) its).flatten:=by
   rw[cP,eU,bj]
  rw[<-e2,<-qj its k (acc++its),<-e,cP,eR]
section
variable{X:Cx}{pins:List (Addr×Obj)}{σ:St}{H:Hp}{s:Shared}{l b:Addr}{xs ys zs:List V}
theorem bT.lset{its its':List Value}{n:Nat}{f:Array Value->Array Value}{t':Nat}(I:bT X pins σ H s)(hH:H l=some (.lst xs))
  (e:s.heap.get? l=some {cls:=.type "list",data:=.seq its.toArray n}) (hf:f its.toArray=its'.toArray) (hv:cy ys its') (hz:ys.length<=sizeLine) :
  bT X pins σ (upd H l (.lst ys)) {s with heap:=s.heap.update l (Obj.mapSeq f),toks:=t'}:=by
 have q:=PySem.IsL.update e f
 rw[hf] at q
 refine I.write (x:=l) (e:=l) (by rw[hH];exact trivial) (.inl rfl) (λb' u hb hu=>(dv s.heap (Obj.mapSeq f) (Ne.symm hb)).trans hu) ⟨_,q⟩ ?_
 exact⟨hz,its',_,hv,q⟩
theorem bT.lnew{its:List Value}{t':Nat}(I:bT X pins σ H s)(hv:cy ys its)(hz:ys.length<=sizeLine) :
  bT X pins σ (upd H s.heap.objs.size (.lst ys)) {s with heap:=s.heap.push {cls:=.type "list",data:=.seq its.toArray},toks:=t'}:=
 I.laid (λ_ _ q=>av _ q) (ay _) ⟨hz,its,0,hv,aM _ rfl⟩
theorem bT.fresh(I:bT X pins σ H s):H s.heap.objs.size=none:=I.hok.fresh (ay _)
theorem bT.lstM(I:bT X pins σ H s)(hH:H l=some (.lst xs)):xs.length<=sizeLine/\∃(its:List Value) (n:Nat),cy xs its/\xs.length=its.length/\s.heap.get? l=some {cls:=.type "list",data:=.seq its.toArray n}:=by
 obtain⟨z,its,n,r,e⟩:=I.hok l _ hH
 exact⟨z,its,n,r,r.length,e⟩
theorem Gy{n:Nat}(h:n<=sizeLine):Builtin.List.listTooLong n=false:=by
 unfold Builtin.List.listTooLong
 exact decide_eq_false (by lia)
end
section
variable{X:Cx}
def eN:V->List V->Hp->VK->Prop:=λx vs H Q=>∃l xs y,x=.ref l/\vs=[y]/\H l=some (.lst xs)/\xs.length<sizeLine/\Q .non (upd H l (.lst (xs++[y])))
theorem wA:N2 X "list.append" eN:=by
 intro pins s σ H x vs v us Q I rx rv h
 obtain⟨l,xs,y,rfl,rfl,hH,hz,q⟩:=h
 cases rx
 obtain⟨u,rfl,ru⟩:=rv.one
 obtain⟨z,its,n,r,hl,e⟩:=I.lstM hH
 refine call_meets F.slot_list_append ⟨_,e,rfl⟩ F.entry_list_append (F.args_list_append_2 _ _) (PySem.list_append l its.toArray n u (by rw[aA];lia)) ⟨e,?_⟩
 refine⟨.non,_,I.lset (its':=its++[u]) hH e (by simp) (r.append (.cons ru .nil)) ?_,rfl,q⟩
 rw[aq,aR]
 lia
def Nf:V->List V->Hp->VK->Prop:=λx vs H Q=>∃l xs y,x=.ref l/\vs=[]/\H l=some (.lst xs)/\xs[xs.length-1]?=some y/\Q y (upd H l (.lst xs.dropLast))
theorem Ld:N2 X "list.pop" Nf:=by
 intro pins s σ H x vs v us Q I rx rv h
 obtain⟨l,xs,y,rfl,rfl,hH,hy,q⟩:=h
 cases rx
 have hus:=rv.zero
 subst hus
 obtain⟨z,its,n,r,hl,e⟩:=I.lstM hH
 obtain⟨u,hu,ru⟩:=r.get hy
 have hy':its.toArray[its.toArray.size-1]?=some u:=by
  show its.toArray[its.length-1]?=some u
  rw[<-ik,<-hl]
  exact hu
 refine call_meets F.slot_list_pop ⟨_,e,rfl⟩ F.entry_list_pop (F.args_list_pop_1 _) (MeetsSeq.list_pop_last l its.toArray n u hy' (by rw[aA];lia)) ⟨e,?_⟩
 refine⟨y,_,I.lset (its':=its.dropLast) hH e ?_ r.dropLast ?_,ru,q⟩
 ·show its.toArray.eraseIdxIfInBounds (its.toArray.size-1)=its.dropLast.toArray
  rw[aA,List.eraseIdxIfInBounds_toArray,BS]
 ·rw[iE]
  lia
def M8:R2:=λx y H Q=>∃l b xs zs,x=.ref l/\y=.ref b/\H l=some (.lst xs)/\H b=some (.lst zs)/\xs.length+zs.length<=sizeLine/\∀p,H p=none->Q (.ref p) (upd H p (.lst (xs++zs)))
theorem Lg:jh X (binaryOp .Add) M8:=by
 intro pins s σ H x y v u Q I rx ry h
 obtain⟨l,b,xs,zs,rfl,rfl,hH,hB,hz,q⟩:=h
 cases rx
 cases ry
 obtain⟨z,its,n,r,hl,e⟩:=I.lstM hH
 obtain⟨z2,its2,n2,r2,hl2,e2⟩:=I.lstM hB
 refine PySem.P.add_list e e2 ?_ (by rw[aA,aA];lia)
 have ea:its.toArray++its2.toArray=(its++its2).toArray:=by simp
 rw[ea]
 exact⟨.ref _,_,I.lnew (t':=s.toks) (r.append r2) (by rw[aq];lia),rfl,q _ I.fresh⟩
def Ng:R2:=λx y H Q=>∃l k xs,x=.ref l/\y=.int k/\H l=some (.lst xs)/\-(2 ^ 63)<=k/\k<2 ^ 63/\xs.length*k.toNat<=sizeLine/\
 ∀p,H p=none->Q (.ref p) (upd H p (.lst (ax k.toNat xs).flatten))
theorem ym{α:Type}(xs:List α)(k:Nat):(ax k xs).flatten.length=k*xs.length:=by
 induction k with
 |zero=>simp
 |succ k ih=>rw[cP,eU,aq,ih,Nat.succ_mul,Nat.add_comm]
theorem Lo:jh X (binaryOp .Mult) Ng:=by
 intro pins s σ H x y v u Q I rx ry h
 obtain⟨l,k,xs,rfl,rfl,hH,h1,h2,hz,q⟩:=h
 cases rx
 obtain⟨t,rfl⟩:=ry
 obtain⟨z,its,n,r,hl,e⟩:=I.lstM hH
 have hlen:its.toArray.size*k.toNat<=sizeLine:=by rw[aA,<-hl];exact hz
 have hcap:¬its.toArray.size*k.toNat>(2 ^ 63-1) / 8:=by
  have:(sizeLine:Nat)<=(2 ^ 63-1) / 8:=by decide
  lia
 have hfit:¬(!Builtin.List.listFitsIndex k)=true:=by
  rw[fitsIndex_both h1 h2]
  exact Bool.false_ne_true
 have hlong:¬Builtin.List.listTooLong (its.toArray.size*k.toNat)=true:=by
  rw[Gy hlen]
  exact Bool.false_ne_true
 have hnew:kq (λx1 x2=>x1++x2) #[] (ax (if its.toArray.isEmpty=true then 0 else k.toNat) its.toArray)=(ax k.toNat its).flatten.toArray:=by
  have f0:∀m:Nat,kq (λx1 x2=>x1++x2) #[] (ax m its.toArray)=(ax m its).flatten.toArray:=λm=>by
   have:=qj its m []
   rw[fF] at this
   exact this
  rw[f0]
  cases its with
  |nil=>simp
  |cons a r'=>rw[if_neg (by simp)]
 refine wpAny_binaryOp_repeat_ref (T:="list") (U:="int") (by decide) ⟨_,e,rfl⟩ (λs'=>typeIs_int s' k t) noFill_list_mul F.fills_int_mul F.slot_int_rmul repeat_list F.slot_int_index.lookup
  (call_meets F.slot_int_rmul (typeIs_int s k t) F.entry_int_rmul (F.args_int_rmul_2 _ _) (int___rmul___int_list k t l its.toArray n)
   ⟨e,rfl,⟨_,e,rfl⟩,call_meets F.slot_list_mul ⟨_,e,rfl⟩ F.entry_list_mul (F.args_list_mul_2 _ _) (AutoListH.list___mul___list_int_3 l its.toArray n k t hfit hcap hlong) ⟨e,?_⟩⟩)
 rw[hnew]
 exact⟨.ref _,_,I.lnew (t':=s.toks) (r.rep k.toNat) (by rw[ym,ou];exact hz),rfl,q _ I.fresh⟩
end
section
variable{prog:Program}{w:World}{A:Around}{E:Value->Shared->Prop}{s:Shared}
set_option maxRecDepth 100000 in
end
section
variable{X:Cx}
end
end L2
namespace Att
open PySem PySem.W PySem.Calls PyProof.Rows
theorem sf{P:Params}{h:Heap}:∀(ns:List Int) (vs:List Value),WellAll P h vs (ns.map WData.int)->IntsAre vs ns:=by
 intro ns
 induction ns with
 |nil=>
  intro vs w
  rw[oq] at w
  cases w
  exact .nil
 |cons n ns ih=>
  intro vs w
  rw[cg] at w
  cases w with
  |cons a b=>
   cases a
   exact .cons _ _ (ih _ b)
theorem Fe{l:OpenLaw}{n:Nat}(hn:l.most=some n){P:Params}{h:Heap}{args:List WData}{vals:List Value}
  (hpre:l.row.toRowW.claim.pre args=true) (hwl:WellAll P h vals args) :
  ∃a vs ns,vals=[Value.ref a]/\args=[WData.list (ns.map WData.int)]/\h.get? a=some {cls:=.type "list",data:=.seq vs.toArray}/\IntsAre vs ns/\ns.length<=n:=by
 have hsh:WShape.hasAll [] args [.list .int]=true:=(pre_splitW hpre).1
 have hc:l.pre.holds [] {args:=args}=true:=(pre_splitW hpre).2
 obtain⟨d,r,rfl,h1,h2⟩:=hasAllW_cons hsh
 obtain rfl:=hasAllW_nil h2
 obtain⟨xs,rfl,h3⟩:=hasW_list h1
 obtain⟨ns,rfl⟩:=items_int h3
 have hlen:ns.length<=n:=by
  unfold OpenLaw.pre at hc
  have h4:(WTm.not (.lt (.lit (.int (n:Int))) (.len (.arg 0)))).holds [] {args:=[.list (ns.map .int)]}=true:=by
   have h4:=(holds_andW hc).1
   rw[hn] at h4
   exact h4
  have h5:=condW_of h4 (w_not (w_lt w_lit (w_len_list (w_arg rfl))))
  rw[aa] at h5
  refine Nat.le_of_not_lt λq=>?_
  have q':(n:Int)<((ns.length:Nat):Int):=by lia
  first
   |(rw[decide_eq_true q'] at h5;exact absurd h5 (by decide))
   |(simp at h5;lia)
 cases hwl with
 |cons w1 w2=>
  cases w2
  cases w1 with
  |list ho hall=>exact⟨_,_,ns,rfl,rfl,ho,sf ns _ hall,hlen⟩
theorem EX(l:OpenLaw)(args:List WData):l.row.toRowW.claim.post args (.bool true) args=true:=
 postW_of (r:=l.row.toRowW) (X:=(true==true))
  (show WShape.has [] (.bool true) .bool=true by first|rfl|decide|simp[WShape.has,WShape.arms,WShape.armsAll])
  (show(WTm.eq .res (.lit (.bool true))).value [] {args:=args,res:=some (.bool true),after:=args}=some (.bool (true==true)) from w_eq_bool (w_res rfl) w_lit) rfl
theorem attach_call{l:OpenLaw}{n:Nat}{q:Program}{loose:List Str}{XP:(Str->Option Value)->Heap->Prop}{YP:World->Heap->Prop}{d:DefRec}
  (hn:l.most=some n) (hdf:d.params.defaults=[])
  (call:∀(w:World) (s₀ s₁:Shared) (mg mb:Str->Option Value) (fa:Addr) (o:Obj) (pm cd doc:Value) (a:Addr) (vs:List Value) (ns:List Int),
   Ground q loose [] XP w s₀ mg mb s₁.heap->YP w s₁.heap->
   s₁.heap.get? fa=some o->o.data=.func (docDef d.name d.params d.body d.scope pm cd doc)->s₁.heap.CodeRec cd d.name->mg d.name=some (.ref fa)->
   s₁.heap.get? a=some {cls:=.type "list",data:=.seq vs.toArray}->IntsAre vs ns->ns.length<=n->s₁.gens=#[]->
   codeAny (model l.prog w) callerA (.call (.ref fa) ⟨[.ref a],[]⟩) (λr s'=>r=.ok (.ret (.bool true))/\OldK s₁.heap s'.heap/\s'.os=s₁.os/\AllBare s'.gens) s₁) :
  WalkO q loose XP YP l.row.toRowW d [] (λf vs=>sU f vs):=by
 intro w s₀ s₁ mg mb G Y fa o pm cd doc dV kV ho hd hcd hD hmg hg args vals as hpre hlay hrd hwl hlo
 obtain rfl:dV=.none:=Dflts.none hD hdf
 obtain rfl:kV=.none:=Dflts.noKw hD
 obtain⟨a,vs,ns,rfl,rfl,hobj,hints,hlen⟩:=Fe hn hpre hwl
 refine enter_call (codeAny_mono (call w s₀ s₁ mg mb fa o pm cd doc a vs ns G Y ho (fd_plain hd) hcd hmg hobj hints hlen hg) λr s' hq=>?_)
 obtain⟨rfl,h2,h3,h4⟩:=hq
 exact⟨.inl ⟨.bool true,.bool true,[],rfl,λ_=>rfl,.bool true,EX l _,λ_=>⟨List.Pairwise.nil,λ_ hm=>(nomatch hm)⟩⟩,h2,h3,h4⟩
section
variable{prog:Program}{w:World}{A:Around}{E:Value->Shared->Prop}{s:Shared}{K:Frag}
end
end Att
namespace L2
open PySem PySem.Spec PyProof.Rows
theorem xw:∀{vs:List Value} {ns:List Int},IntsAre vs ns->cy (ns.map V.int) vs
 |_,_,.nil=>.nil
 |_,_,.cons n t h=>.cons ⟨t,rfl⟩ (xw h)
def HV(H:Hp):Prop:=∀b,H b=none\/∃o xs,H b=some (.frz o (.lst xs))
theorem Gv{P:Program}{w:World}{K:Fg}{mg mb:Str->Option Value}{CX:Fw}{k:Nat}{fa a:Addr}{fd:FuncData}{x:Str}{sp:Sp}{s₁:Shared}{vs:List Value}{ns:List Int}
  (KX:K.In s₁.heap) (hns:s₁.heap.Ns mainGlobals mg) (hb:s₁.heap.Ns builtinsNs mb) (hbb:∀x:Str,x≠"__name__"->mb x=bootBuiltins x) (hlim:s₁.heap.NoLimit) (hg:s₁.gens=#[])
  (ha:s₁.heap.get? a=some {cls:=.type "list",data:=.seq vs.toArray}) (hi:IntsAre vs ns) (hl:ns.length<=sizeLine) (hr:gU k callerA)
  (F:∀base:Heap,K.In base->base.Ns mainGlobals mg->pY P w K mg base CX k fa fd [x] sp) (hbind:∀(s:Shared) (u:Value),BindsTo s fd ⟨[u],[]⟩ [(x,u)])
  (hsp:∀H:Hp,HV H->bY K H a (ns.map V.int)->sp [.ref a] H (λv _=>v=.bl true) λ_ _ _=>False)
  (hCX:∀H e s',CX [] H s₁ (λ_ _ _=>False) e s'->False) :
  codeAny (model P w) callerA (.call (.ref fa) ⟨[.ref a],[]⟩) (λr s'=>r=.ok (.ret (.bool true))/\OldK s₁.heap s'.heap/\s'.os=s₁.os/\AllBare s'.gens) s₁:=by
 have rv:=xw hi
 have lenV:=hi.length
 have core:∀H:Hp,HV H->bY K H a (ns.map V.int)->oE P w H s₁.heap->(∀b,H b≠none->b=a)->(H a≠none->K.lookup a=none)->
   codeAny (model P w) callerA (.call (.ref fa) ⟨[.ref a],[]⟩) (λr s'=>r=.ok (.ret (.bool true))/\OldK s₁.heap s'.heap/\s'.os=s₁.os/\AllBare s'.gens) s₁:=by
  intro H hO hS hok hA hK
  have base_of:∀{b:Addr} {o:Obj},s₁.heap.get? b=some o->H b=none->(yc s₁.heap H).get? b=some o:=λe n=>Gh e n
  have noA:∀{b:Addr} {o:Obj} {es:Array DictEntry} {ep:Nat},s₁.heap.get? b=some o->o.data=.dict es ep->H b=none:=λ{b o es ep} e d=>by
   cases q:H b with
   |none=>rfl
   |some u=>
    have e':b=a:=hA b (by rw[q];simp)
    subst e'
    rw[ha] at e;cases e
    have d':Data.seq vs.toArray _=Data.dict es ep:=d
    cases d'
  have nsK:∀{b:Addr} {m:Str->Option Value},s₁.heap.Ns b m->(yc s₁.heap H).Ns b m:=λ{b m} ⟨o,es,ep,e,d,r⟩=>⟨o,es,ep,base_of e (noA e d),d,r⟩
  have hKb:K.In (yc s₁.heap H):=λb o e=>base_of (KX b o e) (by
   cases q:H b with
   |none=>rfl
   |some u=>
    have e':b=a:=hA b (by rw[q];simp)
    subst e'
    rw[hK (by rw[q];simp)] at e;cases e)
  have hM:Mod K mg (yc s₁.heap H):=⟨hKb,nsK hns,⟨mb,nsK hb,hbb⟩,let⟨mc,h1,h2⟩:=hlim;⟨mc,nsK h1,h2⟩⟩
  have e0:HM P w K mg (yc s₁.heap H) callerA [] s₁ H:=⟨rfl,hM,λb o e=>IP e,Nat.le_of_eq (Ez _ _),trivial,λb hb=>absurd (show b∈([]:List Addr) from hb) (by simp),hok,.of_eq hg⟩
  refine codeAny_mono ((F _ hKb (nsK hns)).run callerA [] s₁ H ⟨[.ref a],[]⟩ [.ref a] [.ref a] _ _ hr e0 (hbind s₁ (.ref a)) (.cons rfl .nil) (hsp H hO hS)) λr s' h=>?_
  cases r with
  |error e=>exact(hCX H e s' h).elim
  |ok fl=>
   cases fl with
   |next=>exact False.elim h
   |brk=>exact False.elim h
   |cont=>exact False.elim h
   |ret u=>
    obtain⟨v,H',os,bare,un,hok',r',q⟩:=h
    have q':v=.bl true:=q
    subst q'
    obtain rfl:u=Value.bool true:=r'
    refine⟨rfl,OldK.of_keep λb o e=>?_,os,bare⟩
    cases q:H b with
    |none=>exact un.keep b o e q (by intro z;exact absurd (show b∈([]:List Addr) from z) (by simp)) (by simp)
    |some u=>
     rcases hO b with z|⟨ob,xs,z⟩
     ·rw[q] at z;cases z
     ·have z2:=un.frzs b ob _ z
      obtain⟨e1,_⟩:=hok b _ z
      obtain⟨e2,_⟩:=hok' b _ z2
      rw[e] at e1;cases e1
      exact e2
 cases hk:K.lookup a with
 |some o=>
  have e:=KX a o hk
  rw[ha] at e
  cases e
  refine core (λ_=>none) (λ_=>.inl rfl) (.inr ⟨_,vs.toArray,_,hk,rfl,rfl,rfl,by rw[aA,lenV];exact hl,by simpa using rv⟩) (λb u z=>by have z':(none:Option HO)=some u:=z;cases z') (λb z=>absurd rfl z) λz=>absurd rfl z
 |none=>
  refine core (λb=>if b=a then some (.frz {cls:=.type "list",data:=.seq vs.toArray} (.lst (ns.map V.int))) else none) (λb=>?_) (.inl (.inr ⟨{cls:=.type "list",data:=.seq vs.toArray},if_pos rfl⟩)) (λb u z=>?_) (λb z=>?_) λ_=>hk
  ·by_cases hb:b=a
   ·exact .inr ⟨_,_,if_pos hb⟩
   ·exact .inl (if_neg hb)
  ·by_cases hb:b=a
   ·have z':=(if_pos hb).symm.trans z
    cases z'
    subst hb
    exact⟨ha,by rw[aa];exact hl,vs,_,rv,ha⟩
   ·have z':=(if_neg hb).symm.trans z
    cases z'
  ·by_cases hb:b=a
   ·exact hb
   ·exact absurd (if_neg hb) z
theorem walk_of{l:PySem.W.OpenLaw}{n k:Nat}{q:Program}{loose:List Str}{XP:(Str->Option Value)->Heap->Prop}{YP:World->Heap->Prop}{d:DefRec}{K:Params->Fg}{CX:World->Fw}{sp:World->Sp}{x:Str}
  (hn:l.most=some n) (hn2:n<=sizeLine) (hdf:d.params.defaults=[]) (hr:gU k callerA)
  (hY:∀(w:World) (h:Heap),YP w h->(K w.params).In h)
  (F:∀(w:World) (mg:Str->Option Value) (fa:Addr) (h:Heap),(K w.params).In h->h.Ns mainGlobals mg->mg d.name=some (.ref fa)->
   ∃fd:FuncData,(∀(s:Shared) (u:Value),BindsTo s fd ⟨[u],[]⟩ [(x,u)])/\
    ∀base:Heap,(K w.params).In base->base.Ns mainGlobals mg->pY l.prog w (K w.params) mg base (CX w) k fa fd [x] (sp w))
  (hsp:∀(w:World) (H:Hp) (a:Addr) (ns:List Int),ns.length<=n->HV H->bY (K w.params) H a (ns.map V.int)->sp w [.ref a] H (λv _=>v=.bl true) λ_ _ _=>False)
  (hCX:∀(w:World) (H:Hp) (s:Shared) (e:Value) (s':Shared),CX w [] H s (λ_ _ _=>False) e s'->False) :
  PySem.W.WalkO q loose XP YP l.row.toRowW d [] (λf vs=>sU f vs):=by
 refine Att.attach_call hn hdf λw s₀ s₁ mg mb fa o pm cd doc a vs ns G Y ho hd hcd hmg hobj hints hlen hg=>?_
 have KX:=hY w _ Y
 obtain⟨fd,hb,hF⟩:=F w mg fa _ KX G.T.g hmg
 exact Gv KX G.T.g G.T.b G.T.builtins G.T.nolimit hg hobj hints (bS hlen hn2) hr hF hb (λH hO hS=>hsp w H a ns hlen hO hS) λH e s'=>hCX w H s₁ e s'
def gy(s:Stmt):Arguments:=match s with
 |.FunctionDef _ a _ _ _ _ _ _ _ _=>a
 |_=>{posonlyargs:=[],args:=[],vararg:=none,kwonlyargs:=[],kw_defaults:=[],kwarg:=none,defaults:=[]}
def e9(s:Stmt):List Stmt:=match s with
 |.FunctionDef _ _ b _ _ _ _ _ _ _=>b
 |_=>[]
def b8(s:Stmt):Scope:=match s with
 |.FunctionDef _ _ _ _ _ _ sc _ _ _=>sc
 |_=>{kind:=.function,names:=[],isGenerator:=false,isCoroutine:=false}
abbrev C1:Fw:=λ_ _ _ _ _ _=>False
abbrev E0:XK:=λ_ _ _=>False
theorem Kd{X:Cx}:By C1 X E0:=λ_ _ _ _ _ _ _ h=>h.elim
structure Mn(K:Fg)(x qual:Str)(st:Stmt)(f:Addr)(fd:FuncData):Prop where
 ex:∃(oc:Value) (od:Option Addr) (kV doc pm:Value) (an:Option Addr) (cdv ct:Value) (osl:Array (Option Value)),
  fd=cW x qual (gy st) (e9 st) (b8 st) .none kV doc pm an cdv ct/\K.lookup f=some ⟨oc,od,.func fd,osl⟩/\eD K cdv qual=true
 kp:dy K (.ref f)=true
section
variable{P:Program}{w:World}{K:Fg}{mg:Str->Option Value}{base:Heap}
theorem Mn.ok{x qual:Str}{st:Stmt}{f:Addr}{fd:FuncData}{N ps:List Str}{k:Nat}{sp:Sp}(F:Mn K x qual st f fd)(S:mD N ps (b8 st))(len:∀vs H Q E,sp vs H Q E->vs.length=ps.length)
  (hbody:∀(cdv:Value) (A:Around) (outer:List Env) (s:Shared) (H:Hp) (vs:List V) (Q:VK) (E:XK),gU k (A.deeper (envOfC qual (b8 st) s.heap.objs.size f cdv))->sp vs H Q E->
   ∃t,Bf (xX C1 P w K mg base N qual (b8 st) f cdv A outer s H E).nox (e9 st) t/\t {nx:=λ_ H'=>Q .non H',rt:=Q} (cC N vs) H):pY P w K mg base C1 (k+1) f fd ps sp:=by
 obtain⟨oc,od,kV,doc,pm,an,cdv,ct,osl,rfl,lk,hcd⟩:=F.ex
 refine J8 lk hcd S len λA outer s H vs Q E hr hsp=>?_
 obtain⟨t,h,q⟩:=hbody cdv A outer s H vs Q E hr hsp
 exact⟨t,h.nox,q⟩
theorem Mn.binds{x qual:Str}{st:Stmt}{f:Addr}{fd:FuncData}{ps:List Str}(F:Mn K x qual st f fd)
  (h:∀(kV doc pm:Value) (an:Option Addr) (cdv ct:Value) (us:List Value),us.length=ps.length->bindArgs (cW x qual (gy st) (e9 st) (b8 st) .none kV doc pm an cdv ct) ⟨us,[]⟩=pure (ps.zip us)):qO K fd ps []:=by
 obtain⟨oc,od,kV,doc,pm,an,cdv,ct,osl,rfl,lk,hcd⟩:=F.ex
 exact .all (h kV doc pm an cdv ct)
theorem Gd{x qual:Str}{st:Stmt}{f:Addr}{oc:Value}{od an:Option Addr}{osl:Array (Option Value)}{kV doc pm cdv ct:Value}(l:K.lookup f=some ⟨oc,od,.func (cW x qual (gy st) (e9 st) (b8 st) .none kV doc pm an cdv ct),osl⟩)
  (c:eD K cdv qual=true) (k:dy K (.ref f)=true):Mn K x qual st f (cW x qual (gy st) (e9 st) (b8 st) .none kV doc pm an cdv ct):=⟨⟨oc,od,kV,doc,pm,an,cdv,ct,osl,rfl,l,c⟩,k⟩
end
theorem MD{A:Around}{k:Nat}(hr:gU k A):A.units+1<cLine:=Nat.lt_of_le_of_lt (Nat.add_le_add_left (by decide:1<=64) _) hr.units
section
variable{X:Cx}
theorem pv(i:Nat){x:Str}{pos:Pos}(hN:X.N[i]?=some x:=by rfl)(hv:Ny X.env.scope x:=by first|exact Or.inl rfl|exact Or.inr (Or.inl rfl)|exact Or.inr (Or.inr rfl))(hd:(x==("__debug__":Str))=false:=by decide)
  (hcd:(x==("__classdict__":Str))=false:=by decide):PE X (.Name x pos) (aj i):=LA hN hv hd hcd
end
theorem ij{A B:Prop}(h:B):if false=true then A else B:=by
 rw[if_neg Bool.false_ne_true]
 exact h
theorem qm{A B:Prop}(h:A):if true=true then A else B:=by
 rw[if_pos rfl]
 exact h
def aH(H H':Hp):Prop:=∀b o,H b=some o->H' b=some o
theorem aH.refl(H:Hp):aH H H:=λ_ _ h=>h
theorem aH.trans{H H1 H2:Hp}(a:aH H H1)(b:aH H1 H2):aH H H2:=λc o h=>b c o (a c o h)
theorem aH.free{H H':Hp}(e:aH H H'){l:Addr}(h:H' l=Option.none):H l=Option.none:=by
 cases q:H l with
 |none=>rfl
 |some o=>
  rw[e l o q] at h
  cases h
section
variable{prog:Program}{w:World}{A:Around}{R:Result->Shared->Prop}{s:Shared}
theorem xT{elt target iter:Expr}{ifs:List Expr}{scope:Scope}{pos:Pos}{it acc:Value}{env:Env}(I:Nat->Shared->Prop)
  (turn:∀n s,I n s->wpAny (model prog w) A (pyNext it) (λr s₁=>match r with
   |none=>R (.ok .next) s₁
   |some v=>wpAny (model prog w) A (letOwnedTupleGo target it v) (λ_ s₁=>wpAny (model prog w) A (assign target env v) (λ_ s₂=>
     wpAny (model prog w) A (forIn ifs true λc r=>if r=true then do let ok <-isTrue c env (eval c env);pure (ForInStep.yield ok) else pure (ForInStep.yield r)) (λok s₃=>
      if ok=true then wpAny (model prog w) A (eval elt env) (λx s₄=>
       wpAny (model prog w) A (call (.builtin "list.append") [acc,x]) (λ_ s₅=>∃m,m<n/\I m s₅) (λ_ _=>False) s₄) (λ_ _=>False) s₃
      else ∃m,m<n/\I m s₃) (λ_ _=>False) s₂) (λ_ _=>False) s₁) (λ_ _=>False) s₁) (λ_ _=>False) s)
  (n:Nat) (h:I n s) :
  codeAny (model prog w) A (.compLoop (.ListComp elt [⟨target,iter,ifs,0⟩] scope pos) 0 it acc env) R s:=by
 refine codeAny_loop rfl I (λn s hI=>?_) n h
 show wpAny _ A ((compTurn (.ListComp elt [⟨target,iter,ifs,0⟩] scope pos) 0 it acc env).onRaise (λx=>do noteFrame x env;theTreesLotGoes x)) _ _ s
 refine wpAny_noted ?_
 rw[compTurn_list]
 refine wpAny_bind (wpAny_standAt (wpAny_bind (wpAny_mono (turn n s hI) (λr s₁ h₁=>?_) λ_ _ h'=>h'.elim)))
 cases r with
 |none=>exact wpAny_pure h₁
 |some v=>
  refine wpAny_bind (wpAny_mono h₁ (λ_ s₁' h₁'=>?_) λ_ _ h'=>h'.elim)
  refine wpAny_bind (wpAny_mono h₁' (λ_ s₂ h₂=>wpAny_bind (wpAny_mono h₂ (λok s₃ h₃=>?_) λ_ _ h'=>h'.elim)) λ_ _ h'=>h'.elim)
  cases ok with
  |false=>exact wpAny_pure ⟨rfl,h₃⟩
  |true=>
   exact wpAny_bind (wpAny_bind (wpAny_mono h₃ (λx s₄ h₄=>wpAny_bind (wpAny_mono h₄ (λ_ s₅ h₅=>wpAny_pure (wpAny_pure ⟨rfl,h₅⟩)) λ_ _ h'=>h'.elim)) λ_ _ h'=>h'.elim))
end
theorem nV{env:Env}{f:Str×NameKind->List (Str×Addr)->Sem (ForInStep (List (Str×Addr)))}
  (hf:∀n k cs,f (n,k) cs=if(k==NameKind.free)=true then(do let c <-cellOf env n;pure (.yield ((n,c)::cs))) else pure (.yield cs)) :
  ∀(names:List (Str×NameKind)) (cs:List (Str×Addr)),(∀x∈names,x.2=NameKind.free->∃c,env.cells.lookup x.1=some c)->(∀n c,cs.lookup n=some c->env.cells.lookup n=some c)->
   ∃cl,(forIn names cs f:Sem (List (Str×Addr)))=pure cl/\(∀n c,cl.lookup n=some c->env.cells.lookup n=some c)/\(∀n,(cs.lookup n).isSome=true->(cl.lookup n).isSome=true)/\∀x∈names,x.2=NameKind.free->(cl.lookup x.1).isSome=true
 |[],cs,_,h2=>⟨cs,rfl,h2,λ_ h=>h,λ_ h=>nomatch h⟩
 |(n,k)::r,cs,h1,h2=>by
  have h1r:∀x∈r,x.2=NameKind.free->∃c,env.cells.lookup x.1=some c:=λx hx=>h1 x (bF _ hx)
  rw[gx,hf]
  by_cases hk:k=NameKind.free
  ·subst hk
   obtain⟨c,hc⟩:=h1 (n,NameKind.free) bw rfl
   have h2':∀m d,((n,c)::cs).lookup m=some d->env.cells.lookup m=some d:=λm d hd=>by
    rw[cL] at hd
    cases e:(m==n) with
    |true=>
     rw[e] at hd
     have:m=n:=by simpa using e
     rw[this];cases hd;exact hc
    |false=>rw[e] at hd;exact h2 m d hd
   obtain⟨cl,e1,e2,e3,e4⟩:=nV hf r ((n,c)::cs) h1r h2'
   refine⟨cl,?_,e2,λm hm=>e3 m ?_,λx hx hk=>?_⟩
   ·rw[<-e1]
    have ec:cellOf env n=pure c:=by unfold cellOf;rw[hc]
    rw[ec]
    rfl
   ·rw[cL]
    cases e:(m==n) with
    |true=>rfl
    |false=>exact hm
   ·rcases aQ.mp hx with rfl|hx
    ·exact e3 n (by rw[cL,beq_self_eq_true];rfl)
    ·exact e4 x hx hk
  ·have hb:(k==NameKind.free)=false:=by simpa using hk
   obtain⟨cl,e1,e2,e3,e4⟩:=nV hf r cs h1r h2
   refine⟨cl,?_,e2,e3,λx hx hk'=>?_⟩
   ·rw[<-e1,hb]
    rfl
   ·rcases aQ.mp hx with rfl|hx
    ·exact absurd hk' hk
    ·exact e4 x hx hk'
theorem tP{scope:Scope}{env:Env}(h1:∀x∈scope.names,x.2=NameKind.free->∃c,env.cells.lookup x.1=some c) :
  ∃cl,closureFor scope env=pure cl/\(∀n c,cl.lookup n=some c->env.cells.lookup n=some c)/\∀x∈scope.names,x.2=NameKind.free->(cl.lookup x.1).isSome=true:=by
 obtain⟨cl,e1,e2,_,e4⟩:=nV (env:=env) (f:=λ(x:Str×NameKind) cs=>if(x.2==NameKind.free)=true then(do let c <-cellOf env x.1;pure (.yield ((x.1,c)::cs))) else pure (.yield cs)) (λ_ _ _=>rfl) scope.names [] h1 (λ_ _ h=>nomatch h)
 refine⟨cl,Eq.trans (show closureFor scope env=((forIn scope.names ([]:List (Str×Addr)) λ(x:Str×NameKind) cs=>if(x.2==NameKind.free)=true then(do let c <-cellOf env x.1;pure (.yield ((x.1,c)::cs))) else pure (.yield cs)) >>= λcs=>pure cs) from rfl) ?_,e2,e4⟩
 rw[e1]
 all_goals rfl
theorem hV{env:Env}{x:Str}:∀(names:List (Str×NameKind)),
  (names.map λ(n,k)=>if(k==NameKind.free&&env.scope.kind==.function&&env.kindOf n==some .cell) then(n,NameKind.cell) else(n,k)).lookup x =
   (names.lookup x).map λk=>if(k==NameKind.free&&env.scope.kind==.function&&env.kindOf x==some .cell) then NameKind.cell else k
 |[]=>rfl
 |(n,k)::r=>by
  have ih:=hV (env:=env) (x:=x) r
  show qN x ((if(k==NameKind.free&&env.scope.kind==.function&&env.kindOf n==some .cell)=true then(n,NameKind.cell) else(n,k))::_)=_
  cases hx:x==n with
  |true=>
   have e:x=n:=by simpa using hx
   subst e
   by_cases hc:(k==NameKind.free&&env.scope.kind==.function&&env.kindOf x==some .cell)=true
   ·rw[if_pos hc];simp only[cL,hx,bV,if_pos hc]
   ·rw[if_neg hc];simp only[cL,hx,bV,if_neg hc]
  |false=>
   by_cases hc:(k==NameKind.free&&env.scope.kind==.function&&env.kindOf n==some .cell)=true
   ·rw[if_pos hc];simp only[cL,hx];exact ih
   ·rw[if_neg hc];simp only[cL,hx];exact ih
theorem G5{scope:Scope}{env:Env}{x:Str}(hcell:∀y∈scope.names,y.2≠NameKind.cell)(h:(relabel scope env).names.lookup x=some .cell\/(relabel scope env).names.lookup x=some .free):scope.names.lookup x=some .free:=by
 have e:(relabel scope env).names.lookup x=_:=hV (env:=env) (x:=x) scope.names
 rw[e] at h
 cases q:scope.names.lookup x with
 |none=>rw[q] at h;rcases h with h|h<;>cases h
 |some k=>
  rw[q] at h
  by_cases hk:k=NameKind.free
  ·rw[hk]
  ·have hb:(k==NameKind.free)=false:=by simpa using hk
   simp only[bV,hb,Bool.false_and,Bool.false_eq_true,if_false] at h
   rcases h with h|h
   ·cases h;exact absurd rfl (hcell _ (cQ q))
   ·exact h
theorem JM{scope:Scope}{env:Env}{x:Str}(h:(relabel scope env).names.lookup x≠none):scope.names.lookup x≠none:=by
 have e:(relabel scope env).names.lookup x=_:=hV (env:=env) (x:=x) scope.names
 intro q
 rw[e,q] at h
 exact h rfl
structure iN(sc:Scope)(N:List Str)(scope:Scope)(NY:List Str)(js:List Nat):Prop where
 kind:scope.kind=.function
 cell:∀y∈scope.names,y.2≠NameKind.cell
 names:∀x∈scope.names,x.2=NameKind.local->scope.names.lookup x.1=some .local
 free:∀x∈scope.names,x.2=NameKind.free->sc.names.lookup x.1=some .cell\/sc.names.lookup x.1=some .free
 pre:NY.take N.length=N
 cap:∀p∈N.zipIdx,js.contains p.2=true\/scope.names.lookup p.1=none\/scope.names.lookup p.1=some .free
def Bh(js:List Nat)(k:Nat)(σ:St):St:=js.foldl (λs j=>s.set j none) σ++ax k none
theorem mF:∀(js:List Nat) (σ:St),(js.foldl (λs j=>s.set j none) σ).length=σ.length
 |[],_=>rfl
 |j::r,σ=>by rw[eR,mF r,dc]
theorem we:∀(js:List Nat) (σ:St) (i:Nat) (v:V),(js.foldl (λs j=>s.set j none) σ)[i]?=some (some v)->σ[i]?=some (some v)/\js.contains i=false
 |[],σ,i,v,h=>⟨h,rfl⟩
 |j::r,σ,i,v,h=>by
  rw[eR] at h
  obtain⟨h1,h2⟩:=we r _ i v h
  by_cases e:j=i
  ·subst e
   by_cases hj:j<σ.length
   ·rw[aY hj] at h1;cases h1
   ·rw[eM (by rw[dc];lia)] at h1;cases h1
  ·rw[bz e] at h1
   refine⟨h1,?_⟩
   rw[List.contains_cons,h2]
   have:(i==j)=false:=by simpa using λz=>e z.symm
   rw[this];rfl
theorem Iu{js:List Nat}{k:Nat}{σ:St}{i:Nat}{v:V}(h:(Bh js k σ)[i]?=some (some v)):σ[i]?=some (some v)/\js.contains i=false:=by
 unfold Bh at h
 by_cases hi:i<σ.length
 ·rw[aS (by rw[mF];exact hi)] at h
  exact we js σ i v h
 ·rw[aI (by rw[mF];lia),List.getElem?_replicate] at h
  split at h<;>cases h
theorem Iv{js:List Nat}{k:Nat}{σ:St}:(Bh js k σ).length=σ.length+k:=by
 unfold Bh
 rw[aq,mF,aU]
def cA(X:Cx)(NY:List Str)(scope:Scope)(cl:List (Str×Addr))(C:Addr)(s₀:Shared)(H₀:Hp)(fp:List Addr):Cx:=
 {X with N:=NY,s₀:=s₀,H₀:=H₀,env:=compEnvC scope cl C X.env,outer:=X.stack,ex:=fp,fn:=λ_=>false,pn:=[],xe:=λ_ _=>False}
def D5(X:Cx)(ifs:List Expr)(t:TT):Prop:=
 ∀(pins:List (Addr×Obj)) (s:Shared) (σ:St) (H:Hp) (Q:Bool->Hp->Prop),bT X pins σ H s->t σ H Q->
  wpAny (model X.prog X.w) X.A (forIn ifs true λc r=>if r=true then do let ok <-isTrue c X.env (eval c X.env);pure (ForInStep.yield ok) else pure (ForInStep.yield r)) (TP X pins σ Q) X.xe s
def gw:TT:=λ_ H Q=>Q true H
theorem Ji{X:Cx}:D5 X [] gw:=λ_ _ _ H _ I h=>wpAny_tests_nil ⟨H,I,h⟩
theorem Jj{X:Cx}{c:Expr}{t:TT}(h:PT X c t):D5 X [c] t:=λpins s σ H Q I q=>wpAny_tests_one (h pins s σ H Q I q)
def pe(D:Addr)(tc:TT)(te:TE):TS:=λE σ H=>tc σ H λb H1=>if b=true then te σ H1 λy H2=>∃ys,H2 D=some (.lst ys)/\ys.length<sizeLine/\E.nx σ (upd H2 D (.lst (ys++[y]))) else E.nx σ H1
def dC(js:List Nat)(k:Nat)(wi:TI)(g:TG)(tc:TT)(te:TE):TE:=λσ H Q=>wi σ H λJ H1=>∀D,H1 D=none->
 ∃W:Nat->Nat->St->Hp->Prop,(∃m,W 0 m (Bh js k σ) (upd H1 D (.lst [])))/\∀i m σ H,W i m σ H->
  (J.stop i H/\Q (.ref D) H)\/(J.go i H/\∃N:St->Hp->Prop,(∀σ' H',N σ' H'->∃m',m'<m/\W (i+1) m' σ' H')/\∀x H',J.yld i H x H'->g x σ H' λσ2 H2=>pe D tc te {nx:=N,rt:=λ_ _=>False,ct:=N,bk:=λ_ H'=>Q (.ref D) H'} σ2 H2)
section
variable{X:Cx}{pins:List (Addr×Obj)}{σ:St}{H2:Hp}{s₂:Shared}{N NY:List Str}{sc scope:Scope}{cl:List (Str×Addr)}{C:Addr}{fp:List Addr}{js:List Nat}{k:Nat}
theorem Il(I2:bT X pins σ H2 s₂)(hf:∀b∈fp,nO X pins H2 b)(hfl:∀b∈fp,∃o,s₂.heap.get? b=some o)(hkind:scope.kind=.function)(hcell:∀y∈scope.names,y.2≠NameKind.cell)
  (hcl1:∀n c,cl.lookup n=some c->X.env.cells.lookup n=some c) (hcl2:∀x∈scope.names,x.2=NameKind.free->(cl.lookup x.1).isSome=true) (hC:s₂.heap.objs.size<=C) :
  (cA X NY scope cl C s₂ H2 fp).Ok where
 mod:=I2.ok.mod
 kind:=hkind
 glob:=I2.ok.glob
 blt:=I2.ok.blt
 above:=hC
 inj:=λx y c h1 h2=>I2.ok.inj x y c (hcl1 x c h1) (hcl1 y c h2)
 has:=λx hx=>by
  have e:scope.names.lookup x=some .free:=G5 (env:=X.env) hcell hx
  exact eZ.mp (hcl2 (x,.free) (cQ e) rfl)
 cab:=λ_ _ h _=>nomatch h
 hd:=I2.ok.hd
 frames:=I2.ok.frames
 stk:=.inl rfl
 exf:=λb hb=>by
  obtain⟨o,ho⟩:=hfl b hb
  exact⟨aZ (bA (aJ ho) hC),λx c h=>(hf b hb).2.2.2.2.1 x c (hcl1 x c h)⟩
 bs:=I2.bs
 bsz:=bS I2.ok.bsz I2.sz
 noex:=λb o e hb=>by
  rcases(hf b hb).2.2.2.1 with z|z
  ·exact I2.ok.noex b o e z
  ·exact absurd (bA (aJ e) (bS I2.ok.bsz z)) (dq _)
 exfs:=λb hb z=>by
  rcases aQ.mp (I2.stkSub b z) with e|e
  ·exact(hf b hb).2.1 e
  ·exact(hf b hb).2.2.1 e
 funs:=I2.stack
 frf:=I2.stkFree
variable{elt iter target:Expr}{ifs:List Expr}{pos:Pos}{it:Addr}{tn:Nat->Heap->Prop}{J:It}{g:TG}{tc:TT}{te:TE}{Q:VK}{RR:Value->Addr->Result->Shared->Prop}{E:Value->Shared->Prop}
theorem tR(ok:iN sc N scope NY js)(hsc:X.env.scope=sc)(hN:X.N=N)(hk:NY.length=N.length+k)(hc:X.calm=true)(I2:bT X pins σ H2 s₂)(T:vp X.prog X.w X.K target J fp it tn)(st2:tn 0 s₂.heap)(f2:∀b∈fp,nO X pins H2 b)
  (hcl1:∀n c,cl.lookup n=some c->X.env.cells.lookup n=some c) (hcl2:∀x∈scope.names,x.2=NameKind.free->(cl.lookup x.1).isSome=true)
  (hg:∀cl C s₀ H₀ fp,PG (cA X NY scope cl C s₀ H₀ fp) target g) (hi:∀cl C s₀ H₀ fp,D5 (cA X NY scope cl C s₀ H₀ fp) ifs tc) (he:∀cl C s₀ H₀ fp,PE (cA X NY scope cl C s₀ H₀ fp) elt te)
  (loop:∀D,H2 D=none->
   ∃W:Nat->Nat->St->Hp->Prop,(∃m,W 0 m (Bh js k σ) (upd H2 D (.lst [])))/\∀i m σ H,W i m σ H->
    (J.stop i H/\Q (.ref D) H)\/(J.go i H/\∃N:St->Hp->Prop,(∀σ' H',N σ' H'->∃m',m'<m/\W (i+1) m' σ' H')/\∀x H',J.yld i H x H'->g x σ H' λσ2 H2=>pe D tc te {nx:=N,rt:=λ_ _=>False,ct:=N,bk:=λ_ H'=>Q (.ref D) H'} σ2 H2))
  (hRR:∀D C H' s' m,s'.heap.Ns C m->bT X pins σ H' s'->H' C=none->C≠X.env.locals->X.s₀.heap.objs.size<=C->(∀x c,X.env.cells.lookup x=some c->c≠C)->(∀p∈X.pn++pins,p.1≠C)->D≠C->Q (.ref D) H'->RR (.ref D) C (.ok .next) s') :
  wpAny (model X.prog X.w) X.A (newList []) (λacc s₃=>wpAny (model X.prog X.w) X.A (newFunctionEnv scope X.env.globals cl [] X.env.qual none .none (some X.env)) (λcenv s₄=>
   codeAny (model X.prog X.w) X.A (.compStart (.ListComp elt [⟨target,iter,ifs,0⟩] scope pos) 0 (.ref it) acc {cenv with scope:=relabel scope X.env}) (RR acc cenv.locals) s₄) E s₃) E s₂:=by
 refine wpAny_newObj_type (wpAny_newFunctionEnv ok.cell (by intro y hy;simp at hy) (λh₁ hns₁ hsb₁=>?_) ok.kind)
 dsimp only at hns₁ hsb₁ ⊢
 generalize hG:s₂.heap.push {cls:=.type "list",dict:=none,data:=.seq ([]:List Value).toArray}=G at hns₁ hsb₁ ⊢
 have hC:G.objs.size=s₂.heap.objs.size+1:=by rw[<-hG,fb]
 have hDC:s₂.heap.objs.size≠G.objs.size:=by rw[hC];exact aZ (Nat.lt_succ_self _)
 have hCle:s₂.heap.objs.size<=G.objs.size:=by rw[hC];exact Nat.le_succ _
 have below:∀b,b<s₂.heap.objs.size->b≠G.objs.size:=λb hb=>by rw[hC];exact aZ (Nat.lt_succ_of_lt hb)
 have old:∀b o,s₂.heap.get? b=some o->h₁.get? b=some o:=λb o e=>hsb₁.extBut b o (below b (aJ e)) (av _ (hG ▸ av _ e))
 have hacc:h₁.get? s₂.heap.objs.size=some {cls:=.type "list",dict:=none,data:=.seq ([]:List Value).toArray}:=hsb₁.extBut _ _ hDC (av _ (hG ▸ aM _ rfl))
 have hfl:∀b∈fp,∃o,s₂.heap.get? b=some o:=λb hb=>let⟨o,ho,_⟩:=T.obj 0 _ st2 b hb;⟨o,ho⟩
 have fD:H2 s₂.heap.objs.size=none:=I2.hok.fresh (ay _)
 have fC:H2 G.objs.size=none:=I2.hok.fresh hCle
 have I4:bT (cA X NY scope cl G.objs.size s₂ H2 fp) [] (Bh js k σ) (upd H2 s₂.heap.objs.size (.lst [])) {s₂ with heap:=h₁,toks:=s₂.toks+([]:List (Str×Value)).length}:=by
  refine⟨Il I2 f2 hfl ok.kind ok.cell hcl1 hcl2 hCle,rfl,I2.bare,Un.laid old (ay _) fD,⟨_,hns₁,λi y v h1 h2 h3=>?_⟩,λx c h=>?_,?_,λx c h=>?_,λp hp=>absurd (show p∈([]:List (Addr×Obj)) from hp) (by simp),I2.hok.laid old (ay _) ⟨bQ _,[],0,.nil,hacc⟩,?_⟩
  ·obtain⟨e1,e2⟩:=Iu h2
   have hi:i<N.length:=by
    have:=(ae.mp e1).1
    rw[I2.len,hN] at this;exact this
   have hy:N[i]?=some y:=by
    rw[<-ok.pre,List.getElem?_take_of_lt hi];exact h1
   have hz:(y,i)∈N.zipIdx:=by
    rw[List.mem_zipIdx_iff_getElem?];exact hy
   have nn:scope.names.lookup y≠none:=JM (env:=X.env) (x:=y) (by
    rcases h3 with z|z|z
    ·intro q;rw[show(relabel scope X.env).names.lookup y=_ from z] at q;cases q
    ·intro q;rw[show(relabel scope X.env).names.lookup y=_ from z] at q;cases q
    ·intro q;rw[show(relabel scope X.env).names.lookup y=_ from z] at q;cases q)
   have hfr:scope.names.lookup y=some .free:=by
    rcases ok.cap (y,i) hz with z|z|z
    ·rw[e2] at z;cases z
    ·exact absurd z nn
    ·exact z
   have hX:=ok.free (y,.free) (cQ hfr) rfl
   rw[<-hsc] at hX
   obtain⟨m,hn,hl⟩:=I2.loc
   obtain⟨u,ru,lk⟩:=hl i y v (by rw[hN];exact hy) e1 (by
    rcases hX with z|z
    ·exact .inr (.inl z)
    ·exact .inr (.inr z))
   refine⟨u,ru,?_⟩
   rcases lk with⟨lk,_⟩|⟨_,c,hc1,hc2⟩
   ·have lk:X.env.scope.names.lookup y=some .local:=lk
    rcases hX with z|z<;>· rw[z] at lk;cases lk
   ·have hs:=hcl2 (y,.free) (cQ hfr) rfl
    obtain⟨c',hc'⟩:=eZ.mp hs
    have e3:=hcl1 y c' hc'
    rw[hc1] at e3;cases e3
    refine .inr ⟨?_,c,hc',hc2.keeps old⟩
    show(relabel scope X.env).names.lookup y=some .cell\/(relabel scope X.env).names.lookup y=some .free
    have e:(relabel scope X.env).names.lookup y=_:=hV (env:=X.env) (x:=y) scope.names
    rw[e,hfr,bV]
    split
    ·exact .inl rfl
    ·exact .inr rfl
  ·obtain⟨v,q⟩:=I2.cell x c (hcl1 x c h)
   exact⟨v,q.keeps old⟩
  ·show upd H2 s₂.heap.objs.size (.lst []) G.objs.size=none
   rw[aF (Ne.symm hDC)];exact fC
  ·have q:=I2.freeC x c (hcl1 x c h)
   obtain⟨v,o,ho,_⟩:=I2.cell x c (hcl1 x c h)
   show upd H2 s₂.heap.objs.size (.lst []) c=none
   rw[aF (aZ (aJ ho))];exact q
  ·show(Bh js k σ).length=NY.length
   rw[Iv,I2.len,hN,hk]
 have st4:tn 0 h₁:=T.keep _ _ _ st2 λb _ o e=>old b o e
 obtain⟨W,⟨m0,w0⟩,turn⟩:=loop s₂.heap.objs.size fD
 have stat:∀{H':Hp},(∀b∈fp,H' b=none)->∀b∈fp,nO (cA X NY scope cl G.objs.size s₂ H2 fp) [] H' b:=λhn b hb=>by
  obtain⟨o,ho⟩:=hfl b hb
  refine⟨hn b hb,below b (aJ ho),λz=>?_,.inl hb,λx c h=>(f2 b hb).2.2.2.2.1 x c (hcl1 x c h),λp hp=>absurd (show p∈([]:List (Addr×Obj)) from hp) (by simp)⟩
  rcases aQ.mp (I2.stkSub b z) with e|e
  ·exact(f2 b hb).2.1 e
  ·exact(f2 b hb).2.2.1 e
 have go:∀s₄:Shared,s₄={s₂ with heap:=h₁,toks:=s₂.toks+([]:List (Str×Value)).length}->
   codeAny (model X.prog X.w) X.A (.compLoop (.ListComp elt [⟨target,iter,ifs,0⟩] scope pos) 0 (.ref it) (.ref s₂.heap.objs.size) (compEnvC scope cl G.objs.size X.env)) (RR (.ref s₂.heap.objs.size) G.objs.size) s₄:=by
  rintro s₄ rfl
  refine xT (λn s'=>∃i σ' H',bT (cA X NY scope cl G.objs.size s₂ H2 fp) [] σ' H' s'/\tn i s'.heap/\(∀b∈fp,H' b=none)/\W i n σ' H') ?_ m0
   ⟨0,_,_,I4,st4,λb hb=>by
    obtain⟨o,ho⟩:=hfl b hb
    rw[aF (aZ (aJ ho))];exact(f2 b hb).1,w0⟩
  rintro n s3 ⟨i,σ3,H3,I3,st3,fr3,w3⟩
  rcases turn i n σ3 H3 w3 with⟨stop,qn⟩|⟨go,Nx,hNx,step⟩
  ·refine fE (T.done (cA X NY scope cl G.objs.size s₂ H2 fp) rfl rfl rfl hc i [] s3 σ3 H3 _ I3 (stat fr3) st3 stop) λr s5 ⟨hr,I5⟩=>?_
   subst hr
   have IX:bT X pins σ H3 s5:=I2.call' (ch:=fp) I5.os I5.base I5.hok I5.bare λb hb=>⟨(f2 b hb).2.2.2.1,(f2 b hb).2.1,(f2 b hb).2.2.2.2.1,(f2 b hb).2.2.2.2.2⟩
   obtain⟨m,hm,_⟩:=I5.loc
   refine hRR _ _ H3 s5 m hm IX I5.free (λz=>?_) (bS I2.sz hCle) (λx c h z=>?_) (λp hp z=>?_) hDC qn
   ·have:=I2.lt;rw[<-z] at this;exact dq _ (bA this hCle)
   ·obtain⟨v,o,ho,_⟩:=I2.cell x c h
    have:=aJ ho;rw[z] at this;exact dq _ (bA this hCle)
   ·have:=aJ (I2.pin p hp).1;rw[z] at this;exact dq _ (bA this hCle)
  ·refine fE (T.item (cA X NY scope cl G.objs.size s₂ H2 fp) rfl rfl rfl hc i [] s3 σ3 H3 _ I3 (stat fr3) st3 go) λr s5 ⟨u,hr,h5⟩=>?_
   subst hr
   refine fE h5 λ_ s6 ⟨x,H6,I6,r6,y6,st6,fr6⟩=>?_
   have I6':=I6.pinned (stat fr6) (T.obj _ _ st6)
   have again:∀{σ7:St} {H7:Hp} {s7:Shared},bT (cA X NY scope cl G.objs.size s₂ H2 fp) ([]++ue fp s6.heap) σ7 H7 s7->Nx σ7 H7->∃m,m<n/\∃i σ' H',bT (cA X NY scope cl G.objs.size s₂ H2 fp) [] σ' H' s7/\tn i s7.heap/\(∀b∈fp,H' b=none)/\W i m σ' H':=λ{σ7 H7 s7} I7 n7=>by
    obtain⟨m',hm,w7⟩:=hNx σ7 H7 n7
    refine⟨m',hm,i+1,σ7,H7,I7.unpinned,T.keep _ _ _ st6 λb hb o e=>(I7.pin (b,o) (bq _ (bq _ (kI hb e)))).1,λb hb=>?_,w7⟩
    obtain⟨o,e,d⟩:=T.obj _ _ st6 b hb
    exact(I7.pin (b,o) (bq _ (bq _ (kI hb e)))).2.1
   refine fE (hg cl G.objs.size s₂ H2 fp _ s6 σ3 H6 x u _ I6' r6 (step x H6 y6)) λ_ s7 ⟨σ7,H7,I7,q7⟩=>?_
   refine fE (hi cl G.objs.size s₂ H2 fp _ s7 σ7 H7 _ I7 q7) λok s8 ⟨H8,I8,q8⟩=>?_
   cases ok with
   |false=>
    rw[if_neg Bool.false_ne_true] at q8 ⊢
    exact again I8 q8
   |true=>
    rw[if_pos rfl] at q8 ⊢
    refine fE (he cl G.objs.size s₂ H2 fp _ s8 σ7 H8 _ I8 q8) λy s9 ⟨z,H9,I9,r9,ys,hD,hz,n9⟩=>?_
    refine fE (wA (X:=cA X NY scope cl G.objs.size s₂ H2 fp) _ s9 σ7 H9 (.ref s₂.heap.objs.size) [z] (.ref s₂.heap.objs.size) [y] (λ_ H'=>H'=upd H9 s₂.heap.objs.size (.lst (ys++[z]))) I9 rfl (.cons r9 .nil) ⟨_,ys,z,rfl,rfl,hD,hz,rfl⟩) λ_ s10 ⟨_,H10,I10,_,q10⟩=>?_
    subst q10
    exact again I10 n9
 exact codeAny_compStart_list (go _ rfl) (T.self _ 0 _ _ _ st4 (go _ rfl))
theorem IZ{wi:TI}(ok:iN sc N scope NY js)(hsc:X.env.scope=sc)(hN:X.N=N)(hk:NY.length=N.length+k)(hc:X.calm=true)(hit:PI X target iter wi)
  (hg:∀cl C s₀ H₀ fp,PG (cA X NY scope cl C s₀ H₀ fp) target g) (hi:∀cl C s₀ H₀ fp,D5 (cA X NY scope cl C s₀ H₀ fp) ifs tc) (he:∀cl C s₀ H₀ fp,PE (cA X NY scope cl C s₀ H₀ fp) elt te)
  (hs:∀x,foldedSetIterable iter X.env x=pure x:=by intro _;rfl):PE X (.ListComp elt [⟨target,iter,ifs,0⟩] scope pos) (dC js k wi g tc te):=by
 intro pins s σ H Q I h
 obtain⟨cl,hclos,hcl1,hcl2⟩:=tP (scope:=scope) (env:=X.env) λx hx hf=>I.ok.has x.1 (by
  have:=ok.free x hx hf
  rw[<-hsc] at this
  exact this)
 rw[eval_ListComp]
 refine wpAny_comprehension_free (use:=none) rfl hs hclos ok.kind ok.names (fE (hit pins s σ H _ I h) λxv s₁ h₁=>fE h₁ λitv s₂ h₂=>?_)
 obtain⟨it,fp,tn,J,H2,rfl,I2,T,st2,f2,loop⟩:=h₂
 refine tR (RR:=λacc C=>compPost (model X.prog X.w) X.A X.xe none (EP X pins σ Q) acc C) (Q:=Q) ok hsc hN hk hc I2 T st2 f2 hcl1 hcl2 hg hi he loop ?_
 intro D C H' s' m hm IX fC c1 c2 c3 c4 _ q
 exact⟨m,hm,λh' hs'=>⟨.ref D,H',IX.turned (t':=s'.toks) (λb o hb e=>(hs'.2 b hb).trans e) fC c1 (.inr c2) c3 c4,rfl,q⟩⟩
theorem Jn{wi:TI}{i:Nat}{y:Str}{py spos:Pos}(ok:iN sc N scope NY js)(hsc:X.env.scope=sc)(hN:X.N=N)(hk:NY.length=N.length+k)(hc:X.calm=true)(hit:PI X target iter wi)
  (hg:∀cl C s₀ H₀ fp,PG (cA X NY scope cl C s₀ H₀ fp) target g) (hi:∀cl C s₀ H₀ fp,D5 (cA X NY scope cl C s₀ H₀ fp) ifs tc) (he:∀cl C s₀ H₀ fp,PE (cA X NY scope cl C s₀ H₀ fp) elt te)
  (nd:X.N.Nodup) (hy:X.N[i]?=some y) (hl:FI X.env.scope y) (hsw:swapsWith (.ListComp elt [⟨target,iter,ifs,0⟩] scope pos) (some (.Name y py)) spos.line X.env=pure true)
  (hs:∀x,foldedSetIterable iter X.env x=pure x:=by intro _;rfl) (hf:X.fn y=true\/X.env.scope.names.lookup y=some .local:=by first|exact .inl rfl|exact .inr rfl|assumption) :
  PS X (.Assign [.Name y py] (.ListComp elt [⟨target,iter,ifs,0⟩] scope pos) spos) (bD (dC js k wi g tc te) (aK i)):=by
 intro pins s σ H D I h
 obtain⟨cl,hclos,hcl1,hcl2⟩:=tP (scope:=scope) (env:=X.env) λx hx hf=>I.ok.has x.1 (by
  have:=ok.free x hx hf
  rw[<-hsc] at this
  exact this)
 rw[exec_Assign_Name_used _ _ _ _ hsw]
 refine wpAny_bind (wpAny_standAt (wpAny_bind ?_))
 show wpAny _ X.A (do let _ <-comprehension (.ListComp elt [⟨target,iter,ifs,0⟩] scope pos) scope X.env _ (newList []) false (eval iter X.env) (some (assign (.Name y py) X.env))) _ _ s
 refine wpAny_bind (wpAny_mono (wpAny_comprehension_free (use:=some (assign (.Name y py) X.env)) (Q:=λ_ s'=>SP X pins D .next s') rfl hs hclos ok.kind ok.names
  (fE (hit pins s σ H _ I h) λxv s₁ h₁=>fE h₁ λitv s₂ h₂=>?_)) (λ_ s' hq=>wpAny_pure (wpAny_pure hq)) λ_ _ e=>e)
 obtain⟨it,fp,tn,J,H2,rfl,I2,T,st2,f2,loop⟩:=h₂
 refine tR (RR:=λacc C=>compPost (model X.prog X.w) X.A X.xe (some (assign (.Name y py) X.env)) (λ_ s'=>SP X pins D .next s') acc C) (Q:=λx H1=>aK i x σ H1 D.nx) ok hsc hN hk hc I2 T st2 f2 hcl1 hcl2 hg hi he loop ?_
 intro Da C H' s' m hm IX fC c1 c2 c3 c4 _ q
 show wpAny _ X.A (assign (.Name y py) X.env (.ref Da)) _ _ _
 refine wpAny_assign_Name (wM IX nd hy hl (v:=.ref Da) rfl (λs2 IY ⟨a,sb,ha⟩=>?_) hf)
 have hne:C≠a:=by
  rcases ha with rfl|ha
  ·exact c1
  ·exact λz=>c3 y a ha z.symm
 exact⟨m,hm.sameBut sb hne,λh' hs'=>⟨_,H',IY.turned (t':=s2.toks) (λb o hb e=>(hs'.2 b hb).trans e) fC c1 (.inr c2) c3 c4,q⟩⟩
end
section
variable{X:Cx}{pins:List (Addr×Obj)}{σ:St}{H:Hp}{s:Shared}{h':Heap}
theorem bT.turnedL{t':Nat}{ch:List Addr}(I:bT X pins σ H s)(k:∀b o,b∉ch->s.heap.get? b=some o->h'.get? b=some o)(hf:∀b∈ch,nO X pins H b) :
  bT X pins σ H {s with heap:=h',toks:=t'}:=by
 have nit:∀b u,H b=some u->b∉ch:=λb u e z=>by rw[(hf b z).1] at e;cases e
 refine I.step (g':=s.gens) (d':=s.drawn) (ch:=ch) (λb hb=>⟨(hf b hb).2.2.2.1,(hf b hb).2.1,(hf b hb).2.2.2.2.1,(hf b hb).2.2.2.2.2⟩) (λb o _ _ hc e _=>k b o hc e) (λb o _ _ hc e _=>⟨o.slots,k b o hc e⟩) (λ_ _ _ _ n=>n)
  (λb o hc e=>⟨o,k b o hc e⟩) (λ_ _ e=>e) (λ_ _ _ e=>e) (λb ps e=>⟨#[],by rw[e];simp⟩) (λm hm=>?_) (λb u e=>?_) I.bare
 ·obtain⟨o,es,ep,ho,r⟩:=hm
  exact⟨o,es,ep,k _ o (λz=>(hf _ z).2.1 rfl) ho,r⟩
 ·refine(I.hok b u e).stay (λc v hc q=>k c v ?_ q) (λ_ q=>q) λ_ _ q=>q
  rcases hc with z|z
  ·rw[z];exact nit b u e
  ·exact nit c _ z
theorem bT.adopt{T:Addr}{o:HO}(I:bT X pins σ H s)(hf:nO X pins H T)(new:fh X.prog X.w (upd H T o) s.heap T o):bT X pins σ (upd H T o) s:=by
 have nT:∀b u,H b=some u->b≠T:=λb u e z=>by rw[z,hf.1] at e;cases e
 refine I.step (h':=s.heap) (H':=upd H T o) (g':=s.gens) (d':=s.drawn) (t':=s.toks) (ch:=[T]) (λb hb=>?_) (λb _ _ _ _ e _=>e) (λb ob _ _ _ e _=>⟨ob.slots,e⟩) (λb ob hb _ n=>?_)
  (λb ob _ e=>⟨ob,e⟩) (λb xs e=>?_) (λb ob u e=>?_) (λb ps e=>⟨#[],?_⟩) (λm hm=>hm) (λb u e=>?_) I.bare
 ·have e:b=T:=by simpa using hb
  subst e
  exact⟨hf.2.2.2.1,hf.2.1,hf.2.2.2.2.1,hf.2.2.2.2.2⟩
 ·rw[aF (λz=>hb (by simp[z]))];exact n
 ·rw[aF (nT b _ e)];exact e
 ·rw[aF (nT b _ e)];exact e
 ·rw[aF (nT b _ e),e];simp
 ·by_cases hb:b=T
  ·subst hb;rw[ai] at e;cases e;exact new
  ·rw[aF hb] at e
   exact(I.hok b u e).stay (λc v _ q=>q) (λc q=>by rw[aF (nT c _ q)];exact q) λc xs q=>by rw[aF (nT c _ q)];exact q
end
def Mo(K:Fg)(a:Addr):It:=
 ⟨λi H=>∃xs x,bY K H a xs/\xs[i]?=some x,λi H x H'=>∃p v,H p=none/\x=.ref p/\H'=upd H p (.tup [.int (i:Nat),v])/\∀xs,bY K H a xs->xs[i]?=some v,λi H=>∃xs,bY K H a xs/\xs.length<=i⟩
def Mp(K:Fg)(a b:Addr):It:=
 ⟨λi H=>∃xs x ys y,bY K H a xs/\xs[i]?=some x/\bY K H b ys/\ys[i]?=some y,
  λi H x H'=>∃p v u,H p=none/\x=.ref p/\H'=upd H p (.tup [v,u])/\(∀xs,bY K H a xs->xs[i]?=some v)/\∀ys,bY K H b ys->ys[i]?=some u,
  λi H=>∃xs ys,bY K H a xs/\bY K H b ys/\(xs.length<=i\/ys.length<=i)⟩
theorem sT{X:Cx}{H:Hp}{h:Heap}{T:Addr}{x y:V}{u v:Value}{n:Nat}(e:h.get? T=some {cls:=.type "tuple",data:=.seq #[u,v] n})(r1:c6 x u)(r2:c6 y v):fh X.prog X.w H h T (.tup [x,y]):=
 ⟨show 2<=sizeLine by decide,[u,v],.cons r1 (.cons r2 .nil),⟨_,e,⟨rfl,rfl⟩,_,rfl⟩⟩
theorem IL{h:Heap}{it a:Addr}{i:Nat}{l:Addr}{items:Array Value}(p:h.IsList a items)(q:h.IsListIter it l i):a≠it:=by
 intro e;subst e
 obtain⟨o,e1,c1,_⟩:=p
 obtain⟨o',e2,c2,_⟩:=q
 rw[e1] at e2;cases e2;rw[c1] at c2
 injection c2 with c3
 exact absurd c3 (by decide)
theorem Fn{P:Program}{w:World}{K:Fg}{elts:List Expr}{k:Nat}{pos:Pos}(a e it:Addr)(hne:e≠it) :
  vp P w K (.Tuple elts k pos) (Mo K a) [e,it] e (λi h=>(∃old,IsEnum h e it (i:Nat) old)/\h.IsListIter it a i) where
 mem:=by simp
 obj:=λi h st b hb=>by
  obtain⟨⟨old,he⟩,⟨o,ho,c,d⟩⟩:=st
  rcases aQ.mp hb with rfl|hb
  ·exact⟨_,he,λv z=>by have z':Data.fields _=Data.cell v:=z;cases z'⟩
  ·rw[au.mp hb]
   exact⟨o,ho,λv z=>by rw[d] at z;cases z⟩
 keep:=λi h h' st k=>⟨let⟨old,he⟩:=st.1;⟨old,k e (by simp) _ he⟩,st.2.at λo q=>k it (by simp) o q⟩
 item:=by
  intro X hP hw hK hc i pins s σ H E I hf st hg
  subst hP hw hK
  obtain⟨⟨old,he⟩,hit⟩:=st
  obtain⟨xs,x,hq,hx⟩:=hg
  obtain⟨its,rv,p,hz⟩:=I.list hq
  obtain⟨u,hu,ru⟩:=rv.get hx
  have hlt:i<its.toArray.size:=by have:=(ae.mp hu).1;simpa using this
  have na:a≠it:=IL p.isList hit
  have nb:e≠a:=by
   intro z;subst z
   obtain⟨o,n,e1,c1,_⟩:=p
   rw[he] at e1;cases e1
   injection c1 with c3
   exact absurd c3 (by decide)
  have Dw:=Draws.list (prog:=X.prog) (w:=X.w) (A:=X.A.in1) (show X.A.in1.handled=none from I.ok.hd hc) it a na its.toArray
  refine wpAny_pyNext_enum_itemD Dw he ⟨hit,p.isList⟩ hlt hne (by simp[hne,nb]) λy h1 tk hP ho st1 hT hsz hk=>?_
  have ey:y=u:=by
   have h1:its.toArray[i]?=some y:=hP
   have h2:its[i]?=some y:=by simpa using h1
   rw[hu] at h2;exact(Option.some.inj h2).symm
  subst ey
  refine⟨_,rfl,?_⟩
  have fT:nO X pins H s.heap.objs.size:=I.fpOk (ay _) (I.hok.fresh (ay _))
  refine wpAny_letOwnedTupleGo_enum ho λh2 he2 hs2=>?_
  have helt:e<s.heap.objs.size:=aJ he
  have I1:bT X pins σ H {s with heap:=h2,toks:=tk+1}:=I.turnedL (t':=tk+1) (ch:=[e,it]) (λb o hb q=>by
   have b1:b≠e:=λz=>hb (by simp[z])
   have b2:b≠it:=λz=>hb (by simp[z])
   exact(hs2.2 b b1).trans (hk b o b1 b2 q)) hf
  have gT:h2.get? s.heap.objs.size=some {cls:=.type "tuple",data:=.seq #[.int i tk,y]}:=(hs2.2 _ (iW helt)).trans hT
  have I2:=I1.adopt (T:=s.heap.objs.size) (o:=.tup [.int (i:Nat),x]) fT (sT (X:=X) gT ⟨tk,rfl⟩ ru)
  refine⟨.ref s.heap.objs.size,_,I2,rfl,⟨s.heap.objs.size,x,fT.1,rfl,rfl,λys hy=>by rw[I.list_inj hy hq];exact hx⟩,⟨⟨y,?_⟩,?_⟩,λb hb=>?_⟩
  ·have e2:(((i+1:Nat):Nat):Int)=(i:Int)+1:=by lia
   show IsEnum h2 e it (((i+1:Nat):Nat):Int) y
   rw[e2];exact he2
  ·obtain⟨o,q1,q2⟩:=st1.1
   exact⟨o,(hs2.2 it (Ne.symm hne)).trans q1,q2⟩
  ·have nT:b≠s.heap.objs.size:=by
    rcases aQ.mp hb with rfl|hb
    ·exact aZ helt
    ·rw[au.mp hb]
     obtain⟨o,ho,_⟩:=hit
     exact aZ (aJ ho)
   rw[aF nT];exact(hf b hb).1
 done:=by
  intro X hP hw hK hc i pins s σ H E I hf st hg
  subst hP hw hK
  obtain⟨⟨old,he⟩,hit⟩:=st
  obtain⟨xs,hq,hx⟩:=hg
  obtain⟨its,rv,p,hz⟩:=I.list hq
  have hl:=rv.length
  have hT:s.TypeIs (.ref e) "enumerate":=⟨_,he,rfl⟩
  unfold pyNext
  refine wpAny_bind (wpAny_attempt (wpAny_callSpecial?_slot (name:=Str.ofString "__next__") hT F.slot_enumerate_next
   (wpAny_call_entry F.slot_enumerate_next hT F.entry_enumerate_next ?_ (F.args_enumerate_next_1 _))))
  show wpAny _ _ (field (.ref e) 2 >>= _) _ _ _
  refine wpAny_bind (wpAny_field he rfl (x:=.ref it) rfl ?_)
  refine wpAny_bind (wpAny_nextOf_list_end (show X.A.in1.handled=none from I.ok.hd hc) hit p.isList (by simp;lia) λh1 x1 eb hx1=>?_)
  obtain⟨o,ho,hcl⟩:=hx1
  refine wpAny_bind (wpAny_isInstance (T:="StopIteration") (b:=true) ⟨o,ho,hcl⟩ isSubtype_stop ?_)
  exact wpAny_pure ⟨rfl,I.turnedL (t':=s.toks) (ch:=[e,it]) (λb ob hb q=>eb b ob (λz=>hb (by simp[z])) q) hf⟩
 self:=λ_ _ _ _ _ st h=>let⟨_,he⟩:=st.1;wpAny_pyIter_enum he h
section
variable{X:Cx}{elts:List Expr}{k:Nat}{tpos:Pos}
def Gj(K:Fg)(tl:TA):TI:=λσ H R=>tl σ H λvs H1=>∃a,vs=[.ref a]/\(∃xs,bY K H1 a xs)/\R (Mo K a) H1
theorem Je{a:Expr}{ta:TA}{p pos:Pos}(hg:Gl X "enumerate")(hm:X.mg "enumerate"=none)(ha:PA X [a] ta)(hs:starEach [a] X.env=[(false,eval a X.env)]:=by rfl) :
  PI X (.Tuple elts k tpos) (.Call (.Name "enumerate" p) [a] [] pos) (Gj X.K ta):=by
 intro pins s σ H R I h
 refine Call_ (jo I hg hm boot_enumerate (bL (fE (ha pos pins s σ H _ I h) λus s1 ⟨vs,H1,I1,r1,q1⟩=>?_) hs rfl))
 obtain⟨l,e,⟨xs,hq⟩,q⟩:=q1
 subst e
 cases r1 with
 |cons r rr=>
  cases rr
  cases r
  obtain⟨its,rv,pl,hz⟩:=I1.list hq
  refine call_enumerate_list pl.isList λh1 he hit hsz hk=>?_
  refine wpAny_pyIter_enum he ?_
  have I2:bT X pins σ H1 {s1 with heap:=h1}:=I1.kept (t':=s1.toks) hk
  refine⟨s1.heap.objs.size+1,[s1.heap.objs.size+1,s1.heap.objs.size],_,_,H1,rfl,I2,Fn l _ _ (Nat.succ_ne_self _),⟨⟨.none,he⟩,hit⟩,λb hb=>?_,q⟩
  have hb':s1.heap.objs.size<=b:=by
   rcases aQ.mp hb with rfl|hb
   ·lia
   ·rw[au.mp hb];exact ay _
  exact I1.fpOk hb' (I1.hok.fresh hb')
end
theorem Hx{P:Program}{w:World}{K:Fg}{elts:List Expr}{k:Nat}{pos:Pos}(z TI TO i1 i2 l1 l2:Addr)(D:ZipApart z TI TO i1 i2 l1 l2) :
  vp P w K (.Tuple elts k pos) (Mp K l1 l2) [z,TI,TO,i1,i2] z (λi h=>IsZip h z TI TO .none/\IsPair h TI (.ref i1) (.ref i2)/\(∃a b,IsPair h TO a b)/\h.IsListIter i1 l1 i/\h.IsListIter i2 l2 i) where
 mem:=by simp
 obj:=λi h st b hb=>by
  obtain⟨hz,hTI,⟨a',b',hTO⟩,⟨o1,e1,c1,d1⟩,⟨o2,e2,c2,d2⟩⟩:=st
  simp only[aQ,eA,or_false] at hb
  rcases hb with rfl|rfl|rfl|rfl|rfl
  ·exact⟨_,hz,λv q=>by have q':Data.fields _=Data.cell v:=q;cases q'⟩
  ·exact⟨_,hTI,λv q=>by have q':Data.seq _ _=Data.cell v:=q;cases q'⟩
  ·exact⟨_,hTO,λv q=>by have q':Data.seq _ _=Data.cell v:=q;cases q'⟩
  ·exact⟨o1,e1,λv q=>by rw[d1] at q;cases q⟩
  ·exact⟨o2,e2,λv q=>by rw[d2] at q;cases q⟩
 keep:=λi h h' st k=>by
  obtain⟨hz,hTI,⟨a',b',hTO⟩,h1,h2⟩:=st
  exact⟨k z (by simp) _ hz,k TI (by simp) _ hTI,⟨a',b',k TO (by simp) _ hTO⟩,h1.at λo q=>k i1 (by simp) o q,h2.at λo q=>k i2 (by simp) o q⟩
 item:=by
  intro X hP hw hK hc i pins s σ H E I hf st hg
  subst hP hw hK
  obtain⟨hz,hTI,⟨a',b',hTO⟩,h1,h2⟩:=st
  obtain⟨xs,x,ys,y,hq1,hx,hq2,hy⟩:=hg
  obtain⟨its1,rv1,p1,_⟩:=I.list hq1
  obtain⟨its2,rv2,p2,_⟩:=I.list hq2
  obtain⟨u,hu,ru⟩:=rv1.get hx
  obtain⟨v,hv,rv⟩:=rv2.get hy
  refine wpAny_pyNext_zip_item D hz hTI hTO h1 h2 p1.isList p2.isList (x:=u) (y:=v) (by simpa using hu) (by simpa using hv) λh3 a1 a2 a3 a4 a5 a6 hk=>?_
  refine⟨_,rfl,?_⟩
  have fT:nO X pins H s.heap.objs.size:=I.fpOk (ay _) (I.hok.fresh (ay _))
  have lt:∀{c o},s.heap.get? c=some o->c≠s.heap.objs.size:=λe=>aZ (aJ e)
  refine wpAny_letOwnedTupleGo_zip a1 λh4 hz4 hs4=>?_
  have I1:bT X pins σ H {s with heap:=h4,toks:=s.toks}:=I.turnedL (t':=s.toks) (ch:=[z,TI,TO,i1,i2]) (λb o hb q=>by
   have b1:b≠z:=λe=>hb (by simp[e])
   exact(hs4.2 b b1).trans (hk b o b1 (λe=>hb (by simp[e])) (λe=>hb (by simp[e])) (λe=>hb (by simp[e])) q)) hf
  have gT:h4.get? s.heap.objs.size=some {cls:=.type "tuple",data:=.seq #[u,v]}:=(hs4.2 _ (Ne.symm (lt hz))).trans a5
  have I2:=I1.adopt (T:=s.heap.objs.size) (o:=.tup [x,y]) fT (sT (X:=X) gT ru rv)
  have ext:∀c o,c≠z->h3.get? c=some o->h4.get? c=some o:=λc o hc q=>(hs4.2 c hc).trans q
  refine⟨.ref s.heap.objs.size,_,I2,rfl,⟨s.heap.objs.size,x,y,fT.1,rfl,rfl,λzs hz=>by rw[I.list_inj hz hq1];exact hx,λzs hz=>by rw[I.list_inj hz hq2];exact hy⟩,
   ⟨hz4,ext _ _ D.TIz (hk _ _ D.TIz D.TITO D.TIi1 D.TIi2 hTI),⟨_,_,ext _ _ D.TOz a2⟩,a3.at λo q=>ext _ o D.i1z q,a4.at λo q=>ext _ o D.i2z q⟩,λb hb=>?_⟩
  have nT:b≠s.heap.objs.size:=by
   obtain⟨o1,e1,_⟩:=h1
   obtain⟨o2,e2,_⟩:=h2
   simp only[aQ,eA,or_false] at hb
   rcases hb with rfl|rfl|rfl|rfl|rfl
   ·exact lt hz
   ·exact lt hTI
   ·exact lt hTO
   ·exact lt e1
   ·exact lt e2
  rw[aF nT];exact(hf b hb).1
 done:=by
  intro X hP hw hK hc i pins s σ H E I hf st hg
  subst hP hw hK
  obtain⟨hz,hTI,⟨a',b',hTO⟩,h1,h2⟩:=st
  obtain⟨xs,ys,hq1,hq2,hend⟩:=hg
  obtain⟨its1,rv1,p1,_⟩:=I.list hq1
  obtain⟨its2,rv2,p2,_⟩:=I.list hq2
  have l1':=rv1.length
  have l2':=rv2.length
  refine wpAny_pyNext_zip_end (I.ok.hd hc) D hz hTI hTO h1 h2 p1.isList p2.isList (hend.imp (λh=>by simp;lia) λh=>by simp;lia) λh3 hk=>⟨rfl,?_⟩
  exact I.turnedL (t':=s.toks) (ch:=[z,TI,TO,i1,i2]) (λb o hb q=>hk b o (λe=>hb (by simp[e])) (λe=>hb (by simp[e])) (λe=>hb (by simp[e])) (λe=>hb (by simp[e])) q) hf
 self:=λ_ _ _ _ _ st h=>wpAny_pyIter_zip st.1 h
section
variable{X:Cx}{elts:List Expr}{k:Nat}{tpos:Pos}
def KL(K:Fg)(tl:TA):TI:=λσ H R=>tl σ H λvs H1=>∃a b,vs=[.ref a,.ref b]/\(∃xs,bY K H1 a xs)/\(∃xs,bY K H1 b xs)/\R (Mp K a b) H1
theorem LG{a b:Expr}{ta:TA}{p pos:Pos}(hg:Gl X "zip")(hm:X.mg "zip"=none)(ha:PA X [a,b] ta)(hs:starEach [a,b] X.env=[(false,eval a X.env),(false,eval b X.env)]:=by rfl)(hs2:starEach [b] X.env=[(false,eval b X.env)]:=by rfl) :
  PI X (.Tuple elts k tpos) (.Call (.Name "zip" p) [a,b] [] pos) (KL X.K ta):=by
 intro pins s σ H R I h
 refine Call_ (jo I hg hm boot_zip (bL (fE (ha pos pins s σ H _ I h) λus s1 ⟨vs,H1,I1,r1,q1⟩=>?_) (by rw[hs,hs2]) (by rw[hs2];rfl)))
 obtain⟨l1,l2,e,⟨xs,hq1⟩,⟨ys,hq2⟩,q⟩:=q1
 subst e
 cases r1 with
 |cons r rr=>
  cases rr with
  |cons r' rr=>
   cases rr
   cases r
   cases r'
   obtain⟨its1,rv1,p1,_⟩:=I1.list hq1
   obtain⟨its2,rv2,p2,_⟩:=I1.list hq2
   have b1:l1<s1.heap.objs.size:=by obtain⟨o,e,_⟩:=p1.isList;exact aJ e
   have b2:l2<s1.heap.objs.size:=by obtain⟨o,e,_⟩:=p2.isList;exact aJ e
   refine call_zip_2 p1.isList p2.isList λh1 hz hTI hTO hi1 hi2 hsz hk=>?_
   refine wpAny_pyIter_zip hz ?_
   have I2:bT X pins σ H1 {s1 with heap:=h1}:=I1.kept (t':=s1.toks) hk
   refine⟨_,_,_,_,H1,rfl,I2,Hx _ _ _ _ _ l1 l2 (zipApart_new b1 b2),⟨hz,hTI,⟨_,_,hTO⟩,hi1,hi2⟩,λb hb=>?_,q⟩
   have hb':s1.heap.objs.size<=b:=by
    simp only[aQ,eA,or_false] at hb
    rcases hb with rfl|rfl|rfl|rfl|rfl<;>lia
   exact I1.fpOk hb' (I1.hok.fresh hb')
end
theorem Gb{K:Fg}{a:Addr}{xs:List V}{g:TG}{tb:TS}{D:jB}{σ:St}{H:Hp}(Pv:Nat->St->Hp->Prop)(h0:Pv 0 σ H)(hl:∀i σ H,i<=xs.length->Pv i σ H->bY K H a xs)
  (hs:∀i x σ H p,xs[i]?=some x->H p=none->Pv i σ H->g (.ref p) σ (upd H p (.tup [.int (i:Nat),x])) λσ2 H2=>tb {D with nx:=Pv (i+1),ct:=Pv (i+1),bk:=D.nx} σ2 H2) (hd:∀σ H,Pv xs.length σ H->D.nx σ H) :
  ∃W:Nat->Nat->St->Hp->Prop,(∃m,W 0 m σ H)/\∀i m σ H,W i m σ H->
   ((Mo K a).stop i H/\D.nx σ H)\/((Mo K a).go i H/\∃N:St->Hp->Prop,(∀σ' H',N σ' H'->∃m',m'<m/\W (i+1) m' σ' H')/\∀x H',(Mo K a).yld i H x H'->g x σ H' λσ2 H2=>tb {D with nx:=N,ct:=N,bk:=D.nx} σ2 H2):=by
 refine⟨λi m σ H=>m=xs.length-i/\i<=xs.length/\Pv i σ H,⟨xs.length,by simp,bQ _,h0⟩,?_⟩
 rintro i m σ H ⟨rfl,hi,p⟩
 have q:=hl i σ H hi p
 by_cases hlt:i<xs.length
 ·refine .inr ⟨⟨xs,xs[i],q,by simp[hlt]⟩,Pv (i+1),λσ' H' p'=>⟨xs.length-(i+1),by lia,rfl,hlt,p'⟩,λx H' y=>?_⟩
  obtain⟨pp,v,e1,rfl,rfl,y⟩:=y
  exact hs i v σ H pp (y xs q) e1 p
 ·have e:i=xs.length:=by lia
  subst e
  exact .inl ⟨⟨xs,q,ay _⟩,hd σ H p⟩
theorem IA{K:Fg}{a b:Addr}{xs ys:List V}{g:TG}{tb:TS}{D:jB}{σ:St}{H:Hp}(el:xs.length=ys.length)(Pv:Nat->St->Hp->Prop)(h0:Pv 0 σ H)(hl:∀i σ H,i<=xs.length->Pv i σ H->bY K H a xs/\bY K H b ys)
  (hs:∀i x y σ H p,xs[i]?=some x->ys[i]?=some y->H p=none->Pv i σ H->g (.ref p) σ (upd H p (.tup [x,y])) λσ2 H2=>tb {D with nx:=Pv (i+1),ct:=Pv (i+1),bk:=D.nx} σ2 H2) (hd:∀σ H,Pv xs.length σ H->D.nx σ H) :
  ∃W:Nat->Nat->St->Hp->Prop,(∃m,W 0 m σ H)/\∀i m σ H,W i m σ H->
   ((Mp K a b).stop i H/\D.nx σ H)\/((Mp K a b).go i H/\∃N:St->Hp->Prop,(∀σ' H',N σ' H'->∃m',m'<m/\W (i+1) m' σ' H')/\∀x H',(Mp K a b).yld i H x H'->g x σ H' λσ2 H2=>tb {D with nx:=N,ct:=N,bk:=D.nx} σ2 H2):=by
 refine⟨λi m σ H=>m=xs.length-i/\i<=xs.length/\Pv i σ H,⟨xs.length,by simp,bQ _,h0⟩,?_⟩
 rintro i m σ H ⟨rfl,hi,p⟩
 obtain⟨q1,q2⟩:=hl i σ H hi p
 by_cases hlt:i<xs.length
 ·have hlt2:i<ys.length:=by lia
  refine .inr ⟨⟨xs,xs[i],ys,ys[i],q1,by simp[hlt],q2,by simp[hlt2]⟩,Pv (i+1),λσ' H' p'=>⟨xs.length-(i+1),by lia,rfl,hlt,p'⟩,λx H' y=>?_⟩
  obtain⟨pp,v,u,e1,rfl,rfl,y1,y2⟩:=y
  exact hs i v u σ H pp (y1 xs q1) (y2 ys q2) e1 p
 ·have e:i=xs.length:=by lia
  subst e
  exact .inl ⟨⟨xs,ys,q1,q2,.inl (ay _)⟩,hd σ H p⟩
end L2
namespace PySem
open Sem (wp)
open Builtin MeetsSeq MeetsSeq2 MeetsSeq3
theorem qp:fillsNumberSlot (.type "tuple") "mul"=pure false:=
 fillsNumberSlot_seq (id:="tuple.__mul__") (r:=some (.builtin "tuple.__rmul__")) F.slot_tuple_mul.lookup (by decide +kernel) F.slot_tuple_rmul.lookup (by decide +kernel)
theorem yC:seqRepeat? (.type "tuple")=pure (some (.builtin "tuple.__mul__")):=by
 unfold seqRepeat?
 rw[seqSlot_of (T:="tuple") (name:="__mul__") (id:="tuple.__mul__") F.slot_tuple_mul.lookup (by decide +kernel),seqSlot_of (T:="tuple") (name:="__rmul__") (id:="tuple.__rmul__") F.slot_tuple_rmul.lookup (by decide +kernel)]
 rfl
theorem tU(a:Int)(t:Tok)(l:Addr)(items:Array Value)(n:Nat)(dd:Option Addr)(sl:Array (Option Value)) :
  Meets (Builtin.«int.__rmul__» ⟨[.int a t,.ref l],[]⟩) (λ_ R s=>s.heap.get? l=some {cls:=.type "tuple",dict:=dd,data:=.seq items n,slots:=sl}/\R (.ok (.ret Value.notImplemented)) s):=
 .of_wp λprog w A R s h=>by obtain⟨hp,g,d,tk,os⟩:=s;obtain⟨hl,h⟩:=h;wp_walk;exact⟨_,rfl,h⟩
theorem vc(l:Addr)(items:Array Value)(n:Nat)(dd:Option Addr)(sl:Array (Option Value))(x:Int)(u:Tok)(hlo:-(2 ^ 63)<=x)(hhi:x<2 ^ 63)(he:items.isEmpty=false)(h1:¬x=1)(hp:0<x)(hsz:items.size*x.toNat<=sizeLine) :
  Meets (Builtin.«tuple.__mul__» ⟨[.ref l,.int x u],[]⟩) (λ_ R s=>s.heap.get? l=some {cls:=.type "tuple",dict:=dd,data:=.seq items n,slots:=sl}/\
   R (.ok (.ret (Value.ref s.heap.objs.size))) {s with heap:=s.heap.push {cls:=Value.type "tuple",data:=Data.seq (kq (λx1 x2=>x1++x2) #[] (ax x.toNat items))},toks:=s.toks}):=
 .of_wp λprog w A R s h=>by
  obtain⟨hp,g,d,tk,os⟩:=s;obtain⟨hl,h⟩:=h
  have z1:(decide (x < -(2 ^ 63)) || decide (x >= 2 ^ 63))=false:=by simp;lia
  have z2:(items.isEmpty || x==1)=false:=by simp[he,h1]
  have z3:(decide (x<=0) || items.isEmpty)=false:=by simp[he];lia
  have ex:(items.size:Int)*x=((items.size*x.toNat:Nat):Int):=by
   rw[Int.natCast_mul];congr 1;lia
  have z4:¬((items.size:Int)*x>(2 ^ 63-1) / 8):=by
   rw[ex]
   have:(sizeLine:Nat)<=(2 ^ 63-1) / 8:=by decide
   lia
  have z5:Tuple.tupleTooMany ((items.size:Int)*x)=false:=by
   unfold Tuple.tupleTooMany
   rw[ex]
   exact decide_eq_false (by lia)
  have z6:(kq (λ(x1 x2:Array Value)=>x1++x2) #[] (ax x.toNat items)).size<=sizeLine:=by
   have e:=AutoListH.size_joined items x.toNat #[]
   rw[e,ou]
   simpa using hsz
  wp_walk
  refine wpAny_ite_false (by rw[z1];rfl) ?_
  wp_walk using AutoSeq1.wpAny_loadPart' hl
  refine wpAny_ite_false (decide_eq_false z4) ?_
  wp_walk
  refine wpAny_ite_false (by rw[z5];rfl) ?_
  wp_walk
  exact⟨_,rfl,h⟩
theorem vL(l:Addr)(items:Array Value)(n:Nat)(dd:Option Addr)(sl:Array (Option Value))(u:Tok) :
  Meets (Builtin.«tuple.__mul__» ⟨[.ref l,.int 1 u],[]⟩) (λ_ R s=>s.heap.get? l=some {cls:=.type "tuple",dict:=dd,data:=.seq items n,slots:=sl}/\R (.ok (.ret (Value.ref l))) s):=
 .of_wp λprog w A R s h=>by
  obtain⟨hp,g,d,tk,os⟩:=s;obtain⟨hl,h⟩:=h
  have z2:(items.isEmpty || (1:Int)==1)=true:=by simp
  wp_walk using AutoSeq1.wpAny_loadPart' hl
  first|exact⟨_,rfl,h⟩|trace_state
theorem vd(l:Addr)(items:Array Value)(n:Nat)(dd:Option Addr)(sl:Array (Option Value))(u:Tok)(he:items.isEmpty=false) :
  Meets (Builtin.«tuple.__mul__» ⟨[.ref l,.int 0 u],[]⟩) (λ_ R s=>s.heap.get? l=some {cls:=.type "tuple",dict:=dd,data:=.seq items n,slots:=sl}/\
   R (.ok (.ret (Value.ref s.heap.objs.size))) {s with heap:=s.heap.push {cls:=Value.type "tuple",data:=Data.seq #[]},toks:=s.toks}):=
 .of_wp λprog w A R s h=>by
  obtain⟨hp,g,d,tk,os⟩:=s;obtain⟨hl,h⟩:=h
  have z2:(items.isEmpty || (0:Int)==1)=false:=by simp[he]
  have z3:(decide ((0:Int)<=0) || items.isEmpty)=true:=by simp
  wp_walk using AutoSeq1.wpAny_loadPart' hl
  first|exact⟨_,rfl,h⟩|trace_state
end PySem
namespace L2
open PySem PySem.Spec PyProof.Rows
section
variable{X:Cx}
def Kl(K:Fg):R2:=λx y H Q=>∃(l:Addr) (k:Nat) (xs:List V),x=.ref l/\y=.int (k:Nat)/\b4 K H l xs/\xs≠[]/\xs.length*k<=sizeLine/\(k=1->Q (.ref l) H)/\
 (k≠1->∀p,H p=none->Q (.ref p) (upd H p (.tup (ax k xs).flatten)))
theorem IT:jh X (binaryOp .Mult) (Kl X.K):=by
 intro pins s σ H x y v u Q I rx ry h
 obtain⟨l,k,xs,rfl,rfl,hq,hne,hz,q1,q2⟩:=h
 cases rx
 obtain⟨t,rfl⟩:=ry
 obtain⟨its,r,⟨⟨cls,dd,data,sl⟩,e,hc,n,hd⟩,hl⟩:=I.tuple hq
 simp only at hc hd
 subst hc hd
 have hlen:=r.length
 have he:its.toArray.isEmpty=false:=by
  cases its with
  |nil=>simp at hlen;exact absurd hlen hne
  |cons a r'=>rfl
 have hs:its.toArray.size*k<=sizeLine:=by rw[aA,<-hlen];exact hz
 have road:wpAny (model X.prog X.w) X.A (call (.builtin "tuple.__mul__") [.ref l,.int (k:Nat) t]) (EP X pins σ Q) X.xe s->wpAny (model X.prog X.w) X.A (binaryOp .Mult (.ref l) (.int (k:Nat) t)) (EP X pins σ Q) X.xe s:=λhcall=>
  wpAny_binaryOp_repeat_ref (T:="tuple") (U:="int") (by decide) ⟨_,e,rfl⟩ (λs'=>typeIs_int s' k t) qp F.fills_int_mul F.slot_int_rmul yC F.slot_int_index.lookup
   (call_meets F.slot_int_rmul (typeIs_int s k t) F.entry_int_rmul (F.args_int_rmul_2 _ _) (tU k t l its.toArray n dd sl) ⟨e,rfl,⟨_,e,rfl⟩,hcall⟩)
 refine road ?_
 by_cases h1:k=1
 ·subst h1
  exact call_meets F.slot_tuple_mul ⟨_,e,rfl⟩ F.entry_tuple_mul (F.args_tuple_mul_2 _ _) (vL l its.toArray n dd sl t) ⟨e,⟨.ref l,H,I,rfl,q1 rfl⟩⟩
 ·have hn:H s.heap.objs.size=none:=I.hok.fresh (ay _)
  by_cases h0:k=0
  ·subst h0
   refine call_meets F.slot_tuple_mul ⟨_,e,rfl⟩ F.entry_tuple_mul (F.args_tuple_mul_2 _ _) (vd l its.toArray n dd sl t he) ⟨e,⟨.ref s.heap.objs.size,_,?_,rfl,q2 h1 _ hn⟩⟩
   exact I.laid (t':=s.toks) (λb o e=>av _ e) (ay _) ⟨bQ _,[],.nil,⟨_,aM _ rfl,⟨rfl,rfl⟩,_,rfl⟩⟩
  ·have hk64:(k:Int)<2 ^ 63:=by
    have h3:1<=its.toArray.size:=by
     cases its with
     |nil=>simp at he
     |cons a r'=>simp
    have h4:k<=its.toArray.size*k:=Nat.le_mul_of_pos_left k h3
    have h5:(sizeLine:Nat)<2 ^ 63:=by decide
    lia
   refine call_meets F.slot_tuple_mul ⟨_,e,rfl⟩ F.entry_tuple_mul (F.args_tuple_mul_2 _ _) (vc l its.toArray n dd sl k t (by lia) hk64 he (by lia) (by lia) (by simpa using hs)) ⟨e,?_⟩
   have f0:=qj its k []
   rw[fF] at f0
   have ek:((k:Nat):Int).toNat=k:=by simp
   rw[ek,f0]
   refine⟨.ref s.heap.objs.size,_,?_,rfl,q2 h1 _ hn⟩
   refine I.laid (t':=s.toks) (λb o e=>av _ e) (ay _) ⟨?_,(ax k its).flatten,r.rep k,⟨_,aM _ rfl,⟨rfl,rfl⟩,_,rfl⟩⟩
   rw[ym,ou];exact hz
theorem xQ:jf X (.builtin "divmod") (λxs H Q=>∃i j,xs=[.int i,.int j]/\(0<j/\j<2 ^ 64)/\∀p,H p=none->Q (.ref p) (upd H p (.tup [.int (i / j),.int (i % j)]))):=by
 intro pins s σ H xs us Q I r h
 obtain⟨i,j,rfl,⟨h1,h2⟩,q⟩:=h
 obtain⟨u,w',rfl,⟨t,rfl⟩,⟨t',rfl⟩⟩:=DU r
 have hb:j.natAbs.log2<9000:=by
  have h3:j.natAbs.log2<64:=(Nat.log2_lt (by lia)).mpr (by lia)
  lia
 refine divmod_int (by lia) ?_ (.inl (PyProof.noPylong_of_log2 hb))
 rw[Int.fdiv_eq_ediv_of_nonneg i (by lia),Int.fmod_eq_emod_of_nonneg i (by lia)]
 have hn:H s.heap.objs.size=none:=I.hok.fresh (ay _)
 refine⟨.ref s.heap.objs.size,_,?_,rfl,q _ hn⟩
 refine I.laid (λb o e=>av _ e) (ay _) ⟨by simp only[bI,eS];rw[sizeLine_eq];decide,[.int (i / j) s.toks,.int (i % j) (s.toks+1)],.cons ⟨_,rfl⟩ (.cons ⟨_,rfl⟩ .nil),?_⟩
 exact⟨_,aM s.heap rfl,⟨rfl,rfl⟩,0,rfl⟩
inductive vg(K:Fg)(H:Hp):V->String->Bool->Prop where
 |int_int (i:Int):vg K H (.int i) "int" true
 |int_bool (i:Int):vg K H (.int i) "bool" false
 |int_tuple (i:Int):vg K H (.int i) "tuple" false
 |str_tuple (x:Str):vg K H (.str x) "tuple" false
 |tup_tuple {a:Addr} {xs:List V} (h:b4 K H a xs):vg K H (.ref a) "tuple" true
 |lst_list {a:Addr} {xs:List V} (h:bY K H a xs):vg K H (.ref a) "list" true
 |str_str (x:Str):vg K H (.str x) "str" true
 |bl_bool (b:Bool):vg K H (.bl b) "bool" true
theorem FT:jf X (.builtin "isinstance") (λxs H Q=>∃x T b,xs=[x,.ty T]/\vg X.K H x T b/\Q (.bl b) H):=by
 intro pins s σ H xs us Q I r h
 obtain⟨x,T,b,rfl,hi,q⟩:=h
 obtain⟨u,w',rfl,r1,r2⟩:=DU r
 cases r2
 cases hi with
 |int_int i=>obtain⟨t,rfl⟩:=r1;exact IsiPair.int_int ⟨.bl true,H,I,rfl,q⟩
 |int_bool i=>obtain⟨t,rfl⟩:=r1;exact IsiPair.int_bool ⟨.bl false,H,I.tok _,rfl,q⟩
 |int_tuple i=>obtain⟨t,rfl⟩:=r1;exact IsiPair.int_tuple ⟨.bl false,H,I.tok _,rfl,q⟩
 |str_tuple z=>obtain⟨t,rfl⟩:=r1;exact IsiPair.str_tuple ⟨.bl false,H,I.tok _,rfl,q⟩
 |tup_tuple hs=>
  cases r1
  obtain⟨its,rv,⟨o,e,hc,_⟩,hz⟩:=I.tuple hs
  exact IsiPair.tuple_tuple e hc ⟨.bl true,H,I,rfl,q⟩
 |lst_list hs=>
  cases r1
  obtain⟨its,rv,pl,hz⟩:=I.list hs
  obtain⟨o,e,hc,_⟩:=pl.isList
  exact IsiPair.list_list e hc ⟨.bl true,H,I,rfl,q⟩
 |str_str z=>obtain⟨t,rfl⟩:=r1;exact IsiPair.str_str ⟨.bl true,H,I,rfl,q⟩
 |bl_bool z=>cases r1;exact IsiPair.bool_bool ⟨.bl true,H,I,rfl,q⟩
theorem Ky(bs:List Bool):(fX bs.length).all (λi=>(bs[i]?).getD false)=bs.all id:=by
 rw[Bool.eq_iff_iff,cK,cK]
 constructor
 ·intro h b hb
  obtain⟨i,hi,e⟩:=bP.mp hb
  have:=h i (ff.mpr hi)
  rw[ag hi,dk,e] at this
  exact this
 ·intro h i hi
  have hi:=ff.mp hi
  rw[ag hi,dk]
  exact h _ (dM hi)
theorem qV(hc:X.calm=true):jf X (.builtin "all") (λxs H Q=>∃(p:Addr) (bs:List Bool),xs=[.ref p]/\bY X.K H p (bs.map V.bl)/\Q (.bl (bs.all id)) H):=by
 intro pins s σ H xs us Q I r h
 obtain⟨p,bs,rfl,hq,q⟩:=h
 obtain⟨u,rfl,rx⟩:=nM r
 cases rx
 obtain⟨its,rv,pl,hz⟩:=I.list hq
 have hlen:=rv.length
 rw[aa] at hlen
 have hlt:p<s.heap.objs.size:=by obtain⟨o,e,_⟩:=pl.isList;exact aJ e
 refine call_all_walk (wpAny_pyIter_list pl.isList ?_)
 refine⟨_,_,_,_,_,_,λi=>(bs[i]?).getD false,rfl,Walks.list (A:=X.A.in1) (show X.A.in1.handled=none from I.ok.hd hc) s.heap.objs.size p (aZ hlt) its.toArray,⟨⟨_,aM _ rfl,rfl,rfl⟩,pl.isList.push _⟩,?_,λh' tk hk=>?_⟩
 ·intro i v s' Q' E' hP hQ
  have hP':its[i]?=some v:=by
   have:its.toArray[i]?=some v:=hP
   simpa using this
  have hi:i<bs.length:=by rw[hlen];exact(ae.mp hP').1
  obtain⟨u,hu,ru⟩:=rv.get (i:=i) (x:=V.bl bs[i]) (by rw[aG,ag hi];rfl)
  rw[hP'] at hu
  cases hu
  cases ru
  have hQ':Q' ((bs[i]?).getD false) s':=hQ
  rw[ag hi,dk] at hQ'
  exact wpAny_truthy_bool hQ'
 ·have e:its.toArray.size=bs.length:=by rw[aA,hlen]
  rw[e,Ky]
  refine⟨.bl _,H,?_,rfl,q⟩
  refine I.kept (t':=tk) λb o eb=>?_
  refine hk b o (λz=>?_) (av _ eb)
  have e2:b=s.heap.objs.size:=by simpa using z
  have h2:=aJ eb
  rw[e2] at h2
  exact dq _ h2
theorem xR(hc:X.calm=true):jf X (.builtin "sum") (λxs H Q=>∃(p:Addr) (ns:List Int),xs=[.ref p]/\bY X.K H p (ns.map V.int)/\∀z:Int,Q (.int z) H):=by
 intro pins s σ H xs us Q I r h
 obtain⟨p,ns,rfl,hq,q⟩:=h
 obtain⟨u,rfl,rx⟩:=nM r
 cases rx
 obtain⟨its,rv,pl,hz⟩:=I.list hq
 have intsOf:∀(ns:List Int) (its:List Value),cy (ns.map V.int) its->∃xs:List (Int×Tok),its=xs.map λp=>Value.int p.1 p.2:=by
  intro ns
  induction ns with
  |nil=>intro its r;cases r;exact⟨[],rfl⟩
  |cons n ns ih=>
   intro its r
   cases r with
   |cons r rr=>
    obtain⟨xs,rfl⟩:=ih _ rr
    obtain⟨t,rfl⟩:=r
    exact⟨(n,t)::xs,rfl⟩
 obtain⟨xs,rfl⟩:=intsOf ns its rv
 refine sum_intListG (xs:=xs.toArray) (I.ok.hd hc) ?_ λh' tk t' hk=>⟨.int _,H,I.kept hk,⟨t',rfl⟩,q _⟩
 have e:=pl.isList
 simpa[intItems] using e
end
section
variable{X:Cx}
theorem AC:∀{ys:List Str} {us:List Value},cy (ys.map V.str) us->StrsAre us ys
 |[],_,r=>by cases r;exact .nil
 |y::ys,_,r=>by
  cases r with
  |cons r rr=>
   obtain⟨t,rfl⟩:=r
   exact .cons _ _ (AC rr)
def GW(K:Fg):V->List V->Hp->VK->Prop:=λx vs H Q=>∃(sep:Str) (p:Addr) (ys:List Str),x=.str sep/\vs=[.ref p]/\bY K H p (ys.map V.str)/\(ys.map (·.length)).sum+ys.length*sep.length<=16777216/\Q (.str (Txt.join sep ys)) H
theorem IK:Mr X "str.join" (GW X.K):=by
 intro pins s σ H x vs v us Q I rx rv h
 obtain⟨sep,p,ys,rfl,rfl,hq,hz,q⟩:=h
 obtain⟨t,rfl⟩:=rx
 obtain⟨u,rfl,ru⟩:=rv.one
 cases ru
 obtain⟨its,r,pl,_⟩:=I.list hq
 exact join_list pl.isList (by simpa using AC r) hz λt' k=>⟨.str _,H,I.tok k,⟨t',rfl⟩,q⟩
end
section
variable{X:Cx}
def lP(xs ys:List V):Bool:=(fX (min xs.length ys.length)).all (λj=>vw ((xs[j]?).getD .non) ((ys[j]?).getD .non))&&xs.length==ys.length
def JG(K:Fg)(neg:Bool):R2:=λx y H Q=>∃p q xs ys,x=.ref p/\y=.ref q/\b4 K H p xs/\b4 K H q ys/\xs.all gJ=true/\ys.all gJ=true/\Q (.bl (if neg then !lP xs ys else lP xs ys)) H
theorem Dc{A:Around}{s:Shared}{xs ys:List V}{us vs:List Value}(r1:cy xs us)(r2:cy ys vs)(f1:xs.all gJ=true)(f2:ys.all gJ=true) :
  ∀j (h1:j<us.toArray.size) (h2:j<vs.toArray.size),SeqAt.EqAt A s us.toArray[j] vs.toArray[j] (vw ((xs[j]?).getD .non) ((ys[j]?).getD .non)):=by
 intro j h1 h2
 have l1:=r1.length
 have l2:=r2.length
 rw[aA] at h1 h2
 have j1:j<xs.length:=by lia
 have j2:j<ys.length:=by lia
 obtain⟨u,hu,ru⟩:=r1.get (ag j1)
 obtain⟨v,hv,rv⟩:=r2.get (ag j2)
 have eu:us.toArray[j]=u:=by
  have:=ag h1
  rw[hu] at this
  simpa using(Option.some.inj this).symm
 have ev:vs.toArray[j]=v:=by
  have:=ag h2
  rw[hv] at this
  simpa using(Option.some.inj this).symm
 rw[eu,ev,ag j1,ag j2,dk,dk]
 exact BQ ru rv (cK.mp f1 _ (dM j1)) (cK.mp f2 _ (dM j2))
theorem Li(hu:X.A.units<cLine):jh X (compareOp .Eq) (JG X.K false):=by
 intro pins s σ H x y v u Q I rx ry h
 obtain⟨p,q,xs,ys,rfl,rfl,h1,h2,f1,f2,qq⟩:=h
 cases rx
 cases ry
 obtain⟨us,r1,t1,_⟩:=I.tuple h1
 obtain⟨vs,r2,t2,_⟩:=I.tuple h2
 refine SeqAt.eq_tupleAt (show s.heap.IsTuple p us.toArray from t1) (show s.heap.IsTuple q vs.toArray from t2) hu (Dc r1 r2 f1 f2) ⟨.bl (lP xs ys),H,I,?_,qq⟩
 show Value.bool _=Value.bool _
 unfold lP
 rw[aA,aA,r1.length,r2.length]
def Kj(K:Fg):R2:=λx y H Q=>∃p xs z,x=.ref p/\y=.str z/\b4 K H p xs/\Q (.bl false) H
theorem IS(hu:X.A.units<cLine):jh X (compareOp .Eq) (Kj X.K):=by
 intro pins s σ H x y v u Q I rx ry h
 obtain⟨p,xs,z,rfl,rfl,h1,qq⟩:=h
 cases rx
 obtain⟨t,rfl⟩:=ry
 obtain⟨us,r1,t1,_⟩:=I.tuple h1
 exact SeqAt.RcAt.tuple_str z t (show s.heap.IsTuple p us.toArray from t1) hu X.prog X.w X.xe _ ⟨.bl false,H,I,rfl,qq⟩
theorem Ln(hu:X.A.units<cLine):jh X (compareOp .NotEq) (JG X.K true):=by
 intro pins s σ H x y v u Q I rx ry h
 obtain⟨p,q,xs,ys,rfl,rfl,h1,h2,f1,f2,qq⟩:=h
 cases rx
 cases ry
 obtain⟨us,r1,t1,_⟩:=I.tuple h1
 obtain⟨vs,r2,t2,_⟩:=I.tuple h2
 refine SeqAt.RcNeAt.tuples (show s.heap.IsTuple p us.toArray from t1) (show s.heap.IsTuple q vs.toArray from t2) hu (Dc r1 r2 f1 f2) X.prog X.w X.xe _ ⟨.bl (!lP xs ys),H,I,?_,qq⟩
 show Value.bool _=Value.bool _
 unfold lP
 rw[aA,aA,r1.length,r2.length]
end
section
variable{X:Cx}
def JF(K:Fg)(neg:Bool):R2:=λx y H Q=>∃p q xs ys,x=.ref p/\y=.ref q/\bY K H p xs/\bY K H q ys/\xs.all gJ=true/\ys.all gJ=true/\Q (.bl (if neg then !lP xs ys else lP xs ys)) H
theorem oJ{xs ys:List V}(h:xs.length=ys.length):lP xs ys=(fX xs.length).all (λj=>vw ((xs[j]?).getD .non) ((ys[j]?).getD .non)):=by
 unfold lP;rw[<-h,Nat.min_self];simp
theorem Dm{xs ys:List V}(h:¬xs.length=ys.length):lP xs ys=false:=by
 unfold lP;rw[Bool.and_eq_false_iff];right;simpa using h
theorem Lh(hu:X.A.units<cLine):jh X (compareOp .Eq) (JF X.K false):=by
 intro pins s σ H x y v u Q I rx ry h
 obtain⟨p,q,xs,ys,rfl,rfl,h1,h2,f1,f2,qq⟩:=h
 cases rx
 cases ry
 obtain⟨us,r1,t1,_⟩:=I.list h1
 obtain⟨vs,r2,t2,_⟩:=I.list h2
 have l1:=r1.length
 have l2:=r2.length
 by_cases c:xs.length=ys.length
 ·refine SeqAt.eq_listAt t1.isList t2.isList (by rw[aA,aA];lia) hu (Dc r1 r2 f1 f2) ⟨.bl (lP xs ys),H,I,?_,qq⟩
  show Value.bool _=Value.bool _
  rw[oJ c,aA,l1]
 ·refine SeqAt.eq_list_lengthsAt t1.isList t2.isList (by rw[aA,aA];simp;lia) hu ⟨.bl (lP xs ys),H,I,?_,qq⟩
  show Value.bool _=Value.bool _
  rw[Dm c]
theorem Lm(hu:X.A.units<cLine):jh X (compareOp .NotEq) (JF X.K true):=by
 intro pins s σ H x y v u Q I rx ry h
 obtain⟨p,q,xs,ys,rfl,rfl,h1,h2,f1,f2,qq⟩:=h
 cases rx
 cases ry
 obtain⟨us,r1,t1,_⟩:=I.list h1
 obtain⟨vs,r2,t2,_⟩:=I.list h2
 have l1:=r1.length
 have l2:=r2.length
 by_cases c:xs.length=ys.length
 ·refine SeqAt.RcNeAt.lists t1.isList t2.isList (by rw[aA,aA];lia) hu (Dc r1 r2 f1 f2) X.prog X.w X.xe _ ⟨.bl (!lP xs ys),H,I,?_,qq⟩
  show Value.bool _=Value.bool _
  rw[oJ c,aA,l1]
 ·refine SeqAt.RcNeAt.lists_lengths t1.isList t2.isList (by rw[aA,aA];simp;lia) hu X.prog X.w X.xe _ ⟨.bl (!lP xs ys),H,I,?_,qq⟩
  show Value.bool _=Value.bool _
  rw[Dm c];rfl
end
section
variable{prog:Program}{w:World}{A:Around}{E:Value->Shared->Prop}
theorem tS{it t:Addr}{items:Array Value}(hne:t≠it):∀(n i:Nat) (s:Shared) (Q:List Value->Shared->Prop),s.heap.IsListIter it t i->s.heap.IsList t items->i+n<=items.size->
  (∀h':Heap,h'.IsListIter it t (i+n)->Heap.SameBut it s.heap h'->Q ((items.toList.drop i).take n) {s with heap:=h'})->wpAny (model prog w) A (draw (.ref it) n) Q E s
 |0,i,s,Q,hit,_,_,hQ=>by
  show wpAny _ _ (pure []) Q E s
  exact wpAny_pure (by simpa using hQ s.heap hit (Heap.SameBut.refl ..))
 |n+1,i,s,Q,hit,ht,hle,hQ=>by
  have hlt:i<items.size:=by lia
  show wpAny _ _ (pyNext (.ref it) >>= _) Q E s
  refine wpAny_bind (wpAny_pyNext_list_item hit ht (x:=items[i]) (by simp[hlt]) λh₁ hit₁ hs₁=>?_)
  refine wpAny_bind (wpAny_holding (tS hne n (i+1) _ _ hit₁ (ht.extBut hs₁.extBut hne) (by lia) λh₂ hit₂ hs₂=>wpAny_pure ?_))
  have hd:items.toList.drop i=items[i]::items.toList.drop (i+1):=by simp[List.drop_eq_getElem_cons,hlt]
  have:=hQ h₂ (by rw[show i+(n+1)=i+1+n by lia];exact hit₂) (hs₁.trans hs₂)
  rw[hd,iV] at this
  exact this
theorem pS{s:Shared}{t:Addr}{items:Array Value}{Q:List Value->Shared->Prop}(hh:A.handled=none)(ht:s.heap.IsList t items)
  (hQ:∀h':Heap,Heap.ExtBut s.heap.objs.size s.heap h'->Q items.toList {s with heap:=h'}):wpAny (model prog w) A (unpackItems (.ref t) items.size none) Q E s:=by
 have hlt:t≠s.heap.objs.size:=by obtain⟨o,ho,_⟩:=ht;exact aZ (aJ ho)
 unfold unpackItems
 refine wpAny_bind ?_
 ·unfold notIterableAtAll
  refine wpAny_bind (wpAny_specialOf ht.typeIs slot_list_iter.lookup ?_)
  refine wpAny_pure ?_
  simp only[Bool.false_eq_true,if_false]
  refine wpAny_bind (wpAny_holding (wpAny_pyIter_list ht ?_))
  refine wpAny_bind (wpAny_holding (tS hlt items.size 0 _ _ ⟨_,aM _ rfl,rfl,rfl⟩ (ht.push _) (by lia) λh₁ hit₁ hs₁=>?_))
  have hall:List.take items.size (List.drop 0 items.toList)=items.toList:=by
   rw[ja];exact aT (by simp)
  rw[hall]
  rw[if_neg (by simp)]
  have ht₁:h₁.IsList t items:=(ht.push _).extBut hs₁.extBut hlt
  refine wpAny_bind (wpAny_holding (wpAny_pyNext_list_end hh hit₁ ht₁ (by simp) λh₂ he₂=>?_))
  simp only[Option.isSome_none,Bool.false_eq_true,if_false]
  refine wpAny_pure (hQ h₂ λb o hb e=>he₂ b o hb (hs₁.extBut b o hb (av _ e)))
end
section
variable{X:Cx}{pos:Pos}
def Ge(K:Fg)(n:Nat)(t:Ea):TG:=λv σ H Q=>∃a xs,v=.ref a/\bY K H a xs/\xs.length=n/\t xs σ H Q
theorem Jc{es:List Expr}{k:Nat}{t:Ea}{n:Nat}(hc:X.calm=true)(h:Me X es t)
  (hn:(assignEach es X.env).length=n:=by rfl) (hst:(assignEach es X.env).findIdx? (·.1)=none:=by rfl):PG X (.Tuple es k pos) (Ge X.K n t):=by
 intro pins s σ H v u Q I r hw
 obtain⟨a,xs,e1,hq,hl,hw⟩:=hw
 subst e1
 cases r
 obtain⟨its,rv,ht,hz⟩:=I.list hq
 rw[assign_Tuple]
 refine wpAny_bind (wpAny_standAt ?_)
 unfold unpack
 have e:(assignEach es X.env).length=its.toArray.size:=by simp[hn,<-hl,rv.length]
 rw[e,hst]
 refine wpAny_bind (wpAny_holding (pS (I.ok.hd hc) ht.isList λh' hx=>?_))
 have I1:bT X pins σ H {s with heap:=h'}:=I.kept (t':=s.toks) λb o e=>hx b o (aZ (aJ e)) e
 exact h pins _ σ H xs _ Q I1 (by simpa using rv) hw
end
def Nj:R2:=λx y H Q=>∃i j,x=.str i/\y=.str j/\i.length+j.length<=sizeLine/\Q (.str (i++j)) H
def cZ(K:Fg):R2:=λx y H Q=>HI (λi j=>.int (i+j)) x y H Q\/(Nj x y H Q\/(M8 x y H Q\/Kh K x y H Q))
def DB:R2:=HI λi j=>.int (i-j)
def fz(K:Fg):R2:=λx y H Q=>rI HJ (λi j=>.int (i*j)) x y H Q\/Kl K x y H Q
def jK:R2:=rI (λ_ j=>0<j) λi j=>.int (i % j)
def Cw:R2:=rI Mi λi j=>.int (i / j)
def Dz:R2:=rI Mj λi j=>.int (i ^ j.toNat)
def fV(K:Fg):R2:=λx y H Q=>Od x y H Q\/(JG K false x y H Q\/(Kj K x y H Q\/JF K false x y H Q))
def Cy(K:Fg):R2:=λx y H Q=>Oe x y H Q\/(JG K true x y H Q\/JF K true x y H Q)
def vC:R2:=HI λi j=>.bl (decide (i<j))
def LW:R2:=HI λi j=>.bl (decide (j<i))
def JI:R2:=λx y H Q=>y=.non/\Q (.bl (decide (x=.non))) H
def Al:R2:=λx y H Q=>y=.non/\Q (.bl (!decide (x=.non))) H
def Nd:V->Hp->VK->Prop:=rU λi=>.int (-i)
def vD(K:Fg):V->Option Int->Option Int->Hp->VK->Prop:=λx lo hi H Q=>Nh K x lo hi H Q\/Ni K x lo hi H Q
def fP(K:Fg):List V->Hp->VK->Prop:=λxs H Q=>∃x n,xs=[x]/\Mq K x H n/\Q (.int n) H
def JE:List V->Hp->VK->Prop:=λxs H Q=>∃i j,xs=[.int i,.int j]/\(0<j/\j<2 ^ 64)/\∀p,H p=none->Q (.ref p) (upd H p (.tup [.int (i / j),.int (i % j)]))
def Kk:List V->Hp->VK->Prop:=λxs H Q=>∃i j,xs=[.int i,.int j]/\Q (.int (if j>i then j else i)) H
def Nc:List V->Hp->VK->Prop:=λxs H Q=>∃i j,xs=[.int i,.int j]/\Q (.int (if j<i then j else i)) H
def NS(K:Fg):List V->Hp->VK->Prop:=λxs H Q=>∃(p:Addr) (ns:List Int),xs=[.ref p]/\bY K H p (ns.map V.int)/\∀z:Int,Q (.int z) H
def M7(K:Fg):List V->Hp->VK->Prop:=λxs H Q=>∃(p:Addr) (bs:List Bool),xs=[.ref p]/\bY K H p (bs.map V.bl)/\Q (.bl (bs.all id)) H
def NR(K:Fg):List V->Hp->VK->Prop:=λxs H Q=>∃x T b,xs=[x,.ty T]/\vg K H x T b/\Q (.bl b) H
def wD:List V->Hp->VK->Prop:=λxs H Q=>(∃i,xs=[.int i]/\Q (.int i) H)\/∃k,xs=[.bl k]/\Q (.int (if k then 1 else 0)) H
def mI(K:Fg):List V->Hp->VK->Prop:=λxs H Q=>∃p ys,xs=[.ref p]/\(bY K H p ys\/b4 K H p ys)/\∀l,H l=none->Q (.ref l) (upd H l (.lst ys))
def cI(K:Fg):List V->Hp->VK->Prop:=λxs H Q=>∃p ys,xs=[.ref p]/\((bY K H p ys/\∀l,H l=none->Q (.ref l) (upd H l (.tup ys)))\/(b4 K H p ys/\Q (.ref p) H))
def fH(K:Fg)(tl:TE):TI:=λσ H R=>J9 K tl σ H R\/ME K tl σ H R
section
variable{X:Cx}
theorem bW:jh X (binaryOp .Add) (cZ X.K):=Lf.or (Ck.or (Lg.or IQ))
theorem eG:jh X (binaryOp .Mult) (fz X.K):=Lk.or IT
theorem cT(hu:X.A.units<cLine):jh X (compareOp .Eq) (fV X.K):=MP.or ((Li hu).or ((IS hu).or (Lh hu)))
theorem qu(hu:X.A.units<cLine):jh X (compareOp .NotEq) (Cy X.K):=MQ.or ((Ln hu).or (Lm hu))
theorem fA:FO X (vD X.K):=JV.or L8
theorem LD{tg l:Expr}{tl:TE}(hl:PE X l tl):PI X tg l (fH X.K tl):=by
 intro pins s σ H R I h
 rcases h with h|h
 ·exact Jf hl pins s σ H R I h
 ·exact LF hl pins s σ H R I h
end
structure b6(P:Program)(w:World)(K:Fg)(mg:Str->Option Value)(base:Heap)(x:Str)(ps:List Str)(k:Nat)(sp:Sp):Prop where
 ex:∃(f:Addr) (fd:FuncData),mg x=some (.ref f)/\dy K (.ref f)=true/\qO K fd ps []/\pY P w K mg base C1 k f fd ps sp
theorem MT{X:Cx}{x:Str}{ps:List Str}{k:Nat}{sp:Sp}{e:Expr}{es:List Expr}{t:TA}{p pos:Pos}(c:b6 X.prog X.w X.K X.mg X.base x ps k sp)(hr:gU k X.A)(hg:Gl X x)(ha:PA X (e::es) t)
  (hdb:(x==("__debug__":Str))=false:=by decide) (he:starEach (e::es) X.env=(false,eval e X.env)::starEach es X.env:=by rfl) (hpl:(backTo pos (starEach es X.env)).any (·.1)=false:=by rfl) :
  PE X (.Call (.Name x p) (e::es) [] pos) (a7 sp [] E0 t):=by
 obtain⟨f,fd,hm,hk,hb,F⟩:=c.ex
 exact Dx F hr hg hm hk hb .nil Kd ha hdb he hpl
structure jH(mg:Str->Option Value):Prop where
 len_:mg "len"=none
 range_:mg "range"=none
 divmod_:mg "divmod"=none
 max_:mg "max"=none
 min_:mg "min"=none
 sum_:mg "sum"=none
 all_:mg "all"=none
 isinstance_:mg "isinstance"=none
 int_:mg "int"=none
 bool_:mg "bool"=none
 list_:mg "list"=none
 tuple_:mg "tuple"=none
 enumerate_:mg "enumerate"=none
 zip_:mg "zip"=none
 sorted_:mg "sorted"=none
 set_:mg "set"=none
 dict_:mg "dict"=none
 str_:mg "str"=none
 any_:mg "any"=none
 reversed_:mg "reversed"=none
 abs_:mg "abs"=none
def eg(a:Addr)(H H':Hp):Prop:=∀b o,b≠a->H b=some o->H' b=some o
theorem eg.refl(a:Addr)(H:Hp):eg a H H:=λ_ _ _ h=>h
theorem eg.trans{a:Addr}{H H1 H2:Hp}(x:eg a H H1)(y:eg a H1 H2):eg a H H2:=λc o n h=>y c o n (x c o n h)
theorem aH.but{a:Addr}{H H':Hp}(x:aH H H'):eg a H H':=λb o _ h=>x b o h
theorem eg.upd_at{a:Addr}{H:Hp}{o:HO}:eg a H (upd H a o):=λb u n h=>by rw[aF n];exact h
theorem eg.new{a p:Addr}{H H1:Hp}{o:HO}(x:eg a H H1)(hp:H1 p=none):eg a H (upd H1 p o):=λb u n h=>by
 rw[aF (ar (x b u n h) hp)];exact x b u n h
theorem aH.new{p:Addr}{H H1:Hp}{o:HO}(x:aH H H1)(hp:H1 p=none):aH H (upd H1 p o):=λb u h=>by
 rw[aF (ar (x b u h) hp)];exact x b u h
theorem eg.free{a p:Addr}{H H':Hp}(x:eg a H H')(n:p≠a)(h:H' p=none):H p=none:=by
 cases q:H p with
 |none=>rfl
 |some o=>rw[x p o n q] at h;cases h
theorem kF{js:List Nat}{k:Nat}{lo:Int}{n:Nat}{g:TG}{tc:TT}{te:TE}{R:Hp->Prop}{σ:St}{H:Hp}{D:Addr}(Pv:Nat->St->Hp->Prop)(h0:Pv 0 (Bh js k σ) (upd H D (.lst [])))
  (hs:∀i σ H,i<n->Pv i σ H->g (.int (lo+i)) σ H λσ2 H2=>pe D tc te {nx:=Pv (i+1),rt:=λ_ _=>False,ct:=Pv (i+1),bk:=λ_ H'=>R H'} σ2 H2) (hd:∀σ H,Pv n σ H->R H) :
  ∃W:Nat->Nat->St->Hp->Prop,(∃m,W 0 m (Bh js k σ) (upd H D (.lst [])))/\∀i m σ H,W i m σ H->
   ((HQ lo n).stop i H/\R H)\/((HQ lo n).go i H/\∃N:St->Hp->Prop,(∀σ' H',N σ' H'->∃m',m'<m/\W (i+1) m' σ' H')/\∀x H',(HQ lo n).yld i H x H'->g x σ H' λσ2 H2=>pe D tc te {nx:=N,rt:=λ_ _=>False,ct:=N,bk:=λ_ H'=>R H'} σ2 H2):=
 iq (D:={nx:=λ_ H'=>R H',rt:=λ_ _=>False}) Pv h0 hs hd
theorem fK{js:List Nat}{k:Nat}{K:Fg}{a:Addr}{xs:List V}{g:TG}{tc:TT}{te:TE}{R:Hp->Prop}{σ:St}{H:Hp}{D:Addr}(Pv:Nat->St->Hp->Prop)(h0:Pv 0 (Bh js k σ) (upd H D (.lst [])))(hl:∀i σ H,i<=xs.length->Pv i σ H->bY K H a xs)
  (hs:∀i x σ H,xs[i]?=some x->Pv i σ H->g x σ H λσ2 H2=>pe D tc te {nx:=Pv (i+1),rt:=λ_ _=>False,ct:=Pv (i+1),bk:=λ_ H'=>R H'} σ2 H2) (hd:∀σ H,Pv xs.length σ H->R H) :
  ∃W:Nat->Nat->St->Hp->Prop,(∃m,W 0 m (Bh js k σ) (upd H D (.lst [])))/\∀i m σ H,W i m σ H->
   ((J3 K a).stop i H/\R H)\/((J3 K a).go i H/\∃N:St->Hp->Prop,(∀σ' H',N σ' H'->∃m',m'<m/\W (i+1) m' σ' H')/\∀x H',(J3 K a).yld i H x H'->g x σ H' λσ2 H2=>pe D tc te {nx:=N,rt:=λ_ _=>False,ct:=N,bk:=λ_ H'=>R H'} σ2 H2):=
 lW (D:={nx:=λ_ H'=>R H',rt:=λ_ _=>False}) Pv h0 hl hs hd
theorem eX{js:List Nat}{k:Nat}{K:Fg}{a:Addr}{xs:List V}{g:TG}{tc:TT}{te:TE}{R:Hp->Prop}{σ:St}{H:Hp}{D:Addr}(Pv:Nat->St->Hp->Prop)(h0:Pv 0 (Bh js k σ) (upd H D (.lst [])))(hl:∀i σ H,i<=xs.length->Pv i σ H->b4 K H a xs)
  (hs:∀i x σ H,xs[i]?=some x->Pv i σ H->g x σ H λσ2 H2=>pe D tc te {nx:=Pv (i+1),rt:=λ_ _=>False,ct:=Pv (i+1),bk:=λ_ H'=>R H'} σ2 H2) (hd:∀σ H,Pv xs.length σ H->R H) :
  ∃W:Nat->Nat->St->Hp->Prop,(∃m,W 0 m (Bh js k σ) (upd H D (.lst [])))/\∀i m σ H,W i m σ H->
   ((J4 K a).stop i H/\R H)\/((J4 K a).go i H/\∃N:St->Hp->Prop,(∀σ' H',N σ' H'->∃m',m'<m/\W (i+1) m' σ' H')/\∀x H',(J4 K a).yld i H x H'->g x σ H' λσ2 H2=>pe D tc te {nx:=N,rt:=λ_ _=>False,ct:=N,bk:=λ_ H'=>R H'} σ2 H2):=
 kG (D:={nx:=λ_ H'=>R H',rt:=λ_ _=>False}) Pv h0 hl hs hd
theorem eg.through{a l:Addr}{H H1 H2:Hp}{o:HO}(x:eg a H H1)(hl:H1 l=none)(y:eg l (upd H1 l o) H2):eg a H H2:=λb u n h=>by
 have h1:=x b u n h
 have nl:b≠l:=ar h1 hl
 exact y b u nl (by rw[aF nl];exact h1)
end L2
end
section
namespace Bg
open PySem L2
inductive bu where
 |num (x:Str) (z:Int)
 |op (x s a b:Str)
 |call (x:Str) (k:Nat) (as:List Str)
 |say (a:Str)
 |jump (to:Nat)
 |test (a:Str) (to:Nat)
 |give (a:Str)
structure dZ where
 name:Str
 params:List Str
 rows:List bu
def dD:bu->Str
 |.num _ _=>"num"|.op _ _ _ _=>"op"|.call _ _ _=>"call"|.say _=>"say"|.jump _=>"jump"|.test _ _=>"test"|.give _=>"give"
def c8(H:Hp)(v:V):bu->Prop
 |.num x z=>∃p,v=.ref p/\H p=some (.tup [.str "num",.str x,.int z])
 |.op x s a b=>∃p,v=.ref p/\H p=some (.tup [.str "op",.str x,.str s,.str a,.str b])
 |.call x k as=>∃p q,v=.ref p/\H p=some (.tup [.str "call",.str x,.int (k:Nat),.ref q])/\H q=some (.tup (as.map V.str))
 |.say a=>∃p,v=.ref p/\H p=some (.tup [.str "say",.str a])
 |.jump to=>∃p,v=.ref p/\H p=some (.tup [.str "jump",.int (to:Nat)])
 |.test a to=>∃p,v=.ref p/\H p=some (.tup [.str "test",.str a,.int (to:Nat)])
 |.give a=>∃p,v=.ref p/\H p=some (.tup [.str "give",.str a])
def Tp(H H':Hp):Prop:=∀p xs,H p=some (.tup xs)->H' p=some (.tup xs)
theorem Tp.refl(H:Hp):Tp H H:=λ_ _ h=>h
theorem Tp.trans{H H1 H2:Hp}(x:Tp H H1)(y:Tp H1 H2):Tp H H2:=λp xs h=>y p xs (x p xs h)
theorem Tp.of_same{H H':Hp}(x:aH H H'):Tp H H':=λp xs h=>x p _ h
theorem Tp.of_but{a:Addr}{ys:List V}{H H':Hp}(x:eg a H H')(ha:H a=some (.lst ys)):Tp H H':=λp xs h=>x p _ (by rintro rfl;rw[h] at ha;cases ha) h
theorem Tp.new{p:Addr}{H H1:Hp}{o:HO}(x:Tp H H1)(hp:H1 p=none):Tp H (upd H1 p o):=λb xs h=>by
 rw[aF (ar (x b xs h) hp)];exact x b xs h
theorem Tp.lst{p:Addr}{H H1:Hp}{ys:List V}{o:HO}(x:Tp H H1)(hp:H1 p=some (.lst ys)):Tp H (upd H1 p o):=λb xs h=>by
 have h1:=x b xs h
 rw[aF (by rintro rfl;rw[h1] at hp;cases hp)];exact h1
theorem c8.mono{H H':Hp}{v:V}{r:bu}(h:c8 H v r)(t:Tp H H'):c8 H' v r:=by
 cases r with
 |num x z=>obtain⟨p,e,h⟩:=h;exact⟨p,e,t _ _ h⟩
 |op x s a b=>obtain⟨p,e,h⟩:=h;exact⟨p,e,t _ _ h⟩
 |call x k as=>obtain⟨p,q,e,h,h'⟩:=h;exact⟨p,q,e,t _ _ h,t _ _ h'⟩
 |say a=>obtain⟨p,e,h⟩:=h;exact⟨p,e,t _ _ h⟩
 |jump to=>obtain⟨p,e,h⟩:=h;exact⟨p,e,t _ _ h⟩
 |test a to=>obtain⟨p,e,h⟩:=h;exact⟨p,e,t _ _ h⟩
 |give a=>obtain⟨p,e,h⟩:=h;exact⟨p,e,t _ _ h⟩
theorem c8.ref{H:Hp}{v:V}{r:bu}(h:c8 H v r):∃p xs,v=.ref p/\H p=some (.tup (.str (dD r)::xs)):=by
 cases r with
 |num x z=>obtain⟨p,e,h⟩:=h;exact⟨p,_,e,h⟩
 |op x s a b=>obtain⟨p,e,h⟩:=h;exact⟨p,_,e,h⟩
 |call x k as=>obtain⟨p,q,e,h,h'⟩:=h;exact⟨p,_,e,h⟩
 |say a=>obtain⟨p,e,h⟩:=h;exact⟨p,_,e,h⟩
 |jump to=>obtain⟨p,e,h⟩:=h;exact⟨p,_,e,h⟩
 |test a to=>obtain⟨p,e,h⟩:=h;exact⟨p,_,e,h⟩
 |give a=>obtain⟨p,e,h⟩:=h;exact⟨p,_,e,h⟩
structure aV{α:Type}(R:V->α->Prop)(vs:List V)(rs:List α):Prop where
 len:vs.length=rs.length
 at_:∀(i:Nat) v r,vs[i]?=some v->rs[i]?=some r->R v r
theorem aV.nil{α:Type}{R:V->α->Prop}:aV R [] []:=⟨rfl,λi v r h=>by simp at h⟩
theorem aV.imp{α:Type}{R R':V->α->Prop}{vs:List V}{rs:List α}(h:aV R vs rs)(f:∀v r,R v r->R' v r):aV R' vs rs:=⟨h.len,λi v r a b=>f v r (h.at_ i v r a b)⟩
theorem aV.snoc{α:Type}{R:V->α->Prop}{vs:List V}{rs:List α}{v:V}{r:α}(h:aV R vs rs)(q:R v r):aV R (vs++[v]) (rs++[r]):=by
 refine⟨by simp[h.len],λi w t a b=>?_⟩
 by_cases hi:i<vs.length
 ·rw[aS hi] at a
  rw[aS (by rw[<-h.len];exact hi)] at b
  exact h.at_ i w t a b
 ·rw[aI (by omega)] at a
  rw[aI (by rw[<-h.len];omega)] at b
  have e:i-vs.length=0:=by
   have:=(ae.mp a).1
   simp at this;omega
  rw[e] at a
  rw[<-h.len,e] at b
  simp at a b
  rw[<-a,<-b];exact q
theorem aV.set{α:Type}{R:V->α->Prop}{vs:List V}{rs:List α}{j:Nat}{v:V}{r:α}(h:aV R vs rs)(q:R v r):aV R (vs.set j v) (rs.set j r):=by
 refine⟨by simp[h.len],λi w t a b=>?_⟩
 by_cases e:j=i
 ·subst e
  have hj:j<vs.length:=by have:=(ae.mp a).1;rw[dc] at this;exact this
  rw[aY hj] at a
  rw[aY (by rw[<-h.len];exact hj)] at b
  cases a;cases b;exact q
 ·rw[bz e] at a b
  exact h.at_ i w t a b
theorem aV.get{α:Type}{R:V->α->Prop}{vs:List V}{rs:List α}(h:aV R vs rs){i:Nat}(hi:i<rs.length):∃v r,vs[i]?=some v/\rs[i]?=some r/\R v r:=by
 have h1:i<vs.length:=by rw[h.len];exact hi
 exact⟨vs[i],rs[i],ag h1,ag hi,h.at_ i _ _ (ag h1) (ag hi)⟩
theorem aV.of_v{α:Type}{R:V->α->Prop}{vs:List V}{rs:List α}(h:aV R vs rs){i:Nat}{v:V}(e:vs[i]?=some v):∃r,rs[i]?=some r/\R v r:=by
 have h1:=(ae.mp e).1
 obtain⟨v',r,e1,e2,q⟩:=h.get (i:=i) (by rw[<-h.len];exact h1)
 rw[e] at e1;cases e1
 exact⟨r,e2,q⟩
def gA(H:Hp)(v:V)(b:dZ):Prop:=∃p q r rs,v=.ref p/\H p=some (.tup [.str b.name,.ref q,.ref r])/\H q=some (.tup (b.params.map V.str))/\H r=some (.tup rs)/\aV (c8 H) rs b.rows
theorem gA.mono{H H':Hp}{v:V}{b:dZ}(h:gA H v b)(t:Tp H H'):gA H' v b:=by
 obtain⟨p,q,r,rs,e,h1,h2,h3,h4⟩:=h
 exact⟨p,q,r,rs,e,t _ _ h1,t _ _ h2,t _ _ h3,h4.imp λ_ _ z=>z.mono t⟩
def jJ(K:Fg)(H:Hp)(a:Addr)(ns:List Int):Prop:=
 (∃o,H a=some (.frz o (.lst (ns.map V.int))))\/∃(o:Obj) (its:Array Value) (n:Nat),K.lookup a=some o/\o.cls=.type "list"/\o.dict=none/\o.data=.seq its n/\its.size<=sizeLine/\cy (ns.map V.int) its.toList
theorem jJ.sq{K:Fg}{H:Hp}{a:Addr}{ns:List Int}(h:jJ K H a ns):bY K H a (ns.map V.int):=by
 rcases h with⟨o,h⟩|h
 ·exact .inl (.inr ⟨o,h⟩)
 ·exact .inr h
def Fz(H H':Hp):Prop:=∀p o u,H p=some (.frz o u)->H' p=some (.frz o u)
theorem Fz.of_but{a:Addr}{ys:List V}{H H':Hp}(x:eg a H H')(ha:H a=some (.lst ys)):Fz H H':=λp o u h=>x p _ (by rintro rfl;rw[h] at ha;cases ha) h
theorem Fz.of_same{H H':Hp}(x:aH H H'):Fz H H':=λp o u h=>x p _ h
theorem jJ.mono{K:Fg}{H H':Hp}{a:Addr}{ns:List Int}(h:jJ K H a ns)(f:Fz H H'):jJ K H' a ns:=by
 rcases h with⟨o,h⟩|h
 ·exact .inl ⟨o,f _ _ _ h⟩
 ·exact .inr h
def gc(K:Fg)(H:Hp)(st:Addr)(k:Nat):Prop:=∃scr ns c,H st=some (.lst [.ref scr,.int (k:Nat),.int c])/\jJ K H scr ns/\ns.length<=63
theorem gc.lst{K:Fg}{H:Hp}{st:Addr}{k:Nat}(h:gc K H st k):∃ys,H st=some (.lst ys):=by
 obtain⟨scr,ns,c,e,_⟩:=h;exact⟨_,e⟩
theorem gc.mono{K:Fg}{H H':Hp}{a st:Addr}{k:Nat}{ys:List V}(h:gc K H st k)(x:eg a H H')(ha:H a=some (.lst ys))(n:st≠a):gc K H' st k:=by
 obtain⟨scr,ns,c,e,q,l⟩:=h
 exact⟨scr,ns,c,x _ _ n e,q.mono (.of_but x ha),l⟩
theorem gc.same{K:Fg}{H H':Hp}{st:Addr}{k:Nat}(h:gc K H st k)(x:aH H H'):gc K H' st k:=by
 obtain⟨scr,ns,c,e,q,l⟩:=h
 exact⟨scr,ns,c,x _ _ e,q.mono (.of_same x),l⟩
theorem gc.new{K:Fg}{H:Hp}{st p:Addr}{o:HO}{k:Nat}(h:gc K H st k)(hp:H p=none):gc K (upd H p o) st k:=h.same ((aH.refl H).new hp)
def b9(K:Fg):Sp:=λvs H Q _=>∃(st:Addr) (m:Int) (k:Nat),vs=[.ref st,.int m]/\gc K H st k/\k<=1000000/\0<m/\m<2 ^ 64/\
 ∀(d:Int) (H':Hp),0<=d->d<m->gc K H' st (k+1)->eg st H H'->Q (.int d) H'
def G7:List Str:=["part","call","say","jump","test","give"]
structure Nm(y:Str):Prop where
 l1:1<=y.length
 l8:y.length<=8
 Ie:∀c∈y.cps.toList,97<=c/\c<=122
 no:y∉G7
theorem Nm.ne{y:Str}(h:Nm y):y≠"":=by
 rintro rfl
 exact absurd h.l1 (by decide +kernel)
def ph(K:Fg):Sp:=λvs H Q _=>∃(st:Addr) (n k:Nat),vs=[.ref st,.int (n:Nat)]/\gc K H st k/\k<=900000/\n<=20/\
 ∀(l:Addr) (ys:List Str) (k':Nat) (H':Hp),H l=none->ys.length=n->ys.Nodup->(∀y∈ys,Nm y)->H' l=some (.lst (ys.map V.str))->gc K H' st k'->k'<=k+11->eg st H H'->Q (.ref l) H'
def DF:List Str:=["+","-","*","<","="]
def tL(ys:List Str)(cs:List Nat)(n:Nat):bu->Prop
 |.num x z=>x∈ys/\0<=z/\z<2 ^ 64
 |.op x s a b=>x∈ys/\s∈DF/\a=""/\b=""
 |.call x k as=>x∈ys/\∃c,cs[k]?=some c/\as=ax c ("":Str)
 |.say a=>a=""
 |.jump to=>to<n
 |.test a to=>a=""/\to<n
 |.give a=>a=""
def bG(ns:List Nat):List V:=ns.map λn=>V.int (n:Nat)
def kX(K:Fg):Sp:=λvs H Q _=>∃(st nm cn:Addr) (n k:Nat) (ys:List Str) (cs:List Nat),vs=[.ref st,.ref nm,.int (n:Nat),.ref cn]/\gc K H st k/\k<=800000/\H nm=some (.lst (ys.map V.str))/\ys≠[]/\ys.length<=100/\
 1<=n/\n<=1000/\H cn=some (.lst (bG cs))/\cs≠[]/\cs.length<=100/\(∀c∈cs,c<=4)/\nm≠st/\cn≠st/\
 ∀(v:V) (r:bu) (k':Nat) (H':Hp),c8 H' v r->tL ys cs n r->gc K H' st k'->k'<=k+8->eg st H H'->Q v H'
def bX(n:Nat):bu->List Nat
 |.jump to=>[to]
 |.test _ to=>[n+1,to]
 |.give _=>[]
 |_=>[n+1]
def fQ:bu->V
 |.num x _=>.str x
 |.op x _ _ _=>.str x
 |.call x _ _=>.str x
 |_=>.non
def kb:bu->Bool
 |.jump _=>true
 |.give _=>true
 |_=>false
def tW:bu->Bool
 |.num _ _=>true
 |_=>false
structure xK(ys:List Str)(cs:List Nat)(rs:List bu):Prop where
 pos:rs≠[]
 few:rs.length<=100
 rough:∀r∈rs,tL ys cs rs.length r
def stp(rs:List bu)(n:Nat):Nat:=match rs[n]? with
 |some (.jump t)=>t
 |_=>n
def runJ(rs:List bu):Nat->Nat->Nat
 |0,n=>n
 |k+1,n=>runJ rs k (stp rs n)
def d4:bu->Bool
 |.jump _=>true
 |_=>false
def tF(rs:List bu):Prop:=∀n,n<rs.length->∀r,rs[runJ rs rs.length n]?=some r->d4 r=false
def qF(K:Fg):Sp:=λvs H Q _=>∃(rl nm:Addr) (bare:Bool) (rvs:List V) (rs:List bu) (ys:List Str) (R:bu->Prop),vs=[.ref rl,.ref nm,.bl bare]/\H rl=some (.lst rvs)/\aV (c8 H) rvs rs/\rs≠[]/\rs.length<=100/\(∀r∈rs,R r)/\R (.say "")/\R (.give "")/\(∀t,R (.jump t)->t<rs.length)/\H nm=some (.lst (ys.map V.str))/\ys≠[]/\(∀y∈ys,bare=true->R (.num y 3))/\nm≠rl/\
 (bare=true->2<=rs.length)/\∀(rvs':List V) (rs':List bu) (H':Hp),H' rl=some (.lst rvs')->aV (c8 H') rvs' rs'->rs'.length=rs.length->(∀r∈rs',R r)->(rs'.getLast?.map kb=some true)->(bare=true->rs'.head?.map tW=some true)->tF rs'->eg rl H H'->Q (.ref rl) H'
def tN(H:Hp)(v:V)(ks:List Str):Prop:=∃a,v=.ref a/\H a=some (.lst (ks.map V.str))
structure tf(ps:List Str)(rs:List bu)(kss:List (List Str)):Prop where
 zero:∀ks,kss[0]?=some ks->∀y∈ks,y∈ps
 on:∀(n m:Nat) r ks km,rs[n]?=some r->m∈bX n r->kss[n]?=some ks->kss[m]?=some km->∀y∈km,y∈ks\/fQ r=.str y
def kY(K:Fg):Sp:=λvs H Q _=>∃(rl nm pr:Addr) (rvs:List V) (rs:List bu) (ys ps:List Str) (cs:List Nat),vs=[.ref rl,.ref nm,.ref pr]/\H rl=some (.lst rvs)/\aV (c8 H) rvs rs/\xK ys cs rs/\(rs.getLast?.map kb=some true)/\
 H nm=some (.lst (ys.map V.str))/\ys.length<=100/\H pr=some (.lst (ps.map V.str))/\ps.length<=100/\(∀y∈ps,y∈ys)/\(ps=[]->rs.head?.map tW=some true)/\
 ∀(kl:Addr) (refs:List V) (kss:List (List Str)) (H':Hp),H kl=none->H' kl=some (.lst refs)->aV (tN H') refs kss->kss.length=rs.length->(∀(i:Nat) ks,kss[i]?=some ks->ks.length<=100/\(∀y∈ks,y∈ys)/\(ks≠[]\/(i=0/\ps=[])))->tf ps rs kss->aH H H'->Q (.ref kl) H'
def iO(ks:List Str):bu->bu->Prop
 |.num x z,r=>r=.num x z
 |.op x s _ _,r=>∃a b,r=.op x s a b/\a∈ks/\b∈ks
 |.call x k as,r=>∃bs:List Str,r=.call x k bs/\bs.length=as.length/\∀b∈bs,b∈ks
 |.say _,r=>∃a,r=.say a/\a∈ks
 |.jump to,r=>r=.jump to
 |.test _ to,r=>∃a,r=.test a to/\a∈ks
 |.give _,r=>∃a,r=.give a/\a∈ks
def qD(K:Fg):Sp:=λvs H Q _=>∃(st rl kl:Addr) (k:Nat) (rvs refs:List V) (rs:List bu) (kss:List (List Str)) (ys:List Str) (cs:List Nat),vs=[.ref st,.ref rl,.ref kl]/\gc K H st k/\k<=700000/\H rl=some (.lst rvs)/\aV (c8 H) rvs rs/\xK ys cs rs/\(∀y∈ys,y≠"")/\(∀c∈cs,c<=4)/\
 H kl=some (.lst refs)/\aV (tN H) refs kss/\kss.length=rs.length/\(∀(i:Nat) ks,kss[i]?=some ks->ks.length<=100)/\(∀(i:Nat) ks r,kss[i]?=some ks->rs[i]?=some r->ks≠[]\/tW r=true)/\(∀a∈refs,a≠.ref st)/\rl≠st/\kl≠st/\
 ∀(p:Addr) (rvs':List V) (rs':List bu) (k':Nat) (H':Hp),H' p=some (.tup rvs')->aV (c8 H') rvs' rs'->rs'.length=rs.length->(∀(i:Nat) ks r r',kss[i]?=some ks->rs[i]?=some r->rs'[i]?=some r'->iO ks r r')->gc K H' st k'->k'<=k+5*rs.length->eg st H H'->Q (.ref p) H'
def bR:bu->List Str
 |.op _ _ a b=>[a,b]
 |.call _ _ as=>as
 |.say a=>[a]
 |.test a _=>[a]
 |.give a=>[a]
 |_=>[]
def C6(ys:List Str)(cs:List Nat)(n:Nat):bu->Prop
 |.num x z=>x∈ys/\0<=z/\z<2 ^ 64
 |.op x s a b=>x∈ys/\s∈DF/\a∈ys/\b∈ys
 |.call x k as=>x∈ys/\cs[k]?=some as.length/\∀a∈as,a∈ys
 |.say a=>a∈ys
 |.jump to=>to<n
 |.test a to=>a∈ys/\to<n
 |.give a=>a∈ys
structure kC(ys:List Str)(cs:List Nat)(b:dZ):Prop where
 pnd:b.params.Nodup
 pin:∀y∈b.params,y∈ys
 pos:b.rows≠[]
 few:b.rows.length<=60
 rows:∀r∈b.rows,C6 ys cs b.rows.length r
 last:b.rows.getLast?.map kb=some true
 ring:tF b.rows
 known:∃kss,kss.length=b.rows.length/\tf b.params b.rows kss/\∀(n:Nat) r ks,b.rows[n]?=some r->kss[n]?=some ks->∀y∈bR r,y∈ks
structure Bz(ys:List Str)(cs:List Nat)(bs:List dZ):Prop where
 ynd:ys.Nodup
 ynm:∀y∈ys,Nm y
 y2:2<=ys.length
 y6:ys.length<=6
 pos:1<=bs.length
 few:bs.length<=5
 nnd:(bs.map (·.name)).Nodup
 nnm:∀b∈bs,Nm b.name
 cnt:bs.map (·.params.length)=cs
 c4:∀c∈cs,c<=4
 part:∀b∈bs,kC ys cs b
def yO(K:Fg):Sp:=λvs H Q _=>∃(st nm pr cn:Addr) (wd:Str) (m k:Nat) (ys ps:List Str) (cs:List Nat),vs=[.ref st,.str wd,.ref nm,.ref pr,.ref cn,.int (m:Nat)]/\gc K H st k/\k<=600000/\H nm=some (.lst (ys.map V.str))/\ys≠[]/\ys.length<=100/\(∀y∈ys,y≠"")/\
 H pr=some (.lst (ps.map V.str))/\ps.length<=100/\ps.Nodup/\(∀y∈ps,y∈ys)/\H cn=some (.lst (bG cs))/\cs≠[]/\cs.length<=100/\(∀c∈cs,c<=4)/\1<=m/\m<=50/\nm≠st/\pr≠st/\cn≠st/\
 ∀(v:V) (b:dZ) (k':Nat) (H':Hp),gA H' v b->b.name=wd->b.params=ps->kC ys cs b->b.rows.length<=m+1->gc K H' st k'->k'<=k+1000->eg st H H'->Q v H'
def oh(K:Fg):Sp:=λvs H Q _=>∃(st:Addr) (m k:Nat),vs=[.ref st,.int (m:Nat)]/\gc K H st k/\k<=500000/\1<=m/\m<=50/\
 ∀(p:Addr) (pvs:List V) (bs:List dZ) (ys:List Str) (cs:List Nat) (k':Nat) (H':Hp),H' p=some (.tup pvs)->aV (gA H') pvs bs->Bz ys cs bs->(∀b∈bs,b.rows.length<=m+1)->gc K H' st k'->k'<=k+10000->eg st H H'->Q (.ref p) H'
def Gf:bu->V
 |.jump to=>.int (to:Nat)
 |.test _ to=>.int (to:Nat)
 |_=>.non
def JX:Sp:=λvs H Q _=>∃v r,vs=[v]/\c8 H v r/\∀(p:Addr) (H':Hp),H' p=some (.tup ((bR r).map V.str))->aH H H'->Q (.ref p) H'
abbrev og(_:Fg):Sp:=JX
def mM(_:Fg):Sp:=λvs H Q _=>∃v r,vs=[v]/\c8 H v r/\∀(H':Hp),aH H H'->Q (fQ r) H'
def qG(_:Fg):Sp:=λvs H Q _=>∃v r,vs=[v]/\c8 H v r/\Q (Gf r) H
def L9:Sp:=λvs H Q _=>∃(rt:Addr) (n:Nat) (rvs:List V) (v:V) (r:bu),vs=[.ref rt,.int (n:Nat)]/\H rt=some (.tup rvs)/\rvs[n]?=some v/\c8 H v r/\∀(p:Addr) (H':Hp),H' p=some (.tup (bG (bX n r)))->aH H H'->Q (.ref p) H'
abbrev kU(_:Fg):Sp:=L9
def yN(K:Fg):Sp:=λvs H Q _=>∃(scr:Addr) (ns:List Int),vs=[.ref scr]/\jJ K H scr ns/\ns.length<=63/\∀H',Q (.bl true) H'
abbrev KU:Nat:=0
abbrev Ku:Nat:=1
abbrev IH:Nat:=1
abbrev HS:Nat:=2
abbrev Gq:Nat:=0
abbrev FG:Nat:=1
abbrev Gn:Nat:=1
abbrev FD:Nat:=2
abbrev KY:Nat:=3
abbrev Kw:Nat:=4
abbrev EG:Nat:=4
abbrev DZ:Nat:=5
abbrev EE:Nat:=0
abbrev DX:Nat:=1
abbrev Gr:Nat:=0
abbrev FH:Nat:=1
theorem dn{c:Prop}[Decidable c]{A B:Prop}(h1:c->A)(h2:¬c->B):if decide c=true then A else B:=by
 by_cases h:c
 ·rw[decide_eq_true h];exact qm (h1 h)
 ·rw[decide_eq_false h];exact ij (h2 h)
theorem BZ{c:Prop}[Decidable c]{A B:Prop}(h1:¬c->A)(h2:c->B):if(!decide c)=true then A else B:=by
 by_cases h:c
 ·rw[decide_eq_true h];exact ij (h2 h)
 ·rw[decide_eq_false h];exact qm (h1 h)
theorem oO{b:Bool}{A B:Prop}(h1:b=true->A)(h2:b=false->B):if b=true then A else B:=by
 cases b with
 |true=>exact qm (h1 rfl)
 |false=>exact ij (h2 rfl)
theorem xO{α:Type}{xs:List α}{i:Int}{v:α}(h0:0<=i)(e:xs[i.toNat]?=some v):Kz xs i=some v:=by
 have h1:=(ae.mp e).1
 unfold Kz KP
 rw[if_pos h0,if_pos (by lia)]
 exact e
theorem jP{K:Fg}{p:Addr}{xs:List V}{i:Int}{v:V}{H:Hp}{Q:VK}(h:bY K H p xs)(h0:0<=i)(e:xs[i.toNat]?=some v)(q:Q v H):cw K (.ref p) (.int i) H Q:=
 .inl ⟨p,xs,i,v,rfl,rfl,h,xO h0 e,q⟩
theorem cE{K:Fg}{p:Addr}{xs:List V}{i:Int}{v:V}{H:Hp}{Q:VK}(h:H p=some (.tup xs))(h0:0<=i)(e:xs[i.toNat]?=some v)(q:Q v H):cw K (.ref p) (.int i) H Q:=
 .inr (.inl ⟨p,xs,i,v,rfl,rfl,b4.of h,xO h0 e,q⟩)
theorem NN{K:Fg}{z:Str}{i:Int}{c:Nat}{H:Hp}{Q:VK}(hz:z.length<=sizeLine)(h0:0<=i)(e:z.cps.toList[i.toNat]?=some c)(q:Q (.str ⟨#[c]⟩) H):cw K (.str z) (.int i) H Q:=
 .inr (.inr ⟨z,i,c,rfl,rfl,hz,xO h0 e,q⟩)
theorem yJ{p:Addr}{xs:List V}{i:Int}{v:V}{H:Hp}{Q:Hp->Prop}(h:H p=some (.lst xs))(h0:0<=i)(h1:i.toNat<xs.length)(q:Q (upd H p (.lst (xs.set i.toNat v)))):lA (.ref p) (.int i) v H Q:=by
 refine⟨p,xs,i,i.toNat,rfl,rfl,h,?_,q⟩
 unfold KP
 rw[if_pos h0,if_pos (by lia)]
theorem bO{n:Nat}(h:n<=100000):n<sizeLine:=Nat.lt_of_le_of_lt h (by decide)
theorem EA{ns:List Nat}{i:Nat}{n:Nat}(h:ns[i]?=some n):(bG ns)[i]?=some (.int (n:Nat)):=by
 unfold bG;rw[aG,h];rfl
theorem dW(ns:List Nat):(bG ns).length=ns.length:=by unfold bG;rw[aa]
theorem AD{ys:List Str}{i:Nat}{y:Str}(h:ys[i]?=some y):(ys.map V.str)[i]?=some (.str y):=by rw[aG,h];rfl
theorem kJ{H:Hp}{a b:Addr}{xs ys:List V}(h:H a=some (.lst xs))(h':H b=some (.tup ys)):a≠b:=Kb h h' (by intro z;cases z)
theorem dz{D:Addr}{te:TE}{E:jB}{σ:St}{H:Hp}(h:te σ H λy H2=>∃ys,H2 D=some (.lst ys)/\ys.length<sizeLine/\E.nx σ (upd H2 D (.lst (ys++[y])))):pe D gw te E σ H:=by
 unfold pe gw
 dsimp only
 rw[if_pos rfl]
 exact h
theorem no{x y:V}{A B:Prop}(h:¬x=y)(q:B):if decide (x=y)=true then A else B:=dn (λz=>absurd z h) λ_=>q
theorem yes{x:V}{A B:Prop}(q:A):if decide (x=x)=true then A else B:=dn (λ_=>q) λz=>absurd rfl z
theorem tT{b:Bool}{A B:Prop}(e:b=true)(q:A):if b=true then A else B:=by rw[e];exact qm q
theorem yd{b:Bool}{A B:Prop}(e:b=false)(q:B):if b=true then A else B:=by rw[e];exact ij q
theorem gs(xs:List V)(c:Nat):jD xs none (some (c:Int))=xs.take c:=by
 unfold jD
 rw[HT.sIx_none,HT.sIx_nat,ja,ow,<-List.take_eq_take_min]
theorem lV(xs:List V)(c:Nat):jD xs (some (c:Int)) none=xs.drop c:=by
 unfold jD
 rw[HT.sIx_none,HT.sIx_nat]
 by_cases h:c<=xs.length
 ·rw[Nat.min_eq_left h];exact aT (by rw[cV];lia)
 ·rw[Nat.min_eq_right (by lia),List.drop_length,List.drop_of_length_le (by lia),List.take_nil]
theorem j9(ys:List Str):(ys.map V.str).all gJ=true:=by
 rw[cK]
 intro v hv
 obtain⟨y,_,rfl⟩:=eV.mp hv
 rfl
theorem oP(y:Str)(ls:List Str):fL (.str y) (ls.map V.str)=decide (y∈ls):=by
 unfold fL
 rw[List.any_map,Bool.eq_iff_iff,List.any_eq_true,decide_eq_true_eq]
 constructor
 ·rintro⟨z,hz,e⟩
  have e':(z==y)=true:=e
  have:z=y:=by simpa using e'
  rw[<-this];exact hz
 ·intro h
  exact⟨y,h,by show(y==y)=true;simp⟩
theorem eg.past{a l:Addr}{H H1 H2:Hp}(x:eg a H H1)(hl:H l=none)(y:eg l H1 H2):eg a H H2:=λc u n h=>y c u (ar h hl) (x c u n h)
section
variable(f:Nat->Nat)(p:Nat->Bool)
variable{f p}
end
inductive fU where
 |num (z:Int)
 |op (s:Str) (i j:Int)
 |keep (i:Int)
 |say (i:Int)
 |jump (to:Int)
 |test (i to:Int)
 |call (k:Int) (as:List Int)
 |give (i:Int)
def gY:fU->Str
 |.num _=>"num"|.op _ _ _=>"op"|.keep _=>"keep"|.say _=>"say"|.jump _=>"jump"|.test _ _=>"test"|.call _ _=>"call"|.give _=>"give"
def fu(H:Hp)(v:V):fU->Prop
 |.num z=>∃p,v=.ref p/\H p=some (.tup [.str "num",.int z])
 |.op s i j=>∃p,v=.ref p/\H p=some (.tup [.str "op",.str s,.int i,.int j])
 |.keep i=>∃p,v=.ref p/\H p=some (.tup [.str "keep",.int i])
 |.say i=>∃p,v=.ref p/\H p=some (.tup [.str "say",.int i])
 |.jump to=>∃p,v=.ref p/\H p=some (.tup [.str "jump",.int to])
 |.test i to=>∃p,v=.ref p/\H p=some (.tup [.str "test",.int i,.int to])
 |.call k as=>∃p q,v=.ref p/\H p=some (.tup [.str "call",.int k,.ref q])/\H q=some (.tup (as.map V.int))
 |.give i=>∃p,v=.ref p/\H p=some (.tup [.str "give",.int i])
theorem fu.mono{H H':Hp}{v:V}{r:fU}(h:fu H v r)(t:Tp H H'):fu H' v r:=by
 cases r with
 |num z=>obtain⟨p,e,h⟩:=h;exact⟨p,e,t _ _ h⟩
 |op s i j=>obtain⟨p,e,h⟩:=h;exact⟨p,e,t _ _ h⟩
 |keep i=>obtain⟨p,e,h⟩:=h;exact⟨p,e,t _ _ h⟩
 |say i=>obtain⟨p,e,h⟩:=h;exact⟨p,e,t _ _ h⟩
 |jump to=>obtain⟨p,e,h⟩:=h;exact⟨p,e,t _ _ h⟩
 |test i to=>obtain⟨p,e,h⟩:=h;exact⟨p,e,t _ _ h⟩
 |call k as=>obtain⟨p,q,e,h,h'⟩:=h;exact⟨p,q,e,t _ _ h,t _ _ h'⟩
 |give i=>obtain⟨p,e,h⟩:=h;exact⟨p,e,t _ _ h⟩
theorem fu.ref{H:Hp}{v:V}{r:fU}(h:fu H v r):∃p xs,v=.ref p/\H p=some (.tup (.str (gY r)::xs)):=by
 cases r with
 |num z=>obtain⟨p,e,h⟩:=h;exact⟨p,_,e,h⟩
 |op s i j=>obtain⟨p,e,h⟩:=h;exact⟨p,_,e,h⟩
 |keep i=>obtain⟨p,e,h⟩:=h;exact⟨p,_,e,h⟩
 |say i=>obtain⟨p,e,h⟩:=h;exact⟨p,_,e,h⟩
 |jump to=>obtain⟨p,e,h⟩:=h;exact⟨p,_,e,h⟩
 |test i to=>obtain⟨p,e,h⟩:=h;exact⟨p,_,e,h⟩
 |call k as=>obtain⟨p,q,e,h,h'⟩:=h;exact⟨p,_,e,h⟩
 |give i=>obtain⟨p,e,h⟩:=h;exact⟨p,_,e,h⟩
abbrev j5:=Int×List fU
def gS(H:Hp)(v:V)(b:j5):Prop:=∃p r rvs,v=.ref p/\H p=some (.tup [.int b.1,.ref r])/\H r=some (.tup rvs)/\aV (fu H) rvs b.2
theorem gS.mono{H H':Hp}{v:V}{b:j5}(h:gS H v b)(t:Tp H H'):gS H' v b:=by
 obtain⟨p,r,rvs,e,h1,h2,h3⟩:=h
 exact⟨p,r,rvs,e,t _ _ h1,t _ _ h2,h3.imp λ_ _ z=>z.mono t⟩
abbrev Ml:=Int×List j5
def sY(H:Hp)(v:V)(c:Ml):Prop:=∃p q pvs,v=.ref p/\H p=some (.tup [.int c.1,.ref q])/\H q=some (.tup pvs)/\aV (gS H) pvs c.2
theorem sY.mono{H H':Hp}{v:V}{c:Ml}(h:sY H v c)(t:Tp H H'):sY H' v c:=by
 obtain⟨p,q,pvs,e,h1,h2,h3⟩:=h
 exact⟨p,q,pvs,e,t _ _ h1,t _ _ h2,h3.imp λ_ _ z=>z.mono t⟩
def kf:fU->List Int
 |.op _ i j=>[i,j]
 |.call _ as=>as
 |.keep i=>[i]
 |.say i=>[i]
 |.test i _=>[i]
 |.give i=>[i]
 |_=>[]
def jj(n:Int):fU->List Int
 |.jump to=>[to]
 |.test _ to=>[n+1,to]
 |.give _=>[]
 |_=>[n+1]
def yL:fU->Bool
 |.keep _=>true
 |.jump _=>true
 |_=>false
def ix(_:Fg):Sp:=λvs H Q _=>∃v r,vs=[v]/\fu H v r/\∀(p:Addr) (H':Hp),H' p=some (.tup ((kf r).map V.int))->aH H H'->Q (.ref p) H'
abbrev sj:Nat:=0
abbrev rX:Nat:=1
def iH(b:List V)(x:V):List V:=(x::b).take b.length
def BF(n:Nat)(args:List V)(e:V):List V:=args.foldl iH (ax n e)
def SeqAt(H:Hp)(a:Addr)(xs:List V):Prop:=H a=some (.lst xs)\/H a=some (.tup xs)
def iJ(_:Fg):Sp:=λvs H Q _=>∃(b:Addr) (x:V) (xs:List V),vs=[.ref b,x]/\H b=some (.tup xs)/\xs≠[]/\xs.length<=1000/\
 ∀(p:Addr) (H':Hp),H' p=some (.tup (iH xs x))->aH H H'->Q (.ref p) H'
def nZ(_:Fg):Sp:=λvs H Q _=>∃(n:Nat) (a:Addr) (e:V) (xs:List V),vs=[.int (n:Nat),.ref a,e]/\SeqAt H a xs/\1<=n/\n<=1000/\
 ∀(p:Addr) (H':Hp),H' p=some (.tup (BF n xs e))->aH H H'->Q (.ref p) H'
abbrev Cb:Nat:=0
abbrev Bk:Nat:=1
abbrev ED:Nat:=1
abbrev DW:Nat:=2
def oV:Option Str->V
 |none=>.non
 |some y=>.str y
def dh(os:List (Option Str)):List V:=os.map oV
theorem Dv(o:Option Str):gJ (oV o)=true:=by cases o<;>rfl
theorem Af(os:List (Option Str)):(dh os).all gJ=true:=by
 rw[cK]
 intro v hv
 obtain⟨y,_,rfl⟩:=eV.mp hv
 exact Dv y
theorem cJ(os:List (Option Str)):(dh os).length=os.length:=aa ..
theorem kK{os:List (Option Str)}{i:Nat}{o:Option Str}(h:os[i]?=some o):(dh os)[i]?=some (oV o):=by
 unfold dh;rw[aG,h];rfl
theorem qt{os:List (Option Str)}{i:Nat}{v:V}(h:(dh os)[i]?=some v):∃o,os[i]?=some o/\v=oV o:=by
 unfold dh at h
 rw[aG] at h
 cases e:os[i]? with
 |none=>rw[e] at h;cases h
 |some o=>rw[e] at h;exact⟨o,rfl,(Option.some.inj h).symm⟩
theorem Dl(a b:Option Str):vw (oV a) (oV b)=decide (a=b):=by
 cases a with
 |none=>cases b with
  |none=>rfl
  |some y=>rfl
 |some x=>cases b with
  |none=>rfl
  |some y=>
   show(x==y)=decide (some x=some y)
   rw[Bool.eq_iff_iff,beq_iff_eq,decide_eq_true_eq]
   exact⟨λh=>by rw[h],λh=>Option.some.inj h⟩
theorem qr{a b:Option Str}(h:oV a=oV b):a=b:=by
 cases a with
 |none=>cases b with
  |none=>rfl
  |some y=>cases h
 |some x=>cases b with
  |none=>cases h
  |some y=>injection h with h;rw[h]
theorem Gz{a:Option Str}:oV a=.non↔a=none:=⟨λh=>qr (b:=none) h,λh=>by rw[h];rfl⟩
def dI(os:List (Option Str))(x:Option Str):List (Option Str):=(x::os).take os.length
theorem GP(os:List (Option Str))(x:Option Str):iH (dh os) (oV x)=dh (dI os x):=by
 unfold iH dI dh
 rw[aa,cM,cg]
theorem gd(os:List (Option Str))(x:Option Str):(dI os x).length=os.length:=by
 unfold dI;rw[aL,bI];omega
def cS(x:Str)(o:Option Str):Option Str:=if o=some x then none else o
def rZ(os:List (Option Str))(x:Str):List (Option Str):=dI (os.map (cS x)) (some x)
def lz(os:List (Option Str))(i:Nat):List (Option Str):=dI os ((os[i]?).getD none)
def J1(p:Option Str×Option Str):Bool:=decide (p.1=none) || decide (p.1=p.2)
def Bd(as bs:List (Option Str)):Bool:=((as.zip bs).map J1).all id
def oQ:fU->Bool
 |.num _=>true
 |.op _ _ _=>true
 |.call _ _=>true
 |_=>false
def Dd(r:fU)(os:List (Option Str))(x:Option Str):List (Option Str):=match r with
 |.keep i=>lz os i.toNat
 |_=>match x with
  |some y=>if oQ r then rZ os y else os
  |none=>os
def mi(_:Fg):Sp:=λvs H Q _=>∃(a b:Addr) (as bs:List (Option Str)),vs=[.ref a,.ref b]/\H a=some (.tup (dh as))/\H b=some (.tup (dh bs))/\as.length=bs.length/\as.length<=1000/\
 ∀H',aH H H'->Q (.bl (Bd as bs)) H'
def jT(_:Fg):Sp:=λvs H Q _=>∃(a:Addr) (os:List (Option Str)) (x:Str),vs=[.ref a,.str x]/\H a=some (.tup (dh os))/\os≠[]/\os.length<=1000/\
 ∀(p:Addr) (H':Hp),H' p=some (.tup (dh (rZ os x)))->aH H H'->Q (.ref p) H'
abbrev Cf:Nat:=0
abbrev Bn:Nat:=1
abbrev yg:Nat:=1
abbrev xB:Nat:=2
abbrev Ca:Nat:=2
abbrev Bj:Nat:=3
end Bg
end
section
namespace Bg
open PySem PySem.Spec PyProof.Rows L2
abbrev HW:List Str:=["_law_state","_law_many"]
abbrev FJ:List Str:=["_law_state","_law_many","_law_script","_law_k","_law_digit","_law_cell"]
def Hn(K:Fg):TS:=(cF (aX (jK) (aX (jK) (aX (fz K) (aj 5) (aj 5)) (tC (.int 1999999973))) (aj 1)))
def Ho(K:Fg):TS:=(bf (bD (aX (jK) (aX (fz K) (aj 5) (aj 5)) (tC (.int 2147483587))) (aK 5)) (Hn K))
def AI(K:Fg):TS:=(bf (bD (aX (jK) (aX (fz K) (aX (jK) (aj 5) (tC (.int 2147483629))) (aX (cZ K) (aj 3) (tC (.int 3)))) (tC (.int 2147483629))) (aK 5)) (Ho K))
def Hq(K:Fg):TS:=(bf (di (bN (aX (LW) (e8 (fP K) (ah (aj 2) aE)) (tC (.int 0)))) (bD (aX (cZ K) (aj 5) (aX (fz K) (aX (cw K) (aj 2) (aX (jK) (aX (fz K) (aj 3) (tC (.int 7))) (e8 (fP K) (ah (aj 2) aE)))) (aX (cZ K) (tC (.int 48271)) (aj 3)))) (aK 5)) b5) (AI K))
def pq(K:Fg):TS:=(bf (bD (aX (cZ K) (aX (fz K) (aj 3) (tC (.int 7919))) (tC (.int 5))) (aK 5)) (Hq K))
def Hr(K:Fg):TS:=(cF (aj 4))
def AJ(K:Fg):TS:=(di (bN (aX ((yx K true)) (aX (cw K) (aj 0) (tC (.int 2))) (b7 (ah (tC (.int 0)) (ah (ND Nd (tC (.int 1))) aE))))) (bf (bD (e8 (JE) (ah (aX (cw K) (aj 0) (tC (.int 2))) (ah (aj 1) aE))) (nW K 2 (eF (oM (aj 0) (tC (.int 2)) lA) (eF (aK 4) mP)))) (Hr K)) b5)
def AK(K:Fg):TS:=(bf (di (CK (bN (aX (vC) (aX (cZ K) (aX (Cw) (aj 3) (tC (.int 12))) (tC (.int 1))) (e8 (fP K) (ah (aj 2) aE)))) (bN (aX (fV K) (aX (jK) (aX (cw K) (aj 2) (tC (.int 0))) (tC (.int 2))) (tC (.int 1))))) (bf (di (bN (aX (fV K) (aX (jK) (aj 3) (tC (.int 12))) (tC (.int 0)))) (bD (aX (cw K) (aj 2) (aX (cZ K) (aX (Cw) (aj 3) (tC (.int 12))) (tC (.int 1)))) (oM (aj 0) (tC (.int 2)) lA)) b5) (AJ K)) (di (bN (aX (vC) (aj 3) (e8 (fP K) (ah (aj 2) aE)))) (cF (aX (jK) (aX (cw K) (aj 2) (aj 3)) (aj 1))) b5)) (pq K))
def Hs(K:Fg):TS:=(bf (bD (aX (cZ K) (aj 3) (tC (.int 1))) (oM (aj 0) (tC (.int 1)) lA)) (AK K))
def Hm(K:Fg):TS:=(bf (bD (pj (vD K) (aj 0) cY (eI (tC (.int 2)))) (Ge K 2 (eF (aK 2) (eF (aK 3) mP)))) (Hs K))
abbrev FM:List Str:=["_law_state","_law_many"]
abbrev xF:List Str:=["_law_state","_law_many","_law_letters","_law_size","_law_at","_law_first","_law_base","_law_found","_law_k","_law_some","_law_name"]
def wZ(K:Fg):TS:=(cF (aj 7))
def xa(K:Fg):TS:=(iK (yP K "list" eN (aj 7) (ah (aj 10) aE)))
def xb(K:Fg):TS:=(bf (di (NC (bN (aX ((yx K false)) (aj 10) (b7 (ah (tC (.str "part")) (ah (tC (.str "call")) (ah (tC (.str "say")) (ah (tC (.str "jump")) (ah (tC (.str "test")) (ah (tC (.str "give")) aE))))))))) (CK (bN (aX (vC) (aj 3) (tC (.int 8)))) (bN (aX (fV K) (aX (jK) (aX (cZ K) (aj 3) (aj 8)) (tC (.int 3))) (tC (.int 1)))))) (bD (aX (cZ K) (aj 10) (tC (.str "x"))) (aK 10)) b5) (xa K))
def Ff(K:Fg):TS:=(bf (bD (yP K "str" (GW K) (tC (.str "")) (ah (aj 9) aE)) (aK 10)) (xb K))
def Fh(K:Fg):TS:=(bf (bD (aX (cZ K) (aX (cZ K) (pj (vD K) (aj 6) cY (eI (aj 4))) (ki (ah (aX (cw K) (aj 2) (aX (jK) (aX (cZ K) (aj 5) (aX (fz K) (tC (.int 5)) (aj 8))) (tC (.int 26)))) aE))) (pj (vD K) (aj 6) (eI (aX (cZ K) (aj 4) (tC (.int 1)))) cY)) (aK 9)) (Ff K))
def xc(K:Fg):TS:=(bf (jy (ly (ah (aj 1) aE)) (aK 8) (Fh K)) (wZ K))
def Fi(K:Fg):TS:=(bf (bD (ki aE) (aK 7)) (xc K))
def Fj(K:Fg):TS:=(bf (bD (dC [] 1 (ly (ah (aj 3) aE)) (aK 11) gw (aX (cw K) (aj 2) (aX (jK) (aX (cZ K) (aj 5) (aX (fz K) (aX (fz K) (tC (.int 7)) (aj 11)) (a7 (b9 K) [] E0 (ah (aj 0) (ah (tC (.int 4)) aE))))) (tC (.int 26))))) (aK 6)) (Fi K))
def Fk(K:Fg):TS:=(bf (bD (a7 (b9 K) [] E0 (ah (aj 0) (ah (tC (.int 26)) aE))) (aK 5)) (Fj K))
def uW(K:Fg):TS:=(bf (bD (a7 (b9 K) [] E0 (ah (aj 0) (ah (aj 3) aE))) (aK 4)) (Fk K))
def CT(K:Fg):TS:=(bf (bD (aX (cZ K) (tC (.int 1)) (a7 (b9 K) [] E0 (ah (aj 0) (ah (tC (.int 8)) aE)))) (aK 3)) (uW K))
def DQ(K:Fg):TS:=(bf (bD (tC (.str "abcdefghijklmnopqrstuvwxyz")) (aK 2)) (CT K))
abbrev D8:List Str:=["_law_rows","_law_names_here","_law_bare"]
abbrev zh:List Str:=["_law_rows","_law_names_here","_law_bare","_law_last","_law_n","_law_to","_law_turn"]
def CP(K:Fg):TS:=(cF (aj 0))
def CQ(K:Fg):TS:=(di (bN (aX (fV K) (aX (cw K) (aX (cw K) (aj 0) (aj 5)) (tC (.int 0))) (tC (.str "jump")))) (bD (aX (cw K) (ki (ah (b7 (ah (tC (.str "say")) (ah (tC (.str "")) aE))) (ah (b7 (ah (tC (.str "give")) (ah (tC (.str "")) aE))) aE))) (e8 (wD) (ah (aX (fV K) (aj 4) (aj 3)) aE))) (oM (aj 0) (aj 4) lA)) b5)
def CS(K:Fg):TS:=(di (bN (aX (fV K) (aX (cw K) (aX (cw K) (aj 0) (aj 5)) (tC (.int 0))) (tC (.str "jump")))) (bD (aX (cw K) (aX (cw K) (aj 0) (aj 5)) (tC (.int 1))) (aK 5)) b5)
def uR(K:Fg):TS:=(bf (jy (fH K (aj 0)) (aK 6) (CS K)) (CQ K))
def uS(K:Fg):TS:=(bf (bD (aj 4) (aK 5)) (uR K))
def uT(K:Fg):TS:=(bf (jy (ly (ah (e8 (fP K) (ah (aj 0) aE)) aE)) (aK 4) (uS K)) (CP K))
def uU(K:Fg):TS:=(bf (di (CK (tB (aj 2)) (CK (bN (aX (Cy K) (aX (cw K) (aX (cw K) (aj 0) (tC (.int 0))) (tC (.int 0))) (tC (.str "num")))) (bN (aX (LW) (aj 3) (tC (.int 0)))))) (bD (b7 (ah (tC (.str "num")) (ah (aX (cw K) (aj 1) (tC (.int 0))) (ah (tC (.int 3)) aE)))) (oM (aj 0) (tC (.int 0)) lA)) b5) (uT K))
def uV(K:Fg):TS:=(bf (di (bN (aX ((yx K true)) (aX (cw K) (aX (cw K) (aj 0) (aj 3)) (tC (.int 0))) (b7 (ah (tC (.str "jump")) (ah (tC (.str "give")) aE))))) (bD (b7 (ah (tC (.str "give")) (ah (tC (.str "")) aE))) (oM (aj 0) (aj 3) lA)) b5) (uU K))
def AQ(K:Fg):TS:=(bf (bD (aX (DB) (e8 (fP K) (ah (aj 0) aE)) (tC (.int 1))) (aK 3)) (uV K))
abbrev D6:List Str:=["_law_state","_law_rows","_law_known"]
abbrev tj:List Str:=["_law_state","_law_rows","_law_known","_law_found","_law_n","_law_row","_law_some","_law_thing"]
def CN(K:Fg):TS:=(cF (e8 (cI K) (ah (aj 3) aE)))
def CO(K:Fg):TS:=(iK (yP K "list" eN (aj 3) (ah (aX (cZ K) (b7 (ah (aX (cw K) (aj 5) (tC (.int 0))) aE)) (e8 (cI K) (ah (aj 6) aE))) aE)))
def uK(K:Fg):TS:=(iK (yP K "list" eN (aj 6) (ah (aj 7) aE)))
def uL(K:Fg):TS:=(bf (di (bN (aX (fV K) (aj 7) (tC (.str "")))) (bD (aX (cw K) (aX (cw K) (aj 2) (aj 4)) (a7 (b9 K) [] E0 (ah (aj 0) (ah (e8 (fP K) (ah (aX (cw K) (aj 2) (aj 4)) aE)) aE)))) (aK 7)) (di (tB (e8 (NR K) (ah (aj 7) (ah (tC (.ty "tuple")) aE)))) (bD (e8 (cI K) (ah (dC [] 1 (fH K (aj 7)) (aK 8) gw (aX (cw K) (aX (cw K) (aj 2) (aj 4)) (a7 (b9 K) [] E0 (ah (aj 0) (ah (e8 (fP K) (ah (aX (cw K) (aj 2) (aj 4)) aE)) aE))))) aE)) (aK 7)) b5)) (uK K))
def uM(K:Fg):TS:=(bf (jy (fH K (pj (vD K) (aj 5) (eI (tC (.int 1))) cY)) (aK 7) (uL K)) (CO K))
def om(K:Fg):TS:=(bf (bD (ki aE) (aK 6)) (uM K))
def uN(K:Fg):TS:=(bf (jy (Gj K (ah (aj 1) aE)) (nW K 2 (eF (aK 4) (eF (aK 5) mP))) (om K)) (CN K))
def AL(K:Fg):TS:=(bf (bD (ki aE) (aK 3)) (uN K))
abbrev HY:List Str:=["_law_state","_law_word","_law_names_here","_law_params","_law_counts","_law_most"]
abbrev Bo:List Str:=["_law_state","_law_word","_law_names_here","_law_params","_law_counts","_law_most","_law_many","_law_rows","_law_known"]
def AY(K:Fg):TS:=(cF (b7 (ah (aj 1) (ah (e8 (cI K) (ah (aj 3) aE)) (ah (a7 (qD K) [] E0 (ah (aj 0) (ah (aj 7) (ah (aj 8) aE)))) aE)))))
def AZ(K:Fg):TS:=(bf (bD (a7 (kY K) [] E0 (ah (aj 7) (ah (aj 2) (ah (aj 3) aE)))) (aK 8)) (AY K))
def A0(K:Fg):TS:=(bf (bD (a7 (qF K) [] E0 (ah (aj 7) (ah (aj 2) (ah (aX (fV K) (e8 (fP K) (ah (aj 3) aE)) (tC (.int 0))) aE)))) (aK 7)) (AZ K))
def A1(K:Fg):TS:=(bf (bD (dC [] 1 (ly (ah (aj 6) aE)) (aK 9) gw (a7 (kX K) [] E0 (ah (aj 0) (ah (aj 2) (ah (aj 6) (ah (aj 4) aE)))))) (aK 7)) (A0 K))
def Hu(K:Fg):TS:=(bf (bD (e8 (Kk) (ah (aX (cZ K) (tC (.int 1)) (e8 (wD) (ah (aX (fV K) (e8 (fP K) (ah (aj 3) aE)) (tC (.int 0))) aE))) (ah (aX (cZ K) (tC (.int 1)) (a7 (b9 K) [] E0 (ah (aj 0) (ah (aj 5) aE)))) aE))) (aK 6)) (A1 K))
abbrev Bu:List Str:=["_law_state","_law_most"]
abbrev pZ:List Str:=["_law_state","_law_most","_law_five","_law_words","_law_names_here","_law_counts","_law_found","_law_word","_law_many","_law_turn","_law_params"]
def A2(K:Fg):TS:=(cF (e8 (cI K) (ah (aj 6) aE)))
def rE(K:Fg):TS:=(iK (yP K "list" eN (aj 6) (ah (a7 (yO K) [] E0 (ah (aj 0) (ah (aj 7) (ah (aj 4) (ah (aj 10) (ah (aj 5) (ah (aj 1) aE))))))) aE)))
def rF(K:Fg):TS:=(bf (bD (pj (vD K) (aX (cZ K) (pj (vD K) (aj 4) (eI (aj 9)) cY) (pj (vD K) (aj 4) cY (eI (aj 9)))) cY (eI (aj 8))) (aK 10)) (rE K))
def rG(K:Fg):TS:=(bf (bD (a7 (b9 K) [] E0 (ah (aj 0) (ah (e8 (fP K) (ah (aj 4) aE)) aE))) (aK 9)) (rF K))
def rH(K:Fg):TS:=(bf (jy (KL K (ah (aj 3) (ah (aj 5) aE))) (nW K 2 (eF (aK 7) (eF (aK 8) mP))) (rG K)) (A2 K))
def rJ(K:Fg):TS:=(bf (bD (ki aE) (aK 6)) (rH K))
def rK(K:Fg):TS:=(bf (bD (dC [7] 0 (fH K (aj 3)) (aK 7) gw (a7 (b9 K) [] E0 (ah (aj 0) (ah (aX (cZ K) (e8 (Nc) (ah (tC (.int 4)) (ah (e8 (fP K) (ah (aj 4) aE)) aE))) (tC (.int 1))) aE)))) (aK 5)) (rJ K))
def rL(K:Fg):TS:=(bf (bD (a7 (ph K) [] E0 (ah (aj 0) (ah (aX (cZ K) (tC (.int 2)) (a7 (b9 K) [] E0 (ah (aj 0) (ah (tC (.int 5)) aE)))) aE))) (aK 4)) (rK K))
def rM(K:Fg):TS:=(bf (bD (pj (vD K) (a7 (ph K) [] E0 (ah (aj 0) (ah (tC (.int 5)) aE))) cY (eI (aX (cw K) (ki (ah (aX (cZ K) (tC (.int 1)) (a7 (b9 K) [] E0 (ah (aj 0) (ah (tC (.int 3)) aE)))) (ah (tC (.int 5)) aE))) (aj 2)))) (aK 3)) (rL K))
def xj(K:Fg):TS:=(bf (bD (e8 (wD) (ah (aX (fV K) (aX (jK) (aX (Cw) (e8 (NS K) (ah (pj (vD K) (aX (cw K) (aj 0) (tC (.int 0))) cY (eI (tC (.int 1)))) aE)) (tC (.int 4))) (tC (.int 16))) (tC (.int 5))) aE)) (aK 2)) (rM K))
end Bg
end
section
namespace Bg
open PySem L2
abbrev Ie:Str:="abcdefghijklmnopqrstuvwxyz"
theorem C8:Ie.length<=sizeLine:=by decide +kernel
def one(c:Nat):Str:=⟨#[c]⟩
theorem zI:∀cs:List Nat,(Txt.join "" (cs.map one)).cps.toList=cs
 |[]=>by decide +kernel
 |c::r=>by
  unfold Txt.join
  rw[StrLaws.glued_eq_join]
  induction r generalizing c with
  |nil=>rfl
  |cons d r ih=>
   show(one c++("":Str)++Str.join "" ((d::r).map one)).cps.toList=_
   have e:(one c++("":Str)++Str.join "" ((d::r).map one)).cps.toList=(one c).cps.toList++("":Str).cps.toList++(Str.join "" ((d::r).map one)).cps.toList:=by
    show((one c).cps++("":Str).cps++(Str.join "" ((d::r).map one)).cps).toList=_
    rw[iT,iT]
   rw[e,ih d]
   rfl
theorem kc(y:Str):y.length=y.cps.toList.length:=by
 show y.cps.size=_
 rw[dY]
theorem zx:∀j:Nat,j<26->Ie.cps.toList[j]?=some (97+j):=by decide +kernel
theorem G8:∀y∈G7,y.length<=4:=by decide +kernel
theorem Fc:∀y∈G7,y.cps.toList.getLast?≠some 120:=by decide +kernel
theorem Dh(y:Str):(y++"x").cps.toList=y.cps.toList++[120]:=by
 show(y.cps++("x":Str).cps).toList=_
 rw[iT]
 rfl
theorem Ad{y:Str}{cs:List Nat}(h:y.cps.toList=cs)(l1:1<=cs.length)(l8:cs.length<=8)(a:∀c∈cs,97<=c/\c<=122)(n:y∉G7):Nm y:=
 ⟨by rw[kc,h];exact l1,by rw[kc,h];exact l8,by rw[h];exact a,n⟩
theorem ML{y:Str}{cs:List Nat}(h:y.cps.toList=cs)(l8:cs.length<=7)(a:∀c∈cs,97<=c/\c<=122):Nm (y++"x"):=by
 have e:=Dh y
 rw[h] at e
 refine⟨by rw[kc,e,aq];simp,by rw[kc,e,aq];simp;lia,λc hc=>?_,λhm=>?_⟩
 ·rw[e] at hc
  rcases a8.mp hc with z|z
  ·exact a c z
  ·rw[au.mp z];decide
 ·have:=Fc _ hm
  rw[e,List.getLast?_append] at this
  exact this rfl
def NJ(st b l:Addr)(n sz at':Nat)(f:Int)(H4:Hp)(i:Nat):St->Hp->Prop:=λσ' H'=>∃(ys:List Str) (o1 o2 o3:Option V),σ'=[some (.ref st),some (.int (n:Nat)),some (.str Ie),some (.int (sz:Nat)),some (.int (at':Nat)),some (.int f),some (.ref b),some (.ref l),o1,o2,o3]/\H' l=some (.lst (ys.map V.str))/\ys.length=i/\(∀y∈ys,Nm y)/\(∀(j:Nat) y,ys[j]?=some y->y.cps.toList[at']?=some (97+((f+5*(j:Int)) % 26).toNat))/\eg l (upd H4 l (.lst [])) H'
theorem JK{K:Fg}{vs:List V}{H:Hp}{Q:VK}{E:XK}(h:ph K vs H Q E):DQ K {nx:=λ_ H'=>Q .non H',rt:=Q} (cC xF vs) H:=by
 obtain⟨st,n,k,rfl,S,hk,hn,q⟩:=h
 refine⟨_,rfl,st,8,k,rfl,S,by lia,by decide,by decide,λd H1 d0 d1 S1 B1=>.inl ⟨_,_,rfl,rfl,?_⟩⟩
 obtain⟨sz,hsz,z1,z8⟩:∃sz:Nat,(1:Int)+d=(sz:Int)/\1<=sz/\sz<=8:=⟨(1+d).toNat,by lia,by lia,by lia⟩
 show uW K _ [some (.ref st),some (.int (n:Nat)),some (.str Ie),some (.int ((1:Int)+d)),none,none,none,none,none,none,none] H1
 rw[hsz]
 refine⟨_,rfl,_,rfl,st,_,k+1,rfl,S1,by lia,by lia,by lia,λa H2 a0 a1 S2 B2'=>?_⟩
 obtain⟨at',rfl⟩:∃j:Nat,a=(j:Int):=⟨a.toNat,by lia⟩
 have B2:=B1.trans B2'
 refine⟨_,rfl,st,26,k+2,rfl,S2,by lia,by decide,by decide,λf H3 f0 f1 S3 B3'=>?_⟩
 have B3:=B2.trans B3'
 refine⟨_,rfl,_,rfl,by lia,by lia,λb hb=>?_⟩
 obtain⟨ys3,hs3⟩:=S3.lst
 have nb:b≠st:=λz=>by rw[z,hs3] at hb;cases hb
 refine kF (λi σ' H'=>∃(bc:List Nat) (kk:Nat) (o:Option V),σ'=[some (.ref st),some (.int (n:Nat)),some (.str Ie),some (.int (sz:Nat)),some (.int (at':Nat)),some (.int f),none,none,none,none,none,o]/\
  H' b=some (.lst ((bc.map one).map V.str))/\bc.length=i/\(∀c∈bc,97<=c/\c<=122)/\gc K H' st kk/\kk<=k+3+i/\eg st H H') ?_ ?_ ?_
 ·exact⟨[],k+3,none,rfl,ai,rfl,by simp,S3.new hb,by lia,B3.new hb⟩
 ·rintro i σ' H' hi ⟨bs,kk,o,rfl,hbl,hlen,hone,S4,hkk,B4⟩
  have hi:i<sz:=by simpa using hi
  refine dz ?_
  refine⟨_,rfl,_,rfl,_,rfl,.inl ⟨_,_,rfl,rfl,.inl ⟨by decide,by decide⟩,_,rfl,st,4,kk,rfl,S4,by lia,by decide,by decide,λe H5 e0 e1 S5 B5=>.inl ⟨_,_,rfl,rfl,.inr ⟨by lia,by lia⟩,.inl ⟨_,_,rfl,rfl,_,_,rfl,rfl,(by show(0:Int)<26;decide),?_⟩⟩⟩⟩
  have x0:0<=(f+7*(0+(i:Int))*e) % 26:=cU _ (by decide)
  have x1:(f+7*(0+(i:Int))*e) % 26<26:=cR _ (by decide)
  refine NN C8 x0 (zx _ (by lia)) ?_
  have x2:((f+7*(0+(i:Int))*e) % 26).toNat<26:=by lia
  generalize ((f+7*(0+(i:Int))*e) % 26).toNat=x at x2
  have h5:=B5 b _ nb hbl
  refine⟨_,h5,bO (by rw[aa,aa];lia),bs++[97+x],kk+1,_,rfl,?_,by simp[hlen],?_,?_,by lia,?_⟩
  ·rw[ai,aC,aC];rfl
  ·intro y hy
   rcases a8.mp hy with z|z
   ·exact hone y z
   ·rw[au.mp z];lia
  ·exact S5.mono .upd_at h5 (Ne.symm nb)
  ·exact λc' u n' h'=>by
    have w:=(B4.trans B5) c' u n' h'
    have ncb:c'≠b:=λz=>by
     have:H c'=none:=(B3.free (λz'=>n' z') (by rw[z];exact hb))
     rw[this] at h';cases h'
    rw[aF ncb];exact w
 ·rintro σ' H4 ⟨bs,kk,o,rfl,hbl,hlen,hone,S4,hkk,B4⟩
  have hlen:bs.length=sz:=by simpa using hlen
  have hkk:kk<=k+3+sz:=by simpa using hkk
  refine⟨(by show 0<=sizeLine;decide),λl hl=>?_⟩
  have nlb:b≠l:=ar hbl hl
  obtain⟨ys4,hs4⟩:=S4.lst
  have nls:st≠l:=ar hs4 hl
  have Hl:H l=none:=B4.free (Ne.symm nls) hl
  show xc K _ [some (.ref st),some (.int (n:Nat)),some (.str Ie),some (.int (sz:Nat)),some (.int (at':Nat)),some (.int f),some (.ref b),some (.ref l),none,none,none] (upd H4 l (.lst []))
  refine⟨_,rfl,_,rfl,by lia,by lia,iq (NJ st b l n sz at' f H4) ⟨[],none,none,none,rfl,ai,rfl,by simp,by simp,.refl _ _⟩ ?_ ?_⟩
  ·rintro i σ' H5 hi ⟨ys,o1,o2,o3,rfl,hyl,ylen,yok,ycd,B5⟩
   have hi:i<n:=by simpa using hi
   have hb5:H5 b=some (.lst ((bs.map one).map V.str)):=B5 b _ nlb (by rw[aF nlb];exact hbl)
   refine⟨_,rfl,_,rfl,_,rfl,.inl ⟨b,_,rfl,bY.of hb5,λp1 hp1=>?_⟩⟩
   rw[gs,<-cM,<-cM]
   have np1b:b≠p1:=ar hb5 hp1
   have np1l:l≠p1:=ar hyl hp1
   refine⟨_,rfl,_,rfl,_,rfl,.inl ⟨_,_,rfl,rfl,.inl ⟨by decide,by decide⟩,.inl ⟨_,_,rfl,rfl,_,_,rfl,rfl,(by show(0:Int)<26;decide),?_⟩⟩⟩
   have e00:(0:Int)+(i:Int)=(i:Int):=by lia
   rw[e00]
   have x0:0<=(f+5*(i:Int)) % 26:=cU _ (by decide)
   have x1:(f+5*(i:Int)) % 26<26:=cR _ (by decide)
   obtain⟨c,hc⟩:∃c,c=97+((f+5*(i:Int)) % 26).toNat:=⟨_,rfl⟩
   refine NN C8 x0 (by rw[zx _ (by lia),<-hc]) ⟨(by show 1<=sizeLine;decide),λp2 hp2=>?_⟩
   have np12:p1≠p2:=ar ai hp2
   have np2b:b≠p2:=ar (by rw[aF np1b];exact hb5) hp2
   have np2l:l≠p2:=ar (by rw[aF np1l];exact hyl) hp2
   refine .inr (.inr (.inl ⟨p1,p2,_,_,rfl,rfl,by rw[aF np12,ai],ai,?_,λp3 hp3=>?_⟩))
   ·have:=bO (n:=9) (by decide)
    rw[aa,aa,aL]
    show min at' bs.length+1<=sizeLine
    lia
   have np13:p1≠p3:=ar (by rw[aF np12];exact ai) hp3
   have np3b:b≠p3:=ar (by rw[aF np2b,aF np1b];exact hb5) hp3
   have np3l:l≠p3:=ar (by rw[aF np2l,aF np1l];exact hyl) hp3
   refine⟨_,rfl,_,rfl,.inl ⟨_,_,rfl,rfl,_,rfl,.inl ⟨b,_,rfl,bY.of (by rw[aF np3b,aF np2b,aF np1b];exact hb5),λp4 hp4=>?_⟩⟩⟩
   rw[show((at':Int)+1)=((at'+1:Nat):Int) by lia,lV,<-iA,<-iA]
   have np34:p3≠p4:=ar ai hp4
   have np4l:l≠p4:=ar (by rw[aF np3l,aF np2l,aF np1l];exact hyl) hp4
   refine .inr (.inr (.inl ⟨p3,p4,_,_,rfl,rfl,by rw[aF np34,ai],ai,?_,λp5 hp5=>?_⟩))
   ·have:=bO (n:=100) (by decide)
    rw[aq,aa,aa,aa,aa,aL,cV]
    show min at' bs.length+1+(bs.length-(at'+1))<=sizeLine
    lia
   have np5l:l≠p5:=ar (by rw[aF np4l,aF np3l,aF np2l,aF np1l];exact hyl) hp5
   have ew:((bs.take at').map one).map V.str++[V.str ⟨#[c]⟩]++((bs.drop (at'+1)).map one).map V.str=((bs.take at'++[c]++bs.drop (at'+1)).map one).map V.str:=by rw[aC,aC,aC,aC];rfl
   rw[ew]
   have wl:(bs.take at'++[c]++bs.drop (at'+1)).length=sz:=by rw[aq,aq,aL,cV,aR];lia
   have wone:∀y∈bs.take at'++[c]++bs.drop (at'+1),97<=y/\y<=122:=λy hy=>by
    rcases a8.mp hy with z|z
    ·rcases a8.mp z with z|z
     ·exact hone y (dR z)
     ·rw[au.mp z];lia
    ·exact hone y (List.mem_of_mem_drop z)
   have wat:(bs.take at'++[c]++bs.drop (at'+1))[at']?=some c:=by
    have tl:(bs.take at').length=at':=by rw[aL];lia
    rw[bj,aI (by lia),tl,dw]
    rfl
   generalize bs.take at'++[c]++bs.drop (at'+1)=w at wl wone wat ⊢
   have B6:=((((B5.new (o:=.lst (((bs.take at').map one).map V.str)) hp1).new (o:=.lst [V.str ⟨#[c]⟩]) hp2).new (o:=.lst (((bs.take at').map one).map V.str++[V.str ⟨#[c]⟩])) hp3).new (o:=.lst (((bs.drop (at'+1)).map one).map V.str)) hp4).new (o:=.lst ((w.map one).map V.str)) hp5
   have h6:(upd (upd (upd (upd (upd H5 p1 (.lst (((bs.take at').map one).map V.str))) p2 (.lst [V.str ⟨#[c]⟩])) p3 (.lst (((bs.take at').map one).map V.str++[V.str ⟨#[c]⟩]))) p4 (.lst (((bs.drop (at'+1)).map one).map V.str))) p5 (.lst ((w.map one).map V.str))) l=some (.lst (ys.map V.str)):=by
    rw[aF np5l,aF np4l,aF np3l,aF np2l,aF np1l];exact hyl
   have g6:(upd (upd (upd (upd (upd H5 p1 (.lst (((bs.take at').map one).map V.str))) p2 (.lst [V.str ⟨#[c]⟩])) p3 (.lst (((bs.take at').map one).map V.str++[V.str ⟨#[c]⟩]))) p4 (.lst (((bs.drop (at'+1)).map one).map V.str))) p5 (.lst ((w.map one).map V.str))) p5=some (.lst ((w.map one).map V.str)):=ai
   generalize (upd (upd (upd (upd (upd H5 p1 (.lst (((bs.take at').map one).map V.str))) p2 (.lst [V.str ⟨#[c]⟩])) p3 (.lst (((bs.take at').map one).map V.str++[V.str ⟨#[c]⟩]))) p4 (.lst (((bs.drop (at'+1)).map one).map V.str))) p5 (.lst ((w.map one).map V.str)))=H6 at B6 h6 g6 ⊢
   have wsum:((w.map one).map (·.length)).sum=w.length:=by
    rw[de,show((λx:Str=>x.length) ∘ one)=λ_=>1 from rfl,List.map_const',List.sum_replicate_nat,Nat.mul_one]
   refine⟨rfl,_,rfl,"",p5,w.map one,rfl,rfl,bY.of g6,?_,?_⟩
   ·have e:("":Str).length=0:=by decide +kernel
    rw[wsum,e,Nat.mul_zero];lia
   have jl:=zI w
   generalize Txt.join "" (w.map one)=nmw at jl ⊢
   show xb K _ [some (.ref st),some (.int (n:Nat)),some (.str Ie),some (.int (sz:Nat)),some (.int (at':Nat)),some (.int f),some (.ref b),some (.ref l),some (.int (i:Int)),some (.ref p5),some (.str nmw)] H6
   have nl:nmw.length=sz:=by rw[kc,jl,wl]
   have app:∀(nw:Str) (H7:Hp),Nm nw->nw.cps.toList[at']?=some c->eg l (upd H4 l (.lst [])) H7->H7 l=some (.lst (ys.map V.str))->xa K {nx:=NJ st b l n sz at' f H4 (i+1),rt:=Q,ct:=NJ st b l n sz at' f H4 (i+1),bk:=wZ K {nx:=λ_ H'=>Q .non H',rt:=Q}} [some (.ref st),some (.int (n:Nat)),some (.str Ie),some (.int (sz:Nat)),some (.int (at':Nat)),some (.int f),some (.ref b),some (.ref l),some (.int (i:Int)),some (.ref p5),some (.str nw)] H7:=λnw H7 w1 w2 B7 h7=>by
    refine⟨_,rfl,.inl ⟨rfl,_,bY.of h7⟩,_,rfl,l,_,_,rfl,rfl,h7,bO (by rw[aa];lia),?_⟩
    refine⟨ys++[nw],_,_,_,rfl,?_,by simp[ylen],?_,?_,B7.trans .upd_at⟩
    ·rw[ai,aC];rfl
    ·intro y hy
     rcases a8.mp hy with z|z
     ·exact yok y z
     ·rw[au.mp z];exact w1
    ·intro j y hy
     by_cases cj:j<ys.length
     ·rw[aS cj] at hy;exact ycd j y hy
     ·have cj2:j=i:=by
       have:=(ae.mp hy).1
       rw[aq,aR] at this
       lia
      subst cj2
      rw[aI (by lia),ylen,dw] at hy
      cases hy
      rw[<-hc];exact w2
   refine⟨_,rfl,(by show 6<=sizeLine;decide),λt ht=>⟨t,_,rfl,.inr (b4.of ai),rfl,rfl,_,rfl,?_⟩⟩
   have ntl:l≠t:=ar h6 ht
   have B7:=B6.new (o:=.tup [V.str "part",V.str "call",V.str "say",V.str "jump",V.str "test",V.str "give"]) ht
   have h7:(upd H6 t (.tup [V.str "part",V.str "call",V.str "say",V.str "jump",V.str "test",V.str "give"])) l=some (.lst (ys.map V.str)):=by rw[aF ntl];exact h6
   have xl:("x":Str).length=1:=by decide +kernel
   have xat:(nmw++"x").cps.toList[at']?=some c:=by
    rw[Dh,jl,aS (by rw[wl];lia)];exact wat
   show if fL (.str nmw) (G7.map V.str)=true then _ else _
   rw[oP]
   refine dn (λhin=>?_) (λhin=>?_)
   ·refine⟨_,rfl,.inr (.inl ⟨_,_,rfl,rfl,by rw[xl];have:=bO (n:=100) (by decide);lia,?_⟩)⟩
    have z4:=G8 _ hin
    exact app _ _ (ML jl (by rw[wl];lia) wone) xat B7 h7
   ·refine⟨_,rfl,_,_,rfl,rfl,_,rfl,dn (λh8=>?_) (λ_=>?_)⟩
    ·refine⟨_,rfl,_,rfl,.inl ⟨_,_,rfl,rfl,_,_,rfl,rfl,(by show(0:Int)<3;decide),.inl ⟨rfl,_,rfl,dn (λ_=>?_) (λ_=>?_)⟩⟩⟩
     ·refine⟨_,rfl,.inr (.inl ⟨_,_,rfl,rfl,by rw[xl];have:=bO (n:=100) (by decide);lia,?_⟩)⟩
      exact app _ _ (ML jl (by rw[wl];lia) wone) xat B7 h7
     ·exact app _ _ (Ad jl (by lia) (by lia) wone hin) (by rw[jl];exact wat) B7 h7
    ·exact ij (app _ _ (Ad jl (by lia) (by lia) wone hin) (by rw[jl];exact wat) B7 h7)
  ·rintro σ' H5 ⟨ys,o1,o2,o3,rfl,hyl,ylen,yok,ycd,B5⟩
   have ylen:ys.length=n:=by simpa using ylen
   have nd:ys.Nodup:=by
    rw[List.Nodup,List.pairwise_iff_getElem]
    intro i j hi hj lt e
    have e1:=ycd i _ (ag hi)
    have e2:=ycd j _ (ag hj)
    rw[e,e2] at e1
    have e3:=Option.some.inj e1
    have a1:0<=(f+5*(i:Int)) % 26:=cU _ (by decide)
    have a2:0<=(f+5*(j:Int)) % 26:=cU _ (by decide)
    lia
   refine⟨_,rfl,q l ys kk H5 Hl ylen nd yok hyl ((S4.new hl).mono B5 ai nls) (by lia) (B4.through hl B5)⟩
structure MJ(rl:Addr)(H:Hp)(R:bu->Prop)(n:Nat)(H':Hp)(rvs:List V)(rs:List bu):Prop where
 at_:H' rl=some (.lst rvs)
 all:aV (c8 H') rvs rs
 len:rs.length=n
 rough:∀r∈rs,R r
 but:eg rl H H'
theorem MJ.vlen{rl:Addr}{H H':Hp}{R:bu->Prop}{n:Nat}{rvs:List V}{rs:List bu}(m:MJ rl H R n H' rvs rs):rvs.length=n:=m.all.len.trans m.len
theorem MJ.grown{rl:Addr}{H H' H2:Hp}{R:bu->Prop}{n:Nat}{rvs:List V}{rs:List bu}(m:MJ rl H R n H' rvs rs)(s:aH H' H2):MJ rl H R n H2 rvs rs:=
 ⟨s _ _ m.at_,m.all.imp λ_ _ z=>z.mono (.of_same s),m.len,m.rough,λb o nb h=>s _ _ (m.but b o nb h)⟩
theorem MJ.set{rl:Addr}{H H':Hp}{R:bu->Prop}{n:Nat}{rvs:List V}{rs:List bu}{v:V}{r:bu}(j:Nat)(m:MJ rl H R n H' rvs rs)(q:c8 H' v r)(ro:R r) :
  MJ rl H R n (upd H' rl (.lst (rvs.set j v))) (rvs.set j v) (rs.set j r):=by
 have t:Tp H' (upd H' rl (.lst (rvs.set j v))):=(Tp.refl H').lst m.at_
 refine⟨ai,(m.all.set q).imp λ_ _ z=>z.mono t,by rw[dc];exact m.len,λr' hr'=>?_,m.but.trans .upd_at⟩
 rcases List.mem_or_eq_of_mem_set hr' with z|z
 ·exact m.rough r' z
 ·rw[z];exact ro
theorem MJ.get{rl:Addr}{H H':Hp}{R:bu->Prop}{n:Nat}{rvs:List V}{rs:List bu}(m:MJ rl H R n H' rvs rs){j:Nat}(hj:j<n):∃p xs r,rvs[j]?=some (.ref p)/\rs[j]?=some r/\H' p=some (.tup (.str (dD r)::xs))/\c8 H' (.ref p) r/\R r:=by
 obtain⟨v,r,e1,e2,q⟩:=m.all.get (i:=j) (by rw[m.len];exact hj)
 obtain⟨p,xs,rfl,hp⟩:=q.ref
 exact⟨p,xs,r,e1,e2,hp,q,m.rough r (aD e2)⟩
def J2(n:Nat)(rs:List bu):Prop:=∃r,rs[n-1]?=some r/\kb r=true
def Mu(bare:Bool)(rs:List bu):Prop:=bare=true->∃r,rs[0]?=some r/\tW r=true
theorem qM{r:bu}(h:dD r="jump"):∃to,r=.jump to:=by
 cases r with
 |jump to=>exact⟨to,rfl⟩
 |num x z=>exact absurd h (by show ¬("num":Str)="jump";decide +kernel)
 |op x s a b=>exact absurd h (by show ¬("op":Str)="jump";decide +kernel)
 |call x k as=>exact absurd h (by show ¬("call":Str)="jump";decide +kernel)
 |say a=>exact absurd h (by show ¬("say":Str)="jump";decide +kernel)
 |test a to=>exact absurd h (by show ¬("test":Str)="jump";decide +kernel)
 |give a=>exact absurd h (by show ¬("give":Str)="jump";decide +kernel)
theorem KO{r:bu}(h:dD r="num"):tW r=true:=by
 cases r with
 |num x z=>rfl
 |jump to=>exact absurd h (by show ¬("jump":Str)="num";decide +kernel)
 |op x s a b=>exact absurd h (by show ¬("op":Str)="num";decide +kernel)
 |call x k as=>exact absurd h (by show ¬("call":Str)="num";decide +kernel)
 |say a=>exact absurd h (by show ¬("say":Str)="num";decide +kernel)
 |test a to=>exact absurd h (by show ¬("test":Str)="num";decide +kernel)
 |give a=>exact absurd h (by show ¬("give":Str)="num";decide +kernel)
theorem KM{r:bu}(h:fL (.str (dD r)) [V.str "jump",V.str "give"]=true):kb r=true:=by
 cases r with
 |jump to=>rfl
 |give a=>rfl
 |num x z=>exact absurd h (by show ¬fL (.str "num") [V.str "jump",V.str "give"]=true;decide +kernel)
 |op x s a b=>exact absurd h (by show ¬fL (.str "op") [V.str "jump",V.str "give"]=true;decide +kernel)
 |call x k as=>exact absurd h (by show ¬fL (.str "call") [V.str "jump",V.str "give"]=true;decide +kernel)
 |say a=>exact absurd h (by show ¬fL (.str "say") [V.str "jump",V.str "give"]=true;decide +kernel)
 |test a to=>exact absurd h (by show ¬fL (.str "test") [V.str "jump",V.str "give"]=true;decide +kernel)
theorem sR{a b:Str}(h:V.str a=V.str b):a=b:=by cases h;rfl
theorem AB{rs:List bu}{n:Nat}(h:∀r,rs[n]?=some r->d4 r=false):stp rs n=n:=by
 unfold stp
 cases e:rs[n]? with
 |none=>rfl
 |some r=>cases r with
  |jump t=>exact absurd (h _ e) (by show ¬true=false;decide)
  |_=>rfl
theorem mJ{rs:List bu}{n:Nat}(h:∀r,rs[n]?=some r->d4 r=false):∀k,runJ rs k n=n
 |0=>rfl
 |k+1=>by
  show runJ rs k (stp rs n)=n
  rw[AB h];exact mJ h k
theorem mK(rs:List bu):∀(k n:Nat),runJ rs (k+1) n=stp rs (runJ rs k n)
 |0,n=>rfl
 |k+1,n=>by
  show runJ rs (k+1) (stp rs n)=stp rs (runJ rs k (stp rs n))
  exact mK rs k (stp rs n)
theorem Hc{rs:List bu}{j:Nat}{r':bu}(hr:d4 r'=false)(hj:j<rs.length):∀(k m:Nat),(∀r,rs[runJ rs k m]?=some r->d4 r=false)->∀r,(rs.set j r')[runJ (rs.set j r') k m]?=some r->d4 r=false:=by
 have at_j:∀r,(rs.set j r')[j]?=some r->d4 r=false:=λr e=>by
  rw[aY hj] at e;cases e;exact hr
 intro k
 induction k with
 |zero=>
  intro m h r e
  by_cases c:j=m
  ·subst c;exact at_j r e
  ·have e':(rs.set j r')[m]?=some r:=e
   rw[bz c] at e';exact h r e'
 |succ k ih=>
  intro m h r e
  by_cases c:j=m
  ·subst c
   rw[mJ at_j] at e;exact at_j r e
  ·have es:stp (rs.set j r') m=stp rs m:=by unfold stp;rw[bz c]
   have e':(rs.set j r')[runJ (rs.set j r') k (stp (rs.set j r') m)]?=some r:=e
   rw[es] at e'
   exact ih (stp rs m) h r e'
theorem ub{r:bu}(h:¬dD r="jump"):d4 r=false:=by
 cases r<;>first|rfl|exact absurd rfl h
def NI(rl nm:Addr)(bare:Bool)(H:Hp)(R:bu->Prop)(n i:Nat):St->Hp->Prop:=λσ' H'=>∃(rvs:List V) (rs:List bu) (o4 o5 o6:Option V),σ'=[some (.ref rl),some (.ref nm),some (.bl bare),some (.int ((n-1:Nat):Nat)),o4,o5,o6]/\MJ rl H R n H' rvs rs/\J2 n rs/\Mu bare rs/\∀m,m<i->∀r,rs[runJ rs n m]?=some r->d4 r=false
theorem G0{K:Fg}{vs:List V}{H:Hp}{Q:VK}{E:XK}(h:qF K vs H Q E):AQ K {nx:=λ_ H'=>Q .non H',rt:=Q} (cC zh vs) H:=by
 obtain⟨rl,nm,bare,rvs,rs,ys,R,rfl,hrl,hA,hpos,hfew,hR,rSay,rGive,rJump,hnm,ysne,rNum,nnr,hbare,q⟩:=h
 obtain⟨n,hn⟩:∃n,n=rs.length:=⟨_,rfl⟩
 have n1:1<=n:=by rw[hn];exact cu.mpr hpos
 have n100:n<=100:=by rw[hn];exact hfew
 have M0:MJ rl H R n H rvs rs:=⟨hrl,hA,hn.symm,hR,.refl _ _⟩
 refine⟨_,rfl,_,_,rfl,.inl ⟨_,bY.of hrl,rfl⟩,_,_,rfl,rfl,?_⟩
 show uV K _ [some (.ref rl),some (.ref nm),some (.bl bare),some (.int (((rvs.length:Nat):Int)-1)),none,none,none] H
 rw[show((rvs.length:Nat):Int)-1=((n-1:Nat):Nat) by rw[M0.vlen];lia]
 have loop:∀H',NI rl nm bare H R n 0 [some (.ref rl),some (.ref nm),some (.bl bare),some (.int ((n-1:Nat):Nat)),none,none,none] H'->uT K {nx:=λ_ H'=>Q .non H',rt:=Q} [some (.ref rl),some (.ref nm),some (.bl bare),some (.int ((n-1:Nat):Nat)),none,none,none] H':=λH' P0=>by
  obtain⟨rvs0,rs0,_,_,_,_,MM,_,_,_⟩:=id P0
  refine⟨_,rfl,_,_,rfl,.inl ⟨_,bY.of MM.at_,rfl⟩,_,rfl,by lia,by rw[MM.vlen];lia,iq (λi=>NI rl nm bare H R n i) P0 ?_ ?_⟩
  ·rintro i σ' H1 hi ⟨rvs,rs,o4,o5,o6,rfl,M,hE,hN,hJ⟩
   have hi:i<n:=by rw[MM.vlen] at hi;simpa using hi
   have e0:(0:Int)+(i:Int)=((i:Nat):Int):=by lia
   show uS K _ [some (.ref rl),some (.ref nm),some (.bl bare),some (.int ((n-1:Nat):Nat)),some (.int ((0:Int)+(i:Int))),o5,o6] H1
   rw[e0]
   refine⟨_,rfl,?_⟩
   show uR K _ [some (.ref rl),some (.ref nm),some (.bl bare),some (.int ((n-1:Nat):Nat)),some (.int (i:Nat)),some (.int (i:Nat)),o6] H1
   refine .inl ⟨_,rfl,rl,rfl,⟨_,bY.of M.at_⟩,lW (xs:=rvs) (λj σ H'=>∃(to:Nat) (o:Option V),σ=[some (.ref rl),some (.ref nm),some (.bl bare),some (.int ((n-1:Nat):Nat)),some (.int (i:Nat)),some (.int (to:Nat)),o]/\H'=H1/\to<n/\(∀r,rs[i]?=some r->tW r=true->to=i)/\to=runJ rs j i)
    ⟨i,o6,rfl,rfl,hi,λ_ _ _=>rfl,rfl⟩ (λ_ _ _ _ ⟨_,_,_,e,_⟩=>by rw[e];exact bY.of M.at_) ?_ ?_⟩
   ·rintro j x σ' H2 hx ⟨to,o,rfl,rfl,hto,hk,hrun⟩
    obtain⟨p,xs,r,e1,e2,hp,hra,hro⟩:=M.get hto
    have e1':rvs[((to:Nat):Int).toNat]?=some (.ref p):=by simpa using e1
    refine⟨_,rfl,_,rfl,jP (bY.of M.at_) (by lia) e1' (cE hp (by decide) rfl (.inl ⟨rfl,_,rfl,dn (λhw=>?_) (λhw=>?_)⟩))⟩
    ·obtain⟨t',rfl⟩:=qM (sR hw)
     obtain⟨p',e3,hp'⟩:=hra
     cases e3
     refine⟨_,rfl,_,rfl,jP (bY.of M.at_) (by lia) e1' (cE hp' (by decide) rfl ?_)⟩
     refine⟨t',_,rfl,rfl,by rw[hn];exact rJump _ hro,λr hr hnum=>?_,?_⟩
     ·have:=hk r hr hnum
      rw[this] at e2
      rw[e2] at hr;cases hr;cases hnum
     ·rw[mK,<-hrun];unfold stp;rw[e2]
    ·refine⟨to,_,rfl,rfl,hto,hk,?_⟩
     rw[mK,<-hrun,AB]
     intro r' hr'
     rw[e2] at hr';cases hr'
     exact ub λz=>hw (by rw[z])
   ·rintro σ' H2 ⟨to,o,rfl,rfl,hto,hk,hrun⟩
    rw[M.vlen] at hrun
    obtain⟨p,xs,r,e1,e2,hp,hra,hro⟩:=M.get hto
    have e1':rvs[((to:Nat):Int).toNat]?=some (.ref p):=by simpa using e1
    refine⟨_,rfl,_,rfl,jP (bY.of M.at_) (by lia) e1' (cE hp (by decide) rfl (.inl ⟨rfl,_,rfl,dn (λhw=>?_) (λhw=>⟨rvs,rs,_,_,_,rfl,M,hE,hN,λm hm=>?_⟩)⟩))⟩
    rotate_left
    ·by_cases cm:m<i
     ·exact hJ m cm
     ·have:m=i:=by lia
      subst this
      intro r' hr'
      rw[<-hrun,e2] at hr';cases hr'
      exact ub λz=>hw (by rw[z])
    obtain⟨t',rfl⟩:=qM (sR hw)
    refine⟨(by show 2<=sizeLine;decide),λp1 hp1=>⟨(by show 2<=sizeLine;decide),λp2 hp2=>⟨(by show 2<=sizeLine;decide),λl hl=>?_⟩⟩⟩
    have n12:p1≠p2:=ar ai hp2
    have n1l:p1≠l:=ar (by rw[aF n12];exact ai) hl
    have n2l:p2≠l:=ar ai hl
    have sm:aH H2 (upd (upd (upd H2 p1 (.tup [V.str "say",V.str ""])) p2 (.tup [V.str "give",V.str ""])) l (.lst [V.ref p1,V.ref p2])):=(((aH.refl H2).new hp1).new hp2).new hl
    have M2:=M.grown sm
    have hl2:(upd (upd (upd H2 p1 (.tup [V.str "say",V.str ""])) p2 (.tup [V.str "give",V.str ""])) l (.lst [V.ref p1,V.ref p2])) l=some (.lst [V.ref p1,V.ref p2]):=ai
    have h1:(upd (upd (upd H2 p1 (.tup [V.str "say",V.str ""])) p2 (.tup [V.str "give",V.str ""])) l (.lst [V.ref p1,V.ref p2])) p1=some (.tup [V.str "say",V.str ""]):=by rw[aF n1l,aF n12,ai]
    have h2:(upd (upd (upd H2 p1 (.tup [V.str "say",V.str ""])) p2 (.tup [V.str "give",V.str ""])) l (.lst [V.ref p1,V.ref p2])) p2=some (.tup [V.str "give",V.str ""]):=by rw[aF n2l,ai]
    generalize (upd (upd (upd H2 p1 (.tup [V.str "say",V.str ""])) p2 (.tup [V.str "give",V.str ""])) l (.lst [V.ref p1,V.ref p2]))=H3 at M2 hl2 h1 h2 ⊢
    have fin:∀(v:V) (r:bu),c8 H3 v r->R r->d4 r=false->(i=n-1->kb r=true)->oM (aj 0) (aj 4) lA v [some (.ref rl),some (.ref nm),some (.bl bare),some (.int ((n-1:Nat):Nat)),some (.int (i:Nat)),some (.int (to:Nat)),o] H3 (NI rl nm bare H R n (i+1)):=λv r hv hr hj he=>by
     refine⟨_,rfl,_,rfl,yJ M2.at_ (by lia) (by rw[M2.vlen];simpa using hi) ?_⟩
     have ei:((i:Nat):Int).toNat=i:=by simp
     rw[ei]
     refine⟨_,rs.set i r,_,_,_,rfl,M2.set i hv hr,?_,λhb=>?_,λm hm=>?_⟩
     ·obtain⟨r1,a1,a2⟩:=hE
      by_cases c:i=n-1
      ·exact⟨r,by rw[<-c,aY (by rw[M2.len];exact hi)],he c⟩
      ·exact⟨r1,by rw[bz c];exact a1,a2⟩
     ·obtain⟨r0,a1,a2⟩:=hN hb
      have c:i≠0:=λc=>by
       subst c
       have:=hk r0 a1 a2
       subst this
       rw[e2] at a1;cases a1;cases a2
      exact⟨r0,by rw[bz c];exact a1,a2⟩
     ·have il:i<rs.length:=by rw[M2.len];exact hi
      by_cases cm:m<i
      ·exact Hc hj il n m (hJ m cm)
      ·have:m=i:=by lia
       subst this
       have atm:∀r',(rs.set m r)[m]?=some r'->d4 r'=false:=λr' e=>by rw[aY il] at e;cases e;exact hj
       intro r' hr'
       rw[mJ atm] at hr'
       exact atm r' hr'
    refine⟨_,rfl,_,rfl,.inl ⟨rfl,?_⟩⟩
    refine .inr ⟨_,rfl,?_⟩
    by_cases c:i=n-1
    ·have ec:decide (V.int (i:Nat)=V.int ((n-1:Nat):Nat))=true:=by rw[c];exact decide_eq_true rfl
     rw[ec]
     exact jP (bY.of hl2) (by decide) rfl (fin _ (.give "") ⟨p2,rfl,h2⟩ rGive rfl λ_=>rfl)
    ·have ec:decide (V.int (i:Nat)=V.int ((n-1:Nat):Nat))=false:=decide_eq_false (λz=>c (by injection z with z;lia))
     rw[ec]
     exact jP (bY.of hl2) (by decide) rfl (fin _ (.say "") ⟨p1,rfl,h1⟩ rSay rfl λz=>absurd z c)
  ·rintro σ' H1 ⟨rvs,rs',o4,o5,o6,rfl,M,hE,hN,hJ⟩
   rw[MM.vlen,aB] at hJ
   refine⟨_,rfl,q rvs rs' H1 M.at_ M.all (M.len.trans hn) M.rough ?_ ?_ (by intro m hm;rw[M.len] at hm ⊢;exact hJ m hm) M.but⟩
   ·obtain⟨r,a1,a2⟩:=hE
    rw[dG,M.len,a1,bV,a2]
   ·intro hb
    obtain⟨r,a1,a2⟩:=hN hb
    rw[gL,a1,bV,a2]
 have second:∀(H':Hp) (rvs:List V) (rs:List bu),MJ rl H R n H' rvs rs->J2 n rs->uU K {nx:=λ_ H'=>Q .non H',rt:=Q} [some (.ref rl),some (.ref nm),some (.bl bare),some (.int ((n-1:Nat):Nat)),none,none,none] H':=λH' rvs rs M hE=>by
  refine⟨_,rfl,bare,rfl,oO (λhb=>?_) (λhb=>?_)⟩
  ·have n2:2<=n:=by rw[hn];exact hbare hb
   obtain⟨p,xs,r,e1,e2,hp,hra,hro⟩:=M.get (j:=0) (by lia)
   refine⟨_,rfl,jP (bY.of M.at_) (by decide) e1 (cE hp (by decide) rfl (.inl ⟨rfl,_,rfl,BZ (λhw=>?_) (λhw=>?_)⟩))⟩
   ·refine⟨_,rfl,_,_,rfl,rfl,_,rfl,dn (λ_=>?_) (λhz=>absurd (show(0:Int)<((n-1:Nat):Nat) by lia) hz)⟩
    have hnm':=M.but nm _ nnr hnm
    obtain⟨y,yr,rfl⟩:∃y yr,ys=y::yr:=List.exists_cons_of_ne_nil ysne
    refine⟨_,rfl,jP (bY.of hnm') (by decide) rfl ⟨(by show 3<=sizeLine;decide),λp2 hp2=>?_⟩⟩
    have M2:=M.grown ((aH.refl H').new (o:=.tup [V.str "num",V.str y,V.int 3]) hp2)
    refine⟨_,rfl,yJ M2.at_ (by decide) (by rw[M2.vlen];exact n1) (loop _ ⟨_,rs.set 0 (.num y 3),_,_,_,rfl,M2.set 0 ⟨p2,rfl,ai⟩ (rNum y bw hb),?_,λ_=>⟨.num y 3,aY (by rw[M.len];exact n1),rfl⟩,λ_ z=>absurd z (dE _)⟩)⟩
    obtain⟨r1,a1,a2⟩:=hE
    exact⟨r1,by rw[bz (by lia)];exact a1,a2⟩
   ·exact ij (loop _ ⟨rvs,rs,_,_,_,rfl,M,hE,λ_=>⟨r,e2,KO (sR hw)⟩,λ_ z=>absurd z (dE _)⟩)
  ·exact ij (loop _ ⟨rvs,rs,_,_,_,rfl,M,hE,λhb'=>(by rw[hb] at hb';cases hb'),λ_ z=>absurd z (dE _)⟩)
 obtain⟨p,xs,r,e1,e2,hp,hra,hro⟩:=M0.get (j:=n-1) (by lia)
 have e1':rvs[((n-1:Nat):Int).toNat]?=some (.ref p):=by simpa using e1
 refine⟨_,rfl,_,rfl,jP (bY.of hrl) (by lia) e1' (cE hp (by decide) rfl ⟨(by show 2<=sizeLine;decide),λt ht=>⟨t,_,rfl,.inr (b4.of ai),rfl,rfl,_,rfl,?_⟩⟩)⟩
 have M1:=M0.grown ((aH.refl H).new (o:=.tup [V.str "jump",V.str "give"]) ht)
 refine oO (λhb=>?_) (λhb=>?_)
 ·refine⟨(by show 2<=sizeLine;decide),λp2 hp2=>?_⟩
  have M2:=M1.grown ((aH.refl _).new (o:=.tup [V.str "give",V.str ""]) hp2)
  refine⟨_,rfl,_,rfl,yJ M2.at_ (by lia) (by rw[M2.vlen];lia) ?_⟩
  have ei:((n-1:Nat):Int).toNat=n-1:=by simp
  rw[ei]
  exact second _ _ _ (M2.set (n-1) (r:=.give "") ⟨p2,rfl,ai⟩ rGive) ⟨.give "",aY (by rw[M0.len];lia),rfl⟩
 ·refine second _ _ _ M1 ⟨r,e2,KM ?_⟩
  have hb':(!fL (.str (dD r)) [V.str "jump",V.str "give"])=false:=hb
  simpa using hb'
def Ed(kl:Addr)(H:Hp)(v:V)(ks:List Str):Prop:=∃a,v=.ref a/\a≠kl/\H a=some (.lst (ks.map V.str))
theorem Ed.same{kl:Addr}{H H':Hp}{v:V}{ks:List Str}(h:Ed kl H v ks)(s:aH H H'):Ed kl H' v ks:=by
 obtain⟨a,e,n,h⟩:=h;exact⟨a,e,n,s _ _ h⟩
theorem Ed.upd{kl:Addr}{H:Hp}{v:V}{ks:List Str}{o:HO}(h:Ed kl H v ks):Ed kl (upd H kl o) v ks:=by
 obtain⟨a,e,n,h⟩:=h;exact⟨a,e,n,by rw[aF n];exact h⟩
def qI(kss:List (List Str)):Nat:=(kss.map ef).sum
theorem AE:∀{kss:List (List Str)} {m:Nat} {ks kp:List Str},kss[m]?=some ks->qI (kss.set m kp)+ks.length=qI kss+kp.length
 |[],m,ks,kp,h=>by simp at h
 |a::r,0,ks,kp,h=>by
  simp at h;subst h
  show kp.length+qI r+a.length=a.length+qI r+kp.length
  lia
 |a::r,m+1,ks,kp,h=>by
  have ih:=AE (kss:=r) (m:=m) (ks:=ks) (kp:=kp) (by simpa using h)
  show a.length+qI (r.set m kp)+ks.length=a.length+qI r+kp.length
  lia
theorem qX{α:Type}(p:α->Bool)(l:List α)(i:Nat)(v:α)(h:l[i]?=some v):(l.take (i+1)).filter p=(l.take i).filter p++(if p v=true then[v] else[]):=by
 rw[eW,h,List.filter_append]
 cases hp:p v<;>simp[hp]
theorem Dq{r:bu}(h:fL (.str (dD r)) [V.str "num",V.str "op",V.str "call"]=true):∃x,fQ r=.str x:=by
 cases r with
 |num x z=>exact⟨x,rfl⟩
 |op x s a b=>exact⟨x,rfl⟩
 |call x k as=>exact⟨x,rfl⟩
 |jump to=>exact absurd h (by show ¬fL (.str "jump") [V.str "num",V.str "op",V.str "call"]=true;decide +kernel)
 |say a=>exact absurd h (by show ¬fL (.str "say") [V.str "num",V.str "op",V.str "call"]=true;decide +kernel)
 |test a to=>exact absurd h (by show ¬fL (.str "test") [V.str "num",V.str "op",V.str "call"]=true;decide +kernel)
 |give a=>exact absurd h (by show ¬fL (.str "give") [V.str "num",V.str "op",V.str "call"]=true;decide +kernel)
theorem DE{H:Hp}{p:Addr}{r:bu}{x:Str}(h:c8 H (.ref p) r)(e:fQ r=.str x):∃xs,H p=some (.tup (.str (dD r)::.str x::xs)):=by
 cases r with
 |num y z=>cases e;obtain⟨p',e',h⟩:=h;cases e';exact⟨_,h⟩
 |op y s a b=>cases e;obtain⟨p',e',h⟩:=h;cases e';exact⟨_,h⟩
 |call y k as=>cases e;obtain⟨p',q,e',h,_⟩:=h;cases e';exact⟨_,h⟩
 |jump to=>cases e
 |say a=>cases e
 |test a to=>cases e
 |give a=>cases e
theorem Gx{ys:List Str}{cs:List Nat}{rs:List bu}{i m j:Nat}{r:bu}(hr:rs[i]?=some r)(ro:tL ys cs rs.length r)(hE:rs.getLast?.map kb=some true)(hm:(bX i r)[j]?=some m):m<rs.length:=by
 have hi:i<rs.length:=(ae.mp hr).1
 have nx:kb r=false->i+1<rs.length:=λhe=>by
  by_cases c:i+1<rs.length
  ·exact c
  ·have ei:i=rs.length-1:=by lia
   rw[dG,<-ei,hr,bV,he] at hE
   cases hE
 have mem:=aD hm
 cases r with
 |jump to=>rw[au.mp mem];exact ro
 |test a to=>
  rcases aQ.mp mem with e|e
  ·rw[e];exact nx rfl
  ·rw[au.mp e];exact ro.2
 |give a=>cases mem
 |num x z=>rw[au.mp mem];exact nx rfl
 |op x s a b=>rw[au.mp mem];exact nx rfl
 |call x k as=>rw[au.mp mem];exact nx rfl
 |say a=>rw[au.mp mem];exact nx rfl
def tK(rs:List bu)(i:Nat)(kss:List (List Str)):Prop:=∀(n m:Nat) r ks km,n<i->rs[n]?=some r->m∈bX n r->kss[n]?=some ks->kss[m]?=some km->∀y∈km,y∈ks\/fQ r=.str y
def xM(ps:List Str)(kss:List (List Str)):Prop:=∀ks,kss[0]?=some ks->∀y∈ks,y∈ps
theorem xM.set{ps:List Str}{kss:List (List Str)}{m:Nat}{km kp:List Str}(h:xM ps kss)(e:kss[m]?=some km)(s:∀y∈kp,y∈km):xM ps (kss.set m kp):=by
 intro ks e0 y hy
 by_cases c:m=0
 ·subst c
  have hl:0<kss.length:=(ae.mp e).1
  rw[aY hl] at e0;cases e0
  exact h km e y (s y hy)
 ·rw[bz c] at e0;exact h ks e0 y hy
def vf(a b:Addr)(H H':Hp):Prop:=∀c o,c≠a->c≠b->H c=some o->H' c=some o
theorem vf.refl(a b:Addr)(H:Hp):vf a b H H:=λ_ _ _ _ h=>h
theorem vf.trans{a b:Addr}{H H1 H2:Hp}(x:vf a b H H1)(y:vf a b H1 H2):vf a b H H2:=λc o n m h=>y c o n m (x c o n m h)
theorem vf.of_l{a b:Addr}{H H':Hp}(x:eg a H H'):vf a b H H':=λc o n _ h=>x c o n h
theorem vf.of_r{a b:Addr}{H H':Hp}(x:eg b H H'):vf a b H H':=λc o _ m h=>x c o m h
theorem vf.upd_r{a b:Addr}{H:Hp}{o:HO}:vf a b H (upd H b o):=.of_r .upd_at
theorem vf.tp{a b:Addr}{H H':Hp}{xs ys:List V}(x:vf a b H H')(ha:H a=some (.lst xs))(hb:H b=some (.lst ys)):Tp H H':=λp zs h=>
 x p _ (by rintro rfl;rw[h] at ha;cases ha) (by rintro rfl;rw[h] at hb;cases hb) h
theorem vf.but{a b:Addr}{H H1 H2:Hp}(x:eg a H H1)(hb:H b=none)(y:vf a b H1 H2):eg a H H2:=λc o n h=>y c o n (ar h hb) (x c o n h)
def xW:V->Nat
 |.str s=>if s="" then 1 else 0
 |.ref _=>4
 |_=>0
def Eb(ks:List Str)(H:Hp):V->Prop
 |.str s=>s=""->ks≠[]
 |.int _=>True
 |.ref q=>∃as:List Str,H q=some (.tup (as.map V.str))/\as.length<=4/\ks≠[]
 |_=>False
theorem Eb.mono{ks:List Str}{H H':Hp}{x:V}(h:Eb ks H x)(t:Tp H H'):Eb ks H' x:=by
 cases x with
 |str s=>exact h
 |int i=>exact h
 |ref q=>obtain⟨as,h1,h2⟩:=h;exact⟨as,t _ _ h1,h2⟩
 |_=>exact h.elim
def FA(ks:List Str)(H:Hp)(y x:V):Prop:=match x with
 |.str s=>(s=""->∃z∈ks,y=.str z)/\(s≠""->y=.str s)
 |.int i=>y=.int i
 |.ref q=>∃(as bs:List Str) (q':Addr),H q=some (.tup (as.map V.str))/\y=.ref q'/\H q'=some (.tup (bs.map V.str))/\bs.length=as.length/\∀b∈bs,b∈ks
 |_=>False
theorem FA.mono{ks:List Str}{H H':Hp}{x y:V}(h:FA ks H y x)(t:Tp H H'):FA ks H' y x:=by
 cases x with
 |str s=>exact h
 |int i=>exact h
 |ref q=>obtain⟨as,bs,q',h1,h2,h3,h4⟩:=h;exact⟨as,bs,q',t _ _ h1,h2,t _ _ h3,h4⟩
 |_=>exact h.elim
theorem Do{K:Fg}{σ:St}{st kl a:Addr}{i k:Nat}{refs:List V}{ks:List Str}{H:Hp}{Q:VK}(h0:σ[0]?=some (some (.ref st)))(h2:σ[2]?=some (some (.ref kl)))(h4:σ[4]?=some (some (.int (i:Nat))))
  (hkl:H kl=some (.lst refs)) (hr:refs[i]?=some (.ref a)) (ha:H a=some (.lst (ks.map V.str))) (ne:ks≠[]) (len:ks.length<=100) (S:gc K H st k) (hk:k<=900000) (na:a≠st)
  (q:∀(y:Str) (H':Hp),y∈ks->gc K H' st (k+1)->eg st H H'->Q (.str y) H') :
  aX (cw K) (aX (cw K) (aj 2) (aj 4)) (a7 (b9 K) [] E0 (ah (aj 0) (ah (e8 (fP K) (ah (aX (cw K) (aj 2) (aj 4)) aE)) aE))) σ H Q:=by
 have hl:0<ks.length:=cu.mpr ne
 have hr':refs[((i:Nat):Int).toNat]?=some (.ref a):=by simpa using hr
 refine⟨_,h2,_,h4,jP (bY.of hkl) (by lia) hr' ⟨_,h0,_,h2,_,h4,jP (bY.of hkl) (by lia) hr' ⟨_,_,rfl,.inl ⟨_,bY.of ha,rfl⟩,st,_,k,rfl,S,by lia,by rw[aa];lia,by rw[aa];lia,λd H1 d0 d1 S1 B1=>?_⟩⟩⟩
 rw[aa] at d1
 have dl:d.toNat<ks.length:=by lia
 exact jP (bY.of (B1 a _ na ha)) d0 (AD (ag dl)) (q _ H1 (dM dl) S1 B1)
theorem F9{K:Fg}{st rl kl fd p sm a:Addr}{i k:Nat}{refs vs:List V}{ks:List Str}{x:V}{H:Hp}{D:jB}(hkl:H kl=some (.lst refs))(hr:refs[i]?=some (.ref a))(ha:H a=some (.lst (ks.map V.str)))(len:ks.length<=100)(S:gc K H st k)(hk:k<=800000)(na:a≠st)(nk:kl≠st)
  (hsm:H sm=some (.lst vs)) (vl:vs.length<=100) (ns:sm≠st) (ok:Eb ks H x)
  (q:∀(y:V) (k':Nat) (H':Hp),FA ks H' y x->H' sm=some (.lst (vs++[y]))->gc K H' st k'->k'<=k+xW x->vf st sm H H'->D.nx [some (.ref st),some (.ref rl),some (.ref kl),some (.ref fd),some (.int (i:Nat)),some (.ref p),some (.ref sm),some y] H') :
  uL K D [some (.ref st),some (.ref rl),some (.ref kl),some (.ref fd),some (.int (i:Nat)),some (.ref p),some (.ref sm),some x] H:=by
 have app:∀(y:V) (k':Nat) (H1:Hp),FA ks H1 y x->gc K H1 st k'->k'<=k+xW x->eg st H H1->uK K D [some (.ref st),some (.ref rl),some (.ref kl),some (.ref fd),some (.int (i:Nat)),some (.ref p),some (.ref sm),some y] H1:=λy k' H1 f S1 l1 B1=>by
  have h1:=B1 sm _ ns hsm
  refine⟨_,rfl,.inl ⟨rfl,_,bY.of h1⟩,_,rfl,sm,_,_,rfl,rfl,h1,bO (by lia),?_⟩
  exact q y k' _ (f.mono ((Tp.refl H1).lst h1)) ai (S1.mono .upd_at h1 (Ne.symm ns)) l1 ((vf.of_l B1).trans .upd_r)
 cases x with
 |str s=>
  refine⟨_,rfl,.inl ⟨rfl,_,rfl,dn (λe=>?_) (λe=>?_)⟩⟩
  ·have e':s="":=by cases e;rfl
   refine Do rfl rfl rfl hkl hr ha (ok e') len S (by lia) na λy H' hy S' B'=>?_
   refine app (.str y) _ H' ⟨λ_=>⟨y,hy,rfl⟩,λz=>absurd e' z⟩ S' ?_ B'
   show k+1<=k+(if s="" then 1 else 0)
   rw[if_pos e'];exact ay _
  ·refine⟨_,rfl,_,_,_,rfl,.str_tuple _,_,rfl,ij ?_⟩
   exact app (.str s) k H ⟨λz=>absurd (by rw[z]) e,λ_=>rfl⟩ S (by lia) (.refl _ _)
 |int j=>
  refine⟨_,rfl,.inl ⟨rfl,_,rfl,no (λz=>by cases z) ?_⟩⟩
  refine⟨_,rfl,_,_,_,rfl,.int_tuple _,_,rfl,ij ?_⟩
  exact app (.int j) k H rfl S (by lia) (.refl _ _)
 |ref t=>
  obtain⟨as,ht,l4,ne⟩:=ok
  obtain⟨ys0,hst⟩:=S.lst
  have nt:t≠st:=Ne.symm (kJ hst ht)
  refine⟨_,rfl,.inr (.inr (.inl ⟨t,_,_,rfl,rfl,b4.of ht,_,rfl,ij ?_⟩))⟩
  refine⟨_,rfl,_,_,_,rfl,.tup_tuple (b4.of ht),_,rfl,qm ?_⟩
  refine .inr ⟨_,rfl,t,rfl,⟨_,b4.of ht⟩,λL hL=>?_⟩
  have nL:L≠st:=λz=>by rw[z,hst] at hL;cases hL
  refine eX (xs:=as.map V.str) (λj σ' H'=>∃(bs:List Str) (k':Nat) (o:Option V),σ'=[some (.ref st),some (.ref rl),some (.ref kl),some (.ref fd),some (.int (i:Nat)),some (.ref p),some (.ref sm),some (.ref t),o]/\H' L=some (.lst (bs.map V.str))/\bs.length=j/\(∀b∈bs,b∈ks)/\gc K H' st k'/\k'<=k+j/\eg st H H') ?_ ?_ ?_ ?_
  ·exact⟨[],k,none,rfl,ai,rfl,by simp,S.new hL,by lia,(eg.refl st H).new hL⟩
  ·rintro j σ' H' _ ⟨_,_,_,_,_,_,_,_,_,B⟩
   exact b4.of (B t _ nt ht)
  ·rintro j x σ' H' hx ⟨bs,k',o,rfl,hb,bl,bm,S',hk',B'⟩
   have jl:j<as.length:=by have:=(ae.mp hx).1;rw[aa] at this;exact this
   refine dz (Do rfl rfl rfl (B' kl _ nk hkl) hr (B' a _ na ha) ne len S' (by lia) na λy H2 hy S2 B2=>?_)
   have h2:=B2 L _ nL hb
   refine⟨_,h2,bO (by rw[aa];lia),bs++[y],k'+1,_,rfl,by rw[ai,aC];rfl,by simp[bl],λb hb'=>?_,S2.mono .upd_at h2 (Ne.symm nL),by lia,?_⟩
   ·rcases a8.mp hb' with z|z
    ·exact bm b z
    ·rw[au.mp z];exact hy
   ·exact λc u n h=>by rw[aF (ar h hL)];exact(B'.trans B2) c u n h
  ·rintro σ' H2 ⟨bs,k',o,_,hb,bl,bm,S',hk',B'⟩
   rw[aa] at bl hk'
   refine⟨L,_,rfl,.inl ⟨bY.of hb,λl hl=>?_⟩⟩
   have nl:L≠l:=ar hb hl
   have h2:=B' t _ nt ht
   refine app (.ref l) k' _ ⟨as,bs,l,by rw[aF (ar h2 hl)];exact h2,rfl,ai,bl,bm⟩ (S'.new hl) ?_ (B'.new hl)
   show k'<=k+4
   lia
 |_=>exact ok.elim
theorem zL(w:V)(rest:List V):jD (w::rest) (some 1) none=rest:=by
 unfold jD
 have e1:HT.sIx (w::rest).length 0 (some 1)=1:=by
  rw[show(1:Int)=((1:Nat):Int) from rfl,HT.sIx_nat,bI];lia
 rw[e1,HT.sIx_none,List.drop_succ_cons,ja,bI]
 exact aT (by lia)
theorem zK(w:V){rest:List V}(h:rest≠[]):¬(HT.sIx (w::rest).length 0 (some 1)=0/\HT.sIx (w::rest).length (w::rest).length none=(w::rest).length):=by
 rintro⟨h1,_⟩
 rw[show(1:Int)=((1:Nat):Int) from rfl,HT.sIx_nat,bI] at h1
 lia
theorem KI{K:Fg}{st rl kl fd p a:Addr}{i k:Nat}{refs fs rest:List V}{w:Str}{ks:List Str}{H:Hp}{D:jB}{o6 o7:Option V}(hkl:H kl=some (.lst refs))(hr:refs[i]?=some (.ref a))(ha:H a=some (.lst (ks.map V.str)))(len:ks.length<=100)(S:gc K H st k)(hk:k<=750000)(na:a≠st)(nk:kl≠st)
  (hp:H p=some (.tup (.str w::rest))) (rne:rest≠[]) (rl4:rest.length<=4) (ok:∀x∈rest,Eb ks H x) (cs5:(rest.map xW).sum<=5) (hfd:H fd=some (.lst fs)) (fl:fs.length<=100) (nf:fd≠st)
  (q:∀(o6 o7:Option V) (p':Addr) (vs:List V) (k':Nat) (H':Hp),H' fd=some (.lst (fs++[.ref p']))->H' p'=some (.tup (.str w::vs))->aV (FA ks H') vs rest->gc K H' st k'->k'<=k+5->vf st fd H H'->D.nx [some (.ref st),some (.ref rl),some (.ref kl),some (.ref fd),some (.int (i:Nat)),some (.ref p),o6,o7] H') :
  om K D [some (.ref st),some (.ref rl),some (.ref kl),some (.ref fd),some (.int (i:Nat)),some (.ref p),o6,o7] H:=by
 obtain⟨ys0,hst⟩:=S.lst
 refine⟨(by show 0<=sizeLine;decide),λsm hsm=>?_⟩
 have nsm:sm≠st:=λz=>by rw[z,hst] at hsm;cases hsm
 have s1:aH H (upd H sm (.lst [])):=(aH.refl H).new hsm
 have g1:(upd H sm (.lst [])) sm=some (.lst []):=ai
 show uM K D [some (.ref st),some (.ref rl),some (.ref kl),some (.ref fd),some (.int (i:Nat)),some (.ref p),some (.ref sm),o7] (upd H sm (.lst []))
 generalize upd H sm (.lst [])=H1 at s1 g1 ⊢
 refine .inr ⟨_,rfl,_,rfl,.inr ⟨p,_,rfl,b4.of (s1 _ _ hp),zK _ rne,λtp htp=>?_⟩⟩
 rw[zL]
 have s2:aH H (upd H1 tp (.tup rest)):=s1.new htp
 have g2:(upd H1 tp (.tup rest)) sm=some (.lst []):=by rw[aF (ar g1 htp)];exact g1
 have t2:(upd H1 tp (.tup rest)) tp=some (.tup rest):=ai
 generalize upd H1 tp (.tup rest)=H2 at s2 g2 t2 ⊢
 have nts:tp≠st:=Ne.symm (kJ (s2 _ _ hst) t2)
 have ntm:tp≠sm:=Ne.symm (kJ g2 t2)
 have nfm:fd≠sm:=ar hfd hsm
 have nkm:kl≠sm:=ar hkl hsm
 have nam:a≠sm:=ar ha hsm
 have nps:p≠st:=Ne.symm (kJ hst hp)
 have npm:p≠sm:=ar hp hsm
 refine⟨tp,rfl,⟨_,b4.of t2⟩,kG (xs:=rest) (λj σ' H'=>∃(vs:List V) (k':Nat) (o:Option V),σ'=[some (.ref st),some (.ref rl),some (.ref kl),some (.ref fd),some (.int (i:Nat)),some (.ref p),some (.ref sm),o]/\H' sm=some (.lst vs)/\aV (FA ks H') vs (rest.take j)/\gc K H' st k'/\k'<=k+((rest.take j).map xW).sum/\vf st sm H2 H') ?_ ?_ ?_ ?_⟩
 ·exact⟨[],k,o7,rfl,g2,.nil,S.same s2,by simp,.refl _ _ _⟩
 ·rintro j σ' H' _ ⟨_,_,_,_,_,_,_,_,B⟩
  exact b4.of (B tp _ nts ntm t2)
 ·rintro j x σ' H' hx ⟨vs,k',o,rfl,hvs,hA,S',hk',B'⟩
  have jl:j<rest.length:=(ae.mp hx).1
  have et:rest.take (j+1)=rest.take j++[x]:=by rw[eW,hx];rfl
  have c5:((rest.take j).map xW).sum<=5:=by
   have e:=congrArg (λl=>(l.map xW).sum) (List.take_append_drop j rest)
   simp only[aC,List.sum_append] at e
   lia
  have vl:vs.length<=4:=by rw[hA.len,aL];lia
  refine F9 (B' kl _ nk nkm (s2 _ _ hkl)) hr (B' a _ na nam (s2 _ _ ha)) len S' (by lia) na nk hvs (by lia) nsm (((ok x (aD hx)).mono (.of_same s2)).mono (B'.tp (s2 _ _ hst) g2)) λy k2 H3 f h3 S3 l3 B3=>?_
  obtain⟨ys1,hst'⟩:=S'.lst
  refine⟨vs++[y],k2,_,rfl,h3,?_,S3,?_,B'.trans B3⟩
  ·rw[et];exact(hA.imp λ_ _ z=>z.mono (B3.tp hst' hvs)).snoc f
  ·rw[et,aC,List.sum_append]
   show k2<=k+(((rest.take j).map xW).sum+(xW x+0))
   lia
 ·rintro σ' H3 ⟨vs,k',o,rfl,hvs,hA,S',hk',B'⟩
  rw[cf] at hA hk'
  have h3p:=B' p _ nps npm (s2 _ _ hp)
  have h3f:=B' fd _ nf nfm (s2 _ _ hfd)
  obtain⟨ys1,hst'⟩:=S'.lst
  have vl:vs.length=rest.length:=hA.len
  have vne:vs≠[]:=λz=>rne (cx.mp (by rw[<-vl,z];rfl))
  have BH:eg st H H3:=(vf.but (s2.but) hsm B')
  refine⟨_,rfl,.inl ⟨rfl,_,bY.of h3f⟩,_,rfl,cE h3p (by decide) rfl ⟨(by show 1<=sizeLine;decide),λt1 ht1=>⟨_,rfl,sm,_,rfl,.inl ⟨bY.of (by rw[aF (ar hvs ht1)];exact hvs),λt4 ht4=>?_⟩⟩⟩⟩
  have n14:t1≠t4:=ar ai ht4
  refine .inr (.inr (.inr ⟨t1,t4,[.str w],vs,rfl,rfl,b4.of (by rw[aF n14];exact ai),b4.of ai,by simp,?_,λz=>absurd z vne,λ_ t5 ht5=>?_⟩))
  ·have:=bO (n:=100) (by decide)
   show 1+vs.length<=sizeLine
   lia
  have s5:aH H3 (upd (upd (upd H3 t1 (.tup [.str w])) t4 (.tup vs)) t5 (.tup (.str w::vs))):=(((aH.refl H3).new ht1).new ht4).new ht5
  have g5:(upd (upd (upd H3 t1 (.tup [.str w])) t4 (.tup vs)) t5 (.tup (.str w::vs))) t5=some (.tup (.str w::vs)):=ai
  show eN (.ref fd) [.ref t5] (upd (upd (upd H3 t1 (.tup [.str w])) t4 (.tup vs)) t5 (.tup (.str w::vs))) λx H1=>D.nx [some (.ref st),some (.ref rl),some (.ref kl),some (.ref fd),some (.int (i:Nat)),some (.ref p),some (.ref sm),o] H1
  generalize upd (upd (upd H3 t1 (.tup [.str w])) t4 (.tup vs)) t5 (.tup (.str w::vs))=H5 at s5 g5 ⊢
  have h5f:=s5 _ _ h3f
  refine⟨fd,_,_,rfl,rfl,h5f,bO (by lia),?_⟩
  have tp6:Tp H5 (upd H5 fd (.lst (fs++[.ref t5]))):=(Tp.refl H5).lst h5f
  refine q _ _ t5 vs k' _ ai (tp6 _ _ g5) ((hA.imp λ_ _ z=>z.mono (.of_same s5)).imp λ_ _ z=>z.mono tp6) ((S'.same s5).mono .upd_at h5f (Ne.symm nf)) (by lia) ?_
  exact λc u n m h=>by rw[aF m];exact s5 _ _ (BH c u n h)
theorem He{s:Str}(h:s∈DF):s≠"":=by
 intro e
 subst e
 exact absurd h (by decide +kernel)
theorem z9{as bs:List Str}(h:as.map V.str=bs.map V.str):as.length=bs.length:=by
 have:=congrArg ef h
 simpa using this
theorem sO{ks:List Str}{H:Hp}{y:V}{s:Str}(h:FA ks H y (.str s))(n:s≠""):y=.str s:=h.2 n
theorem oK{ks:List Str}{H:Hp}{y:V}(h:FA ks H y (.str "")):∃z∈ks,y=.str z:=h.1 rfl
theorem sN{s:Str}(n:s≠""):xW (.str s)=0:=by
 show(if s="" then 1 else 0)=0
 rw[if_neg n]
theorem Of{vs:List V}(h:vs.length=2):∃a b,vs=[a,b]:=by
 match vs,h with
 |[a,b],_=>exact⟨a,b,rfl⟩
theorem NX{vs:List V}(h:vs.length=1):∃a,vs=[a]:=by
 match vs,h with
 |[a],_=>exact⟨a,rfl⟩
theorem Ox{vs:List V}(h:vs.length=3):∃a b c,vs=[a,b,c]:=by
 match vs,h with
 |[a,b,c],_=>exact⟨a,b,c,rfl⟩
theorem Oy{vs:List V}(h:vs.length=4):∃a b c d,vs=[a,b,c,d]:=by
 match vs,h with
 |[a,b,c,d],_=>exact⟨a,b,c,d,rfl⟩
theorem Iw{H:Hp}{p:Addr}{r:bu}{ys ks:List Str}{cs:List Nat}{n:Nat}(hra:c8 H (.ref p) r)(ro:tL ys cs n r)(yne:∀y∈ys,y≠"")(cs4:∀c∈cs,c<=4)(hks:ks≠[]\/tW r=true) :
  ∃rest,H p=some (.tup (.str (dD r)::rest))/\rest≠[]/\rest.length<=4/\(∀x∈rest,Eb ks H x)/\(rest.map xW).sum<=5/\∀(H':Hp) (p':Addr) (vs:List V),aV (FA ks H') vs rest->H' p'=some (.tup (.str (dD r)::vs))->Tp H H'->∃r',c8 H' (.ref p') r'/\iO ks r r':=by
 cases r with
 |num x z=>
  obtain⟨p',e,h⟩:=hra
  cases e
  have xn:=yne x ro.1
  refine⟨_,h,by simp,by simp,λv hv=>?_,?_,λH' p' vs hA hp' t=>?_⟩
  ·rcases aQ.mp hv with rfl|hv
   ·exact λz=>absurd z xn
   ·rw[au.mp hv];exact trivial
  ·show xW (.str x)+(0+0)<=5
   rw[sN xn];decide
  ·obtain⟨a,b,rfl⟩:=Of hA.len
   have e1:=sO (hA.at_ 0 _ _ rfl rfl) xn
   have e2:b=.int z:=hA.at_ 1 _ _ rfl rfl
   subst e1 e2
   exact⟨.num x z,⟨p',rfl,hp'⟩,rfl⟩
 |op x s a b=>
  obtain⟨p',e,h⟩:=hra
  cases e
  obtain⟨xy,ss,rfl,rfl⟩:=ro
  have xn:=yne x xy
  have sn:=He ss
  have kn:ks≠[]:=hks.resolve_right (by intro z;cases z)
  refine⟨_,h,by simp,by simp,λv hv=>?_,?_,λH' p' vs hA hp' t=>?_⟩
  ·rcases aQ.mp hv with rfl|hv
   ·exact λz=>absurd z xn
   ·rcases aQ.mp hv with rfl|hv
    ·exact λz=>absurd z sn
    ·rcases aQ.mp hv with rfl|hv
     ·exact λ_=>kn
     ·rw[au.mp hv];exact λ_=>kn
  ·show xW (.str x)+(xW (.str s)+(xW (.str "")+(xW (.str "")+0)))<=5
   rw[sN xn,sN sn];decide +kernel
  ·obtain⟨v1,v2,v3,v4,rfl⟩:=Oy hA.len
   have e1:=sO (hA.at_ 0 _ _ rfl rfl) xn
   have e2:=sO (hA.at_ 1 _ _ rfl rfl) sn
   obtain⟨z3,m3,e3⟩:=oK (hA.at_ 2 _ _ rfl rfl)
   obtain⟨z4,m4,e4⟩:=oK (hA.at_ 3 _ _ rfl rfl)
   subst e1 e2 e3 e4
   exact⟨.op x s z3 z4,⟨p',rfl,hp'⟩,z3,z4,rfl,m3,m4⟩
 |call x k as=>
  obtain⟨p',q,e,h,hq⟩:=hra
  cases e
  obtain⟨xy,c,hc,rfl⟩:=ro
  have xn:=yne x xy
  have kn:ks≠[]:=hks.resolve_right (by intro z;cases z)
  have c4:=cs4 c (aD hc)
  refine⟨_,h,by simp,by simp,λv hv=>?_,?_,λH' p' vs hA hp' t=>?_⟩
  ·rcases aQ.mp hv with rfl|hv
   ·exact λz=>absurd z xn
   ·rcases aQ.mp hv with rfl|hv
    ·exact trivial
    ·rw[au.mp hv];exact⟨_,hq,by rw[aU];exact c4,kn⟩
  ·show xW (.str x)+(0+(4+0))<=5
   rw[sN xn];decide
  ·obtain⟨v1,v2,v3,rfl⟩:=Ox hA.len
   have e1:=sO (hA.at_ 0 _ _ rfl rfl) xn
   have e2:v2=.int (k:Nat):=hA.at_ 1 _ _ rfl rfl
   obtain⟨as',bs,q',hq',e3,h3,hl,hm⟩:=(show FA ks H' v3 (.ref q) from hA.at_ 2 _ _ rfl rfl)
   subst e1 e2 e3
   have:=t _ _ hq
   rw[hq'] at this
   have e:=z9 (HO.tup.inj (Option.some.inj this))
   exact⟨.call x k bs,⟨p',q',rfl,hp',h3⟩,bs,rfl,hl.trans e,hm⟩
 |say a=>
  obtain⟨p',e,h⟩:=hra
  cases e
  have ro:a="":=ro
  subst ro
  have kn:ks≠[]:=hks.resolve_right (by intro z;cases z)
  refine⟨_,h,by simp,by simp,λv hv=>?_,?_,λH' p' vs hA hp' t=>?_⟩
  ·rw[au.mp hv];exact λ_=>kn
  ·show xW (.str "")+0<=5
   decide +kernel
  ·obtain⟨v1,rfl⟩:=NX hA.len
   obtain⟨z,m,e⟩:=oK (hA.at_ 0 _ _ rfl rfl)
   subst e
   exact⟨.say z,⟨p',rfl,hp'⟩,z,rfl,m⟩
 |jump to=>
  obtain⟨p',e,h⟩:=hra
  cases e
  refine⟨_,h,by simp,by simp,λv hv=>?_,?_,λH' p' vs hA hp' t=>?_⟩
  ·rw[au.mp hv];exact trivial
  ·show 0+0<=5
   decide
  ·obtain⟨v1,rfl⟩:=NX hA.len
   have e:v1=.int (to:Nat):=hA.at_ 0 _ _ rfl rfl
   subst e
   exact⟨.jump to,⟨p',rfl,hp'⟩,rfl⟩
 |test a to=>
  obtain⟨p',e,h⟩:=hra
  cases e
  obtain⟨ro,_⟩:a=""/\_:=ro
  subst ro
  have kn:ks≠[]:=hks.resolve_right (by intro z;cases z)
  refine⟨_,h,by simp,by simp,λv hv=>?_,?_,λH' p' vs hA hp' t=>?_⟩
  ·rcases aQ.mp hv with rfl|hv
   ·exact λ_=>kn
   ·rw[au.mp hv];exact trivial
  ·show xW (.str "")+(0+0)<=5
   decide +kernel
  ·obtain⟨v1,v2,rfl⟩:=Of hA.len
   obtain⟨z,m,e⟩:=oK (hA.at_ 0 _ _ rfl rfl)
   have e2:v2=.int (to:Nat):=hA.at_ 1 _ _ rfl rfl
   subst e e2
   exact⟨.test z to,⟨p',rfl,hp'⟩,z,rfl,m⟩
 |give a=>
  obtain⟨p',e,h⟩:=hra
  cases e
  have ro:a="":=ro
  subst ro
  have kn:ks≠[]:=hks.resolve_right (by intro z;cases z)
  refine⟨_,h,by simp,by simp,λv hv=>?_,?_,λH' p' vs hA hp' t=>?_⟩
  ·rw[au.mp hv];exact λ_=>kn
  ·show xW (.str "")+0<=5
   decide +kernel
  ·obtain⟨v1,rfl⟩:=NX hA.len
   obtain⟨z,m,e⟩:=oK (hA.at_ 0 _ _ rfl rfl)
   subst e
   exact⟨.give z,⟨p',rfl,hp'⟩,z,rfl,m⟩
theorem GY{K:Fg}{vs:List V}{H:Hp}{Q:VK}{E:XK}(h:qD K vs H Q E):AL K {nx:=λ_ H'=>Q .non H',rt:=Q} (cC tj vs) H:=by
 obtain⟨st,rl,kl,k,rvs,refs,rs,kss,ys,cs,rfl,S,hk,hrl,hA,hOk,yne,cs4,hkl,hT,klen,k100,kne,rst,nrl,nkl,q⟩:=h
 obtain⟨ys0,hst⟩:=S.lst
 refine⟨(by show 0<=sizeLine;decide),λfd hfd=>?_⟩
 have nf:fd≠st:=λz=>by rw[z,hst] at hfd;cases hfd
 have s1:aH H (upd H fd (.lst [])):=(aH.refl H).new hfd
 have g1:(upd H fd (.lst [])) fd=some (.lst []):=ai
 show uN K _ [some (.ref st),some (.ref rl),some (.ref kl),some (.ref fd),none,none,none,none] (upd H fd (.lst []))
 generalize upd H fd (.lst [])=H1 at s1 g1 ⊢
 refine⟨_,rfl,rl,rfl,⟨_,bY.of (s1 _ _ hrl)⟩,Gb (xs:=rvs) (λi σ' H'=>∃(fs:List V) (rs':List bu) (k':Nat) (o4 o5 o6 o7:Option V),σ'=[some (.ref st),some (.ref rl),some (.ref kl),some (.ref fd),o4,o5,o6,o7]/\H' fd=some (.lst fs)/\aV (c8 H') fs rs'/\rs'.length=i/\
  (∀(j:Nat) ks r r',kss[j]?=some ks->rs[j]?=some r->rs'[j]?=some r'->iO ks r r')/\gc K H' st k'/\k'<=k+5*i/\eg st H H') ?_ ?_ ?_ ?_⟩
 ·exact⟨[],[],k,none,none,none,none,rfl,g1,.nil,rfl,λj ks r r' _ _ z=>by simp at z,S.same s1,by lia,s1.but⟩
 ·rintro i σ' H' _ ⟨_,_,_,_,_,_,_,_,_,_,_,_,_,_,B⟩
  exact bY.of (B rl _ nrl hrl)
 ·rintro i x σ' H' tp hx htp ⟨fs,rs',k',o4,o5,o6,o7,rfl,hfs,hR,rlen,hF,S',hk',B'⟩
  obtain⟨r,hr,hra⟩:=hA.of_v hx
  obtain⟨p,xs,rfl,_⟩:=hra.ref
  have il:i<rs.length:=(ae.mp hr).1
  have few:=hOk.few
  obtain⟨v,ks,e1,e2,a,rfl,ha⟩:=hT.get (i:=i) (by rw[klen];exact il)
  have na:a≠st:=λz=>rst (.ref a) (aD e1) (by rw[z])
  have B2:eg st H (upd H' tp (.tup [.int (i:Nat),.ref p])):=B'.new htp
  have s2:aH H' (upd H' tp (.tup [.int (i:Nat),.ref p])):=(aH.refl H').new htp
  have g2:(upd H' tp (.tup [.int (i:Nat),.ref p])) tp=some (.tup [.int (i:Nat),.ref p]):=ai
  generalize upd H' tp (.tup [.int (i:Nat),.ref p])=H2 at B2 s2 g2 ⊢
  refine⟨tp,_,rfl,b4.of g2,rfl,_,_,rfl,_,_,rfl,rfl,?_⟩
  show om K _ [some (.ref st),some (.ref rl),some (.ref kl),some (.ref fd),some (.int (i:Nat)),some (.ref p),o6,o7] H2
  have T2:Tp H H2:=.of_but B2 hst
  obtain⟨rest,h1,h2,h3,h4,h5,h6⟩:=Iw (ks:=ks) (hra.mono T2) (hOk.rough r (aD hr)) yne cs4 (kne i ks r e2 hr)
  have f2:=s2 _ _ hfs
  have S2:=S'.same s2
  obtain⟨ys2,hst2⟩:=S2.lst
  refine KI (B2 kl _ nkl hkl) e1 (B2 a _ na ha) (k100 i ks e2) S2 (by lia) na nkl h1 h2 h3 h4 h5 f2 (by rw[hR.len,rlen];lia) nf λp6 p7 p' vs k3 H3 f3 g3 hA3 S3 l3 B3=>?_
  have T3:Tp H2 H3:=B3.tp hst2 f2
  obtain⟨r',hr',hf'⟩:=h6 H3 p' vs hA3 g3 T3
  refine⟨fs++[.ref p'],rs'++[r'],k3,_,_,_,_,rfl,f3,((hR.imp λ_ _ z=>(z.mono (.of_same s2)).mono T3)).snoc hr',by simp[rlen],λj ks' r1 r2 a1 a2 a3=>?_,S3,by lia,?_⟩
  ·by_cases c:j<rs'.length
   ·rw[aS c] at a3
    exact hF j ks' r1 r2 a1 a2 a3
   ·have c2:j=i:=by
     have:=(ae.mp a3).1
     rw[aq,aR] at this
     lia
    subst c2
    rw[aI (by lia),rlen,dw] at a3
    cases a3
    rw[e2] at a1;cases a1
    rw[hr] at a2;cases a2
    exact hf'
  ·exact λc u n h=>by
    have hc:=B2 c u n h
    exact B3 c u n (ar h hfd) hc
 ·rintro σ' H' ⟨fs,rs',k',o4,o5,o6,o7,rfl,hfs,hR,rlen,hF,S',hk',B'⟩
  rw[hA.len] at rlen hk'
  refine⟨_,rfl,fd,_,rfl,.inl ⟨bY.of hfs,λl hl=>?_⟩⟩
  exact q l fs rs' k' _ ai (hR.imp λ_ _ z=>z.mono ((Tp.refl H').new hl)) rlen hF (S'.new hl) hk' (B'.new hl)
theorem DT{K:Fg}{H:Hp}{st:Addr}{k:Nat}{v:V}{ks:List Str}(S:gc K H st k)(h:tN H v ks):v≠.ref st:=by
 rintro rfl
 obtain⟨a,e,h⟩:=h
 cases e
 obtain⟨scr,ns,c,hs,_⟩:=S
 rw[h] at hs
 cases ks with
 |nil=>cases hs
 |cons y r=>cases hs
theorem BU{ks:List Str}{r r':bu}(h:iO ks r r')(n:Nat):bX n r'=bX n r:=by
 cases r with
 |num x z=>have h:r'=.num x z:=h;subst h;rfl
 |op x s a b=>obtain⟨_,_,rfl,_⟩:=h;rfl
 |call x k as=>obtain⟨_,rfl,_⟩:=h;rfl
 |say a=>obtain⟨_,rfl,_⟩:=h;rfl
 |jump t=>have h:r'=.jump t:=h;subst h;rfl
 |test a t=>obtain⟨_,rfl,_⟩:=h;rfl
 |give a=>obtain⟨_,rfl,_⟩:=h;rfl
theorem Ew{ks:List Str}{r r':bu}(h:iO ks r r'):fQ r'=fQ r:=by
 cases r with
 |num x z=>have h:r'=.num x z:=h;subst h;rfl
 |op x s a b=>obtain⟨_,_,rfl,_⟩:=h;rfl
 |call x k as=>obtain⟨_,rfl,_⟩:=h;rfl
 |say a=>obtain⟨_,rfl,_⟩:=h;rfl
 |jump t=>have h:r'=.jump t:=h;subst h;rfl
 |test a t=>obtain⟨_,rfl,_⟩:=h;rfl
 |give a=>obtain⟨_,rfl,_⟩:=h;rfl
theorem F8{ks:List Str}{r r':bu}(h:iO ks r r'):kb r'=kb r:=by
 cases r with
 |num x z=>have h:r'=.num x z:=h;subst h;rfl
 |op x s a b=>obtain⟨_,_,rfl,_⟩:=h;rfl
 |call x k as=>obtain⟨_,rfl,_⟩:=h;rfl
 |say a=>obtain⟨_,rfl,_⟩:=h;rfl
 |jump t=>have h:r'=.jump t:=h;subst h;rfl
 |test a t=>obtain⟨_,rfl,_⟩:=h;rfl
 |give a=>obtain⟨_,rfl,_⟩:=h;rfl
theorem Eu{ks:List Str}{r r':bu}(h:iO ks r r'):d4 r'=d4 r:=by
 cases r with
 |num x z=>have h:r'=.num x z:=h;subst h;rfl
 |op x s a b=>obtain⟨_,_,rfl,_⟩:=h;rfl
 |call x k as=>obtain⟨_,rfl,_⟩:=h;rfl
 |say a=>obtain⟨_,rfl,_⟩:=h;rfl
 |jump t=>have h:r'=.jump t:=h;subst h;rfl
 |test a t=>obtain⟨_,rfl,_⟩:=h;rfl
 |give a=>obtain⟨_,rfl,_⟩:=h;rfl
theorem BV{ks:List Str}{r r':bu}(h:iO ks r r'):∀y∈bR r',y∈ks:=by
 cases r with
 |num x z=>have h:r'=.num x z:=h;subst h;intro y hy;cases hy
 |op x s a b=>
  obtain⟨c,d,rfl,h1,h2⟩:=h
  intro y hy
  rcases aQ.mp hy with rfl|hy
  ·exact h1
  ·rw[au.mp hy];exact h2
 |call x k as=>obtain⟨_,rfl,_,h⟩:=h;exact h
 |say a=>obtain⟨_,rfl,h⟩:=h;intro y hy;rw[au.mp hy];exact h
 |jump t=>have h:r'=.jump t:=h;subst h;intro y hy;cases hy
 |test a t=>obtain⟨_,rfl,h⟩:=h;intro y hy;rw[au.mp hy];exact h
 |give a=>obtain⟨_,rfl,h⟩:=h;intro y hy;rw[au.mp hy];exact h
theorem Iy{ys ks:List Str}{cs:List Nat}{n:Nat}{r r':bu}(ro:tL ys cs n r)(hk:∀y∈ks,y∈ys)(h:iO ks r r'):C6 ys cs n r':=by
 cases r with
 |num x z=>have h:r'=.num x z:=h;subst h;exact ro
 |op x s a b=>obtain⟨c,d,rfl,h1,h2⟩:=h;exact⟨ro.1,ro.2.1,hk _ h1,hk _ h2⟩
 |call x k as=>
  obtain⟨bs,rfl,hl,h⟩:=h
  obtain⟨r1,c,r2,r3⟩:=ro
  refine⟨r1,?_,λa ha=>hk _ (h a ha)⟩
  rw[hl,r3,aU];exact r2
 |say a=>obtain⟨_,rfl,h⟩:=h;exact hk _ h
 |jump t=>have h:r'=.jump t:=h;subst h;exact ro
 |test a t=>obtain⟨_,rfl,h⟩:=h;exact⟨hk _ h,ro.2⟩
 |give a=>obtain⟨_,rfl,h⟩:=h;exact hk _ h
structure mS(rs rs':List bu):Prop where
 len:rs'.length=rs.length
 fill:∀(i:Nat) r r',rs[i]?=some r->rs'[i]?=some r'->∃ks,iO ks r r'
theorem mS.get{rs rs':List bu}(h:mS rs rs'){i:Nat}{r':bu}(e:rs'[i]?=some r'):∃r ks,rs[i]?=some r/\iO ks r r':=by
 have hi:i<rs.length:=by rw[<-h.len];exact(ae.mp e).1
 obtain⟨ks,f⟩:=h.fill i _ _ (ag hi) e
 exact⟨_,ks,ag hi,f⟩
theorem mS.stp{rs rs':List bu}(h:mS rs rs')(n:Nat):stp rs' n=stp rs n:=by
 unfold Bg.stp
 cases e:rs'[n]? with
 |none=>
  have:rs[n]?=none:=by rw[List.getElem?_eq_none_iff] at e ⊢;rw[<-h.len];exact e
  rw[this]
 |some r'=>
  obtain⟨r,ks,e1,f⟩:=h.get e
  rw[e1]
  cases r with
  |num x z=>have f:r'=.num x z:=f;subst f;rfl
  |op x s a b=>obtain⟨_,_,rfl,_⟩:=f;rfl
  |call x k as=>obtain⟨_,rfl,_⟩:=f;rfl
  |say a=>obtain⟨_,rfl,_⟩:=f;rfl
  |jump t=>have f:r'=.jump t:=f;subst f;rfl
  |test a t=>obtain⟨_,rfl,_⟩:=f;rfl
  |give a=>obtain⟨_,rfl,_⟩:=f;rfl
theorem mS.runJ{rs rs':List bu}(h:mS rs rs'):∀(k n:Nat),runJ rs' k n=runJ rs k n
 |0,_=>rfl
 |k+1,n=>by
  show Bg.runJ rs' k (Bg.stp rs' n)=Bg.runJ rs k (Bg.stp rs n)
  rw[h.stp];exact mS.runJ h k _
theorem mS.ring{rs rs':List bu}(h:mS rs rs')(q:tF rs):tF rs':=by
 intro n hn r' e
 rw[h.len] at hn
 rw[h.len,h.runJ] at e
 obtain⟨r,ks,e1,f⟩:=h.get e
 rw[Eu f];exact q n hn r e1
theorem LZ{K:Fg}{vs:List V}{H:Hp}{Q:VK}{E:XK}(h:yO K vs H Q E):Hu K {nx:=λ_ H'=>Q .non H',rt:=Q} (cC Bo vs) H:=by
 obtain⟨st,nm,pr,cn,wd,m,k,ys,ps,cs,rfl,S,hk,hnm,ysne,ysl,yne,hpr,psl,pnd,pin,hcn,csne,csl,cs4,m1,m50,nnm,npr,ncn,q⟩:=h
 refine⟨_,rfl,_,_,rfl,.inl ⟨_,bY.of hpr,rfl⟩,.inl ⟨rfl,.inr ⟨_,rfl,.inl ⟨_,_,rfl,rfl,_,rfl,_,rfl,st,_,k,rfl,S,by lia,by lia,by lia,λd H1 d0 d1 S1 B1=>.inl ⟨_,_,rfl,rfl,_,_,rfl,?_⟩⟩⟩⟩⟩
 rw[aa]
 obtain⟨n,hn,n1,n51,nm1,n2⟩:∃n:Nat,(if 1+d>1+(if decide (V.int ((ps.length:Nat):Int)=V.int 0)=true then 1 else 0) then 1+d else 1+(if decide (V.int ((ps.length:Nat):Int)=V.int 0)=true then 1 else 0))=(n:Int)/\1<=n/\n<=52/\n<=m+1/\(ps=[]->2<=n):=by
  by_cases c:ps=[]
  ·have e:decide (V.int ((ps.length:Nat):Int)=V.int 0)=true:=by rw[c];rfl
   rw[e,if_pos rfl]
   by_cases c2:1+d>1+1
   ·rw[if_pos c2];exact⟨(1+d).toNat,by lia,by lia,by lia,by lia,λ_=>by lia⟩
   ·rw[if_neg c2];exact⟨2,rfl,by lia,by lia,by lia,λ_=>by lia⟩
  ·have e:decide (V.int ((ps.length:Nat):Int)=V.int 0)=false:=decide_eq_false λz=>c (cx.mp (by injection z with z;lia))
   rw[e,if_neg Bool.false_ne_true]
   by_cases c2:1+d>1+0
   ·rw[if_pos c2];exact⟨(1+d).toNat,by lia,by lia,by lia,by lia,λz=>absurd z c⟩
   ·rw[if_neg c2];exact⟨1,rfl,by lia,by lia,by lia,λz=>absurd z c⟩
 rw[hn]
 show A1 K _ [some (.ref st),some (.str wd),some (.ref nm),some (.ref pr),some (.ref cn),some (.int (m:Nat)),some (.int (n:Nat)),none,none] H1
 refine⟨_,rfl,_,rfl,by lia,by lia,λL hL=>?_⟩
 obtain⟨ys1,hs1⟩:=S1.lst
 have nL:L≠st:=λz=>by rw[z,hs1] at hL;cases hL
 have HL:H L=none:=B1.free nL hL
 refine kF (λi σ' H'=>∃(rvs:List V) (rs:List bu) (k':Nat) (o:Option V),σ'=[some (.ref st),some (.str wd),some (.ref nm),some (.ref pr),some (.ref cn),some (.int (m:Nat)),some (.int (n:Nat)),none,none,o]/\
  H' L=some (.lst rvs)/\aV (c8 H') rvs rs/\rs.length=i/\(∀r∈rs,tL ys cs n r)/\gc K H' st k'/\k'<=k+1+8*i/\eg st H H') ?_ ?_ ?_
 ·exact⟨[],[],k+1,none,rfl,ai,.nil,rfl,by simp,S1.new hL,by lia,B1.new hL⟩
 ·rintro i σ' H' hi ⟨rvs,rs,k',o,rfl,hrl,hA,rlen,ro,S',hk',B'⟩
  have hi:i<n:=by simpa using hi
  refine dz ⟨_,rfl,_,rfl,_,rfl,_,rfl,st,nm,cn,n,k',ys,cs,rfl,S',by lia,B' nm _ nnm hnm,ysne,ysl,n1,by lia,B' cn _ ncn hcn,csne,csl,cs4,nnm,ncn,λv r k2 H2 hv hr S2 l2 B2=>?_⟩
  have h2:=B2 L _ nL hrl
  have t2:Tp H' H2:=by obtain⟨_,e⟩:=S'.lst;exact .of_but B2 e
  have t3:Tp H2 (upd H2 L (.lst (rvs++[v]))):=(Tp.refl H2).lst h2
  refine⟨_,h2,bO (by rw[hA.len];lia),rvs++[v],rs++[r],k2,_,rfl,ai,(hA.imp λ_ _ z=>(z.mono t2).mono t3).snoc (hv.mono t3),by simp[rlen],λr' hr'=>?_,S2.mono .upd_at h2 (Ne.symm nL),by lia,?_⟩
  ·rcases a8.mp hr' with z|z
   ·exact ro r' z
   ·rw[au.mp z];exact hr
  ·exact eg.past (B'.trans B2) HL .upd_at
 ·rintro σ' H2 ⟨rvs,rs,k2,o,_,hrl,hA,rlen,ro,S2,hk2,B2⟩
  have rlen:rs.length=n:=by simpa using rlen
  have hk2:k2<=k+1+8*n:=by simpa using hk2
  have nnL:nm≠L:=ar hnm HL
  have npL:pr≠L:=ar hpr HL
  have Ok:xK ys cs rs:=⟨λz=>by rw[z] at rlen;simp at rlen;lia,by lia,by rw[rlen];exact ro⟩
  show A0 K _ [some (.ref st),some (.str wd),some (.ref nm),some (.ref pr),some (.ref cn),some (.int (m:Nat)),some (.int (n:Nat)),some (.ref L),none] H2
  have hpr2:=B2 pr _ npr hpr
  have ebare:decide (V.int (((ps.map V.str).length:Nat):Int)=V.int 0)=true->ps=[]:=λz=>by
   have z':=of_decide_eq_true z
   rw[aa] at z'
   injection z' with z'
   exact cx.mp (by lia)
  have ebare':ps=[]->decide (V.int (((ps.map V.str).length:Nat):Int)=V.int 0)=true:=λz=>by rw[z];rfl
  refine⟨_,rfl,_,rfl,_,rfl,_,_,rfl,.inl ⟨_,bY.of hpr2,rfl⟩,.inl ⟨rfl,L,nm,_,rvs,rs,ys,tL ys cs n,rfl,hrl,hA,Ok.pos,Ok.few,ro,rfl,rfl,λt ht=>by rw[rlen];exact ht,B2 nm _ nnm hnm,ysne,λy hy _=>⟨hy,by decide,by decide⟩,nnL,λz=>by rw[rlen];exact n2 (ebare z),λrvs' rs' H3 h3 hA3 len3 hR3 hE3 hN3 hJ3 B3=>?_⟩⟩
  have n3:rs'.length=n:=len3.trans rlen
  have Ok3:xK ys cs rs':=⟨λz=>by rw[z] at n3;simp at n3;lia,by lia,by rw[n3];exact hR3⟩
  have S3:gc K H3 st k2:=S2.mono B3 hrl (Ne.symm nL)
  have BH3:eg st H H3:=eg.past B2 HL B3
  show AZ K _ [some (.ref st),some (.str wd),some (.ref nm),some (.ref pr),some (.ref cn),some (.int (m:Nat)),some (.int (n:Nat)),some (.ref L),none] H3
  refine⟨_,rfl,_,rfl,_,rfl,L,nm,pr,rvs',rs',ys,ps,cs,rfl,h3,hA3,Ok3,hE3,BH3 nm _ nnm hnm,ysl,BH3 pr _ npr hpr,psl,pin,λz=>hN3 (ebare' z),λkl refs kss H4 hkl h4 hT lk hK hKn s4=>?_⟩
  have S4:=S3.same s4
  have BH4:eg st H H4:=BH3.trans s4.but
  have nkl:kl≠st:=λz=>by obtain⟨_,e⟩:=S3.lst;rw[z,e] at hkl;cases hkl
  show AY K _ [some (.ref st),some (.str wd),some (.ref nm),some (.ref pr),some (.ref cn),some (.int (m:Nat)),some (.int (n:Nat)),some (.ref L),some (.ref kl)] H4
  refine⟨_,rfl,_,rfl,pr,_,rfl,.inl ⟨bY.of (BH4 pr _ npr hpr),λt ht=>?_⟩⟩
  have s5:aH H4 (upd H4 t (.tup (ps.map V.str))):=(aH.refl H4).new ht
  have g5:(upd H4 t (.tup (ps.map V.str))) t=some (.tup (ps.map V.str)):=ai
  generalize upd H4 t (.tup (ps.map V.str))=H5 at s5 g5 ⊢
  have S5:=S4.same s5
  have hT5:aV (tN H5) refs kss:=hT.imp λ_ _ ⟨a,e,h⟩=>⟨a,e,s5 _ _ h⟩
  refine⟨_,rfl,_,rfl,_,rfl,st,L,kl,k2,rvs',refs,rs',kss,ys,cs,rfl,S5,by lia,s5 _ _ (s4 _ _ h3),(hA3.imp λ_ _ z=>(z.mono (.of_same s4)).mono (.of_same s5)),Ok3,yne,cs4,s5 _ _ h4,hT5,lk,λi ks e=>(hK i ks e).1,λi ks r e1 e2=>?_,λa ha=>?_,nL,nkl,λp rvs6 rs6 k6 H6 h6 hA6 len6 hF S6 l6 B6=>?_⟩
  ·rcases(hK i ks e1).2.2 with z|⟨z1,z2⟩
   ·exact .inl z
   ·subst z1
    have:=hN3 (ebare' z2)
    rw[gL,e2] at this
    exact .inr (Option.some.inj this)
  ·obtain⟨i,hi,e⟩:=bP.mp ha
   obtain⟨ks,_,z⟩:=hT5.of_v (i:=i) (v:=a) (by rw[ag hi,e])
   exact DT S5 z
  refine⟨(by show 3<=sizeLine;decide),λf hf=>?_⟩
  obtain⟨_,e5⟩:=S5.lst
  have t6:Tp H5 H6:=.of_but B6 e5
  have t7:Tp H6 (upd H6 f (.tup [.str wd,.ref t,.ref p])):=(Tp.refl H6).new hf
  have ksAt:∀(i:Nat) r,rs'[i]?=some r->∃ks,kss[i]?=some ks:=λi r e=>⟨_,ag (by rw[lk];exact(ae.mp e).1)⟩
  have al:mS rs' rs6:=⟨len6,λi r r' e1 e2=>by
   obtain⟨ks,ek⟩:=ksAt i r e1
   exact⟨ks,hF i ks r r' ek e1 e2⟩⟩
  have both:∀(i:Nat) r',rs6[i]?=some r'->∃r ks,rs'[i]?=some r/\kss[i]?=some ks/\iO ks r r':=λi r' e=>by
   obtain⟨r,_,e1,_⟩:=al.get e
   obtain⟨ks,ek⟩:=ksAt i r e1
   exact⟨r,ks,e1,ek,hF i ks r r' ek e1 e⟩
  have ok:kC ys cs ⟨wd,ps,rs6⟩:=by
   refine⟨pnd,pin,λz=>?_,?_,λr' hr'=>?_,?_,al.ring hJ3,kss,?_,⟨hKn.zero,λi m r' ks km e hm ek em y hy=>?_⟩,λi r' ks e ek=>?_⟩
   ·have z':rs6=[]:=z
    rw[z',n3] at len6;simp at len6;lia
   ·show rs6.length<=60
    lia
   ·show C6 ys cs rs6.length r'
    obtain⟨i,hi,e⟩:=bP.mp hr'
    obtain⟨r,ks,e1,e2,f⟩:=both i r' (by rw[<-e];exact ag hi)
    rw[len6,n3]
    exact Iy (hR3 r (aD e1)) (hK i ks e2).2.1 f
   ·show rs6.getLast?.map kb=some true
    have hl:rs6.length-1<rs6.length:=by lia
    obtain⟨r,ks,e1,e2,f⟩:=both (rs6.length-1) _ (ag hl)
    rw[dG,ag hl,bV,F8 f]
    rw[dG,<-len6,e1,bV] at hE3
    exact hE3
   ·show kss.length=rs6.length
    rw[lk,len6]
   ·obtain⟨r,ks',e1,e2,f⟩:=both i r' e
    rw[BU f] at hm
    rw[Ew f]
    exact hKn.on i m r ks km e1 hm ek em y hy
   ·obtain⟨r,ks',e1,e2,f⟩:=both i r' e
    rw[ek] at e2;cases e2
    exact BV f
  refine q _ ⟨wd,ps,rs6⟩ k6 _ ⟨f,t,p,rvs6,rfl,ai,t7 _ _ (t6 _ _ g5),t7 _ _ h6,hA6.imp λ_ _ z=>z.mono t7⟩ rfl rfl ok (by show rs6.length<=m+1;lia) (S6.new hf) (by lia) ?_
  exact((BH4.trans s5.but).trans B6).new hf
inductive BC(rs:List bu)(un:Option Str):Nat->Prop where
 |zero:BC rs un 0
 |step {n m:Nat} {r:bu}:BC rs un n->rs[n]?=some r->(∀y,un=some y->fQ r≠.str y)->m∈bX n r->BC rs un m
structure cG(rs:List bu):Prop where
 pos:0<rs.length
 few:rs.length<64
 inr:∀(n m:Nat) r,rs[n]?=some r->m∈bX n r->m<rs.length
 ring:tF rs
theorem BC.lt{rs:List bu}{un:Option Str}(g:cG rs){m:Nat}(h:BC rs un m):m<rs.length:=by
 cases h with
 |zero=>exact g.pos
 |step _ e _ hm=>exact g.inr _ _ _ e hm
theorem Gw{rs:List bu}(hg:∀r∈rs,∀t:Nat,Gf r=.int (t:Nat)->t<rs.length)(hE:rs.getLast?.map kb=some true):∀(n m:Nat) r,rs[n]?=some r->m∈bX n r->m<rs.length:=by
 intro i m r hr mem
 have hi:i<rs.length:=(ae.mp hr).1
 have nx:kb r=false->i+1<rs.length:=λhe=>by
  by_cases c:i+1<rs.length
  ·exact c
  ·have ei:i=rs.length-1:=by lia
   rw[dG,<-ei,hr,bV,he] at hE
   cases hE
 have hm:=hg r (aD hr)
 cases r with
 |jump to=>rw[au.mp mem];exact hm to rfl
 |test a to=>
  rcases aQ.mp mem with e|e
  ·rw[e];exact nx rfl
  ·rw[au.mp e];exact hm to rfl
 |give a=>cases mem
 |num x z=>rw[au.mp mem];exact nx rfl
 |op x s a b=>rw[au.mp mem];exact nx rfl
 |call x k as=>rw[au.mp mem];exact nx rfl
 |say a=>rw[au.mp mem];exact nx rfl
theorem kC.good{ys:List Str}{cs:List Nat}{b:dZ}(h:kC ys cs b):cG b.rows:=by
 have:=h.few
 refine⟨cu.mpr h.pos,by lia,Gw (λr hr t e=>?_) h.last,h.ring⟩
 have ro:=h.rows r hr
 cases r with
 |jump to=>
  injection e with e
  have:to=t:=by lia
  subst this;exact ro
 |test a to=>
  injection e with e
  have:to=t:=by lia
  subst this;exact ro.2
 |_=>cases e
theorem Aq(rs:List bu):∀(j k n:Nat),runJ rs (j+k) n=runJ rs j (runJ rs k n)
 |j,0,n=>rfl
 |j,k+1,n=>by
  show runJ rs (j+k) (stp rs n)=runJ rs j (runJ rs k (stp rs n))
  exact Aq rs j k (stp rs n)
theorem Hg{rs:List bu}(g:cG rs){n:Nat}(h:n<rs.length):stp rs n<rs.length:=by
 unfold stp
 rw[ag h]
 cases e:rs[n] with
 |jump t=>exact g.inr n t (.jump t) (by rw[ag h,e]) (au.mpr rfl)
 |_=>exact h
theorem oZ{rs:List bu}(g:cG rs):∀(k:Nat) {n:Nat},n<rs.length->runJ rs k n<rs.length
 |0,_,h=>h
 |k+1,_,h=>oZ g k (Hg g h)
theorem Hb{rs:List bu}{k n:Nat}(hk:k<=rs.length)(h:∀r,rs[runJ rs k n]?=some r->d4 r=false):runJ rs rs.length n=runJ rs k n:=by
 have e:rs.length=(rs.length-k)+k:=by lia
 rw[e,Aq]
 exact mJ h _
theorem ke:∀{n:Nat} {l:List Nat},l.Nodup->(∀x∈l,x<n)->l.length<=n
 |0,l,_,h=>by
  cases l with
  |nil=>exact ay _
  |cons a r=>exact absurd (h a bw) (dE _)
 |n+1,l,nd,h=>by
  by_cases c:n∈l
  ·have h1:=ke (n:=n) (l:=l.erase n) (nd.erase n) λx hx=>by
    have:=(nd.mem_erase_iff).mp hx
    have:=h x this.2
    lia
   rw[List.length_erase_of_mem c] at h1
   lia
  ·have h1:=ke (n:=n) nd λx hx=>by
    have:=h x hx
    have:x≠n:=λz=>c (z ▸ hx)
    lia
   lia
theorem lY:∀{l:List Nat},l.Pairwise (·<=·)->l.Nodup->l.Pairwise (·<·)
 |[],_,_=>.nil
 |a::r,h,nd=>by
  rw[List.pairwise_cons] at h ⊢
  rw[dX] at nd
  refine⟨λx hx=>?_,lY h.2 nd.2⟩
  have:=h.1 x hx
  have:a≠x:=λz=>nd.1 (z ▸ hx)
  lia
theorem EV{ms:List Int}{ns:List Nat}(p:ms.Perm (ns.map λn=>((n:Nat):Int)))(s:ms.Pairwise (·<=·))(nd:ns.Nodup):∃ks:List Nat,ms=ks.map (λn=>((n:Nat):Int))/\(∀x,x∈ks↔x∈ns)/\ks.Pairwise (·<·):=by
 have hm:ms.map (λi=>((i.toNat:Nat):Int))=ms:=by
  have:∀i∈ms,((i.toNat:Nat):Int)=i:=λi hi=>by
   obtain⟨n,_,e⟩:=eV.mp (p.mem_iff.mp hi)
   lia
  exact(List.map_congr_left this).trans (List.map_id _)
 have pk:(ms.map dj).Perm ns:=by
  have:=p.map dj
  rw[de] at this
  have e:ns.map (dj ∘ λn=>((n:Nat):Int))=ns:=by
   have:∀n∈ns,(dj ∘ λn=>((n:Nat):Int)) n=n:=λn _=>by simp
   exact(List.map_congr_left this).trans (List.map_id _)
  rw[e] at this
  exact this
 refine⟨ms.map dj,?_,λx=>pk.mem_iff,lY ?_ (pk.nodup_iff.mpr nd)⟩
 ·rw[de];exact hm.symm
 ·rw[List.pairwise_map]
  exact s.imp λ{a b} h=>by lia
def Kq:Option Str->V
 |none=>.non
 |some y=>.str y
def f6(_:Fg):Sp:=λvs H Q _=>∃(rt:Addr) (n:Nat) (rvs:List V) (rs:List bu),vs=[.ref rt,.int (n:Nat)]/\H rt=some (.tup rvs)/\aV (c8 H) rvs rs/\cG rs/\n<rs.length/\Q (.int (runJ rs rs.length n:Nat)) H
def gK(_:Fg):Sp:=λvs H Q _=>∃(rt:Addr) (un:Option Str) (rvs:List V) (rs:List bu),vs=[.ref rt,Kq un]/\H rt=some (.tup rvs)/\aV (c8 H) rvs rs/\cG rs/\
 ∀(l:Addr) (ns:List Nat) (H':Hp),(∀m,m∈ns↔BC rs un m)->ns.Pairwise (·<·)->H' l=some (.lst (bG ns))->H l=none->aH H H'->Q (.ref l) H'
def ji(rs:List bu)(m:Nat):Prop:=BC rs none m/\∀r,rs[m]?=some r->d4 r=false
def JY:Sp:=λvs H Q _=>∃(rt:Addr) (rvs:List V) (rs:List bu),vs=[.ref rt]/\H rt=some (.tup rvs)/\aV (c8 H) rvs rs/\cG rs/\
 ∀(l:Addr) (ns:List Nat) (H':Hp),(∀m,m∈ns↔ji rs m)->ns.Pairwise (·<·)->H' l=some (.lst (bG ns))->H l=none->aH H H'->Q (.ref l) H'
abbrev kT(_:Fg):Sp:=JY
abbrev Cc:Nat:=1
abbrev Bl:Nat:=2
abbrev Ce:Nat:=2
abbrev nQ:Nat:=3
abbrev zX:Nat:=3
abbrev zd:Nat:=4
abbrev kD:=Nat×List (Option Str)
def qg(H:Hp)(v:V)(q:kD):Prop:=∃p a,v=.ref p/\H p=some (.tup [.int (q.1:Nat),.ref a])/\H a=some (.tup (dh q.2))
theorem qg.mono{H H':Hp}{v:V}{q:kD}(h:qg H v q)(t:Tp H H'):qg H' v q:=let⟨p,a,e,h1,h2⟩:=h;⟨p,a,e,t _ _ h1,t _ _ h2⟩
def iG(H:Hp)(v:V)(qs:List kD):Prop:=∃p us,v=.ref p/\H p=some (.tup us)/\aV (qg H) us qs
theorem iG.mono{H H':Hp}{v:V}{qs:List kD}(h:iG H v qs)(t:Tp H H'):iG H' v qs:=let⟨p,us,e,h1,h2⟩:=h;⟨p,us,e,t _ _ h1,h2.imp λ_ _ z=>z.mono t⟩
def mN(_:Fg):Sp:=λvs H Q _=>∃(p:Addr) (w:Str) (xs:List V),vs=[.ref p]/\H p=some (.tup (.str w::xs))/\(w="jump"->∃y,xs[0]?=some y/\Q y H)/\(w="test"->∃y,xs[1]?=some y/\Q y H)/\(w≠"jump"->w≠"test"->Q .non H)
def yj(w:Str)(xs:List V)(n:Int)(ms:List Int):Prop:=(w="give"->ms=[])/\(w="jump"->∃t,xs[0]?=some (.int t)/\ms=[t])/\(w="test"->∃t,xs[1]?=some (.int t)/\ms=[n+1,t])/\(w≠"give"->w≠"jump"->w≠"test"->ms=[n+1])
def jw(_:Fg):Sp:=λvs H Q _=>∃(rl p:Addr) (n:Nat) (rvs xs:List V) (w:Str) (ms:List Int),vs=[.ref rl,.int (n:Nat)]/\(H rl=some (.lst rvs)\/H rl=some (.tup rvs))/\rvs[n]?=some (.ref p)/\H p=some (.tup (.str w::xs))/\yj w xs n ms/\∀(t:Addr) (H':Hp),H' t=some (.tup (ms.map V.int))->aH H H'->Q (.ref t) H'
def Ee:bu->V
 |.num _ z=>.int z
 |.op _ s _ _=>.str s
 |.call _ k _=>.int (k:Nat)
 |_=>.non
def MA:fU->V
 |.num z=>.int z
 |.op s _ _=>.str s
 |.call k _=>.int k
 |_=>.non
structure zu(r:bu)(c:fU)(os:List (Option Str)):Prop where
 wd:dD r=gY c
 arg:Ee r=MA c
 len:(kf c).length=(bR r).length
 at_:∀(t:Nat) i a,(kf c)[t]?=some i->(bR r)[t]?=some a->0<=i/\os[i.toNat]?=some (some a)
def sZ(q:kD)(n:Nat)(told:List (Option Str)):Prop:=q.1=n/\q.2.length=told.length/\Bd q.2 told=true
def fW:bu->Option Str
 |.num x _=>some x
 |.op x _ _ _=>some x
 |.call x _ _=>some x
 |_=>none
def dO(rs:List bu)(c:fU)(n:Nat):List Nat:=if yL c then[n] else match rs[n]? with
 |some r=>(bX n r).map (runJ rs rs.length)
 |none=>[]
structure tM(places:Nat)(rs:List bu)(cs:List fU)(ps:List kD)(m:Nat):Prop where
 ex:∃c q r,cs[m]?=some c/\ps[m]?=some q/\rs[q.1]?=some r/\q.2.length=places/\(∀i,c=.keep i->0<=i/\i.toNat<places)/\(yL c=false->zu r c q.2)/\
  (∀to∈bX q.1 r,to<rs.length)/\(jj (m:Nat) c).length=(dO rs c q.1).length/\
  ∀(t:Nat) to n,(jj (m:Nat) c)[t]?=some to->(dO rs c q.1)[t]?=some n->0<=to/\∃q',ps[to.toNat]?=some q'/\sZ q' n (Dd c q.2 (fW r))
def fk(_:Fg):Sp:=λvs H Q _=>∃(v:V) (a:Addr) (q:kD) (n:Nat) (told:List (Option Str)),vs=[v,.int (n:Nat),.ref a]/\qg H v q/\H a=some (.tup (dh told))/\q.2.length<=1000/\sZ q n told/\∀(H':Hp),aH H H'->Q (.bl true) H'
def ju(_:Fg):Sp:=λvs H Q _=>∃(v u:V) (a:Addr) (r:bu) (c:fU) (os:List (Option Str)),vs=[v,u,.ref a]/\c8 H v r/\fu H u c/\H a=some (.tup (dh os))/\os.length<=1000/\(bR r).length<=1000/\zu r c os/\∀(H':Hp),aH H H'->Q (.bl true) H'
def kS(_:Fg):Sp:=λvs H Q _=>∃(v:V) (a:Addr) (r:fU) (os:List (Option Str)) (x:Option Str),vs=[v,.ref a,oV x]/\fu H v r/\H a=some (.tup (dh os))/\os≠[]/\os.length<=1000/\(∀i,r=.keep i->0<=i/\i.toNat<os.length)/\(oQ r=true->x.isSome=true)/\
 ∀(p:Addr) (H':Hp),H' p=some (.tup (dh (Dd r os x)))->aH H H'->Q (.ref p) H'
def jS(_:Fg):Sp:=λvs H Q _=>∃(rt ct pp:Addr) (m places:Nat) (rvs cvs pvs:List V) (rs:List bu) (cs:List fU) (ps:List kD),vs=[.ref rt,.ref ct,.ref pp,.int (m:Nat)]/\H rt=some (.tup rvs)/\aV (c8 H) rvs rs/\cG rs/\H ct=some (.tup cvs)/\aV (fu H) cvs cs/\H pp=some (.tup pvs)/\aV (qg H) pvs ps/\1<=places/\places<=1000/\(∀r∈rs,(bR r).length<=1000)/\(∀(i:Nat) q,ps[i]?=some q->q.2.length=places)/\tM places rs cs ps m/\∀(H':Hp),aH H H'->Q (.bl true) H'
structure fI(places:Nat)(b:dZ)(cs:List fU)(ps:List kD):Prop where
 len:ps.length=cs.length
 wide:∀(i:Nat) q,ps[i]?=some q->q.2.length=places
 fst:∃q,ps[0]?=some q/\sZ q (runJ b.rows b.rows.length 0) (b.params.reverse.map some++ax places none |>.take places)
 row:∀m,m<cs.length->tM places b.rows cs ps m
def jt(_:Fg):Sp:=λvs H Q _=>∃(v:V) (ct pp:Addr) (places:Nat) (cvs pvs:List V) (b:dZ) (cs:List fU) (ps:List kD),vs=[.int (places:Nat),v,.ref ct,.ref pp]/\gA H v b/\cG b.rows/\b.rows≠[]/\b.params.length<=100/\(∀r∈b.rows,(bR r).length<=1000)/\H ct=some (.tup cvs)/\aV (fu H) cvs cs/\cs.length<=100000/\H pp=some (.tup pvs)/\aV (qg H) pvs ps/\1<=places/\places<=1000/\fI places b cs ps/\∀(H':Hp),aH H H'->Q .non H'
def mh(_:Fg):Sp:=λvs H Q _=>∃(pg pt:Addr) (pvs cvs:List V) (bs:List dZ) (cps:List j5),vs=[.ref pg,.ref pt]/\H pg=some (.tup pvs)/\aV (gA H) pvs bs/\H pt=some (.tup cvs)/\aV (gS H) cvs cps/\bs.length<=100/\cps.map (·.1)=bs.map (λb=>((b.params.length:Nat):Int))/\∀(H':Hp),aH H H'->Q .non H'
structure fJ(places:Nat)(bs:List dZ)(cps:List j5)(pss:List (List kD)):Prop where
 len:cps.length=bs.length
 ln2:pss.length=bs.length
 cnt:cps.map (·.1)=bs.map (λb=>((b.params.length:Nat):Int))
 part:∀(k:Nat) b c ps,bs[k]?=some b->cps[k]?=some c->pss[k]?=some ps->fI places b c.2 ps
def gD(_:Fg):Sp:=λvs H Q _=>∃(pg pp:Addr) (cv:V) (places:Nat) (pvs qvs:List V) (bs:List dZ) (cps:List j5) (pss:List (List kD)),vs=[.ref pg,cv,.ref pp]/\H pg=some (.tup pvs)/\aV (gA H) pvs bs/\bs.length<=100/\(∀b∈bs,cG b.rows/\b.rows≠[]/\b.params.length<=100/\∀r∈b.rows,(bR r).length<=1000)/\sY H cv ((places:Nat),cps)/\(∀c∈cps,c.2.length<=100000)/\H pp=some (.tup qvs)/\aV (iG H) qvs pss/\1<=places/\places<=1000/\fJ places bs cps pss/\∀(H':Hp),aH H H'->Q .non H'
abbrev Gs:Nat:=0
abbrev zf:Nat:=1
abbrev EH:Nat:=1
abbrev vT:Nat:=2
abbrev sh:Nat:=1
abbrev rW:Nat:=2
abbrev vy:Nat:=1
abbrev vi:Nat:=2
abbrev yf:Nat:=3
abbrev xA:Nat:=4
abbrev vx:Nat:=4
abbrev vh:Nat:=5
abbrev Cd:Nat:=0
abbrev Bm:Nat:=1
abbrev EF:Nat:=5
abbrev DY:Nat:=6
def Ks(a b:Addr)(H H':Hp):Prop:=∀p o,p≠a->p≠b->H p=some o->H' p=some o
inductive iP where
 |c (r:fU)
 |land (i:Nat)
 |jmp (m t:Nat)
def nU(H:Hp)(v:V):iP->Prop
 |.c r=>fu H v r
 |.land i=>∃p,v=.ref p/\H p=some (.tup [.str "test",.int (i:Nat),.str "land"])
 |.jmp m t=>∃p a,v=.ref p/\H p=some (.tup [.str "jump",.ref a])/\H a=some (.tup [.str "at",.int (m:Nat),.int (t:Nat)])
theorem nU.mono{H H':Hp}{v:V}{x:iP}(h:nU H v x)(t:Tp H H'):nU H' v x:=by
 cases x with
 |c r=>exact fu.mono h t
 |land i=>obtain⟨p,e,h⟩:=h;exact⟨p,e,t _ _ h⟩
 |jmp m k=>obtain⟨p,a,e,h,h'⟩:=h;exact⟨p,a,e,t _ _ h,t _ _ h'⟩
abbrev XO:=iP×kD
def Nz(H:Hp)(v:V)(x:XO):Prop:=∃p u w,v=.ref p/\H p=some (.tup [u,w])/\nU H u x.1/\qg H w x.2
theorem Nz.mono{H H':Hp}{v:V}{x:XO}(h:Nz H v x)(t:Tp H H'):Nz H' v x:=let⟨p,u,w,e,h1,h2,h3⟩:=h;⟨p,u,w,e,t _ _ h1,h2.mono t,h3.mono t⟩
def mO(os:List (Option Str)):List Str->List (Option Str)
 |[]=>os
 |y::l=>mO (dI os (some y)) l
def qi(n:Nat)(os:List (Option Str)):List Str->List XO
 |[]=>[]
 |y::l=>(.c (.keep ((os.idxOf (some y):Nat):Int)),(n,os))::qi n (dI os (some y)) l
def sV(os:List (Option Str)):List Str->Prop
 |[]=>True
 |y::l=>some y∈os/\sV (dI os (some y)) l
def kA(H:Hp)(ol:Addr)(out:List XO):Prop:=∃outs,H ol=some (.lst outs)/\aV (Nz H) outs out
def j6(H:Hp)(v:V)(ks:List Str):Prop:=∃a,v=.ref a/\H a=some (.tup (ks.map V.str))
theorem j6.mono{H H':Hp}{v:V}{ks:List Str}(h:j6 H v ks)(t:Tp H H'):j6 H' v ks:=let⟨a,e,h⟩:=h;⟨a,e,t _ _ h⟩
def Az(_:Fg):Sp:=λvs H Q _=>∃(a:Addr) (os:List (Option Str)) (o:Option Str),vs=[.ref a,oV o]/\H a=some (.tup (dh os))/\2<=os.length/\os.length<=1000/\
 ∀(p:Addr) (H':Hp),H' p=some (.tup (dh (dI os o)))->aH H H'->Q (.ref p) H'
def iw(_:Fg):Sp:=λvs H Q _=>∃(ol ba du:Addr) (n:Nat) (out:List XO) (os:List (Option Str)) (due:List Str),vs=[.ref ol,.int (n:Nat),.ref ba,.ref du]/\kA H ol out/\H ba=some (.tup (dh os))/\2<=os.length/\os.length<=1000/\H du=some (.tup (due.map V.str))/\due.length<=100/\out.length<=90000/\sV os due.reverse/\
 ∀(p:Addr) (H':Hp),H' p=some (.tup (dh (mO os due.reverse)))->kA H' ol (out++qi n os due.reverse)->eg ol H H'->Q (.ref p) H'
def jv(K:Fg):Sp:=λvs H Q _=>∃(st ba:Addr) (k:Nat) (os:List (Option Str)) (y:Str),vs=[.ref st,.ref ba,.str y]/\gc K H st k/\k<=900000/\H ba=some (.tup (dh os))/\os.length<=1000/\some y∈os/\
 ∀(i:Nat) (H':Hp),os[i]?=some (some y)->gc K H' st (k+1)->eg st H H'->Q (.int (i:Nat)) H'
structure HN(a b:List (Option Str)):Prop where
 len:b.length=a.length
 wk:Bd b a=true
 fst:∀y k,some y∈a.take k->some y∈b.take k
def qE(K:Fg):Sp:=λvs H Q _=>∃(st ba:Addr) (k:Nat) (os:List (Option Str)),vs=[.ref st,.ref ba]/\gc K H st k/\k<=900000/\H ba=some (.tup (dh os))/\os≠[]/\os.length<=1000/\
 ∀(p:Addr) (os':List (Option Str)) (H':Hp),H' p=some (.tup (dh os'))->HN os os'->gc K H' st (k+1)->eg st H H'->Q (.ref p) H'
def C7(r:bu)(x:iP)(os:List (Option Str)):Prop:=match r with
 |.test a _=>∃i:Nat,x=.land i/\os[i]?=some (some a)
 |_=>∃c,x=.c c/\zu r c os
def jV(K:Fg):Sp:=λvs H Q _=>∃(st ba:Addr) (v:V) (k:Nat) (r:bu) (os:List (Option Str)),vs=[.ref st,v,.ref ba]/\gc K H st k/\k<=800000/\c8 H v r/\d4 r=false/\H ba=some (.tup (dh os))/\os.length<=1000/\(bR r).length<=10/\(∀y∈bR r,some y∈os)/\
 ∀(u:V) (x:iP) (k':Nat) (H':Hp),nU H' u x->C7 r x os->gc K H' st k'->k'<=k+10->eg st H H'->Q u H'
def dS(ks:List Str)(places:Nat):List (Option Str):=(ks.map some++ax places none).take places
inductive C5(b0:List (Option Str))(n:Nat):List XO->List (Option Str)->Prop where
 |no {os}:HN b0 os->C5 b0 n [] os
 |yes {i:Nat} {os}:i<b0.length->HN (lz b0 i) os->C5 b0 n [(.c (.keep ((i:Nat):Int)),(n,b0))] os
def eE(r:bu)(os:List (Option Str)):List (Option Str):=match fW r with
 |some y=>rZ os y
 |none=>os
def cD(kss:List (List Str))(m t:Nat)(os:List (Option Str)):List XO:=qi m os ((kss[m]?).getD []).reverse++[(.jmp m t,(m,mO os ((kss[m]?).getD []).reverse))]
inductive lU(rs:List bu)(kss:List (List Str))(times n b:Nat)(os:List (Option Str)):bu->iP->List XO->iP->Prop where
 |give {a x}:lU rs kss times n b os (.give a) x [] x
 |test {a to i t t'}:t<times->t'<times->lU rs kss times n b os (.test a to) (.land i)
   (cD kss (runJ rs rs.length (n+1)) t os++cD kss (runJ rs rs.length to) t' os)
   (.c (.test ((i:Nat):Int) ((b+1+(cD kss (runJ rs rs.length (n+1)) t os).length:Nat):Int)))
 |on {r x t}:t<times->(∀a,r≠.give a)->(∀a to,r≠.test a to)->lU rs kss times n b os r x (cD kss (runJ rs rs.length (n+1)) t (eE r os)) x
def Fv(rs:List bu)(kss:List (List Str))(places times b n:Nat)(blk:List XO):Prop:=
 ∃ks r pre os x x' tail,kss[n]?=some ks/\rs[n]?=some r/\C5 (dS ks places) n pre os/\C7 r x os/\lU rs kss times n (b+pre.length) os r x tail x'/\blk=pre++(x',(n,os))::tail
structure rY(rs:List bu)(kss:List (List Str))(N places:Nat):Prop where
 len:kss.length=rs.length
 few:∀(n:Nat) ks,kss[n]?=some ks->ks.length<=N
 read:∀(n:Nat) r ks,ji rs n->rs[n]?=some r->kss[n]?=some ks->∀y∈bR r,y∈ks
 on:∀(n m:Nat) r ks km,rs[n]?=some r->m∈bX n r->kss[n]?=some ks->kss[m]?=some km->∀y∈km,y∈ks\/fQ r=.str y
 room:2*N+2<=places
 most:places<=100
def uy(K:Fg):Sp:=λvs H Q _=>∃(st ol rt kl:Addr) (n places times N k:Nat) (out:List XO) (rvs refs:List V) (rs:List bu) (kss:List (List Str)),vs=[.ref st,.ref ol,.ref rt,.int (n:Nat),.ref kl,.int (places:Nat),.int (times:Nat)]/\gc K H st k/\k<=700000/\kA H ol out/\out.length<=80000/\st≠ol/\H rt=some (.tup rvs)/\aV (c8 H) rvs rs/\cG rs/\(∀r∈rs,(bR r).length<=10)/\ji rs n/\H kl=some (.lst refs)/\kl≠st/\kl≠ol/\aV (j6 H) refs kss/\rY rs kss N places/\1<=times/\times<=2/\
 ∀(blk:List XO) (k':Nat) (H':Hp),Fv rs kss places times out.length n blk->kA H' ol (out++blk)->gc K H' st k'->k'<=k+20->Ks st ol H H'->Q .non H'
def zw(H:Hp)(a:Addr)(xs:List V):Prop:=H a=some (.lst xs)\/H a=some (.tup xs)
def lq(ys ps:List Str)(rs:List bu)(kss:List (List Str)):Prop:=∀kss':List (List Str),kss'.length=rs.length->(∀(i:Nat) ks,kss'[i]?=some ks->∀y∈ks,y∈ys)->tf ps rs kss'->∀(i:Nat) ks ks',kss[i]?=some ks->kss'[i]?=some ks'->∀y∈ks',y∈ks
def jx(_:Fg):Sp:=λvs H Q _=>∃(rl nm pr:Addr) (rvs:List V) (rs:List bu) (ys ps:List Str),vs=[.ref rl,.ref nm,.ref pr]/\zw H rl rvs/\aV (c8 H) rvs rs/\0<rs.length/\rs.length<=100/\(∀(n m:Nat) r,rs[n]?=some r->m∈bX n r->m<rs.length)/\
 H nm=some (.lst (ys.map V.str))/\ys.length<=100/\zw H pr (ps.map V.str)/\ps.length<=100/\
 ∀(kl:Addr) (refs:List V) (kss:List (List Str)) (H':Hp),H kl=none->H' kl=some (.lst refs)->aV (tN H') refs kss->kss.length=rs.length->(∀(i:Nat) ks,kss[i]?=some ks->ks.length<=max ys.length ps.length/\∀y∈ks,y∈ys\/y∈ps)->tf ps rs kss->lq ys ps rs kss->aH H H'->Q (.ref kl) H'
def mE(bs:List dZ)(y:Str):Prop:=∃b∈bs,y∈b.params\/∃r∈b.rows,fW r=some y
def kW(K:Fg):Sp:=λvs H Q _=>∃(st nm:Addr) (v:V) (places k:Nat) (us ys:List Str) (cs:List Nat) (b:dZ),vs=[.ref st,v,.ref nm,.int (places:Nat)]/\gc K H st k/\k<=600000/\gA H v b/\kC ys cs b/\(∀c∈cs,c<=4)/\H nm=some (.lst (us.map V.str))/\nm≠st/\us.Nodup/\(∀y,mE [b] y->y∈us)/\2*us.length+2<=places/\places<=100/\
 ∀(p cp pp:Addr) (code:List fU) (pvs:List V) (ps:List kD) (k':Nat) (H':Hp),H' p=some (.tup [.ref cp,.ref pp])->gS H' (.ref cp) (((b.params.length:Nat):Int),code)->H' pp=some (.tup pvs)->aV (qg H') pvs ps->fI places b code ps->code.length<=100000->gc K H' st k'->k'<=k+3000->eg st H H'->Q (.ref p) H'
def jM(_:Fg):Sp:=λvs H Q _=>∃(pg:Addr) (pvs:List V) (bs:List dZ),vs=[.ref pg]/\H pg=some (.tup pvs)/\aV (gA H) pvs bs/\bs.length<=10/\(∀b∈bs,b.rows.length<=100/\b.params.length<=100)/\
 ∀(l:Addr) (us:List Str) (H':Hp),H l=none->H' l=some (.lst (us.map V.str))->us.Nodup->(∀y,y∈us↔mE bs y)->aH H H'->Q (.ref l) H'
def sQ(K:Fg):Sp:=λvs H Q _=>∃(st pg:Addr) (pvs:List V) (k:Nat) (ys:List Str) (cs:List Nat) (bs:List dZ),vs=[.ref st,.ref pg]/\gc K H st k/\k<=550000/\H pg=some (.tup pvs)/\aV (gA H) pvs bs/\Bz ys cs bs/\
 ∀(p pp:Addr) (cv:V) (places:Nat) (cps:List j5) (qvs:List V) (pss:List (List kD)) (k':Nat) (H':Hp),H' p=some (.tup [cv,.ref pp])->sY H' cv ((places:Nat),cps)->H' pp=some (.tup qvs)->aV (iG H') qvs pss->fJ places bs cps pss->1<=places->places<=1000->(∀c∈cps,c.2.length<=100000)->gc K H' st k'->k'<=k+20000->eg st H H'->Q (.ref p) H'
def jU(_:Fg):Sp:=λvs H Q _=>∃(rt:Addr) (rvs:List V) (rs:List bu),vs=[.ref rt]/\H rt=some (.tup rvs)/\aV (c8 H) rvs rs/\rs.length<=100/\(∀r∈rs,(bR r).length<=10)/\
 ∀(l:Addr) (us:List Str) (H':Hp),H' l=some (.lst (us.map V.str))->(∀r∈rs,∀y∈bR r,y∈us)->aH H H'->Q (.ref l) H'
def pR(x:Str)(q:kD):kD:=(q.1,q.2.map (cS x))
def oi(_:Fg):Sp:=λvs H Q _=>∃(v:V) (ps:List kD) (x:Str),vs=[v,.str x]/\iG H v ps/\ps.length<=100000/\(∀q∈ps,q.2.length<=1000)/\
 ∀(u:V) (H':Hp),iG H' u (ps.map (pR x))->aH H H'->Q u H'
def Ec(b:dZ)(ps ps':List kD):Prop:=∃xs:List Str,(∀x∈xs,∀r∈b.rows,x∉bR r)/\ps'=xs.foldl (λq x=>q.map (pR x)) ps
def kZ(_:Fg):Sp:=λvs H Q _=>∃(pg pp:Addr) (pvs qvs:List V) (bs:List dZ) (pss:List (List kD)),vs=[.ref pg,.ref pp]/\H pg=some (.tup pvs)/\aV (gA H) pvs bs/\bs.length<=10/\(∀b∈bs,b.rows.length<=100/\b.params.length<=100/\∀r∈b.rows,(bR r).length<=10)/\H pp=some (.tup qvs)/\aV (iG H) qvs pss/\pss.length=bs.length/\(∀ps∈pss,ps.length<=100000/\∀q∈ps,q.2.length<=1000)/\
 ∀(p:Addr) (qvs':List V) (pss':List (List kD)) (H':Hp),H' p=some (.tup qvs')->aV (iG H') qvs' pss'->pss'.length=pss.length->(∀(k:Nat) b ps ps',bs[k]?=some b->pss[k]?=some ps->pss'[k]?=some ps'->Ec b ps ps')->aH H H'->Q (.ref p) H'
abbrev NO:Nat:=0
abbrev NG:Nat:=1
abbrev EC:Nat:=1
abbrev DV:Nat:=2
abbrev II:Nat:=1
abbrev HU:Nat:=2
abbrev Gp:Nat:=1
abbrev FE:Nat:=2
abbrev yi:Nat:=2
abbrev xD:Nat:=3
abbrev IG:Nat:=3
abbrev HR:Nat:=4
abbrev vA:Nat:=2
abbrev mW:Nat:=3
abbrev uz(K:Fg):Sp:=kY K
abbrev zY:Nat:=4
abbrev ze:Nat:=5
abbrev B0:Nat:=0
abbrev Bi:Nat:=1
abbrev KW:Nat:=5
abbrev Kv:Nat:=6
abbrev yh:Nat:=0
abbrev xC:Nat:=1
abbrev EJ:Nat:=0
abbrev D1:Nat:=1
abbrev EI:Nat:=1
abbrev D0:Nat:=2
abbrev Ka:Nat:=6
abbrev FF:Nat:=7
def oj(K:Fg):Sp:=λvs H Q _=>∃(st:Addr) (k:Nat),vs=[.ref st]/\gc K H st k/\k<=900000/\
 ∀(z:Int) (k':Nat) (H':Hp),0<=z->z<2 ^ 64->gc K H' st k'->k'<=k+6->eg st H H'->Q (.int z) H'
abbrev EK:Nat:=1
abbrev D4:Nat:=2
abbrev vz:Nat:=2
abbrev vj:Nat:=3
end Bg
end
section
namespace L2
open PySem PySem.Spec PyProof.Rows
structure QE(X:Cx)(e:Expr)(t:TE):Prop where
 up:PE X e t
structure QT(X:Cx)(e:Expr)(t:TT):Prop where
 up:PT X e t
structure QW(X:Cx)(e:Expr)(t:TT):Prop where
 up:PW X e t
structure QA(X:Cx)(e:List Expr)(t:TA):Prop where
 up:PA X e t
structure QS(X:Cx)(e:Stmt)(t:TS):Prop where
 up:PS X e t
structure Ia(X:Cx)(e:List Stmt)(t:TS):Prop where
 up:Bf X e t
structure QG(X:Cx)(e:Expr)(t:TG):Prop where
 up:PG X e t
structure Mx(X:Cx)(e:List Expr)(t:Ea):Prop where
 up:Me X e t
structure QI(X:Cx)(a b:Expr)(t:TI):Prop where
 up:PI X a b t
structure QO(X:Cx)(e:Option Expr)(t:TO):Prop where
 up:PO X e t
structure BA(X:Cx)(e:List Expr)(t:TT):Prop where
 up:D5 X e t
theorem qv(i:Nat){x:Str}{pos:Pos}(hN:X.N[i]?=some x:=by rfl)(hv:Ny X.env.scope x:=by first|exact Or.inl rfl|exact Or.inr (Or.inl rfl)|exact Or.inr (Or.inr rfl))(hd:(x==("__debug__":Str))=false:=by decide)(hcd:(x==("__classdict__":Str))=false:=by decide):QE X (.Name x pos) (aj i):=
 ⟨pv i hN hv hd hcd⟩
theorem az{i j pos}:QE X (.Constant (.int i) j pos) (tC (.int i)):=
 ⟨Lu ⟩
theorem md{b j pos}:QE X (.Constant (.bool b) j pos) (tC (.bl b)):=
 ⟨MR ⟩
theorem e6{j pos}:QE X (.Constant .none j pos) (tC .non):=
 ⟨Lw ⟩
theorem aP{x j pos}:QE X (.Constant (.str x) j pos) (tC (.str x)):=
 ⟨Ly ⟩
theorem bC{op:Operator}{r:R2}(ho:jh X (binaryOp op) r)(ha:QE X a ta)(hb:QE X b tb):QE X (.BinOp a op b pos) (aX r ta tb):=
 ⟨MV ho ha.up hb.up⟩
theorem Kf{op:UnaryOp}{r:V->Hp->VK->Prop}(ho:Nw X (unaryOp op) r)(ha:QE X a ta):QE X (.UnaryOp op a pos) (ND r ta):=
 ⟨MX ho ha.up⟩
theorem fR{op:CmpOp}{r:R2}(ho:jh X (compareOp op) r)(ha:QE X a ta)(hb:QE X b tb)(hm:behindInMarks op b=false):QE X (.Compare a [op] [b] pos) (aX r ta tb):=
 ⟨IW ho ha.up hb.up hm⟩
theorem Cs{rest:List Expr}(ha:QE X a ta)(hb:QE X (.BoolOp .And (b::rest) pos) tb):QE X (.BoolOp .And (a::b::rest) pos) (AF ta tb):=
 ⟨Lq ha.up hb.up⟩
theorem M6{rest:List Expr}(ha:QE X a ta)(hb:QE X (.BoolOp .Or (b::rest) pos) tb):QE X (.BoolOp .Or (a::b::rest) pos) (Mb ta tb):=
 ⟨MW ha.up hb.up⟩
theorem yv{op}{t:TE}(h:QE X a t):QE X (.BoolOp op [a] pos) t:=
 ⟨Lx h.up⟩
theorem Aj{c:Expr}(hc:QT X c tA)(ha:QE X a ta)(hb:QE X b tb):QE X (.IfExp c a b pos) (NB tA ta tb):=
 ⟨GF hc.up ha.up hb.up⟩
theorem cH{lo hi:Option Expr}{r:V->Option Int->Option Int->Hp->VK->Prop}(hr:FO X r)(he:QE X e te)(hl:QO X lo tl)(hu:QO X hi th):QE X (.Subscript e (.Slice lo hi none p2) pos) (pj r te tl th):=
 ⟨GG hr he.up hl.up hu.up⟩
theorem M5{r:R2}(hr:HH X r)(ha:QE X a ta)(hb:QE X b tb)(hs:xJ b):QE X (.Subscript a b pos) (aX r ta tb):=
 ⟨MU hr ha.up hb.up hs⟩
theorem bh{x1}(h:QA X es t):QE X (.Tuple es x1 pos) (b7 t):=
 ⟨Lz h.up⟩
theorem fO(h:QA X es t):QE X (.List es pos) (ki t):=
 ⟨Lv h.up⟩
theorem Ke{id:String}(pa:PlainAttrs T)(slot:Slot T name id)(hty:typeOf (.builtin id)=pure (.type "method_descriptor"))(hm:Mr X id r)(ho:QE X o to)(ha:QA X (e::es) t)(hbase:attributeBase o name X.env (eval o X.env)=eval o X.env:=by rfl)(hfew:((backTo cpos (starEach (e::es) X.env)).all (λx=>!x.1)&&(backToKw cpos (keywordEach [] X.env)).all (λx=>x.1.isSome)
   && decide ((e::es).length+([]:List Keyword).length+(if([]:List Keyword).isEmpty then 0 else 1)<30))=true:=by rfl) (hline:(apos.endLine==cpos.line)=true:=by rfl) (hs:starEach (e::es) X.env=(false,eval e X.env)::starEach es X.env:=by rfl) (hplain:(backTo cpos (starEach es X.env)).any (·.1)=false:=by rfl):QE X (.Call (.Attribute o name apos) (e::es) [] cpos) (yP X.K T r to t):=
 ⟨MS pa slot hty hm ho.up ha.up hbase hfew hline hs hplain⟩
theorem LR{id:String}(pa:PlainAttrs T)(slot:Slot T name id)(hty:typeOf (.builtin id)=pure (.type "method_descriptor"))(hm:Mr X id r)(ho:QE X o to)(hbase:attributeBase o name X.env (eval o X.env)=eval o X.env:=by rfl)(hline:(apos.endLine==cpos.line)=true:=by rfl):QE X (.Call (.Attribute o name apos) [] [] cpos) (Ma X.K T r to):=
 ⟨Lr pa slot hty hm ho.up hbase hline⟩
theorem gu{id:String}(hc:jf X (.builtin id) r)(hg:Gl X x)(hm:X.mg x=none)(hv:bootBuiltins x=some (.builtin id))(ha:QA X (e::es) t)(hn:x≠"__name__":=by decide)(hdb:(x==("__debug__":Str))=false:=by decide)(he:starEach (e::es) X.env=(false,eval e X.env)::starEach es X.env:=by rfl)(hpl:(backTo pos (starEach es X.env)).any (·.1)=false:=by rfl):QE X (.Call (.Name x p) (e::es) [] pos) (e8 r t):=
 ⟨GD hc hg hm hv ha.up hn hdb he hpl⟩
theorem bK(hc:jf X (.type T) r)(hg:Gl X x)(hm:X.mg x=none)(hv:bootBuiltins x=some (.type T))(ha:QA X (e::es) t)(hn:x≠"__name__":=by decide)(hdb:(x==("__debug__":Str))=false:=by decide)(he:starEach (e::es) X.env=(false,eval e X.env)::starEach es X.env:=by rfl)(hpl:(backTo pos (starEach es X.env)).any (·.1)=false:=by rfl):QE X (.Call (.Name x p) (e::es) [] pos) (e8 r t):=
 ⟨EU hc hg hm hv ha.up hn hdb he hpl⟩
theorem M4{X:Cx}{x:Str}{ps:List Str}{k:Nat}{sp:Sp}{e:Expr}{es:List Expr}{t:TA}{p pos:Pos}(c:b6 X.prog X.w X.K X.mg X.base x ps k sp)(hr:gU k X.A)(hg:Gl X x)(ha:QA X (e::es) t)(hdb:(x==("__debug__":Str))=false:=by decide)(he:starEach (e::es) X.env=(false,eval e X.env)::starEach es X.env:=by rfl)(hpl:(backTo pos (starEach es X.env)).any (·.1)=false:=by rfl):QE X (.Call (.Name x p) (e::es) [] pos) (a7 sp [] E0 t):=
 ⟨MT c hr hg ha.up hdb he hpl⟩
theorem Dy{wi:TI}(ok:iN sc N scope NY js)(hsc:X.env.scope=sc)(hN:X.N=N)(hk:NY.length=N.length+k)(hc:X.calm=true)(hit:QI X target iter wi)(hg:∀cl C s₀ H₀ fp,QG (cA X NY scope cl C s₀ H₀ fp) target g)(hi:∀cl C s₀ H₀ fp,BA (cA X NY scope cl C s₀ H₀ fp) ifs tc)(he:∀cl C s₀ H₀ fp,QE (cA X NY scope cl C s₀ H₀ fp) elt te)(hs:∀x,foldedSetIterable iter X.env x=pure x:=by intro _;rfl):QE X (.ListComp elt [⟨target,iter,ifs,0⟩] scope pos) (dC js k wi g tc te):=
 ⟨IZ ok hsc hN hk hc hit.up (λcl C s₀ H₀ fp=>(hg cl C s₀ H₀ fp).up) (λcl C s₀ H₀ fp=>(hi cl C s₀ H₀ fp).up) (λcl C s₀ H₀ fp=>(he cl C s₀ H₀ fp).up) hs⟩
theorem JC{wi:TI}{i:Nat}{y:Str}{py spos:Pos}(ok:iN sc N scope NY js)(hsc:X.env.scope=sc)(hN:X.N=N)(hk:NY.length=N.length+k)(hc:X.calm=true)(hit:QI X target iter wi)(hg:∀cl C s₀ H₀ fp,QG (cA X NY scope cl C s₀ H₀ fp) target g)(hi:∀cl C s₀ H₀ fp,BA (cA X NY scope cl C s₀ H₀ fp) ifs tc)(he:∀cl C s₀ H₀ fp,QE (cA X NY scope cl C s₀ H₀ fp) elt te)(nd:X.N.Nodup)(hy:X.N[i]?=some y)(hl:FI X.env.scope y)(hsw:swapsWith (.ListComp elt [⟨target,iter,ifs,0⟩] scope pos) (some (.Name y py)) spos.line X.env=pure true)(hs:∀x,foldedSetIterable iter X.env x=pure x:=by intro _;rfl)(hf:X.fn y=true\/X.env.scope.names.lookup y=some .local:=by first|exact .inl rfl|exact .inr rfl|assumption):QS X (.Assign [.Name y py] (.ListComp elt [⟨target,iter,ifs,0⟩] scope pos) spos) (bD (dC js k wi g tc te) (aK i)):=
 ⟨Jn ok hsc hN hk hc hit.up (λcl C s₀ H₀ fp=>(hg cl C s₀ H₀ fp).up) (λcl C s₀ H₀ fp=>(hi cl C s₀ H₀ fp).up) (λcl C s₀ H₀ fp=>(he cl C s₀ H₀ fp).up) nd hy hl hsw hs hf⟩
theorem dB :QO X none cY:=
 ⟨Jk ⟩
theorem cX(h:QE X e te):QO X (some e) (eI te):=
 ⟨Jl h.up⟩
theorem iQ :QA X [] aE:=
 ⟨Lp ⟩
theorem ao(ha:QE X e te)(hr:QA X es t)(hs:starEach (e::es) X.env=(false,eval e X.env)::starEach es X.env:=by rfl):QA X (e::es) (ah te t):=
 ⟨IU ha.up hr.up hs⟩
theorem aW{op:CmpOp}{r:R2}(ho:jh X (compareOp op) r)(ha:QE X a ta)(hb:QE X b tb)(hm:behindInMarks op b=false):QT X (.Compare a [op] [b] pos) (bN (aX r ta tb)):=
 ⟨Js ho ha.up hb.up hm⟩
theorem Cu(ha:QT X a tA):QT X (.UnaryOp .Not a pos) (Hi tA):=
 ⟨LM ha.up⟩
theorem uj{rest:List Expr}(ha:QT X a tA)(hb:QW X (.BoolOp .And (b::rest) pos) tB'):QW X (.BoolOp .And (a::b::rest) pos) (CK tA tB'):=
 ⟨LO ha.up hb.up⟩
theorem sP(ha:QT X a tA):QW X (.BoolOp .And [a] pos) tA:=
 ⟨Jt ha.up⟩
theorem Kg{rest:List Expr}(ha:QT X a tA)(hb:QW X (.BoolOp .Or (b::rest) pos) tB'):QW X (.BoolOp .Or (a::b::rest) pos) (NC tA tB'):=
 ⟨M3 ha.up hb.up⟩
theorem GU(ha:QT X a tA):QW X (.BoolOp .Or [a] pos) tA:=
 ⟨LQ ha.up⟩
theorem QW.pt{X:Cx}{e:Expr}{t:TT}(h:QW X e t):QT X e t:=
 ⟨PW.pt h.up⟩
theorem qx{e:Expr}{t:TE}(h:QE X e t)(he:∀whole,isTrue e X.env whole=(do let v <-whole;standAt e.pos;holding [v] (truthy v)):=by intro _;rfl):QT X e (tB t):=
 ⟨LN h.up he⟩
theorem fM{a:Expr}{ta:TA}{p pos:Pos}(hg:Gl X "range")(hm:X.mg "range"=none)(ha:QA X [a] ta)(hs:starEach [a] X.env=[(false,eval a X.env)]:=by rfl):QI X tg (.Call (.Name "range" p) [a] [] pos) (ly ta):=
 ⟨EW hg hm ha.up hs⟩
theorem Jz{a:Expr}{ta:TA}{p pos:Pos}(hg:Gl X "enumerate")(hm:X.mg "enumerate"=none)(ha:QA X [a] ta)(hs:starEach [a] X.env=[(false,eval a X.env)]:=by rfl):QI X (.Tuple elts k tpos) (.Call (.Name "enumerate" p) [a] [] pos) (Gj X.K ta):=
 ⟨Je hg hm ha.up hs⟩
theorem LU{a b:Expr}{ta:TA}{p pos:Pos}(hg:Gl X "zip")(hm:X.mg "zip"=none)(ha:QA X [a,b] ta)(hs:starEach [a,b] X.env=[(false,eval a X.env),(false,eval b X.env)]:=by rfl)(hs2:starEach [b] X.env=[(false,eval b X.env)]:=by rfl):QI X (.Tuple elts k tpos) (.Call (.Name "zip" p) [a,b] [] pos) (KL X.K ta):=
 ⟨LG hg hm ha.up hs hs2⟩
theorem da{tg l:Expr}{tl:TE}(hl:QE X l tl):QI X tg l (fH X.K tl):=
 ⟨LD hl.up⟩
theorem Jx{i:Nat}{x:Str}(hN:X.N.Nodup)(hi:X.N[i]?=some x)(hx:FI X.env.scope x)(hf:X.fn x=true\/X.env.scope.names.lookup x=some .local:=by first|exact .inl rfl|exact .inr rfl|assumption):QG X (.Name x pos) (aK i):=
 ⟨Jb hN hi hx hf⟩
theorem iR{es:List Expr}{k:Nat}{t:Ea}{n:Nat}(hc:X.calm=true)(h:Mx X es t)(hn:(assignEach es X.env).length=n:=by rfl)(hst:(assignEach es X.env).findIdx? (·.1)=none:=by rfl):QG X (.Tuple es k pos) (nW X.K n t):=
 ⟨LC hc h.up hn hst⟩
theorem Jy{es:List Expr}{k:Nat}{t:Ea}{n:Nat}(hc:X.calm=true)(h:Mx X es t)(hn:(assignEach es X.env).length=n:=by rfl)(hst:(assignEach es X.env).findIdx? (·.1)=none:=by rfl):QG X (.Tuple es k pos) (Ge X.K n t):=
 ⟨Jc hc h.up hn hst⟩
theorem gg :Mx X [] mP:=
 ⟨Jd ⟩
theorem cB{e:Expr}{es:List Expr}{t:TG}{u:Ea}(h1:QG X e t)(h2:Mx X es u)(hs:(assignEach (e::es) X.env).map (·.2)=assign e X.env::(assignEach es X.env).map (·.2):=by rfl):Mx X (e::es) (eF t u):=
 ⟨GH h1.up h2.up hs⟩
theorem jq{o i:Expr}{to ti:TE}{t:Ib}(ho:QE X o to)(hi:QE X i ti)(hs:HZ X t)(ha:∀v,assign (.Subscript o i pos) X.env v=(do
   let ov <-holding [v] (eval o X.env)
   let iv <-holding [v,ov] (eval i X.env)
   standAt pos
   holding [v,ov,iv] (setItem ov iv v)
   release [v,ov,iv] []):=by intro _;rfl):QG X (.Subscript o i pos) (oM to ti t):=
 ⟨LB ho.up hi.up hs ha⟩
theorem LV{i:Nat}{x:Str}{e:Expr}{te:TE}{pos':Pos}(hN:X.N.Nodup)(hi:X.N[i]?=some x)(hx:FI X.env.scope x)(he:QE X e te)(hs:swapsWith e (some (.Name x pos')) pos.line X.env=pure false:=by rfl)(hf:X.fn x=true\/X.env.scope.names.lookup x=some .local:=by first|exact .inl rfl|exact .inr rfl|assumption):QS X (.Assign [.Name x pos'] e pos) (bD te (aK i)):=
 ⟨LL hN hi hx he.up hs hf⟩
theorem iu{tg e:Expr}{te:TE}{g:TG}(he:QE X e te)(hg:QG X tg g)(hs:swapsWithSole [tg] e pos.line X.env=pure false:=by rfl)(hw:swappedStores [tg] e X.env=pure none:=by rfl)(h1:(assignEach [tg] X.env).map (·.2)=[assign tg X.env]:=by rfl):QS X (.Assign [tg] e pos) (bD te g):=
 ⟨LI he.up hg.up hs hw h1⟩
theorem fS(he:QE X e te)(hs:swapsWith e none pos.line X.env=pure false:=by rfl):QS X (.Expr e pos) (iK te):=
 ⟨Jo he.up hs⟩
theorem bx(he:QE X e te):QS X (.Return (some e) pos) (cF te):=
 ⟨LK he.up⟩
theorem JD :QS X (.Return none pos) Hj:=
 ⟨Jp ⟩
theorem kg{c:Expr}{a b:List Stmt}{tc:TT}(hc:QT X c tc)(ha:Ia X a t)(hb:Ia X b u):QS X (.If c a b pos) (di tc t u):=
 ⟨MZ hc.up ha.up hb.up⟩
theorem ui{c:Expr}{body:List Stmt}{tc:TT}{tb:TS}(hp:PassesOwn (model X.prog X.w) X.A X.env X.xe)(hc:QT X c tc)(hb:Ia X body tb):QS X (.While c body [] pos) (uB tc tb):=
 ⟨GL hp hc.up hb.up⟩
theorem fj{iter:Expr}{body:List Stmt}{wi:TI}{g:TG}{tb:TS}{pos:Pos}(hp:PassesOwn (model X.prog X.w) X.A X.env X.xe)(hc:X.calm=true)(hi:QI X tg iter wi)(hg:QG X tg g)(hb:Ia X body tb)(hs:∀x,foldedSetIterable iter X.env x=pure x:=by intro _;rfl):QS X (.For tg iter body [] pos) (jy wi g tb):=
 ⟨LJ hp hc hi.up hg.up hb.up hs⟩
theorem aw{st:Stmt}{rest:List Stmt}(h1:QS X st t)(h2:Ia X rest u):Ia X (st::rest) (bf t u):=
 ⟨GM h1.up h2.up⟩
theorem aO{st:Stmt}(h1:QS X st t):Ia X [st] t:=
 ⟨Jr h1.up⟩
theorem kL :Ia X [] b5:=
 ⟨Jq ⟩
theorem Ju{x:Str}{v:V}{u:Value}{pos:Pos}(hg:Gl X x)(hm:X.mg x=none)(hv:bootBuiltins x=some u)(r:c6 v u)(hn:x≠"__name__":=by decide)(hd:(x==("__debug__":Str))=false:=by decide):QE X (.Name x pos) (tC v):=
 ⟨IV hg hm hv r hn hd⟩
theorem dA{X:Cx}:BA X [] gw:=
 ⟨Ji ⟩
theorem mH{X:Cx}{c:Expr}{t:TT}(h:QT X c t):BA X [c] t:=
 ⟨Jj h.up⟩
section
variable{κ:Type}[DecidableEq κ]
def fB(kvs:List (κ×V))(k:κ):Option V:=(kvs.find? λkv=>decide (kv.1=k)).map (·.2)
def gk(kvs:List (κ×V))(k:κ)(v:V):List (κ×V):=
 if(kvs.any λkv=>decide (kv.1=k))=true then kvs.map (λkv=>if kv.1=k then(kv.1,v) else kv) else kvs++[(k,v)]
theorem HA{k:κ}:fB ([]:List (κ×V)) k=none:=rfl
theorem f9{p:κ×V}{r:List (κ×V)}{k:κ}(e:p.1=k):fB (p::r) k=some p.2:=by simp[fB,eQ,e]
theorem f7{p:κ×V}{r:List (κ×V)}{k:κ}(e:¬p.1=k):fB (p::r) k=fB r k:=by simp[fB,eQ,e]
theorem mC(k:κ):∀kvs:List (κ×V),(kvs.any λkv=>decide (kv.1=k))=(fB kvs k).isSome
 |[]=>rfl
 |p::r=>by
  rw[iz]
  by_cases e:p.1=k
  ·simp only[f9 e,decide_eq_true e,Bool.true_or,Option.isSome_some]
  ·rw[f7 e,decide_eq_false e,Bool.false_or];exact mC k r
theorem Bb(k j:κ)(y:V):∀kvs:List (κ×V),fB (kvs.map λkv=>if kv.1=k then(kv.1,y) else kv) j=(fB kvs j).map λx=>if j=k then y else x
 |[]=>rfl
 |p::r=>by
  have ih:=Bb k j y r
  rw[cg]
  by_cases h:p.1=k
  ·rw[if_pos h]
   by_cases e:p.1=j
   ·rw[f9 (p:=(p.1,y)) e,f9 e,bV,if_pos (e.symm.trans h)]
   ·rw[f7 (p:=(p.1,y)) e,f7 e,ih]
  ·rw[if_neg h]
   by_cases e:p.1=j
   ·rw[f9 (p:=p) e,f9 e,bV,if_neg (λz=>h (e.trans z))]
   ·rw[f7 (p:=p) e,f7 e,ih]
theorem xu(k j:κ)(y:V):∀kvs:List (κ×V),fB kvs k=none->fB (kvs++[(k,y)]) j=if j=k then some y else fB kvs j
 |[],_=>by
  by_cases e:k=j
  ·rw[if_pos e.symm];exact f9 (p:=(k,y)) e
  ·rw[if_neg (λz=>e z.symm)];exact f7 (p:=(k,y)) e
 |p::r,hn=>by
  rw[List.cons_append]
  have hk:¬p.1=k:=λz=>by rw[f9 z] at hn;cases hn
  rw[f7 hk] at hn
  have ih:=xu k j y r hn
  by_cases e:p.1=j
  ·rw[f9 e,f9 e,if_neg (λz=>hk (e.trans z))]
  ·rw[f7 e,f7 e,ih]
theorem Bc(kvs:List (κ×V))(k j:κ)(y:V):fB (gk kvs k y) j=if j=k then some y else fB kvs j:=by
 unfold gk
 by_cases a:(kvs.any λkv=>decide (kv.1=k))=true
 ·rw[if_pos a,Bb]
  rw[mC] at a
  by_cases e:j=k
  ·obtain⟨x,hx⟩:=eZ.mp a
   rw[if_pos e,e,hx,bV,if_pos rfl]
  ·rw[if_neg e]
   cases fB kvs j with
   |none=>rfl
   |some x=>rw[bV,if_neg e]
 ·rw[if_neg a]
  refine xu k j y kvs ?_
  rw[mC] at a
  cases q:fB kvs k with
  |none=>rfl
  |some x=>rw[q] at a;exact(a rfl).elim
theorem lX(kvs:List (κ×V))(k:κ)(v:V):(gk kvs k v).length<=kvs.length+1:=by
 unfold gk
 split
 ·rw[aa];lia
 ·rw[aq,bI,eS];lia
theorem Ai{kvs:List (κ×V)}{k:κ}(v:V)(h:fB kvs k=none):gk kvs k v=kvs++[(k,v)]:=by
 unfold gk
 rw[mC,h]
 exact if_neg (by decide)
theorem zt.isSome_eq{o:Option V}{u:Option Value}(r:zt o u):o.isSome=u.isSome:=by
 cases o with
 |none=>cases u with
  |none=>rfl
  |some _=>exact(show False from r).elim
 |some _=>cases u with
  |none=>exact(show False from r).elim
  |some _=>rfl
theorem zt.getD{o:Option V}{u:Option Value}{d:V}{d':Value}(r:zt o u)(rd:c6 d d'):c6 (o.getD d) (u.getD d'):=by
 cases o with
 |none=>cases u with
  |none=>exact rd
  |some _=>exact(show False from r).elim
 |some _=>cases u with
  |none=>exact(show False from r).elim
  |some _=>exact r
theorem KV.val{kvs:List (κ×V)}{vs:List (κ×Value)}(r:KV kvs vs)(k:κ):zt (fB kvs k) (valueAt vs k):=by
 unfold KV at r
 induction r with
 |nil=>exact True.intro
 |@cons p q ps qs h t ih=>
  obtain⟨h1,h2⟩:=h
  by_cases e:p.1=k
  ·have e':q.1=k:=h1.symm.trans e
   have b:valueAt (q::qs) k=some q.2:=by simp[valueAt,eQ,e']
   rw[f9 e,b];exact h2
  ·have e':¬q.1=k:=λz=>e (h1.trans z)
   have b:valueAt (q::qs) k=valueAt qs k:=by simp[valueAt,eQ,e']
   rw[f7 e,b];exact ih
theorem KV.any{kvs:List (κ×V)}{vs:List (κ×Value)}(r:KV kvs vs)(k:κ):(kvs.any λkv=>decide (kv.1=k))=vs.any λkv=>decide (kv.1=k):=by
 unfold KV at r
 induction r with
 |nil=>rfl
 |cons h t ih=>rw[iz,iz,ih,h.1]
theorem KV.repl{kvs:List (κ×V)}{vs:List (κ×Value)}(r:KV kvs vs)(k:κ){y:V}{u:Value}(ry:c6 y u) :
  KV (kvs.map λkv=>if kv.1=k then(kv.1,y) else kv) (vs.map λkv=>if kv.1=k then(kv.1,u) else kv):=by
 unfold KV at r ⊢
 induction r with
 |nil=>exact .nil
 |@cons p q ps qs h t ih=>
  rw[cg,cg]
  refine .cons ?_ ih
  obtain⟨h1,h2⟩:=h
  by_cases e:p.1=k
  ·rw[if_pos e,if_pos (h1.symm.trans e)];exact⟨h1,ry⟩
  ·rw[if_neg e,if_neg (λz=>e (h1.trans z))];exact⟨h1,h2⟩
theorem KV.put{kvs:List (κ×V)}{vs:List (κ×Value)}(r:KV kvs vs)(k:κ){y:V}{u:Value}(ry:c6 y u):KV (gk kvs k y) (stored vs k u):=by
 unfold gk stored
 rw[r.any k]
 by_cases e:(vs.any λkv=>decide (kv.1=k))=true
 ·rw[if_pos e,if_pos e];exact r.repl k ry
 ·rw[if_neg e,if_neg e];exact Paired.snoc r ⟨rfl,ry⟩
theorem KV.keys{kvs:List (κ×V)}{vs:List (κ×Value)}(r:KV kvs vs):kvs.map (·.1)=vs.map (·.1):=by
 unfold KV at r
 induction r with
 |nil=>rfl
 |cons h t ih=>rw[cg,cg,ih,h.1]
theorem KV.length{kvs:List (κ×V)}{vs:List (κ×Value)}(r:KV kvs vs):kvs.length=vs.length:=Paired.length r
end
theorem qY{P:Program}{w:World}{k:jC}{u:Value}(r:c6 (kV k) u):(d9 P w).is k u=true:=by
 cases k with
 |inl i=>obtain⟨t,e⟩:=(show ∃t,u=Value.int i t from r);subst e;exact Ab P w i t
 |inr x=>obtain⟨t,e⟩:=(show ∃t,u=Value.str x t from r);subst e;exact Ac P w x t
theorem MG{P:Program}{w:World}{k:dm}{u:Value}(r:c6 (kN k) u):(iB P w).is k u=true:=by
 cases k with
 |none=>obtain rfl:u=Value.none:=r;rfl
 |some k=>exact qY (P:=P) (w:=w) (k:=k) r
theorem wq{P:Program}{w:World}:∀{ks:List dm} {us:List Value},cy (ks.map kN) us->ItemsAre (iB P w) ks us
 |[],_,r=>by rw[oq] at r;cases r;exact .nil
 |k::ks,_,r=>by
  rw[cg] at r
  cases r with
  |cons h t=>exact .cons (MG h) (wq t)
abbrev KT(H:Hp):List (List dm×V)->List (List dm×Addr×Value)->Prop:=Paired λp q=>p.1=q.1/\H q.2.1=some (.tup (p.1.map kN))/\c6 p.2 q.2.2
theorem KT.val{H:Hp}{kvs:List (List dm×V)}{xs:List (List dm×Addr×Value)}(r:KT H kvs xs)(k:List dm):zt (fB kvs k) ((atKey xs k).map (·.2)):=by
 induction r with
 |nil=>exact True.intro
 |@cons p q ps qs h t ih=>
  obtain⟨h1,_,h2⟩:=h
  by_cases e:p.1=k
  ·have e':q.1=k:=h1.symm.trans e
   have b:atKey (q::qs) k=some q.2:=by simp[atKey,eQ,e']
   rw[f9 e,b];exact h2
  ·have e':¬q.1=k:=λz=>e (h1.trans z)
   have b:atKey (q::qs) k=atKey qs k:=by simp[atKey,eQ,e']
   rw[f7 e,b];exact ih
theorem KT.repl{H:Hp}{kvs:List (List dm×V)}{xs:List (List dm×Addr×Value)}(r:KT H kvs xs)(k:List dm){y:V}{u:Value}(ry:c6 y u) :
  KT H (kvs.map λkv=>if kv.1=k then(kv.1,y) else kv) (xs.map (putAt k u)):=by
 induction r with
 |nil=>exact .nil
 |@cons p q ps qs h t ih=>
  rw[cg,cg]
  refine .cons ?_ ih
  obtain⟨h1,h2,h3⟩:=h
  unfold putAt
  by_cases e:p.1=k
  ·rw[if_pos e,if_pos (h1.symm.trans e)];exact⟨h1,h2,ry⟩
  ·rw[if_neg e,if_neg (λz=>e (h1.trans z))];exact⟨h1,h2,h3⟩
theorem KT.put{H:Hp}{kvs:List (List dm×V)}{xs:List (List dm×Addr×Value)}(r:KT H kvs xs)(k:List dm){b:Addr}{y:V}{u:Value}(hb:H b=some (.tup (k.map kN)))(ry:c6 y u) :
  KT H (gk kvs k y) (storedH xs k b u):=by
 have e:(kvs.any λkv=>decide (kv.1=k))=(atKey xs k).isSome:=by
  rw[mC,(r.val k).isSome_eq,gP]
 unfold gk storedH
 rw[e]
 by_cases q:(atKey xs k).isSome=true
 ·rw[if_pos q,if_pos q];exact r.repl k ry
 ·rw[if_neg q,if_neg q];exact Paired.snoc r ⟨rfl,hb,ry⟩
theorem KT.keeps{H H':Hp}{kvs:List (List dm×V)}{xs:List (List dm×Addr×Value)}(r:KT H kvs xs)(ht:∀b ys,H b=some (.tup ys)->H' b=some (.tup ys)):KT H' kvs xs:=
 Paired.mapP r λ_ _ z=>⟨z.1,ht _ _ z.2.1,z.2.2⟩
section
variable{P:Program}{w:World}{H:Hp}{h:Heap}{a:Addr}
theorem Kn{u:HO}(ok:oE P w H h)(e:Rd H a u):fh P w H h a u:=e.ok ok
theorem zP{kvs:List (jC×V)}(ok:oE P w H h)(e:Rd H a (.dK kvs)):kvs.length<=sizeLine/\(a==sysModules)=false/\∃vs,KV kvs vs/\h.DictOf (d9 P w) a vs:=
 show fh P w H h a (.dK kvs) from Kn ok e
theorem F5{kvs:List (jC×V)}(ok:oE P w H h)(e:H a=some (.dK kvs)):kvs.length<=sizeLine/\(a==sysModules)=false/\∃vs,KV kvs vs/\h.DictOf (d9 P w) a vs:=zP ok (.inl e)
theorem tZ{ks:List dm}(ok:oE P w H h)(e:H a=some (.tup (ks.map kN))):(tupleKind (iB P w)).is h ks a:=by
 obtain⟨_,its,r,o,h1,h2,n,h3⟩:=(show fh P w H h a (.tup (ks.map kN)) from ok a _ e)
 exact⟨o,its.toArray,n,h1,h2.1,h3,by simpa using wq r⟩
theorem zQ{kvs:List (List dm×V)}(ok:oE P w H h)(e:Rd H a (.dT kvs)):kvs.length<=sizeLine/\(a==sysModules)=false/\
  ∃xs,KT H kvs xs/\h.DictOfH (tupleKind (iB P w)) a xs:=by
 obtain⟨z,y,xs,r,o,es,ep,h1,h2,h3,h4,h5⟩:=(show fh P w H h a (.dT kvs) from Kn ok e)
 refine⟨z,y,xs,r,o,es,ep,h1,h2,h3,h4,λx hx=>?_,h5⟩
 have all:∀{l:List (List dm×V)} {m:List (List dm×Addr×Value)},KT H l m->∀x∈m,(tupleKind (iB P w)).is h x.1 x.2.1:=by
  intro l m q
  induction q with
  |nil=>intro x hx;exact nomatch hx
  |@cons p q ps qs hq t ih=>
   intro x hx
   rcases aQ.mp hx with e|hx
   ·subst e
    exact tZ ok (by rw[<-hq.1];exact hq.2.1)
   ·exact ih x hx
 exact all r x hx
theorem J7{kvs:List (List dm×V)}(ok:oE P w H h)(e:H a=some (.dT kvs)):kvs.length<=sizeLine/\(a==sysModules)=false/\
  ∃xs,KT H kvs xs/\h.DictOfH (tupleKind (iB P w)) a xs:=zQ ok (.inl e)
end
def rV(H:Hp)(a:Addr)(y:V)(r:Option V):Prop:=
 (∃kvs k,Rd H a (.dK kvs)/\y=kV k/\r=fB kvs k)\/∃kvs k b,Rd H a (.dT kvs)/\y=.ref b/\H b=some (.tup (k.map kN))/\r=fB kvs k
def zb(H:Hp)(a:Addr)(y v:V)(H':Hp):Prop:=
 (∃kvs k,H a=some (.dK kvs)/\y=kV k/\kvs.length<sizeLine/\H'=upd H a (.dK (gk kvs k v)))\/
 ∃kvs k b,H a=some (.dT kvs)/\y=.ref b/\H b=some (.tup (k.map kN))/\kvs.length<sizeLine/\H'=upd H a (.dT (gk kvs k v))
theorem rV.k{H:Hp}{a:Addr}{kvs:List (jC×V)}{k:jC}(e:H a=some (.dK kvs)):rV H a (kV k) (fB kvs k):=.inl ⟨kvs,k,.inl e,rfl,rfl⟩
theorem rV.t{H:Hp}{a b:Addr}{kvs:List (List dm×V)}{k:List dm}(e:H a=some (.dT kvs))(eb:H b=some (.tup (k.map kN))):rV H a (.ref b) (fB kvs k):=.inr ⟨kvs,k,b,.inl e,rfl,eb,rfl⟩
theorem zb.k{H:Hp}{a:Addr}{kvs:List (jC×V)}{k:jC}{v:V}(e:H a=some (.dK kvs))(hl:kvs.length<sizeLine):zb H a (kV k) v (upd H a (.dK (gk kvs k v))):=.inl ⟨kvs,k,e,rfl,hl,rfl⟩
theorem zb.t{H:Hp}{a b:Addr}{kvs:List (List dm×V)}{k:List dm}{v:V}(e:H a=some (.dT kvs))(eb:H b=some (.tup (k.map kN)))(hl:kvs.length<sizeLine) :
  zb H a (.ref b) v (upd H a (.dT (gk kvs k v))):=.inr ⟨kvs,k,b,e,rfl,eb,hl,rfl⟩
section
variable{X:Cx}{pins:List (Addr×Obj)}{σ:St}{H:Hp}{s:Shared}{a:Addr}{y v:V}{u r:Value}{o:Option V}{A:Around}{E:Value->Shared->Prop}
theorem bT.big(I:bT X pins σ H s):sysModules<s.heap.objs.size:=by
 have h:mainGlobals<s.heap.objs.size:=(I.mod.glob.keeps I.bk).lt
 exact Nat.lt_trans (by decide) h
theorem KD{Q:Value->Shared->Prop}(hu:A.units+1<cLine)(I:bT X pins σ H s)(g:rV H a y o)(ry:c6 y u)(h:∀s',bT X pins σ H s'->Q (.bool o.isSome) s') :
  wpAny (model X.prog X.w) A (compareOp .In u (.ref a)) Q E s:=by
 rcases g with⟨kvs,k,e,ey,l⟩|⟨kvs,k,b,e,ey,eb,l⟩
 ·subst ey
  obtain⟨z,hd,vs,rel,dd⟩:=zP I.hok e
  refine wpAny_in_of (qY ry) hd dd.mapOf ?_
  rw[<-(rel.val k).isSome_eq,<-l]
  exact h _ (I.tok _)
 ·subst ey
  cases(show u=Value.ref b from ry)
  obtain⟨z,hd,xs,rel,dd⟩:=zQ I.hok e
  refine wpAny_in_heap (tupleKind_room_in1 hu) (tZ I.hok eb) hd dd ?_
  have q:=(rel.val k).isSome_eq
  rw[gP] at q
  rw[<-q,<-l]
  exact h _ (I.tok _)
theorem Iq{Q:Value->Shared->Prop}(hu:A.units+1<cLine)(I:bT X pins σ H s)(g:rV H a y o)(ry:c6 y u)(h:∀s',bT X pins σ H s'->Q (.bool (!o.isSome)) s') :
  wpAny (model X.prog X.w) A (compareOp .NotIn u (.ref a)) Q E s:=by
 rcases g with⟨kvs,k,e,ey,l⟩|⟨kvs,k,b,e,ey,eb,l⟩
 ·subst ey
  obtain⟨z,hd,vs,rel,dd⟩:=zP I.hok e
  refine wpAny_notIn_of (qY ry) hd dd.mapOf ?_
  rw[<-(rel.val k).isSome_eq,<-l]
  exact h _ (I.tok _)
 ·subst ey
  cases(show u=Value.ref b from ry)
  obtain⟨z,hd,xs,rel,dd⟩:=zQ I.hok e
  refine wpAny_notIn_heap (tupleKind_room_in1 hu) (tZ I.hok eb) hd dd ?_
  have q:=(rel.val k).isSome_eq
  rw[gP] at q
  rw[<-q,<-l]
  exact h _ (I.tok _)
theorem x9{h':Heap}{t':Nat}{ob:HO}(I:bT X pins σ H s)(mu:Ms (H a))(hs:Heap.SameBut a s.heap h')(he:∃q,h'.get? a=some q)(new:fh X.prog X.w (upd H a ob) h' a ob) :
  bT X pins σ (upd H a ob) {s with heap:=h',toks:=t'}:=
 I.write (x:=a) (e:=a) mu (.inl rfl) (λb q hb z=>(hs.2 b hb).trans z) he new
theorem F4{P:Program}{w:World}{H':Hp}{h':Heap}{kvs:List (jC×V)}{vs:List (jC×Value)}(z:kvs.length<=sizeLine)(hd:(a==sysModules)=false)(rel:KV kvs vs)(dd:h'.DictOf (d9 P w) a vs) :
  fh P w H' h' a (.dK kvs):=⟨z,hd,vs,rel,dd⟩
theorem En{H':Hp}{Q:Unit->Shared->Prop}(hu:A.units+1<cLine)(I:bT X pins σ H s)(g:zb H a y v H')(ry:c6 y u)(rv:c6 v r)(h:∀s',bT X pins σ H' s'->Q () s') :
  wpAny (model X.prog X.w) A (setItem (.ref a) u r) Q E s:=by
 rcases g with⟨kvs,k,e,ey,l,eH⟩|⟨kvs,k,b,e,ey,eb,l,eH⟩
 ·subst ey eH
  obtain⟨z,hd,vs,rel,dd⟩:=F5 I.hok e
  have hz:vs.length<=sizeLine:=by rw[<-rel.length];exact z
  have hl:(gk kvs k v).length<=sizeLine:=by have:=lX kvs k v;lia
  refine wpAny_setItem_pairs (hsz:=hz) (qY ry) dd λh' dd' hs=>h _ ?_
  have he:∃q,h'.get? a=some q:=let⟨q,_,_,hq,_⟩:=dd';⟨q,hq⟩
  exact x9 I (by rw[e];exact True.intro) hs he (F4 hl hd (rel.put k rv) dd')
 ·subst ey eH
  cases(show u=Value.ref b from ry)
  obtain⟨z,hd,xs,rel,dd⟩:=J7 I.hok e
  have hz:xs.length<=sizeLine:=by rw[<-Paired.length rel];exact z
  have hl:(gk kvs k v).length<=sizeLine:=by have:=lX kvs k v;lia
  refine wpAny_setItem_heap (hsz:=hz) (tupleKind_room_in1 hu) (tZ I.hok eb) dd λh' dd' hs=>h _ ?_
  obtain⟨q,es,ep,hq,h2,h3,h4,_,h5⟩:=dd'
  refine x9 I (by rw[e];exact True.intro) hs ⟨q,hq⟩ ⟨hl,hd,_,(rel.put k eb rv).keeps λc ys ec=>?_,q,es,ep,hq,h2,h3,h4,h5⟩
  rw[aF (Kb ec e (λz=>nomatch z))]
  exact ec
end
section
variable{X:Cx}{pins:List (Addr×Obj)}{σ:St}{H:Hp}{s:Shared}{a:Addr}{kvs:List (jC×V)}{k:jC}{u:Value}{A:Around}{E:Value->Shared->Prop}
end
section
variable{X:Cx}{o i e value:Expr}{pos pos' tpos:Pos}{td ty tv:TE}
end
theorem F3{P:Program}{w:World}{H:Hp}(h:Heap)(hb:sysModules<h.objs.size):fh P w H (h.push {cls:=.type "dict",data:=.dict #[]}) h.objs.size (.dK []):=
 ⟨bQ _,beq_eq_false_iff_ne.mpr (Ne.symm (aZ hb)),[],.nil,Heap.DictOf.new h⟩
theorem F6{P:Program}{w:World}{H:Hp}(h:Heap)(hb:sysModules<h.objs.size):fh P w H (h.push {cls:=.type "dict",data:=.dict #[]}) h.objs.size (.dT []):=
 ⟨bQ _,beq_eq_false_iff_ne.mpr (Ne.symm (aZ hb)),[],.nil,_,#[],0,aM _ rfl,⟨rfl,rfl,rfl⟩,rfl,rfl,List.nodup_nil⟩
def CL:TE:=λ_ H Q=>∀p,H p=none->Q (.ref p) (upd H p (.dT []))
section
variable{X:Cx}{pos:Pos}
theorem GE:PE X (.Dict [] [] pos) CL:=λpins s σ H Q I h=>
 wpAny_Dict_empty ⟨.ref s.heap.objs.size,_,I.laid (a:=s.heap.objs.size) (o:=.dT []) (t':=s.toks) (λ_ _ q=>av _ q) (ay _) (F6 s.heap I.big),rfl,h _ (I.hok.fresh (ay _))⟩
end
def CM:List (TE×TE)->St->Hp->(List (V×V)->Hp->Prop)->Prop
 |[],_,H,Q=>Q [] H
 |(tk,tv)::r,σ,H,Q=>tk σ H λx H1=>tv σ H1 λy H2=>CM r σ H2 λps H3=>Q ((x,y)::ps) H3
abbrev VV:List (V×V)->List (Value×Value)->Prop:=Paired λp q=>c6 p.1 q.1/\c6 p.2 q.2
def Mv(X:Cx)(pos:Pos)(keys:List (Option Expr))(values:List Expr)(trs:List (TE×TE)):Prop:=
 ∀(pins:List (Addr×Obj)) (s:Shared) (σ:St) (H:Hp) (Q:List (V×V)->Hp->Prop),bT X pins σ H s->CM trs σ H Q->
  wpAny (model X.prog X.w) X.A (evalPairs (pairTrees keys values X.env pos)) (λvs s'=>∃ps H',bT X pins σ H' s'/\VV ps vs/\Q ps H') X.xe s
theorem Jm{X:Cx}{pos:Pos}:Mv X pos [] [] []:=λpins s σ H Q I h=>pairTrees_nil_walk ⟨[],H,I,.nil,h⟩
theorem GK{X:Cx}{pos:Pos}{k v:Expr}{ks:List (Option Expr)}{vs:List Expr}{tk tv:TE}{trs:List (TE×TE)}(hk:PE X k tk)(hv:PE X v tv)(hr:Mv X pos ks vs trs) :
  Mv X pos (some k::ks) (v::vs) ((tk,tv)::trs):=λpins s σ H Q I h=>
 pairTrees_cons_walk (fE (hk pins s σ H _ I h) λu s1 ⟨x,H1,I1,rx,q1⟩=>fE (hv pins s1 σ H1 _ I1 q1) λw2 s2 ⟨y,H2,I2,ry,q2⟩=>
  fE (hr pins s2 σ H2 _ I2 q2) λws s3 ⟨ps,H3,I3,rel,q3⟩=>⟨(x,y)::ps,H3,I3,.cons ⟨rx,ry⟩ rel,q3⟩)
def ma(kvs more:List (jC×V)):List (jC×V):=more.foldl (λacc kv=>gk acc kv.1 kv.2) kvs
theorem KV.merge:∀{more:List (jC×V)} {rs:List (jC×Value)} {kvs:List (jC×V)} {vs:List (jC×Value)},KV more rs->KV kvs vs->KV (ma kvs more) (merged vs rs):=by
 intro more rs kvs vs r
 unfold KV at r
 induction r generalizing kvs vs with
 |nil=>intro q;exact q
 |@cons p q ps qs h t ih=>
  intro r0
  have e:KV (gk kvs p.1 p.2) (stored vs q.1 q.2):=by
   have:=r0.put p.1 h.2
   rw[<-h.1];exact this
  exact ih e
theorem m7:∀(more kvs:List (jC×V)),(ma kvs more).length<=kvs.length+more.length
 |[],kvs=>by show kvs.length<=kvs.length+0;lia
 |p::r,kvs=>by
  have h1:=m7 r (gk kvs p.1 p.2)
  have h2:=lX kvs p.1 p.2
  show(ma (gk kvs p.1 p.2) r).length<=_
  rw[bI];lia
theorem tO{P:Program}{w:World}:∀{kvs:List (jC×V)} {ws:List (Value×Value)},VV (kvs.map λkv=>(kV kv.1,kv.2)) ws->∃rs,Carries (d9 P w) ws rs/\KV kvs rs
 |[],_,r=>by rw[oq] at r;cases r;exact⟨[],True.intro,.nil⟩
 |p::kvs,_,r=>by
  rw[cg] at r
  cases r with
  |@cons a b as bs h t=>
   obtain⟨rs,c,q⟩:=tO (P:=P) (w:=w) t
   obtain⟨b1,b2⟩:=b
   exact⟨(p.1,b2)::rs,⟨qY h.1,rfl,c⟩,.cons ⟨rfl,h.2⟩ q⟩
def Hh(trs:List (TE×TE)):TE:=λσ H Q=>∀p,H p=none->CM trs σ (upd H p (.dK [])) λps H2=>H2 p=some (.dK [])/\∃kvs:List (jC×V),ps=kvs.map (λkv=>(kV kv.1,kv.2))/\kvs.length<=15/\Q (.ref p) (upd H2 p (.dK (ma [] kvs)))
theorem I0{X:Cx}{pos:Pos}{keys:List (Option Expr)}{values:List Expr}{trs:List (TE×TE)}(h:Mv X pos keys values trs)(hall:keys.all (·.isSome)=true)(hl:keys.length=values.length)(h0:keys≠[])
  (h15:keys.length<=15):PE X (.Dict keys values pos) (Hh trs):=by
 intro pins s σ H Q I q
 have hn:=I.hok.fresh (ay s.heap.objs.size)
 have I1:=I.laid (a:=s.heap.objs.size) (o:=.dK []) (h':=s.heap.push {cls:=.type "dict",data:=.dict #[]}) (t':=s.toks) (λ_ _ q=>av _ q) (ay _) (F3 s.heap I.big)
 refine wpAny_Dict_walk (knd:=d9 X.prog X.w) hall hl h0 h15 (fE (h pins _ σ _ _ I1 (q _ hn)) λws s2 ⟨ps,H2,I2,rel,e,kvs,ep,lk,q2⟩=>?_)
 subst ep
 obtain⟨rs,c,rk⟩:=tO (P:=X.prog) (w:=X.w) rel
 obtain⟨z,hd,vs0,r0,dd⟩:=F5 I2.hok e
 cases r0
 refine⟨rs,c,dd,λh' dd' hs=>⟨.ref s.heap.objs.size,_,?_,rfl,q2⟩⟩
 have hz:(ma [] kvs).length<=sizeLine:=by
  have h1:=m7 kvs []
  rw[eS] at h1
  rw[sizeLine_eq];lia
 have he:∃q,h'.get? s.heap.objs.size=some q:=let⟨q,_,_,hq,_⟩:=dd';⟨q,hq⟩
 exact x9 I2 (by rw[e];exact True.intro) hs he (F4 hz hd (rk.merge .nil) dd')
structure M2(X:Cx)(o:Expr)(m:Str)(apos:Pos)(e f:Expr)(cpos:Pos):Prop where
 base:attributeBase o m X.env (eval o X.env)=eval o X.env
 few:((backTo cpos (starEach [e,f] X.env)).all (λx=>!x.1)&&(backToKw cpos (keywordEach [] X.env)).all (λx=>x.1.isSome)
  && decide (([e,f]:List Expr).length+([]:List Keyword).length+(if([]:List Keyword).isEmpty then 0 else 1)<30))=true
 line:(apos.endLine==cpos.line)=true
 trees:backTo cpos (starEach [e,f] X.env)=[(false,eval e X.env),(false,eval f X.env)]
def N1(H:Hp)(a:Addr):Prop:=(∃kvs,Rd H a (.dK kvs))\/∃kvs,Rd H a (.dT kvs)
theorem KN{X:Cx}{pins:List (Addr×Obj)}{σ:St}{H:Hp}{s:Shared}{a:Addr}(I:bT X pins σ H s)(d:N1 H a) :
  s.TypeIs (.ref a) "dict"/\(∀b,Value.ref a=.ref b->∃ob,s.heap.get? b=some ob/\ob.dict=none)/\(a==sysModules)=false:=by
 rcases d with⟨kvs,e⟩|⟨kvs,e⟩
 ·obtain⟨_,hd,vs,_,dd⟩:=zP I.hok e
  refine⟨dd.typeIs,λb q=>?_,hd⟩
  cases q
  obtain⟨ob,_,_,h1,h2,_⟩:=dd
  exact⟨ob,h1,h2.2.1⟩
 ·obtain⟨_,hd,xs,_,dd⟩:=zQ I.hok e
  refine⟨dd.typeIs,λb q=>?_,hd⟩
  cases q
  obtain⟨ob,_,_,h1,h2,_⟩:=dd
  exact⟨ob,h1,h2.2.1⟩
section
variable{X:Cx}{pins:List (Addr×Obj)}{σ:St}{H:Hp}{s:Shared}{a:Addr}{y d:V}{u r:Value}{o:Option V}{A:Around}{E:Value->Shared->Prop}
theorem KC{Q:Value->Shared->Prop}(hu:A.units+1<cLine)(I:bT X pins σ H s)(g:rV H a y o)(ry:c6 y u)(rd:c6 d r)(h:∀w' s',bT X pins σ H s'->c6 (o.getD d) w'->Q w' s') :
  wpAny (model X.prog X.w) A (call (.builtin "dict.get") [.ref a,u,r]) Q E s:=by
 rcases g with⟨kvs,k,e,ey,l⟩|⟨kvs,k,b,e,ey,eb,l⟩
 ·subst ey
  obtain⟨z,hd,vs,rel,dd⟩:=zP I.hok e
  refine call_meetsIn fN dd.typeIs gQ (gF _ _ _) (meets_dict_get_default (d9 X.prog X.w) a (qY ry) hd r) ⟨_,dd.mapOf,h _ _ (I.tok _) ?_⟩
  rw[l]
  exact(rel.val k).getD rd
 ·subst ey
  cases(show u=Value.ref b from ry)
  obtain⟨z,hd,xs,rel,dd⟩:=zQ I.hok e
  refine call_meetsIn fN dd.typeIs gQ (gF _ _ _) (meetsH_dict_get_default (tupleKind (iB X.prog X.w)) a b hd r) ⟨tupleKind_room_in1 hu,k,xs,tZ I.hok eb,dd,h _ _ (I.tok _) ?_⟩
  rw[l]
  exact(rel.val k).getD rd
end
section
variable{X:Cx}{o e f:Expr}{apos cpos:Pos}{td ty tx:TE}
end
section
variable{X:Cx}{pins:List (Addr×Obj)}{σ:St}{H:Hp}{s:Shared}{a:Addr}{kvs:List (jC×V)}{A:Around}{E:Value->Shared->Prop}
end
section
variable{X:Cx}{pins:List (Addr×Obj)}{σ:St}{H:Hp}{s:Shared}{a:Addr}{y:V}{u:Value}{A:Around}{E:Value->Shared->Prop}
end
section
variable{X:Cx}
end
section
variable{κ:Type}[DecidableEq κ]
theorem yn:∀{l:List κ} {k:κ},l.Nodup->¬k∈l->(l++[k]).Nodup
 |[],k,_,_=>by simp
 |a::r,k,h,hk=>by
  obtain⟨h1,h2⟩:=dX.mp h
  show(a::(r++[k])).Nodup
  refine dX.mpr ⟨λm=>?_,yn h2 λm=>hk (aQ.mpr (Or.inr m))⟩
  rcases a8.mp m with q|q
  ·exact h1 q
  ·exact hk (aQ.mpr (Or.inl (au.mp q).symm))
end
def JH(neg:Bool):R2:=λx y H Q=>∃a o,y=.ref a/\rV H a x o/\Q (.bl (if neg then !o.isSome else o.isSome)) H
def DA:V->V->V->Hp->(Hp->Prop)->Prop:=λo i v H Q=>∃a H',o=.ref a/\zb H a i v H'/\Q H'
section
variable{X:Cx}
theorem Lj(hu:X.A.units+1<cLine):jh X (compareOp .In) (JH false):=by
 intro pins s σ H x y v u Q I rx ry h
 obtain⟨a,o,rfl,g,q⟩:=h
 cases ry
 exact KD hu I g rx λs' I'=>⟨.bl o.isSome,H,I',rfl,q⟩
theorem ET(hu:X.A.units+1<cLine):jh X (compareOp .NotIn) (JH true):=by
 intro pins s σ H x y v u Q I rx ry h
 obtain⟨a,o,rfl,g,q⟩:=h
 cases ry
 exact Iq hu I g rx λs' I'=>⟨.bl (!o.isSome),H,I',rfl,q⟩
theorem Ay(hu:X.A.units+1<cLine):HZ X DA:=by
 intro pins s σ H o i v ov iv u Q I ro ri rv h
 obtain⟨a,H',rfl,g,q⟩:=h
 cases ro
 exact En hu I g ri rv λs' I'=>⟨H',I',q⟩
theorem yY:∀{us:List Value} {ns:List Int},IntsAre us ns->cy (ns.map V.int) us:=by
 intro us ns h
 induction h with
 |nil=>exact .nil
 |cons n t _ ih=>exact .cons ⟨t,rfl⟩ ih
theorem tX{prog:Program}{w:World}:∀{ns:List Int} {vs:List (jC×Value)} {us:List Value},vs.map (·.1)=ns.map Sum.inl->us.length=vs.length->(∀(j:Nat) v,us[j]?=some v->∃k x,vs[j]?=some (k,x)/\(d9 prog w).is k v=true)->IntsAre us ns
 |[],vs,us,h1,h2,_=>by
  have:vs=[]:=by cases vs with|nil=>rfl|cons a r=>cases h1
  subst this
  have:us=[]:=cx.mp h2
  subst this
  exact .nil
 |n::ns,vs,us,h1,h2,h3=>by
  cases vs with
  |nil=>cases h1
  |cons a vs=>
   cases us with
   |nil=>cases h2
   |cons u us=>
    obtain⟨k,x,e,hk⟩:=h3 0 u rfl
    have e':a=(k,x):=Option.some.inj e
    subst e'
    injection h1 with h1 h1'
    have h1:k=Sum.inl n:=h1
    subst h1
    obtain⟨t,rfl⟩:=Value.isInt_shape (k:=n) (v:=u) hk
    refine .cons n t (tX (prog:=prog) (w:=w) h1' (by simpa using h2) λj v e=>?_)
    exact h3 (j+1) v (by simpa using e)
def GX:List V->Hp->VK->Prop:=λxs H Q=>∃(d:Addr) (kvs:List (jC×V)) (ns:List Int),xs=[.ref d]/\H d=some (.dK kvs)/\kvs.map (·.1)=ns.map Sum.inl/\ns.length<64/\∀(l:Addr) (ns':List Int),H l=none->ns'.Perm ns->ns'.Pairwise (·<=·)->Q (.ref l) (upd H l (.lst (ns'.map V.int)))
theorem BI(hc:X.calm=true):jf X (.builtin "sorted") GX:=by
 intro pins s σ H xs us Q I r h
 obtain⟨d,kvs,ns,rfl,hd,hk,h64,q⟩:=h
 obtain⟨u,rfl,rx⟩:=nM r
 cases rx
 obtain⟨z,lo,vs,rel,dd⟩:=F5 I.hok hd
 obtain⟨ep,hat⟩:=dd.dictAt
 have hh:X.A.handled=none:=I.ok.hd hc
 have kl:=rel.length
 have hv:vs.map (·.1)=ns.map Sum.inl:=by rw[<-rel.keys];exact hk
 have vl:vs.length=ns.length:=by have:=congrArg ef hv;simpa using this
 refine Calls.call_function_entry kind_sorted plain_sorted entry_sorted (args_sorted1 _) ?_
 unfold Builtin.«sorted»
 refine wpAny_bind (m:=checkCount "sorted" 1 1 _) (wpAny_pure ?_)
 refine wpAny_bind (PySem.W.kdu_collect (A:=X.A.in1) (PySem.W.kdl_dict (knd:=d9 X.prog X.w) (kvs:=vs) (ep:=ep) lo) hh hat (by rw[<-kl];exact z) λh' tk acc hkp hacc=>?_)
 have hl:acc.toList.length=vs.length:=by rw[dY];exact hacc.1
 have hI:IntsAre acc.toList ns:=tX (prog:=X.prog) (w:=X.w) hv hl λj v e=>hacc.2 j v (by rw[<-ik];exact e)
 refine wpAny_bind (wpAny_newList ?_ (by rw[hl,<-kl];exact z))
 have hoL:(h'.push (seqObj "list" acc.toList.toArray 0)).get? h'.objs.size=some (seqObj "list" acc.toList.toArray 0):=aM _ rfl
 show wpAny _ _ _ _ _ {s with heap:=h'.push (seqObj "list" acc.toList.toArray 0),toks:=tk}
 refine wpAny_bind (wpAny_holding (wpAny_call_entry slot_list_sort ⟨_,hoL,rfl⟩ entry_list_sort (list_sort_tree hoL hI (by rw[hl,vl];exact h64) λout ns' a1 a2 a3=>⟨_,rfl,?_⟩) (args_list_sort _)))
 refine wpAny_pure ⟨_,rfl,?_⟩
 obtain⟨e,he⟩:=sortedHeap_at (n:=0) (out:=out) hoL
 have hn:=yY a1
 have hlen:ns'.length=ns.length:=a2.length_eq
 have I1:bT X pins σ H {s with heap:=h',toks:=tk}:=I.kept hkp
 refine⟨.ref h'.objs.size,_,I1.laid (t':=tk) (λb u q1=>?_) (ay _) (show fh X.prog X.w _ _ _ (.lst (ns'.map V.int)) from⟨?_,out.toList,e,hn,?_⟩),rfl,q _ _ (I1.hok.fresh (ay _)) a2 a3⟩
 ·have lt:=aJ q1
  rw[sortedHeap_old (aZ lt) (by rw[size_push'];exact Nat.lt_succ_of_lt lt)]
  exact av _ q1
 ·rw[aa,hlen];exact bS (dg h64) (by decide)
 ·rw[iD];exact he
end
structure HP(K:Fg)(x qual:Str)(st:Stmt)(dV:Value)(f:Addr)(fd:FuncData):Prop where
 ex:∃(oc:Value) (od:Option Addr) (kV doc pm:Value) (an:Option Addr) (cdv ct:Value) (osl:Array (Option Value)),
  fd=cW x qual (gy st) (e9 st) (b8 st) dV kV doc pm an cdv ct/\K.lookup f=some ⟨oc,od,.func fd,osl⟩/\eD K cdv qual=true
 kp:dy K (.ref f)=true
section
variable{P:Program}{w:World}{K:Fg}{mg:Str->Option Value}{base:Heap}
theorem HP.ok{x qual:Str}{st:Stmt}{dV:Value}{f:Addr}{fd:FuncData}{N ps:List Str}{k:Nat}{sp:Sp}(F:HP K x qual st dV f fd)(S:mD N ps (b8 st))(len:∀vs H Q E,sp vs H Q E->vs.length=ps.length)
  (hbody:∀(cdv:Value) (A:Around) (outer:List Env) (s:Shared) (H:Hp) (vs:List V) (Q:VK) (E:XK),gU k (A.deeper (envOfC qual (b8 st) s.heap.objs.size f cdv))->sp vs H Q E->
   ∃t,Bf (xX C1 P w K mg base N qual (b8 st) f cdv A outer s H E).nox (e9 st) t/\t {nx:=λ_ H'=>Q .non H',rt:=Q} (cC N vs) H):pY P w K mg base C1 (k+1) f fd ps sp:=by
 obtain⟨oc,od,kV,doc,pm,an,cdv,ct,osl,rfl,lk,hcd⟩:=F.ex
 refine J8 lk hcd S len λA outer s H vs Q E hr hsp=>?_
 obtain⟨t,h,q⟩:=hbody cdv A outer s H vs Q E hr hsp
 exact⟨t,h.nox,q⟩
theorem IB{x qual:Str}{st:Stmt}{dV:Value}{f:Addr}{oc:Value}{od an:Option Addr}{osl:Array (Option Value)}{kV doc pm cdv ct:Value}(l:K.lookup f=some ⟨oc,od,.func (cW x qual (gy st) (e9 st) (b8 st) dV kV doc pm an cdv ct),osl⟩)
  (c:eD K cdv qual=true) (k:dy K (.ref f)=true):HP K x qual st dV f (cW x qual (gy st) (e9 st) (b8 st) dV kV doc pm an cdv ct):=⟨⟨oc,od,kV,doc,pm,an,cdv,ct,osl,rfl,l,c⟩,k⟩
end
structure sL(P:Program)(w:World)(K:Fg)(mg:Str->Option Value)(base:Heap)(x:Str)(ps:List Str)(k:Nat)(dvs:List V)(sp:Sp):Prop where
 ex:∃(f:Addr) (fd:FuncData) (ds:List Value),mg x=some (.ref f)/\dy K (.ref f)=true/\qO K fd ps ds/\cy dvs ds/\pY P w K mg base C1 k f fd ps sp
theorem Ls{X:Cx}{x:Str}{ps:List Str}{k:Nat}{dvs:List V}{sp:Sp}{e:Expr}{es:List Expr}{t:TA}{p pos:Pos}(c:sL X.prog X.w X.K X.mg X.base x ps k dvs sp)(hr:gU k X.A)(hg:Gl X x)(ha:PA X (e::es) t)
  (hdb:(x==("__debug__":Str))=false:=by decide) (he:starEach (e::es) X.env=(false,eval e X.env)::starEach es X.env:=by rfl) (hpl:(backTo pos (starEach es X.env)).any (·.1)=false:=by rfl) :
  PE X (.Call (.Name x p) (e::es) [] pos) (a7 sp dvs E0 t):=by
 obtain⟨f,fd,ds,hm,hk,hb,hd,F⟩:=c.ex
 exact Dx F hr hg hm hk hb hd Kd ha hdb he hpl
structure Nv(X:Cx)(pos:Pos)(keys:List (Option Expr))(values:List Expr)(trs:List (TE×TE)):Prop where
 up:Mv X pos keys values trs
theorem JB{X:Cx}{pos:Pos}:Nv X pos [] [] []:=⟨Jm⟩
theorem GT{X:Cx}{pos:Pos}{k v:Expr}{ks:List (Option Expr)}{vs:List Expr}{tk tv:TE}{trs:List (TE×TE)}(hk:QE X k tk)(hv:QE X v tv)(hr:Nv X pos ks vs trs):Nv X pos (some k::ks) (v::vs) ((tk,tv)::trs):=⟨GK hk.up hv.up hr.up⟩
theorem Jv{X:Cx}{pos:Pos}{keys:List (Option Expr)}{values:List Expr}{trs:List (TE×TE)}(h:Nv X pos keys values trs)(hall:keys.all (·.isSome)=true)(hl:keys.length=values.length)(h0:keys≠[])(h15:keys.length<=15):QE X (.Dict keys values pos) (Hh trs):=⟨I0 h.up hall hl h0 h15⟩
theorem LS{X:Cx}{x:Str}{ps:List Str}{k:Nat}{dvs:List V}{sp:Sp}{e:Expr}{es:List Expr}{t:TA}{p pos:Pos}(c:sL X.prog X.w X.K X.mg X.base x ps k dvs sp)(hr:gU k X.A)(hg:Gl X x)(ha:QA X (e::es) t)
  (hdb:(x==("__debug__":Str))=false:=by decide) (he:starEach (e::es) X.env=(false,eval e X.env)::starEach es X.env:=by rfl) (hpl:(backTo pos (starEach es X.env)).any (·.1)=false:=by rfl) :
  QE X (.Call (.Name x p) (e::es) [] pos) (a7 sp dvs E0 t):=⟨Ls c hr hg ha.up hdb he hpl⟩
end L2
end
section
namespace PySem.W
open PySem PySem.Calls PyProof.Rows PyProof.V PySem.Spec
section
variable{prog:Program}{w:World}{A:Around}{E:Value->Shared->Prop}{s:Shared}{r l:Addr}
end
end PySem.W
namespace L2
open PySem PySem.Spec PyProof.Rows
section
variable{X:Cx}
theorem G9{ys:List V}{its:List Value}{acc:Array Value}(r:cy ys its)(h:ItemsOf (λi v=>its.toArray[its.toArray.size-1-i]?=some v) acc its.toArray.size):cy ys.reverse acc.toList:=by
 have e:acc.toList=its.reverse:=by
  apply List.ext_getElem?
  intro i
  by_cases hi:i<its.length
  ·have hs:acc.size=its.length:=by have:=h.1;simpa using this
   have h1:acc[i]?=some acc[i]:=eP (by omega)
   have h2:=h.2 i _ h1
   rw[ik,h1,List.getElem?_reverse hi]
   simpa using h2.symm
  ·have hs:acc.size=its.length:=by have:=h.1;simpa using this
   rw[eM (by rw[dY];omega),eM (by rw[bJ];omega)]
 rw[e]
 exact r.reverse
end
end L2
end
section
namespace HT
open PySem PyProof.Rows
section
variable{prog:Program}{w:World}{A:Around}{E:Value->Shared->Prop}{s:Shared}
theorem cat_tup0{t b:Addr}{vs ws:List Value}{Q:Value->Shared->Prop}(ht:IsTup s.heap t vs.toArray)(hb:IsTup s.heap b ws.toArray)(hv:vs=[])(h:Q (.ref b) s):wpAny (model prog w) A (binaryOp .Add (.ref t) (.ref b)) Q E s:=by
 obtain⟨⟨cls,dd,data,sl⟩,ho,hc,n,hd⟩:=id ht
 obtain⟨⟨cls2,dd2,data2,sl2⟩,ho2,hc2,n2,hd2⟩:=id hb
 simp only at hc hd hc2 hd2
 subst hc hd hc2 hd2
 exact concat_meets ⟨_,ho,rfl⟩ ⟨_,ho2,rfl⟩ noFill_tuple_add seq_tuple_add gR gG (gq _ _)
   (tuple_addW0 t b vs.toArray ws.toArray n n2 dd dd2 sl sl2 (by simp[hv])) ⟨ho,ho2,h⟩
theorem getItem_tuple_all{t sl:Addr}{items:Array Value}{vl vu:Value}{lo hi:Option Int}{Q:Value->Shared->Prop}(ht:IsTup s.heap t items)(hs:s.heap.IsSliceOf sl vl vu .none)(pl:IsPart vl lo)(pu:IsPart vu hi)
  (hw:sIx items.size 0 lo=0/\sIx items.size items.size hi=items.size) (h:Q (.ref t) s):wpAny (model prog w) A (getItem (.ref t) (.ref sl)) Q E s:=by
 obtain⟨os,hos,hcs,hds⟩:=id hs
 have hTs:s.TypeIs (.ref sl) "slice":=⟨os,hos,hcs⟩
 unfold getItem
 try with_reducible refine wpAny_holding ?_
 first|refine wpAny_bind (wpAny_pure ?_)|skip
 refine wpAny_bind (wpAny_sequenceKey ht.typeIs (by decide) ?_)
 refine wpAny_bind (wpAny_callSpecial?_slot (name:=Str.ofString "__getitem__") ht.typeIs dF
  (wpAny_call_entry dF ht.typeIs entry_tuple_getitem ?_ (args_tuple_getitem _ _)))
 show wpAny _ _ (Builtin.Tuple.tupleItemsOf (.ref t) >>= _) _ _ s
 refine wpAny_bind (tupleItemsOf_ ht ?_)
 refine wpAny_bind (wpAny_typeOf hTs ?_)
 rw[if_pos (by decide)]
 refine wpAny_bind (kh hs pl pu ?_)
 have hyes:(((sIx items.size 0 lo:Nat):Int)==0&&(1:Int)==1&&(sIx items.size items.size hi-sIx items.size 0 lo)==items.size)=true:=by
  rw[hw.1,hw.2];simp
 show wpAny _ _ (if(((sIx items.size 0 lo:Nat):Int)==0&&(1:Int)==1&&(sIx items.size items.size hi-sIx items.size 0 lo)==items.size)=true then _ else _) _ _ s
 rw[if_pos hyes]
 refine wpAny_bind (m:=Builtin.Tuple.tupleIsExact (.ref t)) ?_
 unfold Builtin.Tuple.tupleIsExact
 refine wpAny_bind (wpAny_typeOf ht.typeIs (wpAny_pure ?_))
 rw[if_pos (by decide)]
 exact wpAny_bind (wpAny_rule (wpAny_pure ⟨_,rfl,wpAny_pure h⟩))
end
end HT
namespace L2
open PySem PySem.Spec PyProof.Rows
section
variable{X:Cx}
def GV(K:Fg):R2:=λx y H Q=>∃a b ys,x=.ref a/\y=.ref b/\b4 K H a []/\b4 K H b ys/\Q (.ref b) H
theorem GA:jh X (binaryOp .Add) (GV X.K):=by
 intro pins s σ H x y v u Q I rx ry h
 obtain⟨a,b,ys,rfl,rfl,ha,hb,q⟩:=h
 cases rx
 cases ry
 obtain⟨its,r1,p1,_⟩:=I.tuple ha
 obtain⟨its2,r2,p2,_⟩:=I.tuple hb
 exact HT.cat_tup0 p1 p2 (r1.nil_iff.mpr rfl) ⟨.ref b,H,I,rfl,q⟩
def gC(K:Fg):R2:=λx y H Q=>GV K x y H Q\/cZ K x y H Q
theorem hW:jh X (binaryOp .Add) (gC X.K):=GA.or bW
def Km(K:Fg):V->Option Int->Option Int->Hp->VK->Prop:=λx lo hi H Q=>∃a xs,x=.ref a/\b4 K H a xs/\(HT.sIx xs.length 0 lo=0/\HT.sIx xs.length xs.length hi=xs.length)/\Q (.ref a) H
theorem JW:FO X (Km X.K):=by
 intro pins s σ H x v vl vu lo hi sl Q I rx hs pl pu h
 obtain⟨a,xs,rfl,hx,hw,q⟩:=h
 cases rx
 obtain⟨its,r,ht,hz⟩:=I.tuple hx
 have hlen:its.toArray.size=xs.length:=by rw[aA];exact r.length.symm
 refine⟨"tuple",_,dF.lookup,ht.typeIs,?_⟩
 exact HT.getItem_tuple_all ht hs pl pu (by rw[hlen];exact hw) ⟨.ref a,H,I,rfl,q⟩
def oY(K:Fg):V->Option Int->Option Int->Hp->VK->Prop:=λx lo hi H Q=>Km K x lo hi H Q\/vD K x lo hi H Q
theorem kR:FO X (oY X.K):=JW.or fA
def Ki(K:Fg):R2:=λx y H Q=>∃p q xs,x=.ref p/\y=.ref q/\b4 K H p xs/\b4 K H q []/\Q (.bl (decide (xs=[]))) H
theorem IR(hu:X.A.units<cLine):jh X (compareOp .Eq) (Ki X.K):=by
 intro pins s σ H x y v u Q I rx ry h
 obtain⟨p,q,xs,rfl,rfl,h1,h2,qq⟩:=h
 cases rx
 cases ry
 obtain⟨us,r1,t1,_⟩:=I.tuple h1
 obtain⟨vs,r2,t2,_⟩:=I.tuple h2
 have ev:vs=[]:=r2.nil_iff.mpr rfl
 subst ev
 refine SeqAt.eq_tupleAt (e:=λ_=>true) (show s.heap.IsTuple p us.toArray from t1) (show s.heap.IsTuple q ([]:List Value).toArray from t2) hu (λj h1 h2=>absurd h2 (by simp)) ⟨.bl (decide (xs=[])),H,I,?_,qq⟩
 show Value.bool _=Value.bool _
 congr 1
 rw[aA,<-r1.length]
 cases xs<;>simp
def EZ(K:Fg):R2:=λx y H Q=>Ki K x y H Q\/fV K x y H Q
theorem uc(hu:X.A.units<cLine):jh X (compareOp .Eq) (EZ X.K):=(IR hu).or (cT hu)
end
end L2
end
section
namespace PySem
open Sem (wp)
namespace F
end F
def ig(tp:Bool)(h:Heap)(i l:Addr)(k:Nat):Prop:=match tp with
 |true=>h.IsTupleIter i l k
 |false=>h.IsListIter i l k
def fG(tp:Bool)(h:Heap)(l:Addr)(xs:Array Value):Prop:=match tp with
 |true=>h.IsTuple l xs
 |false=>h.IsList l xs
theorem ig.at{tp:Bool}{h h':Heap}{i l:Addr}{k:Nat}(x:ig tp h i l k)(e:∀o,h.get? i=some o->h'.get? i=some o):ig tp h' i l k:=by
 cases tp with
 |true=>exact Heap.IsTupleIter.at (show h.IsTupleIter i l k from x) e
 |false=>exact Heap.IsListIter.at (show h.IsListIter i l k from x) e
theorem fG.at{tp:Bool}{h h':Heap}{l:Addr}{xs:Array Value}(x:fG tp h l xs)(e:∀o,h.get? l=some o->h'.get? l=some o):fG tp h' l xs:=by
 cases tp with
 |true=>obtain⟨o,ho,r⟩:=(show h.IsTuple l xs from x);exact⟨o,e o ho,r⟩
 |false=>exact Heap.IsList.at (show h.IsList l xs from x) e
theorem ig.extBut{tp:Bool}{h h':Heap}{i l b:Addr}{k:Nat}(x:ig tp h i l k)(hs:Heap.ExtBut b h h')(n:i≠b):ig tp h' i l k:=x.at λo e=>hs i o n e
theorem fG.extBut{tp:Bool}{h h':Heap}{l b:Addr}{xs:Array Value}(x:fG tp h l xs)(hs:Heap.ExtBut b h h')(n:l≠b):fG tp h' l xs:=x.at λo e=>hs l o n e
theorem ig.lt{tp:Bool}{h:Heap}{i l:Addr}{k:Nat}(x:ig tp h i l k):i<h.objs.size:=by
 cases tp with
 |true=>obtain⟨o,ho,_⟩:=(show h.IsTupleIter i l k from x);exact aJ ho
 |false=>obtain⟨o,ho,_⟩:=(show h.IsListIter i l k from x);exact aJ ho
theorem fG.lt{tp:Bool}{h:Heap}{l:Addr}{xs:Array Value}(x:fG tp h l xs):l<h.objs.size:=by
 cases tp with
 |true=>obtain⟨o,ho,_⟩:=(show h.IsTuple l xs from x);exact aJ ho
 |false=>obtain⟨o,ho,_⟩:=(show h.IsList l xs from x);exact aJ ho
def zV(tp:Bool)(l:Addr):Obj:={cls:=.type (if tp then "tuple_iterator" else "list_iterator"),data:=.fields #[.ref l,.int 0 0]}
section
variable{prog:Program}{w:World}{A:Around}{E:Value->Shared->Prop}{s:Shared}
theorem uh{tp:Bool}{l:Addr}{xs:Array Value}{Q:Value->Shared->Prop}(hl:fG tp s.heap l xs)(hQ:Q (.ref s.heap.objs.size) {s with heap:=s.heap.push (zV tp l)}):wpAny (model prog w) A (pyIter (.ref l)) Q E s:=by
 cases tp with
 |true=>exact wpAny_pyIter_tuple (show s.heap.IsTuple l xs from hl) hQ
 |false=>exact wpAny_pyIter_list (show s.heap.IsList l xs from hl) hQ
theorem zT{tp:Bool}{l:Addr}(h:Heap):ig tp (h.push (zV tp l)) h.objs.size l 0:=by
 cases tp with
 |true=>exact⟨_,aM _ rfl,rfl,rfl⟩
 |false=>exact⟨_,aM _ rfl,rfl,rfl⟩
theorem oS{it t:Addr}{i:Nat}{items}{x:Value}{Q:Value->Shared->Prop}(hit:s.heap.IsTupleIter it t i)
  (ht:s.heap.IsTuple t items) (hx:items[i]?=some x)
  (hQ:∀h',h'.IsTupleIter it t (i+1)->Heap.SameBut it s.heap h'->Q x {s with heap:=h'}) :
  wpAny (model prog w) A (Builtin.SmallTypes.nextOf (.ref it)) Q E s:=by
 obtain⟨o,ho,hc,hd⟩:=id hit
 obtain⟨ol,hol,_,nl,hdl⟩:=ht
 unfold Builtin.SmallTypes.nextOf
 refine wpAny_bind (wpAny_callSpecial?_slot (name:=Str.ofString "__next__") hit.typeIs F.slot_tuple_iterator_next
  (wpAny_call_entry F.slot_tuple_iterator_next hit.typeIs F.entry_tuple_iterator_next ?_ (F.args_tuple_iterator_next_1 _)))
 show wpAny _ _ (field (.ref it) 0 >>= _) _ _ s
 refine wpAny_bind (wpAny_field ho hd (x:=.ref t) rfl ?_)
 show wpAny _ _ (if(Value.ref t==Value.none)=true then _ else _) _ _ s
 rw[if_neg (show ¬((Value.ref t==Value.none)=true) from Bool.false_ne_true)]
 show wpAny _ _ (field (.ref it) 1 >>= _) _ _ s
 refine wpAny_bind (wpAny_field ho hd (x:=.int i 0) rfl ?_)
 show wpAny _ _ (seqItems? (.ref t) >>= _) _ _ s
 refine wpAny_bind (wpAny_seqItems hol hdl ?_)
 simp only[aB,hx]
 refine wpAny_bind (wpAny_setField ho hd (by simp) (wpAny_pure ⟨x,rfl,wpAny_pure (hQ _ ?_ (Heap.SameBut.update ..))⟩))
 exact⟨_,eK _ ho (Obj.isFreed_of_fields (Obj.data_mapFields hd _)),(Obj.cls_mapFields ..).trans hc,by
  rw[Obj.data_mapFields hd];simp[rawInt]⟩
theorem qo{it t:Addr}{i:Nat}{items}{Q:Value->Shared->Prop}(hh:A.handled=none)
  (hit:s.heap.IsTupleIter it t i) (ht:s.heap.IsTuple t items) (hx:items[i]?=none)
  (hE:∀h' e,Heap.ExtBut it s.heap h'->(∃o,h'.get? e=some o/\o.cls=.type "StopIteration")->E (.ref e) {s with heap:=h'}):wpAny (model prog w) A (Builtin.SmallTypes.nextOf (.ref it)) Q E s:=by
 obtain⟨o,ho,hc,hd⟩:=id hit
 obtain⟨ol,hol,_,nl,hdl⟩:=ht
 unfold Builtin.SmallTypes.nextOf
 refine wpAny_bind (wpAny_callSpecial?_slot (name:=Str.ofString "__next__") hit.typeIs F.slot_tuple_iterator_next
  (wpAny_call_entry F.slot_tuple_iterator_next hit.typeIs F.entry_tuple_iterator_next ?_ (F.args_tuple_iterator_next_1 _)))
 show wpAny _ _ (field (.ref it) 0 >>= _) _ _ s
 refine wpAny_bind (wpAny_field ho hd (x:=.ref t) rfl ?_)
 show wpAny _ _ (if(Value.ref t==Value.none)=true then _ else _) _ _ s
 rw[if_neg (show ¬((Value.ref t==Value.none)=true) from Bool.false_ne_true)]
 show wpAny _ _ (field (.ref it) 1 >>= _) _ _ s
 refine wpAny_bind (wpAny_field ho hd (x:=.int i 0) rfl ?_)
 show wpAny _ _ (seqItems? (.ref t) >>= _) _ _ s
 refine wpAny_bind (wpAny_seqItems hol hdl ?_)
 simp only[aB,hx]
 refine wpAny_bind (wpAny_rule (wpAny_bind (wpAny_setField ho hd (by simp) ?_)))
 show wpAny _ _ (newExc (.type "StopIteration") [] >>= _) _ _ _
 refine wpAny_bind ?_
 simp only[newExc,newTuple]
 refine wpAny_bind (wpAny_newObj_type ?_ (by size_fits))
 refine wpAny_bind (m:=firstArgMember _ _) (wpAny_of_eq (a:=Value.none) (by first|rfl|(simp only[firstArgMember];rfl)) ?_)
 refine wpAny_newObj_type ?_ (by size_fits)
 simp only[raiseNew]
 refine wpAny_bind (wpAny_handled ?_)
 first|rw[show A.in1.handled=none from hh]|rw[hh]
 refine wpAny_bind (wpAny_pure (wpAny_throw ?_))
 exact hE _ _ (((Heap.SameBut.update ..).extBut.push _).push _) ⟨_,aM _ rfl,rfl⟩
theorem qZ{tp:Bool}{it l:Addr}{i:Nat}{xs:Array Value}{x:Value}{Q:Value->Shared->Prop}(hit:ig tp s.heap it l i)(hl:fG tp s.heap l xs)(hx:xs[i]?=some x)
  (hQ:∀h',ig tp h' it l (i+1)->Heap.SameBut it s.heap h'->Q x {s with heap:=h'}):wpAny (model prog w) A (Builtin.SmallTypes.nextOf (.ref it)) Q E s:=by
 cases tp with
 |true=>exact oS hit hl hx hQ
 |false=>exact wpAny_nextOf_list_item hit hl hx hQ
theorem ua{tp:Bool}{it l:Addr}{i:Nat}{xs:Array Value}{Q:Value->Shared->Prop}(hh:A.handled=none)(hit:ig tp s.heap it l i)(hl:fG tp s.heap l xs)(hx:xs[i]?=none)
  (hE:∀h' e,Heap.ExtBut it s.heap h'->(∃o,h'.get? e=some o/\o.cls=.type "StopIteration")->E (.ref e) {s with heap:=h'}):wpAny (model prog w) A (Builtin.SmallTypes.nextOf (.ref it)) Q E s:=by
 cases tp with
 |true=>exact qo hh hit hl hx hE
 |false=>exact wpAny_nextOf_list_end hh hit hl hx hE
end
abbrev xx(h:Heap)(z TI TO T0:Addr)(b:Bool):Prop:=
 h.get? z=some {cls:=.type "zip",dict:=none,data:=.fields #[rawInt T0,.bool b,.bool false,.ref TI,.ref TO],slots:=#[]}
section
variable{prog:Program}{w:World}{A:Around}{E:Value->Shared->Prop}{s:Shared}{t1 t2:Bool}
theorem Fs{a:Addr}{Q:Option Obj->Shared->Prop}(h:Q (s.heap.get? a) s):wpAny (model prog w) A (loadIfAlive a) Q E s:=λΓ p hin=>by
 show wp _ Γ (Sem.loadIfAlive a Sem.pure) _ _ p s
 rw[Sem.wp_loadIfAlive]
 exact wpAny_pure (M:=model prog w) (A:=A) (E:=E) h Γ p hin
theorem HE{z TI TO T0 i1 i2 l1 l2:Addr}{k1 k2:Nat}{xs ys:Array Value}{b:Bool}{oT:Obj}{Q:Fin->Shared->Prop}(hh:A.handled=none)(D:ZipApart z TI TO i1 i2 l1 l2)
  (hz:xx s.heap z TI TO T0 b) (hTI:IsPair s.heap TI (.ref i1) (.ref i2)) (hT0:s.heap.get? T0=some oT)
  (h1:ig t1 s.heap i1 l1 k1) (h2:ig t2 s.heap i2 l2 k2) (hl1:fG t1 s.heap l1 xs) (hl2:fG t2 s.heap l2 ys) (hend:xs[k1]?=none)
  (hE:∀h' e,(∀c o,c≠z->c≠i1->c≠i2->s.heap.get? c=some o->h'.get? c=some o)->(∃o,h'.get? e=some o/\o.cls=.type "StopIteration")->E (.ref e) {s with heap:=h'}) :
  wpAny (model prog w) A (Builtin.«zip.__next__» ⟨[.ref z],[]⟩) Q E s:=by
 show wpAny _ _ (field (.ref z) 2 >>= _) _ _ _
 refine wpAny_bind (wpAny_field hz rfl (x:=.bool false) rfl ?_)
 show wpAny _ _ (field (.ref z) 3 >>= _) _ _ _
 refine wpAny_bind (wpAny_field hz rfl (x:=.ref TI) rfl ?_)
 refine wpAny_bind (wpAny_seqItems hTI rfl ?_)
 show wpAny _ _ (Builtin.SmallTypes.ownedTupleIsFree (.ref z) >>= _) _ _ _
 refine wpAny_bind ?_
 unfold Builtin.SmallTypes.ownedTupleIsFree
 refine wpAny_bind (wpAny_field hz rfl (x:=rawInt T0) rfl ?_)
 show wpAny _ _ (loadIfAlive (T0:Int).toNat >>= _) _ _ _
 have hn:(T0:Int).toNat=T0:=by lia
 rw[hn]
 refine wpAny_bind (Fs ?_)
 rw[hT0]
 show wpAny _ _ (field (.ref z) 1 >>= _) _ _ _
 refine wpAny_bind (wpAny_field hz rfl (x:=.bool b) rfl ?_)
 have key:∀(h₁:Heap) (Q':Value->Shared->Prop),Heap.SameBut z s.heap h₁->wpAny (model prog w) A (Builtin.SmallTypes.nextOf (.ref i1)) Q' E {s with heap:=h₁}:=by
  intro h₁ Q' hs₁
  refine ua hh (h1.extBut hs₁.extBut D.i1z) (hl1.extBut hs₁.extBut D.l1z) hend λh₂ e hs₂ he=>?_
  exact hE h₂ e (λc o c1 c2 _ x=>hs₂ _ _ c2 (hs₁.extBut _ _ c1 x)) he
 cases b with
 |true=>
  rw[if_neg (by decide)]
  refine wpAny_pure ?_
  rw[if_neg (by decide)]
  simp only[List.forIn_toArray,gx,jb]
  refine wpAny_bind (wpAny_bind (wpAny_bind (wpAny_holding ?_)))
  show wpAny _ _ (Builtin.SmallTypes.nextOf (.ref i1) >>= _) _ _ _
  exact wpAny_bind (key s.heap _ (Heap.SameBut.refl ..))
 |false=>
  rw[if_pos (by decide)]
  refine wpAny_bind (wpAny_setField_rec hz (by simp) λh₁ hz₁ hs₁=>?_)
  refine wpAny_pure ?_
  rw[if_neg (by decide)]
  simp only[List.forIn_toArray,gx,jb]
  refine wpAny_bind (wpAny_bind (wpAny_bind (wpAny_holding ?_)))
  show wpAny _ _ (Builtin.SmallTypes.nextOf (.ref i1) >>= _) _ _ _
  exact wpAny_bind (key h₁ _ hs₁)
end
structure Kx(z TI TO:Addr)(f:Value)(b:Bool)(h h':Heap):Prop where
 at_:h'.get? z=some {cls:=.type "zip",dict:=none,data:=.fields #[f,.bool b,.bool false,.ref TI,.ref TO],slots:=#[]}
 sm:Heap.SameBut z h h'
section
variable{prog:Program}{w:World}{A:Around}{E:Value->Shared->Prop}{s:Shared}{t1 t2:Bool}
theorem Dt{z TI TO:Addr}{f f':Value}{b:Bool}{Q:Unit->Shared->Prop}(hz:s.heap.get? z=some {cls:=.type "zip",dict:=none,data:=.fields #[f,.bool b,.bool false,.ref TI,.ref TO],slots:=#[]})
  (k:∀h',Kx z TI TO f' b s.heap h'->Q () {s with heap:=h'}):wpAny (model prog w) A (setField (.ref z) 0 f') Q E s:=
 wpAny_setField_rec hz (by simp) λh' a e=>k h' ⟨a,e⟩
theorem Ft{z TI TO i1 i2 l1 l2:Addr}{k1 k2:Nat}{xs ys:Array Value}{x y a b:Value}{Q:Value->Shared->Prop}(D:ZipApart z TI TO i1 i2 l1 l2)
  (hz:IsZip s.heap z TI TO .none) (hTI:IsPair s.heap TI (.ref i1) (.ref i2)) (hTO:IsPair s.heap TO a b)
  (h1:ig t1 s.heap i1 l1 k1) (h2:ig t2 s.heap i2 l2 k2) (hl1:fG t1 s.heap l1 xs) (hl2:fG t2 s.heap l2 ys) (hx:xs[k1]?=some x) (hy:ys[k2]?=some y)
  (k:∀h',xx h' z TI TO s.heap.objs.size false->ig t1 h' i1 l1 (k1+1)->ig t2 h' i2 l2 (k2+1)->IsPair h' s.heap.objs.size x y->IsPair h' TO x y->
   (∀c o,c≠z->c≠TO->c≠i1->c≠i2->s.heap.get? c=some o->h'.get? c=some o)->Q (.ref s.heap.objs.size) {s with heap:=h'}) :
  wpAny (model prog w) A (Builtin.«zip.__next__» ⟨[.ref z],[]⟩) (λfin s'=>∃v,fin=.done (.ret v)/\Q v s') E s:=by
 refine wpAny_bind (m:=field (.ref z) 2) (wpAny_field hz rfl (x:=.bool false) rfl ?_)
 refine wpAny_bind (m:=field (.ref z) 3) (wpAny_field hz rfl (x:=.ref TI) rfl (wpAny_bind (wpAny_seqItems hTI rfl ?_)))
 refine wpAny_bind (m:=Builtin.SmallTypes.ownedTupleIsFree (.ref z)) (wpAny_bind (wpAny_field hz rfl (x:=.none) rfl (wpAny_pure ?_)))
 refine wpAny_bind (wpAny_rule (wpAny_bind (wpAny_field hz rfl (x:=.ref TO) rfl (wpAny_bind (Dt hz λg1 m1=>?_)))))
 simp only[List.zipIdx_cons,List.zipIdx_nil,gx,jb]
 have e1:=m1.sm.extBut
 refine wpAny_bind (wpAny_bind (wpAny_bind (wpAny_onRaise (wpAny_bind (m:=Builtin.SmallTypes.nextOf (.ref i1)) (qZ (h1.extBut e1 D.i1z) (hl1.extBut e1 D.l1z) hx λg2 i1' s2=>wpAny_pure ?_)))))
 have e2:=s2.extBut
 have o2:IsPair g2 TO a b:=e2 _ _ D.TOi1 (e1 _ _ D.TOz hTO)
 refine wpAny_bind (wpAny_seqItems o2 rfl (wpAny_bind (wpAny_updateSeq_pair o2 λg3 o3 s3=>wpAny_bind (wpAny_letGo (wpAny_pure ?_)))))
 have e3:=s3.extBut
 replace o3:IsPair g3 TO x b:=o3
 refine wpAny_bind (wpAny_bind (wpAny_onRaise (wpAny_bind (m:=Builtin.SmallTypes.nextOf (.ref i2)) (qZ (((h2.extBut e1 D.i2z).extBut e2 D.i12.symm).extBut e3 D.TOi2.symm) (((hl2.extBut e1 D.l2z).extBut e2 D.l2i1).extBut e3 D.l2TO) hy λg4 i2' s4=>wpAny_pure ?_))))
 have e4:=s4.extBut
 have o4:IsPair g4 TO x b:=e4 _ _ D.TOi2 o3
 refine wpAny_bind (wpAny_seqItems o4 rfl (wpAny_bind (wpAny_updateSeq_pair o4 λg5 o5 s5=>wpAny_bind (wpAny_letGo (wpAny_pure (wpAny_pure ?_))))))
 have e5:=s5.extBut
 replace o5:IsPair g5 TO x y:=o5
 refine wpAny_bind (wpAny_seqItems o5 rfl (wpAny_bind (wpAny_newTuple ?_)))
 have size:g5.objs.size=s.heap.objs.size:=(s5.1.trans (s4.1.trans (s3.1.trans (s2.1.trans m1.sm.1))))
 have z5:=av {cls:=.type "tuple",data:=.seq #[x,y]} (e5 _ _ D.TOz.symm (e4 _ _ D.i2z.symm (e3 _ _ D.TOz.symm (e2 _ _ D.i1z.symm m1.at_))))
 have zl:z≠g5.objs.size:=by rw[size];exact aZ (aJ hz)
 refine wpAny_bind (m:=Builtin.SmallTypes.ownedTupleHandOut (.ref z) (.ref g5.objs.size)) (wpAny_bind (Dt z5 λg6 m6=>wpAny_setField_rec m6.at_ (by simp) λg7 z7 s7=>wpAny_pure ⟨_,rfl,?_⟩))
 have up:∀c o,c≠z->g5.get? c=some o->g7.get? c=some o:=λc o n e=>s7.extBut _ _ n (m6.sm.extBut _ _ n (av _ e))
 have pr:IsPair g7 g5.objs.size x y:=s7.extBut _ _ (Ne.symm zl) (m6.sm.extBut _ _ (Ne.symm zl) (aM _ rfl))
 rw[size] at pr
 show Q (.ref g5.objs.size) _
 have z7':xx g7 z TI TO g5.objs.size false:=z7
 rw[size] at z7' ⊢
 refine k g7 z7' ?_ ?_ pr (up _ _ D.TOz o5) λc o c1 c2 c3 c4 e=>up c o c1 (e5 _ _ c2 (e4 _ _ c4 (e3 _ _ c2 (e2 _ _ c3 (e1 _ _ c1 e)))))
 ·exact(((i1'.extBut e3 D.TOi1.symm).extBut e4 D.i12).extBut e5 D.TOi1.symm).at λo e=>up _ o D.i1z e
 ·exact(i2'.extBut e5 D.TOi2.symm).at λo e=>up _ o D.i2z e
theorem HC{z TI TO i1 i2 l1 l2:Addr}{k1 k2:Nat}{xs ys:Array Value}{Q:Fin->Shared->Prop}(hh:A.handled=none)(D:ZipApart z TI TO i1 i2 l1 l2)
  (hz:IsZip s.heap z TI TO .none) (hTI:IsPair s.heap TI (.ref i1) (.ref i2)) (h1:ig t1 s.heap i1 l1 k1) (hl1:fG t1 s.heap l1 xs) (hx:xs[k1]?=none)
  (k:∀h' e,(∀c o,c≠z->c≠i1->c≠i2->s.heap.get? c=some o->h'.get? c=some o)->(∃o,h'.get? e=some o/\o.cls=.type "StopIteration")->E (.ref e) {s with heap:=h'}) :
  wpAny (model prog w) A (Builtin.«zip.__next__» ⟨[.ref z],[]⟩) Q E s:=by
 refine wpAny_bind (m:=field (.ref z) 2) (wpAny_field hz rfl (x:=.bool false) rfl ?_)
 refine wpAny_bind (m:=field (.ref z) 3) (wpAny_field hz rfl (x:=.ref TI) rfl (wpAny_bind (wpAny_seqItems hTI rfl ?_)))
 refine wpAny_bind (m:=Builtin.SmallTypes.ownedTupleIsFree (.ref z)) (wpAny_bind (wpAny_field hz rfl (x:=.none) rfl (wpAny_pure ?_)))
 refine wpAny_bind (wpAny_rule (wpAny_bind (wpAny_field hz rfl (x:=.ref TO) rfl (wpAny_bind (Dt hz λg1 m1=>?_)))))
 simp only[List.zipIdx_cons,List.zipIdx_nil,gx,jb]
 have e1:=m1.sm.extBut
 refine wpAny_bind (wpAny_bind (wpAny_bind (wpAny_onRaise (wpAny_bind (m:=Builtin.SmallTypes.nextOf (.ref i1)) (ua hh (h1.extBut e1 D.i1z) (hl1.extBut e1 D.l1z) hx λg2 e x2 ⟨oe,he,ce⟩=>?_)))))
 have z2:=x2 _ _ D.i1z.symm m1.at_
 have ne:e≠z:=λq=>by subst q;rw[z2] at he;cases he;simp at ce
 exact Dt z2 λg3 m3=>k g3 e (λc o c1 c2 _ q=>m3.sm.extBut _ _ c1 (x2 _ _ c2 (e1 _ _ c1 q))) ⟨oe,m3.sm.extBut _ _ ne he,ce⟩
end
abbrev Mg(t1:Bool)(h:Heap)(l1:Addr):Heap:=h.push (zV t1 l1)
abbrev Nq(t1 t2:Bool)(h:Heap)(l1 l2:Addr):Heap:=(Mg t1 h l1).push (zV t2 l2)
abbrev Nr(t1 t2:Bool)(h:Heap)(l1 l2:Addr):Heap:=(Nq t1 t2 h l1 l2).push {cls:=.type "tuple",data:=.seq #[.ref h.objs.size,.ref (Mg t1 h l1).objs.size]}
abbrev Nt(t1 t2:Bool)(h:Heap)(l1 l2:Addr):Heap:=(Nr t1 t2 h l1 l2).push {cls:=.type "tuple",data:=.seq #[.none,.none]}
abbrev Mh(t1 t2:Bool)(h:Heap)(l1 l2:Addr):Heap:=(Nt t1 t2 h l1 l2).push {cls:=.type "zip",data:=.fields #[.none,.bool false,.bool false,.ref (Nq t1 t2 h l1 l2).objs.size,.ref (Nr t1 t2 h l1 l2).objs.size]}
theorem vB{t1 t2:Bool}(l1 l2:Addr)(xs ys:Array Value) :
  Meets (Builtin.«zip.__new__» ⟨[.type "zip",.ref l1,.ref l2],[]⟩) (λ_ R s=>fG t1 s.heap l1 xs/\fG t2 s.heap l2 ys/\
   R (.ok (.ret (.ref (Nt t1 t2 s.heap l1 l2).objs.size))) {s with heap:=Mh t1 t2 s.heap l1 l2}):=
 .of_wp λprog w A R s h=>by
  obtain⟨hp,g,d,tk,os⟩:=s
  obtain⟨a1,a2,h⟩:=h
  have hsub:=sub_zip
  have b1:fG t1 (Shared.heap ⟨hp,g,d,tk,os⟩) l1 xs:=a1
  have b2:fG t2 (Shared.heap ⟨hp.push (zV t1 l1),g,d,tk,os⟩) l2 ys:=a2.at λo e=>av _ e
  wp_walk using uh b1,uh b2
  exact⟨_,rfl,h⟩
section
variable{prog:Program}{w:World}{A:Around}{R:Result->Shared->Prop}{t1 t2:Bool}{K:Type}[DecidableEq K]{knd:KeyKind prog w K}
structure FP(t1 t2:Bool)(z TI TO i1 i2 l1 l2:Addr)(xs ys:Array Value)(i:Nat)(h:Heap):Prop where
 ti:IsPair h TI (.ref i1) (.ref i2)
 a1:ig t1 h i1 l1 i
 a2:ig t2 h i2 l2 i
 s1:fG t1 h l1 xs
 s2:fG t2 h l2 ys
 st:(IsZip h z TI TO .none/\∃a b,IsPair h TO a b)\/∃T0 b o,xx h z TI TO T0 b/\h.get? T0=some o/\o.cls=.type "tuple"
theorem FP.typeIs{z TI TO i1 i2 l1 l2:Addr}{xs ys:Array Value}{i:Nat}{s:Shared}(st:FP t1 t2 z TI TO i1 i2 l1 l2 xs ys i s.heap):s.TypeIs (.ref z) "zip":=by
 rcases st.st with⟨h,_⟩|⟨_,_,_,h,_⟩<;>exact⟨_,h,rfl⟩
theorem HG{E:Value->Shared->Prop}{z TI TO i1 i2 l1 l2:Addr}{xs ys:Array Value}{i:Nat}{s:Shared}{Q:Option Value->Shared->Prop}(hh:A.handled=none)(D:ZipApart z TI TO i1 i2 l1 l2)(st:FP t1 t2 z TI TO i1 i2 l1 l2 xs ys i s.heap)(hx:xs[i]?=none)
  (k:∀h',(∀c o,c≠z->c≠i1->c≠i2->s.heap.get? c=some o->h'.get? c=some o)->Q none {s with heap:=h'}):wpAny (model prog w) A (pyNext (.ref z)) Q E s:=by
 have hT:=st.typeIs
 have fin:∀(h':Heap) (e:Addr),(∀c o,c≠z->c≠i1->c≠i2->s.heap.get? c=some o->h'.get? c=some o)->(∃o,h'.get? e=some o/\o.cls=.type "StopIteration")->
   wpAny (model prog w) A (isInstance (.ref e) (.type "StopIteration")) (λa s'=>a=true/\Q none s') E {s with heap:=h'}:=λh' e kp ⟨o,ho,hc⟩=>wpAny_isInstance (T:="StopIteration") (b:=true) ⟨o,ho,hc⟩ isSubtype_stop ⟨rfl,k h' kp⟩
 unfold pyNext
 refine wpAny_bind (wpAny_attempt (wpAny_callSpecial?_slot (name:=Str.ofString "__next__") hT F.slot_zip_next (wpAny_call_entry F.slot_zip_next hT F.entry_zip_next ?_ (F.args_zip_next_1 _))))
 rcases st.st with⟨hz,a,b,ho⟩|⟨T0,b,o,hz,h0,hc⟩
 ·refine HC (ys:=ys) (k2:=0) hh D hz st.ti st.a1 st.s1 hx λh' e kp he=>wpAny_bind (wpAny_mono (fin h' e kp he) (λa s' q=>?_) λ_ _ z=>z)
  obtain⟨rfl,q⟩:=q
  exact wpAny_pure q
 ·refine HE hh D hz st.ti h0 st.a1 st.a2 st.s1 st.s2 hx λh' e kp he=>wpAny_bind (wpAny_mono (fin h' e kp he) (λa s' q=>?_) λ_ _ z=>z)
  obtain⟨rfl,q⟩:=q
  exact wpAny_pure q
end
section
variable{prog:Program}{w:World}{A:Around}{E:Value->Shared->Prop}{s:Shared}{t1 t2:Bool}{K:Type}[DecidableEq K]{knd:KeyKind prog w K}
theorem xS{l1 l2:Addr}{xs ys:Array Value}{Q:Value->Shared->Prop}(a1:fG t1 s.heap l1 xs)(a2:fG t2 s.heap l2 ys)
  (h:∀h' z TI TO i1 i2,s.heap.objs.size<=TI->ZipApart z TI TO i1 i2 l1 l2->s.heap.objs.size<=z->s.heap.objs.size<=TO->s.heap.objs.size<=i1->s.heap.objs.size<=i2->IsZip h' z TI TO .none->IsPair h' TO .none .none->IsPair h' TI (.ref i1) (.ref i2)->ig t1 h' i1 l1 0->ig t2 h' i2 l2 0->
   (∀c o,s.heap.get? c=some o->h'.get? c=some o)->Q (.ref z) {s with heap:=h'}) :
  wpAny (model prog w) A (call (.type "zip") [.ref l1,.ref l2]) Q E s:=by
 refine callType_new F.called_zip (by decide) (F.typeCall_zip_2 _ _) (F.newCall_zip_2 _ _) (λobj=>F.args_object_init_3 obj _ _) F.entry_zip_new (vB (t1:=t1) (t2:=t2) l1 l2 xs ys) ⟨a1,a2,?_⟩
 have zA:(Mg t1 s.heap l1).objs.size=s.heap.objs.size+1:=fb ..
 have zB:(Nq t1 t2 s.heap l1 l2).objs.size=s.heap.objs.size+2:=(fb ..).trans (by rw[zA])
 have zC:(Nr t1 t2 s.heap l1 l2).objs.size=s.heap.objs.size+3:=(fb ..).trans (by rw[zB])
 have zD:(Nt t1 t2 s.heap l1 l2).objs.size=s.heap.objs.size+4:=(fb ..).trans (by rw[zC])
 have q1:=a1.lt
 have q2:=a2.lt
 have pz:(Mh t1 t2 s.heap l1 l2).get? (Nt t1 t2 s.heap l1 l2).objs.size=some _:=aM _ rfl
 have po:(Mh t1 t2 s.heap l1 l2).get? (Nr t1 t2 s.heap l1 l2).objs.size=some _:=av _ (aM _ rfl)
 have pi:(Mh t1 t2 s.heap l1 l2).get? (Nq t1 t2 s.heap l1 l2).objs.size=some _:=av _ (av _ (aM _ rfl))
 have b2:ig t2 (Mh t1 t2 s.heap l1 l2) (Mg t1 s.heap l1).objs.size l2 0:=(zT (Mg t1 s.heap l1)).at λo e=>av _ (av _ (av _ e))
 have b1:ig t1 (Mh t1 t2 s.heap l1 l2) s.heap.objs.size l1 0:=(zT s.heap).at λo e=>av _ (av _ (av _ (av _ e)))
 refine⟨⟨_,pz,rfl⟩,h _ (Nt t1 t2 s.heap l1 l2).objs.size (Nq t1 t2 s.heap l1 l2).objs.size (Nr t1 t2 s.heap l1 l2).objs.size s.heap.objs.size (Mg t1 s.heap l1).objs.size (by lia) ?_ (by lia) (by lia) (by lia) (by lia) pz po pi b1 b2 λc o e=>
  av _ (av _ (av _ (av _ (av _ e))))⟩
 rw[zD,zB,zC,zA]
 exact PyProof.Rows.zipApart_new q1 q2
end
end PySem
namespace L2
open PySem PySem.Spec PyProof.Rows
section
variable{X:Cx}
end
section
variable{X:Cx}{C:Addr}{m x:Str}{ps:List Str}{k:Nat}{sp:Sp}{e o:Expr}{es:List Expr}{ta:TE}{t:TA}{p pos apos:Pos}
end
section
variable{X:Cx}
end
section
variable{X:Cx}
end
section
variable{X:Cx}{pins:List (Addr×Obj)}{σ:St}{H:Hp}{s:Shared}{d:Addr}{kvs:List (jC×V)}{u u':HO}
end
section
variable{X:Cx}{tg:Expr}
end
end L2
end
section
namespace PySem
open Sem (wp)
section
variable{prog:Program}{w:World}{A:Around}{R:Result->Shared->Prop}{K:Type}[DecidableEq K]{knd:KeyKind prog w K}
end
section
variable{prog:Program}{w:World}{A:Around}{E:Value->Shared->Prop}{s:Shared}{K:Type}[DecidableEq K]{knd:KeyKind prog w K}
end
end PySem
end
section
namespace L2
open PySem PySem.Spec PyProof.Rows
section
variable{X:Cx}
end
section
variable{X:Cx}
end
section
variable{X:Cx}{tg:Expr}
end
section
variable{X:Cx}{tg l o e f:Expr}{tl td ty tx:TE}{apos cpos:Pos}
end
def BB(K:Fg)(tp:Bool)(H:Hp)(a:Addr)(xs:List V):Prop:=match tp with
 |true=>b4 K H a xs
 |false=>bY K H a xs
theorem bT.seqB{X:Cx}{pins:List (Addr×Obj)}{σ:St}{H:Hp}{s:Shared}{tp:Bool}{a:Addr}{xs:List V}(I:bT X pins σ H s)(h:BB X.K tp H a xs):∃its:List Value,cy xs its/\fG tp s.heap a its.toArray:=by
 cases tp with
 |true=>obtain⟨its,r,p,_⟩:=I.tuple h;exact⟨its,r,p⟩
 |false=>obtain⟨its,r,p,_⟩:=I.list h;exact⟨its,r,p.isList⟩
theorem bT.seqB_inj{X:Cx}{pins:List (Addr×Obj)}{σ:St}{H:Hp}{s:Shared}{tp:Bool}{a:Addr}{xs ys:List V}(I:bT X pins σ H s)(h:BB X.K tp H a xs)(h':BB X.K tp H a ys):xs=ys:=by
 cases tp with
 |true=>exact I.tuple_inj h h'
 |false=>exact I.list_inj h h'
theorem zU{tp:Bool}{h:Heap}{i l:Addr}{k:Nat}(x:ig tp h i l k):∃o,h.get? i=some o/\∀v,o.data=.cell v->False:=by
 cases tp with
 |true=>obtain⟨o,e,c,d⟩:=(show h.IsTupleIter i l k from x);exact⟨o,e,λv q=>by rw[d] at q;cases q⟩
 |false=>obtain⟨o,e,c,d⟩:=(show h.IsListIter i l k from x);exact⟨o,e,λv q=>by rw[d] at q;cases q⟩
def zc(K:Fg)(t1 t2:Bool)(a b:Addr):It:=
 ⟨λi H=>∃xs x ys y,BB K t1 H a xs/\xs[i]?=some x/\BB K t2 H b ys/\ys[i]?=some y,
  λi H x H'=>∃p v u,H p=none/\x=.ref p/\H'=upd H p (.tup [v,u])/\(∀xs,BB K t1 H a xs->xs[i]?=some v)/\∀ys,BB K t2 H b ys->ys[i]?=some u,
  λi H=>∃xs ys,BB K t1 H a xs/\BB K t2 H b ys/\xs.length<=i⟩
theorem Fp{P:Program}{w:World}{K:Fg}{elts:List Expr}{k:Nat}{pos:Pos}(t1 t2:Bool)(z TI TO i1 i2 l1 l2:Addr)(D:ZipApart z TI TO i1 i2 l1 l2) :
  vp P w K (.Tuple elts k pos) (zc K t1 t2 l1 l2) [z,TI,TO,i1,i2] z (λi h=>IsZip h z TI TO .none/\IsPair h TI (.ref i1) (.ref i2)/\(∃a b,IsPair h TO a b)/\ig t1 h i1 l1 i/\ig t2 h i2 l2 i) where
 mem:=by simp
 obj:=λi h st b hb=>by
  obtain⟨hz,hTI,⟨a',b',hTO⟩,h1,h2⟩:=st
  obtain⟨o1,e1,d1⟩:=zU h1
  obtain⟨o2,e2,d2⟩:=zU h2
  simp only[aQ,eA,or_false] at hb
  rcases hb with rfl|rfl|rfl|rfl|rfl
  ·exact⟨_,hz,λv q=>by have q':Data.fields _=Data.cell v:=q;cases q'⟩
  ·exact⟨_,hTI,λv q=>by have q':Data.seq _ _=Data.cell v:=q;cases q'⟩
  ·exact⟨_,hTO,λv q=>by have q':Data.seq _ _=Data.cell v:=q;cases q'⟩
  ·exact⟨o1,e1,λv q=>d1 v q⟩
  ·exact⟨o2,e2,λv q=>d2 v q⟩
 keep:=λi h h' st k=>by
  obtain⟨hz,hTI,⟨a',b',hTO⟩,h1,h2⟩:=st
  exact⟨k z (by simp) _ hz,k TI (by simp) _ hTI,⟨a',b',k TO (by simp) _ hTO⟩,h1.at λo q=>k i1 (by simp) o q,h2.at λo q=>k i2 (by simp) o q⟩
 item:=by
  intro X hP hw hK hc i pins s σ H E I hf st hg
  subst hP hw hK
  obtain⟨hz,hTI,⟨a',b',hTO⟩,h1,h2⟩:=st
  obtain⟨xs,x,ys,y,hq1,hx,hq2,hy⟩:=hg
  obtain⟨its1,rv1,p1⟩:=I.seqB hq1
  obtain⟨its2,rv2,p2⟩:=I.seqB hq2
  obtain⟨u,hu,ru⟩:=rv1.get hx
  obtain⟨v,hv,rv⟩:=rv2.get hy
  have hT:s.TypeIs (.ref z) "zip":=⟨_,hz,rfl⟩
  unfold pyNext
  refine wpAny_bind (wpAny_attempt (wpAny_callSpecial?_slot (name:=Str.ofString "__next__") hT F.slot_zip_next (wpAny_call_entry F.slot_zip_next hT F.entry_zip_next ?_ (F.args_zip_next_1 _))))
  refine Ft D hz hTI hTO h1 h2 p1 p2 (x:=u) (y:=v) (by simpa using hu) (by simpa using hv) λh3 a1 a3 a4 a5 a2 hk=>wpAny_pure ?_
  refine⟨_,rfl,?_⟩
  have fT:nO X pins H s.heap.objs.size:=I.fpOk (ay _) (I.hok.fresh (ay _))
  have lt:∀{c o},s.heap.get? c=some o->c≠s.heap.objs.size:=λe=>aZ (aJ e)
  refine wpAny_letOwnedTupleGo_zip a1 λh4 hz4 hs4=>?_
  have I1:bT X pins σ H {s with heap:=h4,toks:=s.toks}:=I.turnedL (t':=s.toks) (ch:=[z,TI,TO,i1,i2]) (λb o hb q=>by
   have b1:b≠z:=λe=>hb (by simp[e])
   exact(hs4.2 b b1).trans (hk b o b1 (λe=>hb (by simp[e])) (λe=>hb (by simp[e])) (λe=>hb (by simp[e])) q)) hf
  have gT:h4.get? s.heap.objs.size=some {cls:=.type "tuple",data:=.seq #[u,v]}:=(hs4.2 _ (Ne.symm (lt hz))).trans a5
  have I2:=I1.adopt (T:=s.heap.objs.size) (o:=.tup [x,y]) fT (sT (X:=X) gT ru rv)
  have ext:∀c o,c≠z->h3.get? c=some o->h4.get? c=some o:=λc o hc q=>(hs4.2 c hc).trans q
  refine⟨.ref s.heap.objs.size,_,I2,rfl,⟨s.heap.objs.size,x,y,fT.1,rfl,rfl,λzs hz=>by rw[I.seqB_inj hz hq1];exact hx,λzs hz=>by rw[I.seqB_inj hz hq2];exact hy⟩,
   ⟨hz4,ext _ _ D.TIz (hk _ _ D.TIz D.TITO D.TIi1 D.TIi2 hTI),⟨_,_,ext _ _ D.TOz a2⟩,a3.at λo q=>ext _ o D.i1z q,a4.at λo q=>ext _ o D.i2z q⟩,λb hb=>?_⟩
  have nT:b≠s.heap.objs.size:=by
   simp only[aQ,eA,or_false] at hb
   rcases hb with rfl|rfl|rfl|rfl|rfl
   ·exact lt hz
   ·exact lt hTI
   ·exact lt hTO
   ·exact aZ h1.lt
   ·exact aZ h2.lt
  rw[aF nT];exact(hf b hb).1
 done:=by
  intro X hP hw hK hc i pins s σ H E I hf st hg
  subst hP hw hK
  obtain⟨hz,hTI,⟨a',b',hTO⟩,h1,h2⟩:=st
  obtain⟨xs,ys,hq1,hq2,hend⟩:=hg
  obtain⟨its1,rv1,p1⟩:=I.seqB hq1
  obtain⟨its2,rv2,p2⟩:=I.seqB hq2
  have l1':=rv1.length
  refine HG (I.ok.hd hc) D ⟨hTI,h1,h2,p1,p2,.inl ⟨hz,a',b',hTO⟩⟩ (by simp;lia) λh3 hk=>⟨rfl,?_⟩
  exact I.turnedL (t':=s.toks) (ch:=[z,TI,TO,i1,i2]) (λb o hb q=>hk b o (λe=>hb (by simp[e])) (λe=>hb (by simp[e])) (λe=>hb (by simp[e])) q) hf
 self:=λ_ _ _ _ _ st h=>wpAny_pyIter_zip st.1 h
def zS(K:Fg)(tl:TA):TI:=λσ H R=>tl σ H λvs H1=>∃t1 t2 a b,vs=[.ref a,.ref b]/\(∃xs,BB K t1 H1 a xs)/\(∃xs,BB K t2 H1 b xs)/\R (zc K t1 t2 a b) H1
section
variable{X:Cx}{elts:List Expr}{k:Nat}{tpos:Pos}
theorem Jh{a b:Expr}{ta:TA}{p pos:Pos}(hg:Gl X "zip")(hm:X.mg "zip"=none)(ha:PA X [a,b] ta)(hs:starEach [a,b] X.env=[(false,eval a X.env),(false,eval b X.env)]:=by rfl)(hs2:starEach [b] X.env=[(false,eval b X.env)]:=by rfl) :
  PI X (.Tuple elts k tpos) (.Call (.Name "zip" p) [a,b] [] pos) (zS X.K ta):=by
 intro pins s σ H R I h
 refine Call_ (jo I hg hm boot_zip (bL (fE (ha pos pins s σ H _ I h) λus s1 ⟨vs,H1,I1,r1,q1⟩=>?_) (by rw[hs,hs2]) (by rw[hs2];rfl)))
 obtain⟨t1,t2,l1,l2,e,⟨xs,hq1⟩,⟨ys,hq2⟩,q⟩:=q1
 subst e
 cases r1 with
 |cons r rr=>
  cases rr with
  |cons r' rr=>
   cases rr
   cases r
   cases r'
   obtain⟨its1,rv1,p1⟩:=I1.seqB hq1
   obtain⟨its2,rv2,p2⟩:=I1.seqB hq2
   refine xS (t1:=t1) (t2:=t2) p1 p2 λh1 z TI TO i1 i2 gI D gz gO g1 g2 hz hTO hTI hi1 hi2 hk=>?_
   refine wpAny_pyIter_zip hz ?_
   have I2:bT X pins σ H1 {s1 with heap:=h1}:=I1.kept (t':=s1.toks) hk
   refine⟨_,_,_,_,H1,rfl,I2,Fp t1 t2 z TI TO i1 i2 l1 l2 D,⟨hz,hTI,⟨_,_,hTO⟩,hi1,hi2⟩,λb hb=>?_,q⟩
   have hb':s1.heap.objs.size<=b:=by
    simp only[aQ,eA,or_false] at hb
    rcases hb with rfl|rfl|rfl|rfl|rfl<;>assumption
   exact I1.fpOk hb' (I1.hok.fresh hb')
theorem yw{a b:Expr}{ta:TA}{p pos:Pos}(hg:Gl X "zip")(hm:X.mg "zip"=none)(ha:QA X [a,b] ta)(hs:starEach [a,b] X.env=[(false,eval a X.env),(false,eval b X.env)]:=by rfl)(hs2:starEach [b] X.env=[(false,eval b X.env)]:=by rfl):QI X (.Tuple elts k tpos) (.Call (.Name "zip" p) [a,b] [] pos) (zS X.K ta):=
 ⟨Jh hg hm ha.up hs hs2⟩
end
theorem zR{K:Fg}{t1 t2:Bool}{a b:Addr}{xs ys:List V}{g:TG}{tb:TS}{D:jB}{σ:St}{H:Hp}(el:xs.length<=ys.length)(Pv:Nat->St->Hp->Prop)(h0:Pv 0 σ H)(hl:∀i σ H,i<=xs.length->Pv i σ H->BB K t1 H a xs/\BB K t2 H b ys)
  (hs:∀i x y σ H p,xs[i]?=some x->ys[i]?=some y->H p=none->Pv i σ H->g (.ref p) σ (upd H p (.tup [x,y])) λσ2 H2=>tb {D with nx:=Pv (i+1),ct:=Pv (i+1),bk:=D.nx} σ2 H2) (hd:∀σ H,Pv xs.length σ H->D.nx σ H) :
  ∃W:Nat->Nat->St->Hp->Prop,(∃m,W 0 m σ H)/\∀i m σ H,W i m σ H->
   ((zc K t1 t2 a b).stop i H/\D.nx σ H)\/((zc K t1 t2 a b).go i H/\∃N:St->Hp->Prop,(∀σ' H',N σ' H'->∃m',m'<m/\W (i+1) m' σ' H')/\∀x H',(zc K t1 t2 a b).yld i H x H'->g x σ H' λσ2 H2=>tb {D with nx:=N,ct:=N,bk:=D.nx} σ2 H2):=by
 refine⟨λi m σ H=>m=xs.length-i/\i<=xs.length/\Pv i σ H,⟨xs.length,by simp,bQ _,h0⟩,?_⟩
 rintro i m σ H ⟨rfl,hi,p⟩
 obtain⟨q1,q2⟩:=hl i σ H hi p
 by_cases hlt:i<xs.length
 ·have hlt2:i<ys.length:=by lia
  refine .inr ⟨⟨xs,xs[i],ys,ys[i],q1,by simp[hlt],q2,by simp[hlt2]⟩,Pv (i+1),λσ' H' p'=>⟨xs.length-(i+1),by lia,rfl,hlt,p'⟩,λx H' y=>?_⟩
  obtain⟨pp,v,u,e1,rfl,rfl,y1,y2⟩:=y
  exact hs i v u σ H pp (y1 xs q1) (y2 ys q2) e1 p
 ·have e:i=xs.length:=by lia
  subst e
  exact .inl ⟨⟨xs,ys,q1,q2,ay _⟩,hd σ H p⟩
theorem wg{js:List Nat}{k:Nat}{K:Fg}{t1 t2:Bool}{a b:Addr}{xs ys:List V}{g:TG}{tc:TT}{te:TE}{R:Hp->Prop}{σ:St}{H:Hp}{D:Addr}(el:xs.length<=ys.length)(Pv:Nat->St->Hp->Prop)(h0:Pv 0 (Bh js k σ) (upd H D (.lst [])))(hl:∀i σ H,i<=xs.length->Pv i σ H->BB K t1 H a xs/\BB K t2 H b ys)
  (hs:∀i x y σ H p,xs[i]?=some x->ys[i]?=some y->H p=none->Pv i σ H->g (.ref p) σ (upd H p (.tup [x,y])) λσ2 H2=>pe D tc te {nx:=Pv (i+1),rt:=λ_ _=>False,ct:=Pv (i+1),bk:=λ_ H'=>R H'} σ2 H2) (hd:∀σ H,Pv xs.length σ H->R H) :
  ∃W:Nat->Nat->St->Hp->Prop,(∃m,W 0 m (Bh js k σ) (upd H D (.lst [])))/\∀i m σ H,W i m σ H->
   ((zc K t1 t2 a b).stop i H/\R H)\/((zc K t1 t2 a b).go i H/\∃N:St->Hp->Prop,(∀σ' H',N σ' H'->∃m',m'<m/\W (i+1) m' σ' H')/\∀x H',(zc K t1 t2 a b).yld i H x H'->g x σ H' λσ2 H2=>pe D tc te {nx:=N,rt:=λ_ _=>False,ct:=N,bk:=λ_ H'=>R H'} σ2 H2):=
 zR (D:={nx:=λ_ H'=>R H',rt:=λ_ _=>False}) el Pv h0 hl hs hd
end L2
end
section
namespace Bg
open PySem PySem.Spec PyProof.Rows L2
abbrev Br:List Str:=["row"]
abbrev vX:List Str:=["row","word"]
def AR(K:Fg):TS:=(cF (b7 aE))
def AS(K:Fg):TS:=(bf (di (bN (aX ((yx K false)) (aj 1) (b7 (ah (tC (.str "say")) (ah (tC (.str "test")) (ah (tC (.str "give")) aE)))))) (cF (b7 (ah (aX (cw K) (aj 0) (tC (.int 1))) aE))) b5) (AR K))
def AU(K:Fg):TS:=(bf (di (bN (aX (fV K) (aj 1) (tC (.str "call")))) (cF (e8 (cI K) (ah (aX (cw K) (aj 0) (tC (.int 3))) aE))) b5) (AS K))
def AV(K:Fg):TS:=(bf (di (bN (aX (fV K) (aj 1) (tC (.str "op")))) (cF (b7 (ah (aX (cw K) (aj 0) (tC (.int 3))) (ah (aX (cw K) (aj 0) (tC (.int 4))) aE)))) b5) (AU K))
def xg(K:Fg):TS:=(bf (bD (aX (cw K) (aj 0) (tC (.int 0))) (aK 1)) (AV K))
abbrev D9:List Str:=["row"]
abbrev zi:List Str:=["row"]
def CU(K:Fg):TS:=(cF (tC .non))
def AW(K:Fg):TS:=(bf (di (bN (aX ((yx K false)) (aX (cw K) (aj 0) (tC (.int 0))) (b7 (ah (tC (.str "num")) (ah (tC (.str "op")) (ah (tC (.str "call")) aE)))))) (cF (aX (cw K) (aj 0) (tC (.int 1)))) b5) (CU K))
abbrev zp:List Str:=["rows","n"]
abbrev tw:List Str:=["rows","n","at"]
def yR(K:Fg):TS:=(cF (aj 2))
def yS(K:Fg):TS:=(bD (a7 (qG K) [] E0 (ah (aX (cw K) (aj 0) (aj 2)) aE)) (aK 2))
def pI(K:Fg):TS:=(bf (uB (bN (aX (fV K) (aX (cw K) (aX (cw K) (aj 0) (aj 2)) (tC (.int 0))) (tC (.str "jump")))) (yS K)) (yR K))
def u0(K:Fg):TS:=(bf (bD (aj 1) (aK 2)) (pI K))
abbrev gH:List Str:=["rows","unset"]
abbrev nR:List Str:=["rows","unset","found","waiting","n","to"]
def yU(K:Fg):TS:=(cF (e8 GX (ah (aj 2) aE)))
def yV(K:Fg):TS:=(iK (yP K "list" eN (aj 3) (ah (aj 5) aE)))
def lg(K:Fg):TS:=(di (bN (aX ((JH true)) (aj 5) (aj 2))) (bf (bD (tC (.bl true)) (oM (aj 2) (aj 5) DA)) (yV K)) b5)
def pM(K:Fg):TS:=(di (NC (bN (aX (JI) (aj 1) (tC .non))) (bN (aX (Cy K) (a7 (mM K) [] E0 (ah (aX (cw K) (aj 0) (aj 4)) aE)) (aj 1)))) (jy (fH K (a7 (kU K) [] E0 (ah (aj 0) (ah (aj 4) aE)))) (aK 5) (lg K)) b5)
def yW(K:Fg):TS:=(bf (bD (Ma K "list" Nf (aj 3)) (aK 4)) (pM K))
def pN(K:Fg):TS:=(bf (uB (bN (aX (LW) (e8 (fP K) (ah (aj 3) aE)) (tC (.int 0)))) (yW K)) (yU K))
def pO(K:Fg):TS:=(bf (bD (ki (ah (tC (.int 0)) aE)) (aK 3)) (pN K))
def u2(K:Fg):TS:=(bf (bD (Hh [((tC (.int 0)),(tC (.bl true)))]) (aK 2)) (pO K))
abbrev xH:List Str:=["rows"]
abbrev lS:List Str:=["rows"]
def rh(K:Fg):TS:=(cF (dC [] 1 (fH K (a7 (gK K) [.non] E0 (ah (aj 0) aE))) (aK 1) (bN (aX (Cy K) (aX (cw K) (aX (cw K) (aj 0) (aj 1)) (tC (.int 0))) (tC (.str "jump")))) (aj 1)))
abbrev zo:List Str:=["belt","thing"]
abbrev tu:List Str:=["belt","thing"]
def uZ(K:Fg):TS:=(cF (pj (vD K) (aX (cZ K) (b7 (ah (aj 1) aE)) (aj 0)) cY (eI (e8 (fP K) (ah (aj 0) aE)))))
abbrev Bq:List Str:=["places","args","empty"]
abbrev vW:List Str:=["places","args","empty","belt","arg"]
def rb(K:Fg):TS:=(cF (aj 3))
def rf(K:Fg):TS:=(bD (a7 (iJ K) [] E0 (ah (aj 3) (ah (aj 4) aE))) (aK 3))
def rg(K:Fg):TS:=(bf (jy (fH K (aj 1)) (aK 4) (rf K)) (rb K))
def xf(K:Fg):TS:=(bf (bD (aX (fz K) (b7 (ah (aj 2) aE)) (aj 0)) (aK 3)) (rg K))
abbrev zr:List Str:=["one","other"]
abbrev nS:List Str:=["one","other"]
def u3(K:Fg):TS:=(cF (e8 (M7 K) (ah (dC [] 2 (zS K (ah (aj 0) (ah (aj 1) aE))) (nW K 2 (eF (aK 2) (eF (aK 3) mP))) gw (Mb (aX (JI) (aj 2) (tC .non)) (aX (fV K) (aj 2) (aj 3)))) aE)))
abbrev zk:List Str:=["row","names","x"]
abbrev tq:List Str:=["row","names","x"]
def yQ(K:Fg):TS:=(cF (aj 1))
def lb(K:Fg):TS:=(bf (di (bN (aX ((yx K false)) (aX (cw K) (aj 0) (tC (.int 0))) (b7 (ah (tC (.str "num")) (ah (tC (.str "op")) (ah (tC (.str "call")) aE)))))) (cF (a7 (jT K) [] E0 (ah (aj 1) (ah (aj 2) aE)))) b5) (yQ K))
def uY(K:Fg):TS:=(bf (di (bN (aX (fV K) (aX (cw K) (aj 0) (tC (.int 0))) (tC (.str "keep")))) (cF (a7 (iJ K) [] E0 (ah (aj 1) (ah (aX (cw K) (aj 1) (aX (cw K) (aj 0) (tC (.int 1)))) aE)))) b5) (lb K))
abbrev vm:List Str:=["names","x"]
abbrev kx:List Str:=["names","x"]
def pH(K:Fg):TS:=(cF (a7 (iJ K) [] E0 (ah (e8 (cI K) (ah (dC [] 1 (fH K (aj 0)) (aK 2) gw (NB (bN (aX (fV K) (aj 2) (aj 1))) (tC .non) (aj 2))) aE)) (ah (aj 1) aE))))
abbrev qf:List Str:=["row"]
abbrev lx:List Str:=["row","word"]
def pD(K:Fg):TS:=(cF (b7 aE))
def pE(K:Fg):TS:=(bf (di (bN (aX ((yx K false)) (aj 1) (b7 (ah (tC (.str "keep")) (ah (tC (.str "say")) (ah (tC (.str "test")) (ah (tC (.str "give")) aE))))))) (cF (b7 (ah (aX (cw K) (aj 0) (tC (.int 1))) aE))) b5) (pD K))
def pF(K:Fg):TS:=(bf (di (bN (aX (fV K) (aj 1) (tC (.str "call")))) (cF (e8 (cI K) (ah (aX (cw K) (aj 0) (tC (.int 2))) aE))) b5) (pE K))
def pG(K:Fg):TS:=(bf (di (bN (aX (fV K) (aj 1) (tC (.str "op")))) (cF (b7 (ah (aX (cw K) (aj 0) (tC (.int 2))) (ah (aX (cw K) (aj 0) (tC (.int 3))) aE)))) b5) (pF K))
def lF(K:Fg):TS:=(bf (bD (aX (cw K) (aj 0) (tC (.int 0))) (aK 1)) (pG K))
end Bg
end
section
namespace PySem
open Sem (wp)
open AutoSeq1 (wpAny_loadPart')
section
variable{prog:Program}{w:World}{A:Around}{E:Value->Shared->Prop}{s:Shared}
theorem Cj{ib tb:Addr}{i:Nat}{its:Array Value}{x:Value}{Q:Value->Shared->Prop}(hib:s.heap.IsTupleIter ib tb i)(htb:s.heap.IsTuple tb its)(hx:its[i]?=some x)
  (hQ:∀h',h'.IsTupleIter ib tb (i+1)->Heap.SameBut ib s.heap h'->Q x {s with heap:=h'}):wpAny (model prog w) A (Builtin.SmallTypes.nextOf (.ref ib)) Q E s:=by
 obtain⟨ob,hob,hcb,hdb⟩:=id hib
 obtain⟨ot,hot,_,nt,hdt⟩:=htb
 unfold Builtin.SmallTypes.nextOf
 refine wpAny_bind (wpAny_callSpecial?_slot (name:=Str.ofString "__next__") hib.typeIs F.slot_tuple_iterator_next (wpAny_call_entry F.slot_tuple_iterator_next hib.typeIs F.entry_tuple_iterator_next ?_ (F.args_tuple_iterator_next_1 _)))
 show wpAny _ _ (field (.ref ib) 0 >>= _) _ _ s
 refine wpAny_bind (wpAny_field hob hdb (x:=.ref tb) rfl ?_)
 show wpAny _ _ (if(Value.ref tb==Value.none)=true then _ else _) _ _ s
 rw[if_neg (show ¬((Value.ref tb==Value.none)=true) from Bool.false_ne_true)]
 show wpAny _ _ (field (.ref ib) 1 >>= _) _ _ s
 refine wpAny_bind (wpAny_field hob hdb (x:=.int i 0) rfl ?_)
 show wpAny _ _ (seqItems? (.ref tb) >>= _) _ _ s
 refine wpAny_bind (wpAny_seqItems hot hdt ?_)
 simp only[aB,hx]
 refine wpAny_bind (wpAny_setField hob hdb (by simp) (wpAny_pure ⟨x,rfl,wpAny_pure (hQ _ ?_ (Heap.SameBut.update ..))⟩))
 exact⟨_,eK _ hob (Obj.isFreed_of_fields (Obj.data_mapFields hdb _)),(Obj.cls_mapFields ..).trans hcb,by rw[Obj.data_mapFields hdb];simp[rawInt]⟩
theorem wB{ib tb:Addr}{i:Nat}{its:Array Value}{Q:Value->Shared->Prop}(hh:A.handled=none)(hib:s.heap.IsTupleIter ib tb i)(htb:s.heap.IsTuple tb its)(hx:its[i]?=none)
  (hE:∀h' e,Heap.ExtBut ib s.heap h'->(∃o,h'.get? e=some o/\o.cls=.type "StopIteration")->E (.ref e) {s with heap:=h'}):wpAny (model prog w) A (Builtin.SmallTypes.nextOf (.ref ib)) Q E s:=by
 obtain⟨ob,hob,hcb,hdb⟩:=id hib
 obtain⟨ot,hot,_,nt,hdt⟩:=htb
 unfold Builtin.SmallTypes.nextOf
 refine wpAny_bind (wpAny_callSpecial?_slot (name:=Str.ofString "__next__") hib.typeIs F.slot_tuple_iterator_next (wpAny_call_entry F.slot_tuple_iterator_next hib.typeIs F.entry_tuple_iterator_next ?_ (F.args_tuple_iterator_next_1 _)))
 show wpAny _ _ (field (.ref ib) 0 >>= _) _ _ s
 refine wpAny_bind (wpAny_field hob hdb (x:=.ref tb) rfl ?_)
 show wpAny _ _ (if(Value.ref tb==Value.none)=true then _ else _) _ _ s
 rw[if_neg (show ¬((Value.ref tb==Value.none)=true) from Bool.false_ne_true)]
 show wpAny _ _ (field (.ref ib) 1 >>= _) _ _ s
 refine wpAny_bind (wpAny_field hob hdb (x:=.int i 0) rfl ?_)
 show wpAny _ _ (seqItems? (.ref tb) >>= _) _ _ s
 refine wpAny_bind (wpAny_seqItems hot hdt ?_)
 simp only[aB,hx]
 refine wpAny_bind (wpAny_rule (wpAny_bind (wpAny_setField hob hdb (by simp) ?_)))
 show wpAny _ _ (newExc (.type "StopIteration") [] >>= _) _ _ _
 refine wpAny_bind ?_
 simp only[newExc,newTuple]
 refine wpAny_bind (wpAny_newObj_type ?_ (by size_fits))
 refine wpAny_bind (m:=firstArgMember _ _) (wpAny_of_eq (a:=Value.none) (by first|rfl|(simp only[firstArgMember];rfl)) ?_)
 refine wpAny_newObj_type ?_ (by size_fits)
 simp only[raiseNew]
 refine wpAny_bind (wpAny_handled ?_)
 first|rw[show A.in1.handled=none from hh]|rw[hh]
 refine wpAny_bind (wpAny_pure (wpAny_throw ?_))
 exact hE _ _ (((Heap.SameBut.update ..).extBut.push _).push _) ⟨_,aM _ rfl,rfl⟩
end
theorem KH{prog:Program}{w:World}{A:Around}(hh:A.handled=none)(ib tb:Addr)(hne:tb≠ib)(its:Array Value) :
  Draws prog w A ib [ib,tb] its.size (λi v=>its[i]?=some v) (λi h=>h.IsTupleIter ib tb i/\h.IsTuple tb its) where
 live:=λ_ _ st=>let⟨o,ho,_⟩:=st.1;⟨o,ho⟩
 frame:=λ_ _ _ st hk=>⟨st.1.at λo e=>hk ib (by simp) o e,let⟨o,ho,r⟩:=st.2;⟨o,hk tb (by simp) o ho,r⟩⟩
 item:=λi s Q E hi st hQ=>Cj st.1 st.2 (x:=its[i]) (by simp[hi]) λh' hit' hs'=>hQ _ h' s.toks (by simp[hi]) ⟨hit',st.2.extBut hs'.extBut hne⟩ hs'
 done:=λs Q E st hE=>wB hh st.1 st.2 (by simp) hE
theorem Aa(tb:Addr)(its:Array Value)(n:Nat)(dct:Option Addr)(sl:Array (Option Value)) :
  Meets (Builtin.«enumerate.__new__» ⟨[.type "enumerate",.ref tb],[]⟩) (λ_ R s=>s.heap.get? tb=some {cls:=.type "tuple",dict:=dct,data:=.seq its n,slots:=sl}/\
   R (.ok (.ret (.ref (s.heap.push {cls:=.type "tuple_iterator",data:=.fields #[.ref tb,.int 0 0]}).objs.size)))
    {s with heap:=(s.heap.push {cls:=.type "tuple_iterator",data:=.fields #[.ref tb,.int 0 0]}).push {cls:=.type "enumerate",data:=.fields #[.none,.bool false,.ref s.heap.objs.size,rawInt 0,.none,.none]}}):=
 .of_wp λprog w A R s h=>by
  obtain⟨hp,g,d,tk,os⟩:=s;obtain⟨hl,h⟩:=h
  have hsub:=sub_enumerate
  have hL:Heap.IsTuple (Shared.heap ⟨hp,g,d,tk,os⟩) tb its:=⟨_,hl,rfl,n,rfl⟩
  wp_walk using wpAny_loadPart' hl
  refine wpAny_stack_any λst=>wpAny_pure ?_
  split
  ·rename_i c _ _ _ _ _
   cases(c==Value.type "enumerate")
   ·wp_walk using wpAny_loadPart' hl,wpAny_pyIter_tuple hL
    exact⟨_,rfl,h⟩
   ·wp_walk using wpAny_loadPart' hl,wpAny_pyIter_tuple hL
    exact⟨_,rfl,h⟩
  ·wp_walk using wpAny_loadPart' hl,wpAny_pyIter_tuple hL
   exact⟨_,rfl,h⟩
theorem BG{prog:Program}{w:World}{A:Around}{E:Value->Shared->Prop}{s:Shared}{tb:Addr}{its:Array Value}{Q:Value->Shared->Prop}(hL:s.heap.IsTuple tb its)
  (h:∀h',IsEnum h' (s.heap.objs.size+1) s.heap.objs.size 0 .none->h'.IsTupleIter s.heap.objs.size tb 0->h'.objs.size=s.heap.objs.size+2->(∀b o,s.heap.get? b=some o->h'.get? b=some o)->Q (.ref (s.heap.objs.size+1)) {s with heap:=h'}) :
  wpAny (model prog w) A (call (.type "enumerate") [.ref tb]) Q E s:=by
 obtain⟨⟨c,dct,dt,sl⟩,hl,hc,n,hd⟩:=hL
 replace hc:c=.type "tuple":=hc
 replace hd:dt=.seq its n:=hd
 subst hc hd
 refine callType_new F.called_enumerate (by decide) (F.typeCall_enumerate_1 _) (F.newCall_enumerate_1 _) (λobj=>F.args_object_init_2 obj _) F.entry_enumerate_new (Aa tb its n dct sl) ⟨hl,?_⟩
 have hz:(s.heap.push {cls:=.type "tuple_iterator",data:=.fields #[.ref tb,.int 0 0]}).objs.size=s.heap.objs.size+1:=fb ..
 show _/\_
 rw[hz]
 have he:IsEnum ((s.heap.push {cls:=.type "tuple_iterator",data:=.fields #[.ref tb,.int 0 0]}).push {cls:=.type "enumerate",data:=.fields #[.none,.bool false,.ref s.heap.objs.size,rawInt 0,.none,.none]}) (s.heap.objs.size+1) s.heap.objs.size 0 .none:=by
  have:=aM (s.heap.push {cls:=.type "tuple_iterator",data:=.fields #[.ref tb,.int 0 0]}) (o:={cls:=.type "enumerate",data:=.fields #[.none,.bool false,.ref s.heap.objs.size,rawInt 0,.none,.none]}) rfl
  rw[hz] at this;exact this
 refine⟨⟨_,he,rfl⟩,h _ he ⟨_,av _ (aM _ rfl),rfl,rfl⟩ (by rw[fb,hz]) λb o x=>av _ (av _ x)⟩
end PySem
namespace L2
open PySem PySem.Spec PyProof.Rows
def FB(K:Fg)(a:Addr):It:=
 ⟨λi H=>∃xs x,b4 K H a xs/\xs[i]?=some x,λi H x H'=>∃p v,H p=none/\x=.ref p/\H'=upd H p (.tup [.int (i:Nat),v])/\∀xs,b4 K H a xs->xs[i]?=some v,λi H=>∃xs,b4 K H a xs/\xs.length<=i⟩
theorem CY{P:Program}{w:World}{K:Fg}{elts:List Expr}{k:Nat}{pos:Pos}(a e it:Addr)(hne:e≠it) :
  vp P w K (.Tuple elts k pos) (FB K a) [e,it] e (λi h=>(∃old,IsEnum h e it (i:Nat) old)/\h.IsTupleIter it a i) where
 mem:=by simp
 obj:=λi h st b hb=>by
  obtain⟨⟨old,he⟩,⟨o,ho,c,d⟩⟩:=st
  rcases aQ.mp hb with rfl|hb
  ·exact⟨_,he,λv z=>by have z':Data.fields _=Data.cell v:=z;cases z'⟩
  ·rw[au.mp hb]
   exact⟨o,ho,λv z=>by rw[d] at z;cases z⟩
 keep:=λi h h' st k=>⟨let⟨old,he⟩:=st.1;⟨old,k e (by simp) _ he⟩,st.2.at λo q=>k it (by simp) o q⟩
 item:=by
  intro X hP hw hK hc i pins s σ H E I hf st hg
  subst hP hw hK
  obtain⟨⟨old,he⟩,hit⟩:=st
  obtain⟨xs,x,hq,hx⟩:=hg
  obtain⟨its,rv,p,hz⟩:=I.tuple hq
  obtain⟨u,hu,ru⟩:=rv.get hx
  have p':s.heap.IsTuple a its.toArray:=p
  have hlt:i<its.toArray.size:=by have:=(ae.mp hu).1;simpa using this
  have na:a≠it:=by
   intro z;subst z
   obtain⟨o,e1,c1,_⟩:=p'
   obtain⟨o',e2,c2,_⟩:=hit
   rw[e1] at e2;cases e2;rw[c1] at c2
   injection c2 with c3
   exact absurd c3 (by decide)
  have nb:e≠a:=by
   intro z;subst z
   obtain⟨o,e1,c1,_⟩:=p'
   rw[he] at e1;cases e1
   injection c1 with c3
   exact absurd c3 (by decide)
  have Dw:=KH (prog:=X.prog) (w:=X.w) (A:=X.A.in1) (show X.A.in1.handled=none from I.ok.hd hc) it a na its.toArray
  refine wpAny_pyNext_enum_itemD Dw he ⟨hit,p'⟩ hlt hne (by simp[hne,nb]) λy h1 tk hP ho st1 hT hsz hk=>?_
  have ey:y=u:=by
   have h1:its.toArray[i]?=some y:=hP
   have h2:its[i]?=some y:=by simpa using h1
   rw[hu] at h2;exact(Option.some.inj h2).symm
  subst ey
  refine⟨_,rfl,?_⟩
  have fT:nO X pins H s.heap.objs.size:=I.fpOk (ay _) (I.hok.fresh (ay _))
  refine wpAny_letOwnedTupleGo_enum ho λh2 he2 hs2=>?_
  have helt:e<s.heap.objs.size:=aJ he
  have I1:bT X pins σ H {s with heap:=h2,toks:=tk+1}:=I.turnedL (t':=tk+1) (ch:=[e,it]) (λb o hb q=>by
   have b1:b≠e:=λz=>hb (by simp[z])
   have b2:b≠it:=λz=>hb (by simp[z])
   exact(hs2.2 b b1).trans (hk b o b1 b2 q)) hf
  have gT:h2.get? s.heap.objs.size=some {cls:=.type "tuple",data:=.seq #[.int i tk,y]}:=(hs2.2 _ (iW helt)).trans hT
  have I2:=I1.adopt (T:=s.heap.objs.size) (o:=.tup [.int (i:Nat),x]) fT (sT (X:=X) gT ⟨tk,rfl⟩ ru)
  refine⟨.ref s.heap.objs.size,_,I2,rfl,⟨s.heap.objs.size,x,fT.1,rfl,rfl,λys hy=>by rw[I.tuple_inj hy hq];exact hx⟩,⟨⟨y,?_⟩,?_⟩,λb hb=>?_⟩
  ·have e2:(((i+1:Nat):Nat):Int)=(i:Int)+1:=by lia
   show IsEnum h2 e it (((i+1:Nat):Nat):Int) y
   rw[e2];exact he2
  ·obtain⟨o,q1,q2⟩:=st1.1
   exact⟨o,(hs2.2 it (Ne.symm hne)).trans q1,q2⟩
  ·have nT:b≠s.heap.objs.size:=by
    rcases aQ.mp hb with rfl|hb
    ·exact aZ helt
    ·rw[au.mp hb]
     obtain⟨o,ho,_⟩:=hit
     exact aZ (aJ ho)
   rw[aF nT];exact(hf b hb).1
 done:=by
  intro X hP hw hK hc i pins s σ H E I hf st hg
  subst hP hw hK
  obtain⟨⟨old,he⟩,hit⟩:=st
  obtain⟨xs,hq,hx⟩:=hg
  obtain⟨its,rv,p,hz⟩:=I.tuple hq
  have hl:=rv.length
  have hT:s.TypeIs (.ref e) "enumerate":=⟨_,he,rfl⟩
  unfold pyNext
  refine wpAny_bind (wpAny_attempt (wpAny_callSpecial?_slot (name:=Str.ofString "__next__") hT F.slot_enumerate_next
   (wpAny_call_entry F.slot_enumerate_next hT F.entry_enumerate_next ?_ (F.args_enumerate_next_1 _))))
  show wpAny _ _ (field (.ref e) 2 >>= _) _ _ _
  refine wpAny_bind (wpAny_field he rfl (x:=.ref it) rfl ?_)
  refine wpAny_bind (wB (show X.A.in1.handled=none from I.ok.hd hc) hit (show s.heap.IsTuple a its.toArray from p) (by simp;lia) λh1 x1 eb hx1=>?_)
  obtain⟨o,ho,hcl⟩:=hx1
  refine wpAny_bind (wpAny_isInstance (T:="StopIteration") (b:=true) ⟨o,ho,hcl⟩ isSubtype_stop ?_)
  exact wpAny_pure ⟨rfl,I.turnedL (t':=s.toks) (ch:=[e,it]) (λb ob hb q=>eb b ob (λz=>hb (by simp[z])) q) hf⟩
 self:=λ_ _ _ _ _ st h=>let⟨_,he⟩:=st.1;wpAny_pyIter_enum he h
section
variable{X:Cx}{elts:List Expr}{k:Nat}{tpos:Pos}
def BX(K:Fg)(tl:TA):TI:=λσ H R=>tl σ H λvs H1=>∃a,vs=[.ref a]/\(∃xs,b4 K H1 a xs)/\R (FB K a) H1
theorem GI{a:Expr}{ta:TA}{p pos:Pos}(hg:Gl X "enumerate")(hm:X.mg "enumerate"=none)(ha:PA X [a] ta)(hs:starEach [a] X.env=[(false,eval a X.env)]:=by rfl) :
  PI X (.Tuple elts k tpos) (.Call (.Name "enumerate" p) [a] [] pos) (BX X.K ta):=by
 intro pins s σ H R I h
 refine Call_ (jo I hg hm boot_enumerate (bL (fE (ha pos pins s σ H _ I h) λus s1 ⟨vs,H1,I1,r1,q1⟩=>?_) hs rfl))
 obtain⟨l,e,⟨xs,hq⟩,q⟩:=q1
 subst e
 cases r1 with
 |cons r rr=>
  cases rr
  cases r
  obtain⟨its,rv,pl,hz⟩:=I1.tuple hq
  refine BG (show s1.heap.IsTuple l its.toArray from pl) λh1 he hit hsz hk=>?_
  refine wpAny_pyIter_enum he ?_
  have I2:bT X pins σ H1 {s1 with heap:=h1}:=I1.kept (t':=s1.toks) hk
  refine⟨s1.heap.objs.size+1,[s1.heap.objs.size+1,s1.heap.objs.size],_,_,H1,rfl,I2,CY l _ _ (Nat.succ_ne_self _),⟨⟨.none,he⟩,hit⟩,λb hb=>?_,q⟩
  have hb':s1.heap.objs.size<=b:=by
   rcases aQ.mp hb with rfl|hb
   ·lia
   ·rw[au.mp hb];exact ay _
  exact I1.fpOk hb' (I1.hok.fresh hb')
theorem GS{a:Expr}{ta:TA}{p pos:Pos}(hg:Gl X "enumerate")(hm:X.mg "enumerate"=none)(ha:QA X [a] ta)(hs:starEach [a] X.env=[(false,eval a X.env)]:=by rfl):QI X (.Tuple elts k tpos) (.Call (.Name "enumerate" p) [a] [] pos) (BX X.K ta):=
 ⟨GI hg hm ha.1 hs⟩
end
theorem Ey{K:Fg}{a:Addr}{xs:List V}{g:TG}{tb:TS}{D:jB}{σ:St}{H:Hp}(Pv:Nat->St->Hp->Prop)(h0:Pv 0 σ H)(hl:∀i σ H,i<=xs.length->Pv i σ H->b4 K H a xs)
  (hs:∀i x σ H p,xs[i]?=some x->H p=none->Pv i σ H->g (.ref p) σ (upd H p (.tup [.int (i:Nat),x])) λσ2 H2=>tb {D with nx:=Pv (i+1),ct:=Pv (i+1),bk:=D.nx} σ2 H2) (hd:∀σ H,Pv xs.length σ H->D.nx σ H) :
  ∃W:Nat->Nat->St->Hp->Prop,(∃m,W 0 m σ H)/\∀i m σ H,W i m σ H->
   ((FB K a).stop i H/\D.nx σ H)\/((FB K a).go i H/\∃N:St->Hp->Prop,(∀σ' H',N σ' H'->∃m',m'<m/\W (i+1) m' σ' H')/\∀x H',(FB K a).yld i H x H'->g x σ H' λσ2 H2=>tb {D with nx:=N,ct:=N,bk:=D.nx} σ2 H2):=by
 refine⟨λi m σ H=>m=xs.length-i/\i<=xs.length/\Pv i σ H,⟨xs.length,by simp,bQ _,h0⟩,?_⟩
 rintro i m σ H ⟨rfl,hi,p⟩
 have q:=hl i σ H hi p
 by_cases hlt:i<xs.length
 ·refine .inr ⟨⟨xs,xs[i],q,by simp[hlt]⟩,Pv (i+1),λσ' H' p'=>⟨xs.length-(i+1),by lia,rfl,hlt,p'⟩,λx H' y=>?_⟩
  obtain⟨pp,v,e1,rfl,rfl,y⟩:=y
  exact hs i v σ H pp (y xs q) e1 p
 ·have e:i=xs.length:=by lia
  subst e
  exact .inl ⟨⟨xs,q,ay _⟩,hd σ H p⟩
end L2
end
section
namespace Bg
open PySem PySem.Spec PyProof.Rows L2
abbrev v5:List Str:=["row"]
abbrev tE:List Str:=["row"]
def CV(K:Fg):TS:=(cF (tC .non))
def CW(K:Fg):TS:=(bf (di (bN (aX (fV K) (aX (cw K) (aj 0) (tC (.int 0))) (tC (.str "test")))) (cF (aX (cw K) (aj 0) (tC (.int 2)))) b5) (CV K))
def u4(K:Fg):TS:=(bf (di (bN (aX (fV K) (aX (cw K) (aj 0) (tC (.int 0))) (tC (.str "jump")))) (cF (aX (cw K) (aj 0) (tC (.int 1)))) b5) (CW K))
abbrev tI:List Str:=["rows","n"]
abbrev qb:List Str:=["rows","n","word"]
def A3(K:Fg):TS:=(cF (b7 (ah (aX (cZ K) (aj 1) (tC (.int 1))) aE)))
def A4(K:Fg):TS:=(bf (di (bN (aX (fV K) (aj 2) (tC (.str "test")))) (cF (b7 (ah (aX (cZ K) (aj 1) (tC (.int 1))) (ah (a7 (mN K) [] E0 (ah (aX (cw K) (aj 0) (aj 1)) aE)) aE)))) b5) (A3 K))
def A5(K:Fg):TS:=(bf (di (bN (aX (fV K) (aj 2) (tC (.str "jump")))) (cF (b7 (ah (a7 (mN K) [] E0 (ah (aX (cw K) (aj 0) (aj 1)) aE)) aE))) b5) (A4 K))
def rN(K:Fg):TS:=(bf (di (bN (aX (fV K) (aj 2) (tC (.str "give")))) (cF (b7 aE)) b5) (A5 K))
def qK(K:Fg):TS:=(bf (bD (aX (cw K) (aX (cw K) (aj 0) (aj 1)) (tC (.int 0))) (aK 2)) (rN K))
abbrev Bs:List Str:=["program","code","papers"]
abbrev vY:List Str:=["program","code","papers","places","parts","k","part","row"]
def AX(K:Fg):TS:=(cF (tC .non))
def rj(K:Fg):TS:=(di (bN (aX (Al) (aj 7) (tC .non))) (cF (b7 (ah (aj 5) (ah (aj 7) aE)))) b5)
def rn(K:Fg):TS:=(bf (bD (a7 (jt K) [] E0 (ah (aj 3) (ah (aj 6) (ah (aX (cw K) (aX (cw K) (aj 4) (aj 5)) (tC (.int 1))) (ah (aX (cw K) (aj 2) (aj 5)) aE))))) (aK 7)) (rj K))
def rq(K:Fg):TS:=(bf (jy (BX K (ah (aj 0) aE)) (nW K 2 (eF (aK 5) (eF (aK 6) mP))) (rn K)) (AX K))
def rA(K:Fg):TS:=(bf (di (bN (aX (Al) (aj 5) (tC .non))) (cF (b7 (ah (aj 5) (ah (tC (.int 0)) aE)))) b5) (rq K))
def rB(K:Fg):TS:=(bf (bD (a7 (mh K) [] E0 (ah (aj 0) (ah (aj 4) aE))) (aK 5)) (rA K))
def rC(K:Fg):TS:=(bf (bD (aX (cw K) (aj 1) (tC (.int 1))) (aK 4)) (rB K))
def xh(K:Fg):TS:=(bf (bD (aX (cw K) (aj 1) (tC (.int 0))) (aK 3)) (rC K))
abbrev zq:List Str:=["program","parts"]
abbrev ky:List Str:=["program","parts","takes","many","k"]
def yT(K:Fg):TS:=(cF (tC .non))
def pJ(K:Fg):TS:=(di (bN (aX (Cy K) (pj (vD K) (aj 2) (eI (aj 4)) (eI (aX (cZ K) (aj 4) (tC (.int 1))))) (pj (vD K) (aj 3) (eI (aj 4)) (eI (aX (cZ K) (aj 4) (tC (.int 1))))))) (cF (aj 4)) b5)
def pK(K:Fg):TS:=(bf (jy (ly (ah (e8 (Kk) (ah (e8 (fP K) (ah (aj 2) aE)) (ah (e8 (fP K) (ah (aj 3) aE)) aE))) aE)) (aK 4) (pJ K)) (yT K))
def pL(K:Fg):TS:=(bf (bD (dC [] 1 (fH K (aj 1)) (aK 5) gw (aX (cw K) (aj 5) (tC (.int 0)))) (aK 3)) (pK K))
def u1(K:Fg):TS:=(bf (bD (dC [] 1 (fH K (aj 0)) (aK 5) gw (e8 (fP K) (ah (aX (cw K) (aj 5) (tC (.int 1))) aE))) (aK 2)) (pL K))
abbrev tG:List Str:=["places","part","codes","papers"]
abbrev mX:List Str:=["places","part","codes","papers","m"]
def su(K:Fg):TS:=(cF (tC .non))
def lG(K:Fg):TS:=(di (Hi (tB (a7 (jS K) [] E0 (ah (aX (cw K) (aj 1) (tC (.int 2))) (ah (aj 2) (ah (aj 3) (ah (aj 4) aE))))))) (cF (aj 4)) b5)
def lH(K:Fg):TS:=(bf (jy (ly (ah (e8 (fP K) (ah (aj 2) aE)) aE)) (aK 4) (lG K)) (su K))
def nr(K:Fg):TS:=(bf (di (Hi (tB (a7 (fk K) [] E0 (ah (aX (cw K) (aj 3) (tC (.int 0))) (ah (a7 (f6 K) [] E0 (ah (aX (cw K) (aj 1) (tC (.int 2))) (ah (tC (.int 0)) aE))) (ah (a7 (nZ K) [] E0 (ah (aj 0) (ah (aX (cw K) (aj 1) (tC (.int 1))) (ah (tC .non) aE)))) aE)))))) (cF (tC (.int 0))) b5) (lH K))
abbrev qe:List Str:=["paper","n","names"]
abbrev lu:List Str:=["paper","n","names"]
def lE(K:Fg):TS:=(cF (AF (aX (fV K) (aX (cw K) (aj 0) (tC (.int 0))) (aj 1)) (a7 (mi K) [] E0 (ah (aX (cw K) (aj 0) (tC (.int 1))) (ah (aj 2) aE)))))
abbrev vk:List Str:=["rows","codes","papers","m"]
abbrev iX:List Str:=["rows","codes","papers","m","code_row","n","names","plain_next","told"]
def mj(K:Fg):TS:=(cF (e8 (M7 K) (ah (dC [] 2 (zS K (ah (a7 (jw K) [] E0 (ah (aj 1) (ah (aj 3) aE))) (ah (aj 7) aE))) (nW K 2 (eF (aK 9) (eF (aK 10) mP))) gw (a7 (fk K) [] E0 (ah (aX (cw K) (aj 2) (aj 9)) (ah (aj 10) (ah (aj 8) aE))))) aE)))
def mn(K:Fg):TS:=(bf (bD (a7 (kS K) [] E0 (ah (aj 4) (ah (aj 6) (ah (a7 (mM K) [] E0 (ah (aX (cw K) (aj 0) (aj 5)) aE)) aE)))) (aK 8)) (mj K))
def mq(K:Fg):TS:=(bf (di (bN (aX ((yx K false)) (aX (cw K) (aj 4) (tC (.int 0))) (b7 (ah (tC (.str "keep")) (ah (tC (.str "jump")) aE))))) (bD (b7 (ah (aj 5) aE)) (aK 7)) (di (Hi (tB (a7 (ju K) [] E0 (ah (aX (cw K) (aj 0) (aj 5)) (ah (aj 4) (ah (aj 6) aE)))))) (cF (tC (.bl false))) (bD (e8 (cI K) (ah (dC [] 1 (fH K (a7 (jw K) [] E0 (ah (aj 0) (ah (aj 5) aE)))) (aK 9) gw (a7 (f6 K) [] E0 (ah (aj 0) (ah (aj 9) aE)))) aE)) (aK 7)))) (mn K))
def mr(K:Fg):TS:=(bf (bD (aX (cw K) (aX (cw K) (aj 2) (aj 3)) (tC (.int 1))) (aK 6)) (mq K))
def mv(K:Fg):TS:=(bf (bD (aX (cw K) (aX (cw K) (aj 2) (aj 3)) (tC (.int 0))) (aK 5)) (mr K))
def pC(K:Fg):TS:=(bf (bD (aX (cw K) (aj 1) (aj 3)) (aK 4)) (mv K))
abbrev tH:List Str:=["row","code_row","names"]
abbrev jN:List Str:=["row","code_row","names"]
def lI(K:Fg):TS:=(cF (aX (fV K) (e8 (cI K) (ah (dC [] 1 (fH K (a7 (ix K) [] E0 (ah (aj 1) aE))) (aK 3) gw (aX (cw K) (aj 2) (aj 3))) aE)) (a7 (og K) [] E0 (ah (aj 0) aE))))
def lJ(K:Fg):TS:=(bf (di (CK (bN (aX ((yx K false)) (aX (cw K) (aj 0) (tC (.int 0))) (b7 (ah (tC (.str "num")) (ah (tC (.str "op")) (ah (tC (.str "call")) aE)))))) (bN (aX (Cy K) (aX (cw K) (aj 0) (tC (.int 2))) (aX (cw K) (aj 1) (tC (.int 1)))))) (cF (tC (.bl false))) b5) (lI K))
def nu(K:Fg):TS:=(bf (di (bN (aX (Cy K) (aX (cw K) (aj 0) (tC (.int 0))) (aX (cw K) (aj 1) (tC (.int 0))))) (cF (tC (.bl false))) b5) (lJ K))
end Bg
end
section
namespace PySem.SeqAt
open AutoSeq1 (wpAny_loadPart')
open MeetsSeq MeetsSeq2 MeetsSeq3 SeqRoads2
theorem Be{M:Model}{A:Around}{E:Value->Shared->Prop}{s:Shared}{β:Type}{n:Nat}{f:Nat->β->Sem (ForInStep β)}{b:β}(I:Nat->β->Shared->Prop){Q:β->Shared->Prop}
  (turn:∀i b s,i<n->I i b s->wpAny M A (f i b) (λr s'=>match r with|.done b'=>Q b' s'|.yield b'=>I (i+1) b' s') E s) (fin:∀b s,I n b s->Q b s) (h:I 0 b s):wpAny M A (forIn ([0:n]:Std.Legacy.Range) b f) Q E s:=by
 rw[Std.Legacy.Range.forIn_eq_forIn_range']
 simp only[Std.Legacy.Range.size,ow,Nat.add_sub_cancel,Nat.div_one]
 refine wpAny_forIn_list _ (λrest b s'=>∃i,rest=List.range' i (n-i)/\i<=n/\I i b s') _ ?_ ?_ _ _ ⟨0,by simp,bQ _,h⟩
 ·rintro y rest b s' ⟨i,hr,hi,hI⟩
  have hlt:i<n:=by
   rcases Nat.lt_or_ge i n with z|z
   ·exact z
   ·rw[Nat.sub_eq_zero_of_le z] at hr;simp at hr
  have e1:n-i=(n-(i+1))+1:=by lia
  rw[e1,List.range'_succ] at hr
  obtain⟨rfl,rfl⟩:=List.cons.inj hr
  refine wpAny_mono (turn y b s' hlt hI) (λr s2 hq=>?_) λ_ _ z=>z
  cases r with
  |done b'=>exact hq
  |yield b'=>exact⟨y+1,rfl,hlt,hq⟩
 ·rintro b s' ⟨i,hr,hi,hI⟩
  have:n-i=0:=by
   have:=congrArg ef hr
   simpa using this.symm
  have e:i=n:=by lia
  subst e
  exact fin b s' hI
theorem tuple_indexAt(l:Addr)(items:Array Value)(n:Nat)(dd:Option Addr)(sl:Array (Option Value))(x:Value)(e:Nat->Bool)(j:Nat)(hj:j<items.size)
  (hit:e j=true) (hno:∀m,m<j->e m=false) :
  Meets (Builtin.«tuple.index» ⟨[.ref l,x],[]⟩)
   (λA R s=>s.heap.get? l=some {cls:=.type "tuple",dict:=dd,data:=.seq items n,slots:=sl}/\(∀i (h:i<items.size),EqAt A.in1 s items[i] x (e i))/\R (.ok (.ret (.int j s.toks))) {s with toks:=s.toks+1}):=
 .of_wp λprog w A R s h=>by
  obtain⟨hp,g,d,tk,os⟩:=s;obtain⟨hl,he,h⟩:=h
  wp_walk using wpAny_loadPart' hl
  refine Be (n:=min items.size items.size) (λi b s'=>b.1=none/\s'=⟨hp,g,d,tk,os⟩/\i<=j) ?_ ?_ ⟨rfl,rfl,bQ _⟩
  ·rintro i b s' hi ⟨hb,rfl,hij⟩
   have hlt:i<items.size:=by lia
   dsimp only
   rw[eP hlt]
   dsimp only
   refine wpAny_bind (he i hlt prog w _ _ ?_)
   by_cases c:i=j
   ·subst c
    rw[hit]
    wp_walk
    exact⟨_,rfl,h⟩
   ·rw[hno i (by lia)]
    wp_walk
    exact⟨rfl,rfl,by lia⟩
  ·rintro b s' ⟨hb,rfl,hij⟩
   lia
end PySem.SeqAt
namespace L2
open PySem PySem.Spec PyProof.Rows
def Hk(K:Fg)(to:TE)(t:TA):TE:=λσ H Q=>to σ H λx H1=>∃p xs,x=.ref p/\H1 p=some (.tup xs)/\t σ H1 λvs H2=>∃y,vs=[y]/\gJ y=true/\xs.all gJ=true/\b4 K H2 p xs/\
 ∃j:Nat,(∃z,xs[j]?=some z/\vw z y=true)/\(∀m,m<j->∀z,xs[m]?=some z->vw z y=false)/\Q (.int (j:Nat)) H2
section
variable{X:Cx}{o e:Expr}{es:List Expr}{to ta tb:TE}{t:TA}{apos cpos:Pos}
theorem Ja(ho:PE X o to)(ha:PA X [e] t)
  (hbase:attributeBase o "index" X.env (eval o X.env)=eval o X.env:=by rfl)
  (hfew:((backTo cpos (starEach [e] X.env)).all (λx=>!x.1)&&(backToKw cpos (keywordEach [] X.env)).all (λx=>x.1.isSome)
   && decide (([e]).length+([]:List Keyword).length+(if([]:List Keyword).isEmpty then 0 else 1)<30))=true:=by rfl)
  (hline:(apos.endLine==cpos.line)=true:=by rfl) (hs:starEach [e] X.env=(false,eval e X.env)::starEach [] X.env:=by rfl) (hplain:(backTo cpos (starEach [] X.env)).any (·.1)=false:=by rfl) :
  PE X (.Call (.Attribute o "index" apos) [e] [] cpos) (Hk X.K to t):=by
 intro pins s σ H Q I h
 refine wpAny_Call_method_late hbase hfew hline rfl (fE (ho pins s σ H _ I h) λv s1 ⟨x,H1,I1,r1,p,xs,ex,hp,q1⟩=>?_)
 subst ex
 cases r1
 obtain⟨hz,its,rv,ob,eo,⟨co,hd⟩,n,d⟩:=(show fh X.prog X.w H1 s1.heap p (.tup xs) from I1.hok p _ hp)
 refine⟨"tuple","tuple.index",PySem.F.plainAttrs_tuple,PySem.F.slot_tuple_index,PySem.F.type_tuple_index,⟨ob,eo,co⟩,λa e=>by cases e;exact⟨ob,eo,hd⟩,?_⟩
 have hA:=ha cpos pins s1 σ H1 _ I1 q1
 rw[hs] at hA ⊢
 refine Calls.callWith_builtin (by show(false || (backTo cpos (starEach [] X.env)).any (·.1))=false;rw[hplain]<;>rfl) (Calls.evalArgs_plain ?_)
 refine fE hA λus s2 ⟨vs,H2,I2,r2,y,ey,fy,fx,hp2,j,⟨z,hz1,hz2⟩,hno,q2⟩=>?_
 subst ey
 obtain⟨u,rfl,ru⟩:=nM r2
 obtain⟨its2,rv2,pl2,_⟩:=I2.tuple hp2
 obtain⟨⟨cls,dd,data,sl⟩,e2,c2,n2,d2⟩:=pl2
 simp only at c2 d2
 subst c2 d2
 have l2:=rv2.length
 have hj:j<its2.length:=by have:=(ae.mp hz1).1;lia
 refine call_meets PySem.F.slot_tuple_index ⟨_,e2,rfl⟩ PySem.F.entry_tuple_index (PySem.F.args_tuple_index_2 _ _)
  (SeqAt.tuple_indexAt p its2.toArray n2 dd sl u (λi=>vw ((xs[i]?).getD .non) y) j (by simpa using hj) ?_ ?_) ⟨e2,λi hi=>?_,⟨.int (j:Nat),H2,I2.tok _,⟨_,rfl⟩,q2⟩⟩
 ·rw[hz1,dk];exact hz2
 ·intro m hm
  have hm':m<xs.length:=by have:=(ae.mp hz1).1;lia
  have:=hno m hm _ (ag hm')
  rw[ag hm',dk]
  exact this
 ·have hi':i<its2.length:=by simpa using hi
  have hx:i<xs.length:=by lia
  obtain⟨w,hw,rw_⟩:=rv2.get (ag hx)
  have ew:its2.toArray[i]=w:=by
   rw[ag hi'] at hw
   simpa using Option.some.inj hw
  rw[ew,ag hx,dk]
  exact BQ rw_ ru (cK.mp fx _ (dM hx)) fy
theorem Jw(ho:QE X o to)(ha:QA X [e] t)
  (hbase:attributeBase o "index" X.env (eval o X.env)=eval o X.env:=by rfl)
  (hfew:((backTo cpos (starEach [e] X.env)).all (λx=>!x.1)&&(backToKw cpos (keywordEach [] X.env)).all (λx=>x.1.isSome)
   && decide (([e]).length+([]:List Keyword).length+(if([]:List Keyword).isEmpty then 0 else 1)<30))=true:=by rfl)
  (hline:(apos.endLine==cpos.line)=true:=by rfl) (hs:starEach [e] X.env=(false,eval e X.env)::starEach [] X.env:=by rfl) (hplain:(backTo cpos (starEach [] X.env)).any (·.1)=false:=by rfl) :
  QE X (.Call (.Attribute o "index" apos) [e] [] cpos) (Hk X.K to t):=⟨Ja ho.up ha.up hbase hfew hline hs hplain⟩
end
section
variable{X:Cx}{C:Addr}{m x:Str}{ps:List Str}{k:Nat}{sp:Sp}{e:Expr}{es:List Expr}{t:TA}{p pos apos:Pos}
end
section
variable{prog:Program}{w:World}{K:Type}[DecidableEq K]{knd:KeyKind prog w K}{A:Around}{E:Value->Shared->Prop}{s:Shared}
inductive qU:Value->Prop
 |int (i:Int) (t:Tok):qU (.int i t)
 |str (x:Str) (t:Tok):qU (.str x t)
theorem yb{u:Value}(h:qU u):carriedByValue u=true:=by cases h<;>rfl
theorem Ba{h:Heap}{ks:List K}{b:Addr}(x:IsTupleKey knd h ks b):∃items,h.IsTuple b items:=by
 obtain⟨o,items,n,ho,hc,hd,_⟩:=x
 exact⟨items,o,ho,hc,n,hd⟩
theorem Dn{ks:List K}{b:Addr}{u:Value}{Q:Bool->Shared->Prop}(hu:A.units<cLine)(x:IsTupleKey knd s.heap ks b)(f:qU u)(h:Q false s):wpAny (model prog w) A (eqBool (.ref b) u) Q E s:=by
 obtain⟨items,hi⟩:=Ba x
 cases f with
 |int i t=>exact SeqAt.EqAt.tuple_int i t hi hu prog w E Q h
 |str y t=>exact SeqAt.EqAt.tuple_str y t hi hu prog w E Q h
theorem xq{u:Value}{stored:List Value}{Q:Bool->Shared->Prop}(f:qU u)(hst:∀v∈stored,∃k' b,v=.ref b/\IsTupleKey knd s.heap k' b)(h:Q false s):wpAny (model prog w) A (tableMayTell u stored) Q E s:=by
 unfold tableMayTell
 split
 ·exact wpAny_pure h
 ·rw[eqIsQuiet_byValue _ (yb f)]
  refine wpAny_bind (wpAny_pure ?_)
  simp only[Bool.not_true,Bool.false_eq_true,if_false]
  refine wpAny_bind ?_
  refine wpAny_forIn_list _ (λrest r s'=>s'=s/\r=(none,())/\∀v∈rest,∃k' b,v=.ref b/\IsTupleKey knd s.heap k' b) _ ?_ ?_ _ _ ⟨rfl,rfl,hst⟩
  ·rintro x rest r s' ⟨rfl,rfl,hr⟩
   obtain⟨k',b,rfl,hb⟩:=hr x bw
   refine wpAny_bind (wpAny_eqIsQuiet_tuple hb ?_)
   simp only[Bool.not_true,Bool.false_eq_true,if_false]
   exact wpAny_pure ⟨rfl,rfl,λv hv=>hr v (bF _ hv)⟩
  ·rintro r s' ⟨rfl,rfl,_⟩
   exact wpAny_pure h
theorem Ex{d:Addr}{o:Obj}{es ep}{xs:List (List K×Addr×Value)}{u:Value}{hh:Int}{Q:Option Nat->Shared->Prop}(hu:A.units<cLine)(f:qU u)(ho:s.heap.get? d=some o)(hd:o.data=.dict es ep)(he:es.toList=xs.map (entryOfKey (tupleKind knd)))(his:∀x∈xs,IsTupleKey knd s.heap x.1 x.2.1)(ne:xs≠[])
  (h:Q none s):wpAny (model prog w) A (dictFind d u hh) Q E s:=by
 have hmem:∀e∈es,∃x∈xs,e=entryOfKey (tupleKind knd) x:=by
  intro e hin
  have:e∈xs.map (entryOfKey (tupleKind knd)):=he ▸ Array.mem_toList_iff.mpr hin
  obtain⟨x,hx,rfl⟩:=eV.mp this
  exact⟨x,hx,rfl⟩
 have hpl:∀i∈placesWithHash es.size (λi=>es[i]?.map (·.hash)) hh,∃k' b v,es[i]?=some ⟨hh,.ref b,v⟩/\IsTupleKey knd s.heap k' b:=λi hi=>by
  unfold placesWithHash at hi
  obtain⟨h1,h2⟩:=df.mp hi
  have h1:=ff.mp h1
  obtain⟨x,hx,e⟩:=hmem es[i] (Array.getElem_mem h1)
  refine⟨x.1,x.2.1,x.2.2,?_,his x hx⟩
  have ee:es[i]?=some es[i]:=eP h1
  dsimp only at h2
  rw[ee] at h2 ⊢
  have h2:es[i].hash=hh:=by simpa using h2
  rw[e] at h2 ⊢
  rw[<-h2];rfl
 have hst:∀v∈(placesWithHash es.size (λi=>es[i]?.map (·.hash)) hh).filterMap (λi=>es[i]?.map (·.key)),∃k' b,v=.ref b/\IsTupleKey knd s.heap k' b:=by
  intro v hv
  obtain⟨i,h1,hi⟩:=fo.mp hv
  obtain⟨k',b,v',e,hk⟩:=hpl i h1
  rw[e] at hi
  exact⟨k',b,(by simpa using hi.symm),hk⟩
 unfold dictFind
 try with_reducible refine wpAny_holding ?_
 refine wpAny_bind (wpAny_dictEntries ho hd ?_)
 have hp0:((u::(placesWithHash es.size (λi=>es[i]?.map (·.hash)) hh).filterMap (λi=>es[i]?.map (·.key))).all carriedByValue)=true->placesWithHash es.size (λi=>es[i]?.map (·.hash)) hh=[]:=λhall=>by
  cases hp:placesWithHash es.size (λi=>es[i]?.map (·.hash)) hh with
  |nil=>rfl
  |cons i r=>
   exfalso
   obtain⟨k',b,v,e,_⟩:=hpl i (by rw[hp];exact bw)
   rw[cK] at hall
   have:=hall (.ref b) (bF _ (fo.mpr ⟨i,by rw[hp];exact bw,by rw[e];rfl⟩))
   cases this
 have hns:¬(((placesWithHash es.size (λi=>es[i]?.map (·.hash)) hh).filterMap (λi=>es[i]?.map (·.key)))==[u])=true:=λz=>by
  have z:=eq_of_beq z
  obtain⟨k',b,e,_⟩:=hst u (by rw[z];exact bw)
  rw[e] at f;cases f
 have hal:¬(es.all λe=>isExactStrKey e.key)=true:=λz=>by
  obtain⟨x,r,rfl⟩:∃x r,xs=x::r:=by
   cases xs with
   |nil=>exact absurd rfl ne
   |cons x r=>exact⟨x,r,rfl⟩
  rw[<-Array.all_toList,he,cg,mQ] at z
  cases z
 have f0:=f
 cases f with
 |int i t=>
  dsimp only
  by_cases hall:((Value.int i t::(placesWithHash es.size (λi=>es[i]?.map (·.hash)) hh).filterMap (λi=>es[i]?.map (·.key))).all carriedByValue)=true
  ·rw[if_pos hall,hp0 hall]
   unfold dictWalkPlain
   exact wpAny_bind (wpAny_pure (wpAny_pure h))
  ·rw[if_neg hall,if_neg hns]
   refine wpAny_bind (xq f0 hst ?_)
   rw[if_neg (by simp)]
   refine wpAny_bind ?_
   refine wpAny_forIn_list _ (λrest r s'=>s'=s/\r=(none,none)/\∀i∈rest,∃k' b v,es[i]?=some ⟨hh,.ref b,v⟩/\IsTupleKey knd s.heap k' b) _ ?_ ?_ _ _ ⟨rfl,rfl,hpl⟩
   ·rintro x rest r s' ⟨rfl,rfl,hr⟩
    obtain⟨k',b,v,e,hk⟩:=hr x bw
    rw[e]
    dsimp only
    rw[if_pos (by simp)]
    refine wpAny_bind (wpAny_dictEpoch ho hd (wpAny_bind (Dn hu hk f0 (wpAny_bind (wpAny_dictEpoch ho hd ?_)))))
    rw[if_neg (by simp)]
    simp only[Bool.false_eq_true,if_false]
    refine wpAny_bind (wpAny_rule ?_)
    first|rw[if_neg (by simp)]|skip
    exact wpAny_pure ⟨rfl,rfl,λi hi=>hr i (bF _ hi)⟩
   ·rintro r s' ⟨rfl,rfl,_⟩
    exact wpAny_pure h
 |str y t=>
  dsimp only
  rw[if_neg hal]
  by_cases hall:((Value.str y t::(placesWithHash es.size (λi=>es[i]?.map (·.hash)) hh).filterMap (λi=>es[i]?.map (·.key))).all carriedByValue)=true
  ·rw[if_pos hall,hp0 hall]
   unfold dictWalkPlain
   exact wpAny_bind (wpAny_pure (wpAny_pure h))
  ·rw[if_neg hall,if_neg hns]
   refine wpAny_bind (xq f0 hst ?_)
   rw[if_neg (by simp)]
   refine wpAny_bind ?_
   refine wpAny_forIn_list _ (λrest r s'=>s'=s/\r=(none,none)/\∀i∈rest,∃k' b v,es[i]?=some ⟨hh,.ref b,v⟩/\IsTupleKey knd s.heap k' b) _ ?_ ?_ _ _ ⟨rfl,rfl,hpl⟩
   ·rintro x rest r s' ⟨rfl,rfl,hr⟩
    obtain⟨k',b,v,e,hk⟩:=hr x bw
    rw[e]
    dsimp only
    rw[if_pos (by simp)]
    refine wpAny_bind (wpAny_dictEpoch ho hd (wpAny_bind (Dn hu hk f0 (wpAny_bind (wpAny_dictEpoch ho hd ?_)))))
    rw[if_neg (by simp)]
    simp only[Bool.false_eq_true,if_false]
    refine wpAny_bind (wpAny_rule ?_)
    first|rw[if_neg (by simp)]|skip
    exact wpAny_pure ⟨rfl,rfl,λi hi=>hr i (bF _ hi)⟩
   ·rintro r s' ⟨rfl,rfl,_⟩
    exact wpAny_pure h
end
section
variable{prog:Program}{w:World}{K:Type}[DecidableEq K]{knd:KeyKind prog w K}
theorem t9(d:Addr)(hd:(d==sysModules)=false){u:Value}(f:qU u)(dflt:Value) :
  MeetsIn prog w (Builtin.«dict.get» ⟨[.ref d,u,dflt],[]⟩) (λA R s=>A.in1.units<cLine/\∃xs:List (List K×Addr×Value),xs≠[]/\s.heap.DictOfH (tupleKind knd) d xs/\∀tk,R (.ok (.ret dflt)) {s with toks:=tk}):=
 .of_wp λA R s ⟨hu,xs,ne,⟨o,es,ep,ho,hc,hdd,he,his,hn⟩,h⟩=>by
  have key:wpAny (model prog w) A.in1 (dictGet d u) (λr s'=>r=none/\∃tk,s'={s with toks:=tk}) (λ_ _=>False) s:=by
   unfold dictGet
   try with_reducible refine wpAny_holding ?_
   have fin:∀(hh:Int) (tk:Nat),wpAny (model prog w) A.in1 (dictFind d u hh >>= λr=>match r with
     |some i=>do let es <-dictEntries d (keyPart u);pure ((es[i]?).map (·.val))
     |none=>pure none) (λr s'=>r=none/\∃tk,s'={s with toks:=tk}) (λ_ _=>False) {s with toks:=tk}:=λhh tk=>by
    refine wpAny_bind (Ex (knd:=knd) (s:={s with toks:=tk}) hu f ho hdd he his ne ?_)
    exact wpAny_pure ⟨rfl,tk,rfl⟩
   cases f with
   |int i t=>exact wpAny_bind ((d9 prog w).pyHash (k:=.inl i) (v:=.int i t) (qY (k:=.inl i) ⟨t,rfl⟩) (fin _ _))
   |str y t=>exact wpAny_bind ((d9 prog w).pyHash (k:=.inr y) (v:=.str y t) (qY (k:=.inr y) ⟨t,rfl⟩) (fin _ _))
  show wpAny _ _ (dictGet d u >>= _) _ _ s
  refine wpAny_bind (wpAny_mono key (λr s' hr=>?_) (λe s' x=>False.elim x))
  obtain⟨rfl,tk,rfl⟩:=hr
  show wpAny _ _ (Builtin.Dict.missed d u >>= _) _ _ _
  exact wpAny_bind (wpAny_missed_other hd (wpAny_pure ⟨dflt,rfl,h tk⟩))
end
def Mm(H:Hp)(a:Addr)(y:V):Prop:=∃kvs:List (List dm×V),kvs≠[]/\H a=some (.dT kvs)/\((∃i,y=.int i)\/∃x,y=.str x)
def sS(td ty tx:TE):TE:=λσ H Q=>td σ H λx H1=>∃a,x=.ref a/\N1 H1 a/\ty σ H1 λy H2=>tx σ H2 λz H3=>(∃o,rV H3 a y o/\Q (o.getD z) H3)\/(Mm H3 a y/\Q z H3)
section
variable{X:Cx}{o e f:Expr}{apos cpos:Pos}{td ty tx:TE}
theorem Io{pins:List (Addr×Obj)}{σ:St}{H:Hp}{s:Shared}{a:Addr}{y d:V}{u r:Value}{A:Around}{E:Value->Shared->Prop}{Q:Value->Shared->Prop}(hu:A.units+1<cLine)(I:bT X pins σ H s)(g:Mm H a y)(ry:c6 y u)(rd:c6 d r)(h:∀s',bT X pins σ H s'->Q r s') :
  wpAny (model X.prog X.w) A (call (.builtin "dict.get") [.ref a,u,r]) Q E s:=by
 obtain⟨kvs,ne,e,fl⟩:=g
 obtain⟨z,hd,xs,rel,dd⟩:=J7 I.hok e
 have f:qU u:=by
  rcases fl with⟨i,rfl⟩|⟨x,rfl⟩
  ·obtain⟨t,rfl⟩:=ry;exact .int i t
  ·obtain⟨t,rfl⟩:=ry;exact .str x t
 have nx:xs≠[]:=λq=>ne (by have:=Paired.length rel;rw[q] at this;exact cx.mp this)
 exact call_meetsIn fN dd.typeIs gQ (gF _ _ _) (t9 (knd:=iB X.prog X.w) a hd f r) ⟨hu,xs,nx,dd,λtk=>h _ (I.tok _)⟩
theorem EY(hu:X.A.units+1<cLine)(ho:QE X o td)(he:QE X e ty)(hf:QE X f tx)(m:M2 X o "get" apos e f cpos):QE X (.Call (.Attribute o "get" apos) [e,f] [] cpos) (sS td ty tx):=⟨by
 intro pins s σ H Q I h
 refine wpAny_Call_method m.base m.few m.line PySem.F.plainAttrs_dict fN PySem.F.type_dict_get (fE (ho.up pins s σ H _ I h) λu s1 ⟨x,H1,I1,rx,a,ex,d,q1⟩=>?_)
 subst ex
 obtain rfl:u=Value.ref a:=rx
 obtain⟨t1,t2,_⟩:=KN I1 d
 refine⟨t1,t2,?_⟩
 rw[m.trees]
 refine Calls.callWith_builtin rfl (Calls.evalArgs_plain (Calls.spliced_cons (fE (he.up pins s1 σ H1 _ I1 q1) λiv s2 ⟨y,H2,I2,ry,q2⟩=>
  Calls.spliced_cons (fE (hf.up pins s2 σ H2 _ I2 q2) λfv s3 ⟨z,H3,I3,rz,q3⟩=>Calls.spliced_nil ?_))))
 rcases q3 with⟨ov,g,q3⟩|⟨g,q3⟩
 ·exact KC hu I3 g ry rz λw' s4 I4 rw'=>⟨_,H3,I4,rw',q3⟩
 ·exact Io hu I3 g ry rz λs4 I4=>⟨_,H3,I4,rz,q3⟩⟩
end
end L2
end
section
namespace BgRev
open PySem
theorem uk:Manifest.owners.lookup (String.ofList ['d','e','s','r','e','v','e','r'].reverse)=some Manifest.sig_reversed:=by kernel_rfl
theorem pb:Slot "reversed" "__next__" "reversed.__next__":=
 .of (owner:="reversed") (n:="__next__") (by rw[typeLookup_type,builtinLookup_eq_fast];kernel_rfl) (by decide +kernel) (by decide +kernel)
  (by decide +kernel) (by first|exact .inl (by decide +kernel)|exact .inr (by decide +kernel))
  (by rw[isSubtype_type];kernel_rfl)
theorem m9:entryFor table "reversed.__next__"=some Builtin.«reversed.__next__»:=entryFor_of_tree (by kernel_rfl)
theorem pd(v:Value):argsOk "reversed.__next__" ⟨[v],[]⟩:=by
 unfold argsOk
 rw[signature?_of (id:="reversed.__next__") (n:=['_','_','t','x','e','n','_','_']) (o:=['d','e','s','r','e','v','e','r']) (by kernel_rfl) uk]
 kernel_rfl
theorem DD:Slot "reversed" "__iter__" "reversed.__iter__":=
 .of (owner:="reversed") (n:="__iter__") (by rw[typeLookup_type,builtinLookup_eq_fast];kernel_rfl) (by decide +kernel) (by decide +kernel)
  (by decide +kernel) (by first|exact .inl (by decide +kernel)|exact .inr (by decide +kernel))
  (by rw[isSubtype_type];kernel_rfl)
theorem vJ:entryFor table "reversed.__iter__"=some Builtin.«dict_keyiterator.__iter__»:=
 entryFor_alias (id':="dict_keyiterator.__iter__") (by kernel_rfl) rfl (by decide +kernel) (by kernel_rfl)
theorem yF(v:Value):argsOk "reversed.__iter__" ⟨[v],[]⟩:=by
 unfold argsOk
 rw[signature?_of (id:="reversed.__iter__") (n:=['_','_','r','e','t','i','_','_']) (o:=['d','e','s','r','e','v','e','r']) (by kernel_rfl) uk]
 kernel_rfl
theorem JP:Slot "reversed" "__init__" "object.__init__":=
 .of (owner:="object") (n:="__init__") (by rw[typeLookup_type,builtinLookup_eq_fast];kernel_rfl) (by decide +kernel) (by decide +kernel)
  (by decide +kernel) (by first|exact .inl (by decide +kernel)|exact .inr (by decide +kernel))
  (by rw[isSubtype_type];kernel_rfl)
theorem qz:TypeCalled "reversed" "reversed.__new__" "object.__init__":=
 ⟨by decide +kernel,by decide +kernel,⟨_,_,F.mro_reversed⟩,F.made_reversed,by decide +kernel,by rw[isSubtype_type];kernel_rfl,JP⟩
theorem J0:typeLookup (.type "tuple") "__reversed__"=pure none:=by rw[typeLookup_type,builtinLookup_eq_fast];kernel_rfl
end BgRev
end
section
namespace BgRev
open PySem PyProof.Rows
section
variable{prog:Program}{w:World}{A:Around}{E:Value->Shared->Prop}{s:Shared}
def rvObj(l:Addr)(i:Int):Obj:={cls:=.type "reversed",data:=.fields #[.ref l,rawInt i]}
theorem IM{l:Addr}{its:Array Value}{Q:Value->Shared->Prop}(hl:IsTup s.heap l its)(hz:(its.size:Int)<2 ^ 63)
  (h:Q (.ref s.heap.objs.size) {s with heap:=s.heap.push (rvObj l ((its.size:Int)-1)),toks:=s.toks+1+1}) :
  codeAny (model prog w) A (.call (.builtin "reversed.__new__") ⟨[.type "reversed",.ref l],[]⟩) (wants Q E) s:=by
 refine codeAny_of_tree ?_
 show wpAny _ A.in1 (checkBuiltinCall "reversed.__new__" ⟨[.type "reversed",.ref l],[]⟩ >>= λ_=>again (.builtin "reversed.__new__" ⟨[.type "reversed",.ref l],[]⟩)) _ _ s
 refine wpAny_bind (wpAny_of_eq (F.newCall_reversed_1 _) (wpAny_pure ⟨plainId_quiet F.plain_reversed_new _,codeAny_builtin F.entry_reversed_new ?_⟩))
 rw[Around.under_plainId F.plain_reversed_new _]
 unfold Builtin.«reversed.__new__»
 refine wpAny_bind (wpAny_of_eq (newClass_reversed _) ?_)
 try dsimp only
 refine wpAny_bind (wpAny_of_eq (a:=()) (by first|rfl|kernel_rfl) ?_)
 refine wpAny_bind (wpAny_of_eq (a:=()) (by first|rfl|kernel_rfl) ?_)
 try dsimp only
 have ht:s.TypeIs (.ref l) "tuple":=hl.typeIs
 refine wpAny_bind (wpAny_specialOf ht J0 ?_)
 refine wpAny_bind ?_
 wp_delta
 refine wpAny_bind (wpAny_isInstance (T:="tuple") (b:=false) ht F.sub_tuple_dict ?_)
 simp only[Bool.false_eq_true,if_false]
 refine wpAny_bind (wpAny_specialOf ht F.slot_tuple_getitem.lookup ?_)
 refine wpAny_ite_split (λ_=>?_) (λc=>absurd (by decide +kernel) c)
 refine wpAny_pure ?_
 simp only[Bool.not_true,Bool.false_eq_true,if_false]
 refine wpAny_bind (len_tuple hl hz ?_)
 refine wpAny_bind (wpAny_of_eq (a:=some (its.size:Int)) rfl ?_)
 dsimp only
 refine wpAny_bind ?_
 unfold Builtin.SmallTypes.newRecord
 exact wpAny_newObj_type (wpAny_pure h)
def RvAt(h:Heap)(it l:Addr)(i:Int):Prop:=h.get? it=some {cls:=.type "reversed",dict:=none,data:=.fields #[.ref l,.int i 0],slots:=#[]}
theorem RvAt.type{it l:Addr}{i:Int}(x:RvAt s.heap it l i):s.TypeIs (.ref it) "reversed":=⟨_,x,rfl⟩
theorem call_rev{l:Addr}{its:Array Value}{Q:Value->Shared->Prop}(hl:IsTup s.heap l its)(hz:(its.size:Int)<2 ^ 63)
  (h:∀tk,Q (.ref s.heap.objs.size) {s with heap:=s.heap.push (rvObj l ((its.size:Int)-1)),toks:=tk}):wpAny (model prog w) A (call (.type "reversed") [.ref l]) Q E s:=by
 refine callType_codes (Q₁:=λv s1=>v=.ref s.heap.objs.size/\s1={s with heap:=s.heap.push (rvObj l ((its.size:Int)-1)),toks:=s.toks+1+1}) qz (F.typeCall_reversed_1 _) F.entry_object_init
  (IM hl hz ⟨rfl,rfl⟩) ?_
 rintro obj s1 ⟨rfl,rfl⟩
 have ht:Shared.TypeIs {s with heap:=s.heap.push (rvObj l ((its.size:Int)-1)),toks:=s.toks+1+1} (.ref s.heap.objs.size) "reversed":=⟨_,aM _ rfl,rfl⟩
 exact⟨ht,F.args_object_init_2 _ _,object_init_meets qz.init.lookup qz.made (by decide) prog w A.in1 _ _ ⟨ht,rfl,h _⟩⟩
theorem next_rev{it l:Addr}{i:Nat}{its:Array Value}{x:Value}{Q:Option Value->Shared->Prop}(hit:RvAt s.heap it l (i:Int))(hl:IsTup s.heap l its)
  (hz:(its.size:Int)<2 ^ 63) (hx:its[i]?=some x) (hQ:∀h' tk,RvAt h' it l ((i:Int)-1)->Heap.SameBut it s.heap h'->Q (some x) {s with heap:=h',toks:=tk}):wpAny (model prog w) A (pyNext (.ref it)) Q E s:=by
 unfold pyNext
 refine wpAny_bind (wpAny_attempt (wpAny_callSpecial?_slot (name:=Str.ofString "__next__") hit.type pb (wpAny_call_entry pb hit.type m9 ?_ (pd _))))
 unfold Builtin.«reversed.__next__»
 refine wpAny_bind (m:=slotArgs _ _ _) (wpAny_pure ?_)
 refine wpAny_bind (wpAny_field hit rfl (x:=.ref l) rfl ?_)
 refine wpAny_bind (wpAny_field hit rfl (x:=.int (i:Int) 0) rfl ?_)
 dsimp only
 rw[if_neg (by omega)]
 have ht:s.TypeIs (.ref l) "tuple":=hl.typeIs
 refine wpAny_bind (wpAny_specialOf ht F.slot_tuple_getitem.lookup ?_)
 simp only[Option.isNone_some,Bool.false_eq_true,if_false]
 have hlt:i<its.size:=(Array.getElem?_eq_some_iff.mp hx).1
 refine wpAny_bind (wpAny_mkInt ?_)
 refine wpAny_bind (wpAny_attempt (getItem_tuple (s:={s with toks:=s.toks+1}) (j:=i) hl (by omega) (by omega) (by unfold seqIndex?;rw[if_neg (show ¬((i:Int)<0) by omega)];simp;omega) hx ?_))
 dsimp only
 refine wpAny_bind (wpAny_field hit rfl (x:=.int (i:Int) 0) rfl ?_)
 dsimp only
 refine wpAny_bind (wpAny_setField_rec (s:={s with toks:=s.toks+1}) hit (by simp) λh1 g1 sb1=>?_)
 refine wpAny_pure ⟨_,rfl,wpAny_pure (hQ h1 _ ?_ sb1)⟩
 unfold RvAt
 rw[g1]
 simp[rawInt]
theorem stop_rev{it l:Addr}{Q:Option Value->Shared->Prop}(hh:A.handled=none)(hit:RvAt s.heap it l (-1))(hQ:∀h',Heap.ExtBut it s.heap h'->Q none {s with heap:=h'}):wpAny (model prog w) A (pyNext (.ref it)) Q E s:=by
 unfold pyNext
 refine wpAny_bind (wpAny_attempt (wpAny_callSpecial?_slot (name:=Str.ofString "__next__") hit.type pb (wpAny_call_entry pb hit.type m9 ?_ (pd _))))
 unfold Builtin.«reversed.__next__»
 refine wpAny_bind (m:=slotArgs _ _ _) (wpAny_pure ?_)
 refine wpAny_bind (wpAny_field hit rfl (x:=.ref l) rfl ?_)
 refine wpAny_bind (wpAny_field hit rfl (x:=.int (-1) 0) rfl ?_)
 dsimp only
 rw[if_pos (by decide)]
 refine wpAny_bind (wpAny_rule ?_)
 refine wpAny_bind ?_
 wp_delta
 refine wpAny_bind (wpAny_setField_rec hit (by simp) λh1 g1 sb1=>?_)
 refine wpAny_setField_rec g1 (by simp) λh2 g2 sb2=>?_
 refine wpAny_bind ?_
 unfold Builtin.SmallTypes.stopIteration
 refine wpAny_bind ?_
 simp only[newExc,newTuple]
 refine wpAny_bind (wpAny_newObj_type ?_ (by size_fits))
 refine wpAny_bind (m:=firstArgMember _ _) (wpAny_of_eq (a:=Value.none) (by first|rfl|(simp only[firstArgMember];rfl)) ?_)
 refine wpAny_newObj_type ?_ (by size_fits)
 simp only[raiseNew]
 refine wpAny_bind (wpAny_handled ?_)
 rw[show A.in1.handled=none from hh]
 refine wpAny_bind (wpAny_pure (wpAny_throw ?_))
 refine wpAny_bind (wpAny_isInstance (T:="StopIteration") (b:=true) ⟨_,aM _ rfl,rfl⟩ isSubtype_stop ?_)
 exact wpAny_pure (hQ _ (((sb1.trans sb2).extBut.push _).push _))
theorem self_rev{it l:Addr}{i:Int}{Q:Value->Shared->Prop}(hit:RvAt s.heap it l i)(h:Q (.ref it) s):wpAny (model prog w) A (pyIter (.ref it)) Q E s:=by
 refine wpAny_pyIter_slot hit.type DD (wpAny_call_entry DD hit.type vJ ?_ (yF _))
 show wpAny _ _ (ret (.ref it)) _ _ s
 exact wpAny_pure ⟨_,rfl,"reversed",_,hit.type,pb.lookup,h⟩
end
end BgRev
end
section
namespace L2
open PySem PySem.Spec PyProof.Rows
def FC(K:Fg)(a:Addr)(xs:List V):It:=
 ⟨λi H=>b4 K H a xs/\i<xs.length,λi H x H'=>H'=H/\xs.reverse[i]?=some x,λi H=>b4 K H a xs/\xs.length<=i⟩
theorem Hw{P:Program}{w:World}{K:Fg}{tg:Expr}(a it:Addr)(xs:List V)(hz0:xs.length<=sizeLine):vp P w K tg (FC K a xs) [it] it (λi h=>BgRev.RvAt h it a ((xs.length:Int)-1-(i:Int))/\i<=xs.length) where
 mem:=by simp
 obj:=λi h st b hb=>by
  have e:b=it:=by simpa using hb
  subst e
  exact⟨_,st.1,λv z=>by have z':Data.fields _=Data.cell v:=z;cases z'⟩
 keep:=λi h h' st k=>⟨k it (by simp) _ st.1,st.2⟩
 item:=by
  intro X hP hw hK hc i pins s σ H E I hf st hg
  subst hP hw hK
  obtain⟨hq,hi⟩:=hg
  obtain⟨its,rv,p,hz⟩:=I.tuple hq
  have rl:=rv.length
  obtain⟨x,hx⟩:∃x,xs[xs.length-1-i]?=some x:=⟨_,ag (by lia)⟩
  obtain⟨u,hu,ru⟩:=rv.get hx
  obtain⟨f0,f1,f2,f3,f4,f5⟩:=hf it (by simp)
  have st1:=st.1
  rw[show(xs.length:Int)-1-(i:Int)=((xs.length-1-i:Nat):Int) by lia] at st1
  have hzz:(its.toArray.size:Int)<2 ^ 63:=by
   have:its.toArray.size<=sizeLine:=by rw[aA,<-rl];exact hz
   have h2:sizeLine<2 ^ 63:=by decide
   lia
  refine BgRev.next_rev st1 p hzz (x:=u) (by simpa using hu) λh' tk st' sb=>?_
  have I1:bT X pins σ H {s with heap:=h',toks:=tk}:=I.turned (t':=tk) (λb o hb e=>(sb.2 b hb).trans e) f0 f1 f3 f4 f5
  have hrv:xs.reverse[i]?=some x:=by
   rw[List.getElem?_reverse hi];exact hx
  refine⟨u,rfl,Dp (s:={s with heap:=h',toks:=tk}) st' rfl rfl (by decide) ⟨x,H,I1,ru,⟨rfl,hrv⟩,⟨?_,hi⟩,λb hb=>(hf b hb).1⟩⟩
  rw[show(xs.length:Int)-1-((i+1:Nat):Int)=((xs.length-1-i:Nat):Int)-1 by lia]
  exact st'
 done:=by
  intro X hP hw hK hc i pins s σ H E I hf st hg
  subst hP hw hK
  obtain⟨hq,hx⟩:=hg
  obtain⟨f0,f1,f2,f3,f4,f5⟩:=hf it (by simp)
  have st1:=st.1
  have st2:=st.2
  rw[show(xs.length:Int)-1-(i:Int)=-1 by lia] at st1
  exact BgRev.stop_rev (I.ok.hd hc) st1 λh' eb=>⟨rfl,I.turned (t':=s.toks) (λb o hb e=>eb b o hb e) f0 f1 f3 f4 f5⟩
 self:=λ_ _ _ _ _ st h=>BgRev.self_rev st.1 h
section
variable{X:Cx}{tg:Expr}
def Gk(K:Fg)(tl:TA):TI:=λσ H R=>tl σ H λvs H1=>∃a xs,vs=[.ref a]/\b4 K H1 a xs/\R (FC K a xs) H1
theorem Jg{a:Expr}{ta:TA}{p pos:Pos}(hg:Gl X "reversed")(hm:X.mg "reversed"=none)(ha:PA X [a] ta)(hs:starEach [a] X.env=[(false,eval a X.env)]:=by rfl) :
  PI X tg (.Call (.Name "reversed" p) [a] [] pos) (Gk X.K ta):=by
 intro pins s σ H R I h
 refine Call_ (jo I hg hm boot_reversed (bL (fE (ha pos pins s σ H _ I h) λus s1 ⟨vs,H1,I1,r1,q1⟩=>?_) hs rfl))
 obtain⟨l,xs,e,hq,q⟩:=q1
 subst e
 cases r1 with
 |cons r rr=>
  cases rr
  cases r
  obtain⟨its,rv,p,hz⟩:=I1.tuple hq
  have rl:=rv.length
  have hzz:(its.toArray.size:Int)<2 ^ 63:=by
   have:its.toArray.size<=sizeLine:=by rw[aA,<-rl];exact hz
   have h2:sizeLine<2 ^ 63:=by decide
   lia
  refine BgRev.call_rev p hzz λtk=>?_
  have at_:BgRev.RvAt (s1.heap.push (BgRev.rvObj l ((its.toArray.size:Int)-1))) s1.heap.objs.size l ((xs.length:Int)-1-((0:Nat):Int)):=by
   have:(s1.heap.push (BgRev.rvObj l ((its.toArray.size:Int)-1))).get? s1.heap.objs.size=some (BgRev.rvObj l ((its.toArray.size:Int)-1)):=aM _ rfl
   unfold BgRev.RvAt
   rw[this,aA,<-rl]
   simp[BgRev.rvObj,rawInt]
  refine BgRev.self_rev (s:={s1 with heap:=s1.heap.push (BgRev.rvObj l ((its.toArray.size:Int)-1)),toks:=tk}) at_ ?_
  refine⟨s1.heap.objs.size,[s1.heap.objs.size],_,_,H1,rfl,I1.kept (t':=tk) λb o e=>av _ e,Hw l _ xs hz,⟨at_,bQ _⟩,λb hb=>?_,q⟩
  have e:b=s1.heap.objs.size:=by simpa using hb
  subst e
  exact I1.fpOk (ay _) (I1.hok.fresh (ay _))
theorem JA{a:Expr}{ta:TA}{p pos:Pos}(hg:Gl X "reversed")(hm:X.mg "reversed"=none)(ha:QA X [a] ta)(hs:starEach [a] X.env=[(false,eval a X.env)]:=by rfl) :
  QI X tg (.Call (.Name "reversed" p) [a] [] pos) (Gk X.K ta):=⟨Jg hg hm ha.up hs⟩
end
theorem Iz{K:Fg}{a:Addr}{xs:List V}{g:TG}{tb:TS}{D:jB}{σ:St}{H:Hp}(Pv:Nat->St->Hp->Prop)(h0:Pv 0 σ H)(hl:∀i σ H,i<=xs.length->Pv i σ H->b4 K H a xs)
  (hs:∀i x σ H,xs.reverse[i]?=some x->Pv i σ H->g x σ H λσ2 H2=>tb {D with nx:=Pv (i+1),ct:=Pv (i+1),bk:=D.nx} σ2 H2) (hd:∀σ H,Pv xs.length σ H->D.nx σ H) :
  ∃W:Nat->Nat->St->Hp->Prop,(∃m,W 0 m σ H)/\∀i m σ H,W i m σ H->
   ((FC K a xs).stop i H/\D.nx σ H)\/((FC K a xs).go i H/\∃N:St->Hp->Prop,(∀σ' H',N σ' H'->∃m',m'<m/\W (i+1) m' σ' H')/\∀x H',(FC K a xs).yld i H x H'->g x σ H' λσ2 H2=>tb {D with nx:=N,ct:=N,bk:=D.nx} σ2 H2):=by
 refine⟨λi m σ H=>m=xs.length-i/\i<=xs.length/\Pv i σ H,⟨xs.length,by simp,bQ _,h0⟩,?_⟩
 rintro i m σ H ⟨rfl,hi,p⟩
 have q:=hl i σ H hi p
 by_cases lt:i<xs.length
 ·refine .inr ⟨⟨q,lt⟩,Pv (i+1),λσ' H' p'=>⟨xs.length-(i+1),by lia,rfl,lt,p'⟩,λx H' y=>?_⟩
  obtain⟨e,y⟩:=y
  subst e
  exact hs i x σ _ y p
 ·have e:i=xs.length:=by lia
  subst e
  exact .inl ⟨⟨q,ay _⟩,hd σ H p⟩
end L2
end
section
namespace BgRev
open PySem PySem.Calls PyProof.Rows PyProof.V PySem.Spec
theorem Fd:typeLookup (.type "reversed") "__len__"=pure none:=by rw[typeLookup_type,builtinLookup_eq_fast];kernel_rfl
theorem yD:Slot "reversed" "__length_hint__" "reversed.__length_hint__":=
 .of (owner:="reversed") (n:="__length_hint__") (by rw[typeLookup_type,builtinLookup_eq_fast];kernel_rfl) (by decide +kernel) (by decide +kernel)
  (by decide +kernel) (by first|exact .inl (by decide +kernel)|exact .inr (by decide +kernel))
  (by rw[isSubtype_type];kernel_rfl)
theorem vI:entryFor table "reversed.__length_hint__"=some Builtin.«reversed.__length_hint__»:=entryFor_of_tree (by kernel_rfl)
theorem yE(v:Value):argsOk "reversed.__length_hint__" ⟨[v],[]⟩:=by
 unfold argsOk
 rw[signature?_of (id:="reversed.__length_hint__") (n:=['_','_','t','n','i','h','_','h','t','g','n','e','l','_','_']) (o:=['d','e','s','r','e','v','e','r']) (by kernel_rfl) uk]
 kernel_rfl
section
variable{prog:Program}{w:World}{A:Around}{E:Value->Shared->Prop}{s:Shared}{r l:Addr}
theorem RvAt.at{h h':Heap}{it l:Addr}{i:Int}(x:RvAt h it l i)(e:∀o,h.get? it=some o->h'.get? it=some o):RvAt h' it l i:=e _ x
theorem Gi{its:Array Value}{Q:Bool->Shared->Prop}(hl:IsTup s.heap l its)(hit:RvAt s.heap r l ((its.size:Int)-1))(hn:its.size<=sizeLine)(h:∀b tk,Q b {s with toks:=tk}):wpAny (model prog w) A (Builtin.List.listLengthHint (.ref r)) Q E s:=by
 unfold Builtin.List.listLengthHint
 refine wpAny_bind (wpAny_specialOf hit.type Fd ?_)
 refine wpAny_ite_split (λhab=>absurd hab (by decide)) (λ_=>?_)
 refine wpAny_ite_split (λhab=>absurd hab (by decide)) (λ_=>?_)
 refine wpAny_bind (wpAny_specialOf hit.type yD.lookup ?_)
 generalize hid:("reversed.__length_hint__":String)=id0
 wp_delta
 rw[show splitId id0=some ("reversed","__length_hint__") from by subst hid;decide +kernel]
 subst hid
 refine wpAny_bind (wpAny_isInstance (T:="reversed") (b:=true) hit.type (by rw[isSubtype_type];kernel_rfl) ?_)
 refine wpAny_ite_split (λhab=>absurd hab (by decide)) (λ_=>?_)
 refine wpAny_ite_split (λhab=>absurd hab (by decide +kernel)) (λ_=>?_)
 refine wpAny_bind (wpAny_rule ?_)
 refine wpAny_bind (wpAny_of_eq (yD.bind _) ?_)
 refine wpAny_bind (wpAny_attempt (wpAny_call_entry yD hit.type vI ?_ (yE _)))
 unfold Builtin.«reversed.__length_hint__»
 have hz:(its.size:Int)<2 ^ 63:=by
  have h2:sizeLine<2 ^ 63:=by decide
  lia
 refine wpAny_bind (wpAny_of_eq (a:=Value.ref r) rfl ?_)
 refine wpAny_bind (wpAny_field hit rfl (x:=.ref l) rfl ?_)
 rw[if_neg (show ¬(Value.ref l==Value.none)=true from λz=>nomatch eq_of_beq z)]
 refine wpAny_bind (len_tuple hl hz ?_)
 refine wpAny_bind (wpAny_of_eq (a:=some (its.size:Int)) rfl ?_)
 dsimp only
 refine wpAny_bind (wpAny_field hit rfl (x:=.int ((its.size:Int)-1) 0) rfl ?_)
 dsimp only
 rw[if_neg (by lia)]
 refine wpAny_bind (wpAny_mkInt ?_)
 refine wpAny_pure ⟨_,rfl,?_⟩
 rw[show(its.size:Int)-1+1=(its.size:Int) by lia]
 have g1:Builtin.List.listFitsIndex (its.size:Int)=true:=by
  unfold Builtin.List.listFitsIndex
  rw[Bool.and_eq_true,decide_eq_true_iff,decide_eq_true_iff]
  exact⟨by lia,hz⟩
 have g2:Builtin.List.listTooLong (its.size:Int).toNat=false:=by
  unfold Builtin.List.listTooLong
  rw[decide_eq_false_iff_not,aB]
  exact Nat.not_lt.mpr hn
 have g3:¬((its.size:Int)<0):=by lia
 simp only[asInt?,pure_bind,g1,g2,g3,Bool.not_true,Bool.false_eq_true,if_false]
 exact wpAny_pure (h _ _)
theorem Walks.tupRev(hh:A.handled=none)(I l:Addr)(hne:l≠I)(items:Array Value)(hz:(items.size:Int)<2 ^ 63) :
  Walks prog w A I [I,l] [I] items.size (λi v=>items[items.size-1-i]?=some v) (λi h=>i<=items.size/\RvAt h I l ((items.size:Int)-1-(i:Int))/\IsTup h l items) where
 sub:=λb hb=>by simp at hb;simp[hb]
 frame:=λ_ _ _ x hk=>⟨x.1,hk I (by simp) _ x.2.1,let⟨o,ho,p⟩:=x.2.2;⟨o,hk l (by simp) o ho,p⟩⟩
 item:=λi s Q E hi x hQ=>by
  have e:(items.size:Int)-1-(i:Int)=((items.size-1-i:Nat):Int):=by lia
  have hit:=x.2.1
  rw[e] at hit
  have hx:items[items.size-1-i]?=some (items[items.size-1-i]'(by lia)):=eP (by lia)
  refine next_rev hit x.2.2 hz hx λh' tk hit' hs'=>?_
  have e2:((items.size-1-i:Nat):Int)-1=(items.size:Int)-1-((i+1:Nat):Int):=by lia
  rw[e2] at hit'
  exact hQ _ h' tk hx ⟨hi,hit',let⟨o,ho,p⟩:=x.2.2;⟨o,(hs'.2 l hne).trans ho,p⟩⟩ λb o hb eo=>hs'.extBut b o (λh=>hb (by simp[h])) eo
 done:=λs Q E x hQ=>by
  have e:(items.size:Int)-1-(items.size:Int)=-1:=by lia
  have hit:=x.2.1
  rw[e] at hit
  exact stop_rev hh hit λh' he'=>hQ h' s.toks λb o hb eo=>he' b o (λh=>hb (by simp[h])) eo
 self:=λ_ _ _ _ x hQ=>self_rev x.2.1 hQ
theorem CH{items:Array Value}{R:Result->Shared->Prop}(hh:A.handled=none)(hl:IsTup s.heap l items)(hit:RvAt s.heap r l ((items.size:Int)-1))(hne:l≠r)(S:Addr)(hSr:S≠r)(hSl:S≠l)(res:Value)(c₀:Nat)(hS:s.heap.get? S=some {cls:=.type "list",data:=.seq #[] c₀})
  (hR:∀h' tk acc' c',(∀b o,b≠S->b≠r->s.heap.get? b=some o->h'.get? b=some o)->h'.get? S=some {cls:=.type "list",dict:=none,data:=.seq acc' c',slots:=#[]}->ItemsOf (λi v=>items[items.size-1-i]?=some v) acc' items.size->R (.ok (.ret res)) {s with heap:=h',toks:=tk}) (hn:items.size<=sizeLine) :
  wpAny (model prog w) A.in1 (Builtin.List.listExtendWith (.ref S) (.ref r) res)
   (λfin s'=>match fin with|.done f=>R (.ok f) s'|.again c'=>c'.quiet=true/\codeAny (model prog w) A c' R s') (λe s'=>R (.error e) s') s:=by
 have hSf:S∉[r,l]:=by simp only[aQ,eA,or_false,not_or];exact⟨hSr,hSl⟩
 have hz:(items.size:Int)<2 ^ 63:=by
  have h2:sizeLine<2 ^ 63:=by decide
  lia
 have W:=Walks.tupRev (prog:=prog) (w:=w) (A:=A.in1) hh r l hne items hz
 have key:∀(h:Heap) (c₁ tk:Nat),(0<=items.size/\RvAt h r l ((items.size:Int)-1-((0:Nat):Int))/\IsTup h l items)->(∀b o,b≠S->s.heap.get? b=some o->h.get? b=some o)->
   h.get? S=some {cls:=.type "list",data:=.seq #[] c₁}->codeAny (model prog w) A (.builtin "list.extend.loop" ⟨[.ref S,.ref r,res],[]⟩) R {s with heap:=h,toks:=tk}:=by
  intro h c₁ tk hst hk hS₁
  refine codeAny_extend_loopS W.toS hn S hSf res items.size 0 _ #[] c₁ rfl (bQ _) hst hS₁ (ItemsOf.nil _) λs' acc' c' hm hS' hacc=>?_
  rw[Moved.eq_with hm]
  refine hR s'.heap s'.toks acc' c' (λb o hb hbr e=>hm.heap b o (λhmem=>?_) (hk b o hb e)) hS' hacc
  rcases aQ.mp hmem with e'|hmem
  ·exact hb e'
  ·exact hbr (au.mp hmem)
 have st0:0<=items.size/\RvAt s.heap r l ((items.size:Int)-1-((0:Nat):Int))/\IsTup s.heap l items:=⟨bQ _,(by have e:(items.size:Int)-1-((0:Nat):Int)=(items.size:Int)-1:=(by lia);rw[e];exact hit),hl⟩
 unfold Builtin.List.listExtendWith
 refine wpAny_bind (wpAny_typeOf (T:="reversed") hit.type ?_)
 have h1:Builtin.List.listSameRef (.ref S) (.ref r)=false:=by simp[Builtin.List.listSameRef,hSr]
 have h2:(Value.type "reversed"==Value.type "list")=false:=by decide
 have h3:(Value.type "reversed"==Value.type "tuple")=false:=by decide
 simp only[h1,h2,h3,Bool.or_false,Bool.false_eq_true,if_false]
 refine wpAny_bind (self_rev hit ?_)
 refine wpAny_bind (wpAny_holding (Gi hl hit hn λbb tk0=>?_))
 refine wpAny_ite_split (λ_=>?_) (λ_=>wpAny_pure ⟨plainId_quiet PySem.F.plain_extend_loop _,key _ c₀ _ st0 (λb o _ e=>e) hS⟩)
 refine wpAny_bind (wpAny_rule ?_)
 refine wpAny_bind ?_
 show wpAny _ _ (updateSeq S (·.push .none) >>= λ_=>updateSeq S (·.pop)) _ _ _
 refine wpAny_bind (wpAny_updateSeq (s:={s with toks:=tk0}) hS rfl ?_)
 have hS₂:=eK (Obj.mapSeq (·.push Value.none)) hS rfl
 refine wpAny_updateSeq (hz:=by seq_fits) hS₂ rfl ?_
 have hS₃:=eK (Obj.mapSeq (·.pop)) hS₂ rfl
 refine wpAny_pure ⟨plainId_quiet PySem.F.plain_extend_loop _,key _ _ _ ?_ (λb o hb e=>?_) hS₃⟩
 ·refine W.frame 0 _ _ st0 λb hb o e=>?_
  have hbS:b≠S:=λh=>hSf (h ▸ hb)
  exact(dv _ _ (Ne.symm hbS)).trans ((dv _ _ (Ne.symm hbS)).trans e)
 ·exact(dv _ _ (Ne.symm hb)).trans ((dv _ _ (Ne.symm hb)).trans e)
end
end BgRev
namespace L2
open PySem PySem.Spec PyProof.Rows
section
variable{X:Cx}
end
end L2
end
section
namespace PySem.W
open PySem PySem.Calls PyProof.Rows PyProof.V PySem.Spec Builtin Builtin.Str Builtin.Int
section
variable{prog:Program}{w:World}{A:Around}{E:Value->Shared->Prop}{s:Shared}{r l:Addr}
end
end PySem.W
namespace L2
open PySem PySem.Spec PyProof.Rows
section
variable{X:Cx}
end
section
variable{X:Cx}
end
end L2
end
section
namespace BgRev
open PySem PySem.Calls PyProof.Rows PyProof.V PySem.Spec
section
variable{prog:Program}{w:World}{A:Around}{E:Value->Shared->Prop}{s:Shared}{r l:Addr}
theorem zJ{items:Array Value}{Q:List Value->Shared->Prop}(hh:A.handled=none)(hl:IsTup s.heap l items)(hit:RvAt s.heap r l ((items.size:Int)-1))(hne:l≠r)(hn:items.size<=sizeLine)
  (hQ:∀(h':Heap) tk (acc':Array Value),(∀b o,b≠r->s.heap.get? b=some o->h'.get? b=some o)->ItemsOf (λi v=>items[items.size-1-i]?=some v) acc' items.size->Q acc'.toList {s with heap:=h',toks:=tk}) :
  wpAny (model prog w) A (collect (.ref r)) Q E s:=by
 unfold collect;refine wpAny_bind (wpAny_runValue (codeAny_builtin PySem.F.entry_proto_collect ?_));rw[Around.under_plainId PySem.F.plain_proto_collect _]
 show wpAny _ A.in1 (newList [] >>= λl=>again (.builtin "list.__iadd__" ⟨[l,.ref r],[]⟩)) _ _ s
 refine wpAny_bind (wpAny_newObj_type (wpAny_pure ⟨plainId_quiet PySem.F.plain_list_iadd _,codeAny_builtin PySem.F.entry_list_iadd ?_⟩));rw[Around.under_plainId PySem.F.plain_list_iadd _]
 have lr:r<s.heap.objs.size:=aJ hit
 have ll:l<s.heap.objs.size:=let⟨_,ho,_⟩:=hl;aJ ho
 have hS:(s.heap.push {cls:=.type "list",data:=.seq ([]:List Value).toArray}).get? s.heap.objs.size=some {cls:=.type "list",data:=.seq #[]}:=aM _ rfl
 show wpAny _ A.in1 (Builtin.List.listExtendWith (.ref s.heap.objs.size) (.ref r) (.ref s.heap.objs.size)) _ _ {s with heap:=s.heap.push {cls:=.type "list",data:=.seq ([]:List Value).toArray}}
 refine CH (prog:=prog) (w:=w) (A:=A) (R:=wants _ E) (s:={s with heap:=s.heap.push {cls:=.type "list",data:=.seq ([]:List Value).toArray}}) (items:=items) hh (let⟨o,ho,p⟩:=hl;⟨o,av _ ho,p⟩) (hit.at λo e=>av _ e) hne _ (iW lr) (iW ll) _ 0 hS (λh' tk acc' c' hk hS' hacc=>?_) hn
 show wpAny _ A (load s.heap.objs.size >>= _) _ _ _
 refine wpAny_bind (wpAny_load hS' (wpAny_pure ?_))
 exact hQ h' tk acc' (λb o hb e=>hk b o (aZ (aJ e)) hb (av _ e)) hacc
theorem tQ{items:Array Value}{Q₁:Value->Shared->Prop}(hh:A.handled=none)(hl:IsTup s.heap l items)(hit:RvAt s.heap r l ((items.size:Int)-1))(hne:l≠r)(hn:items.size<=sizeLine)
  (h:∀(h':Heap) tk (acc:Array Value),(∀b o,b≠r->s.heap.get? b=some o->h'.get? b=some o)->ItemsOf (λi v=>items[items.size-1-i]?=some v) acc items.size->Q₁ (.ref h'.objs.size) {s with heap:=h'.push {cls:=.type "tuple",data:=.seq acc},toks:=tk}) :
  codeAny (model prog w) A (.call (.builtin "tuple.__new__") ⟨[.type "tuple",.ref r],[]⟩) (wants Q₁ E) s:=by
 refine codeAny_of_tree ?_
 show wpAny _ A.in1 (do checkBuiltinCall "tuple.__new__" ⟨[.type "tuple",.ref r],[]⟩;again (.builtin "tuple.__new__" ⟨[.type "tuple",.ref r],[]⟩)) _ _ s
 refine wpAny_bind (wpAny_of_eq (PySem.F.newCall_tuple_1 _) (wpAny_pure ⟨plainId_quiet PySem.F.plain_tuple_new _,codeAny_builtin PySem.F.entry_tuple_new ?_⟩))
 rw[Around.under_plainId PySem.F.plain_tuple_new _]
 have hsub:=sub_tuple_self
 have hinit:=init_tuple_lookup
 have hmh:=madeHere_tuple
 have hTI:=hit.type
 wp_walk using wpAny_typeOf hTI,zJ (A:=A.in1) (items:=items) hh hl hit hne hn
 intro h' tk acc hk hacc
 show wpAny _ _ (Builtin.Tuple.tupleExact acc.toList.toArray >>= λv=>ret v) _ _ _
 unfold Builtin.Tuple.tupleExact
 refine wpAny_bind (wpAny_newObj_type ?_ (by show acc.toList.toArray.size<=sizeLine;simp only[iD];rw[hacc.1];exact hn))
 refine wpAny_pure ?_
 have e:acc.toList.toArray=acc:=by simp
 rw[e]
 exact h h' tk acc hk hacc
theorem call_tuple_rvt{items:Array Value}{Q:Value->Shared->Prop}(hh:A.handled=none)(hl:IsTup s.heap l items)(hit:RvAt s.heap r l ((items.size:Int)-1))(hne:l≠r)(hn:items.size<=sizeLine)
  (hQ:∀(h':Heap) tk (acc:Array Value),(∀b o,b≠r->s.heap.get? b=some o->h'.get? b=some o)->ItemsOf (λi v=>items[items.size-1-i]?=some v) acc items.size->Q (.ref h'.objs.size) {s with heap:=h'.push {cls:=.type "tuple",data:=.seq acc},toks:=tk}) :
  wpAny (model prog w) A (call (.type "tuple") [.ref r]) Q E s:=by
 refine callType_codes (Q₁:=λobj s₁=>s₁.TypeIs obj "tuple"/\Q obj s₁) PySem.F.called_tuple (PySem.F.typeCall_tuple_1 _) PySem.F.entry_object_init
  (tQ (A:=A.in1) hh hl hit hne hn λh' tk acc hk hacc=>⟨⟨_,aM _ rfl,rfl⟩,hQ h' tk acc hk hacc⟩) λobj s₁ h₁=>?_
 exact⟨h₁.1,PySem.F.args_object_init_2 obj _,object_init_meets PySem.F.called_tuple.init.lookup PySem.F.called_tuple.made (by decide) prog w A.in1 _ s₁ ⟨h₁.1,rfl,h₁.2⟩⟩
end
end BgRev
namespace L2
open PySem PySem.Spec PyProof.Rows
def uA(K:Fg)(t:TA):TE:=λσ H Q=>t σ H λvs H1=>∃p ys,vs=[.ref p]/\b4 K H1 p ys/\∀l,H1 l=none->Q (.ref l) (upd H1 l (.tup ys.reverse))
section
variable{X:Cx}
theorem Co{a:Expr}{ta:TA}{p1 p2 pos pos2:Pos}(hg:Gl X "tuple")(hg2:Gl X "reversed")(hm:X.mg "tuple"=none)(hm2:X.mg "reversed"=none)(hc:X.calm=true)(ha:PA X [a] ta)
  (hs2:starEach [a] X.env=[(false,eval a X.env)]:=by rfl) (hs:starEach [.Call (.Name "reversed" p2) [a] [] pos2] X.env=[(false,eval (.Call (.Name "reversed" p2) [a] [] pos2) X.env)]:=by rfl) :
  PE X (.Call (.Name "tuple" p1) [.Call (.Name "reversed" p2) [a] [] pos2] [] pos) (uA X.K ta):=by
 intro pins s σ H Q I h
 refine wpAny_Call_Name_kw (jo I hg hm boot_tuple ?_)
 refine bL ?_ hs rfl
 rw[hs]
 show wpAny _ _ (spliced ((false,eval (.Call (.Name "reversed" p2) [a] [] pos2) X.env)::backTo pos [])) _ _ s
 refine Calls.spliced_cons ?_
 refine wpAny_Call_Name_kw (jo I hg2 hm2 boot_reversed ?_)
 refine bL (fE (ha pos2 pins s σ H _ I h) λus s1 ⟨vs,H1,I1,r1,q1⟩=>?_) hs2 rfl
 obtain⟨l,ys,rfl,hq,q⟩:=q1
 obtain⟨u,rfl,rx⟩:=nM r1
 cases rx
 obtain⟨its,rv,pl,hz⟩:=I1.tuple hq
 have ll:l<s1.heap.objs.size:=let⟨_,ho,_⟩:=pl;aJ ho
 have hlen:=rv.length
 have hzz:(its.toArray.size:Int)<2 ^ 63:=by
  have:its.toArray.size<=sizeLine:=by rw[aA,<-hlen];exact hz
  have h2:sizeLine<2 ^ 63:=by decide
  lia
 refine BgRev.call_rev pl hzz λtk1=>Calls.spliced_nil ?_
 have at_:BgRev.RvAt (s1.heap.push (BgRev.rvObj l ((its.toArray.size:Int)-1))) s1.heap.objs.size l ((its.toArray.size:Int)-1):=by
  have:(s1.heap.push (BgRev.rvObj l ((its.toArray.size:Int)-1))).get? s1.heap.objs.size=some (BgRev.rvObj l ((its.toArray.size:Int)-1)):=aM _ rfl
  unfold BgRev.RvAt
  rw[this]
  simp[BgRev.rvObj,rawInt]
 refine BgRev.call_tuple_rvt (s:={s1 with heap:=s1.heap.push (BgRev.rvObj l ((its.toArray.size:Int)-1)),toks:=tk1}) (items:=its.toArray) (I1.ok.hd hc) (let⟨o,ho,p⟩:=pl;⟨o,av _ ho,p⟩) at_ (aZ ll) (by rw[aA,<-hlen];exact hz) λh' tk acc hk hacc=>?_
 have kp:∀b o,s1.heap.get? b=some o->h'.get? b=some o:=λb o e=>hk b o (aZ (aJ e)) (av _ e)
 have I2:bT X pins σ H1 {s1 with heap:=h',toks:=tk}:=I1.kept (t':=tk) kp
 refine⟨.ref h'.objs.size,_,I2.laid (t':=tk) (λb o e=>av _ e) (ay _) (show fh X.prog X.w _ _ _ (.tup ys.reverse) from⟨by rw[bJ];exact hz,acc.toList,G9 rv hacc,?_⟩),rfl,q _ (I2.hok.fresh (ay _))⟩
 rw[iD];exact jg.new _ _
theorem Ct{a:Expr}{ta:TA}{p1 p2 pos pos2:Pos}(hg:Gl X "tuple")(hg2:Gl X "reversed")(hm:X.mg "tuple"=none)(hm2:X.mg "reversed"=none)(hc:X.calm=true)(ha:QA X [a] ta)
  (hs2:starEach [a] X.env=[(false,eval a X.env)]:=by rfl) (hs:starEach [.Call (.Name "reversed" p2) [a] [] pos2] X.env=[(false,eval (.Call (.Name "reversed" p2) [a] [] pos2) X.env)]:=by rfl) :
  QE X (.Call (.Name "tuple" p1) [.Call (.Name "reversed" p2) [a] [] pos2] [] pos) (uA X.K ta):=⟨Co hg hg2 hm hm2 hc ha.up hs2 hs⟩
end
section
variable{prog:Program}{w:World}{A:Around}{E:Value->Shared->Prop}{s:Shared}{it d:Addr}{i ep:Nat}{es:Array DictEntry}
end
section
variable{prog:Program}{w:World}{A:Around}{E:Value->Shared->Prop}{s:Shared}{it d:Addr}{i ep:Nat}{es:Array DictEntry}
end
section
variable{X:Cx}{pins:List (Addr×Obj)}{σ:St}{H:Hp}{s:Shared}{d:Addr}{kvs:List (List dm×V)}{o:Obj}
end
section
variable{X:Cx}{tg:Expr}
end
section
variable{prog:Program}{w:World}{A:Around}{R:Result->Shared->Prop}
end
section
variable{prog:Program}{w:World}{A:Around}{E:Value->Shared->Prop}{s:Shared}
end
section
variable{X:Cx}
end
section
variable{X:Cx}
end
section
variable{X:Cx}{o e:Expr}{td ty:TE}{pos apos cpos:Pos}
theorem GR:QE X (.Dict [] [] pos) CL:=⟨GE⟩
end
end L2
end
section
namespace Bg
open PySem PySem.Spec PyProof.Rows L2
abbrev lT:List Str:=["_law_rows","_law_names_here","_law_params"]
abbrev gr:List Str:=["_law_rows","_law_names_here","_law_params","_law_known","_law_more","_law_n","_law_left","_law_m","_law_kept"]
def sH(K:Fg):TS:=(cF (aj 3))
def sI(K:Fg):TS:=(bD (tC (.bl true)) (aK 4))
def lK(K:Fg):TS:=(di (bN (aX (vC) (e8 (fP K) (ah (aj 8) aE)) (e8 (fP K) (ah (aX (cw K) (aj 3) (aj 7)) aE)))) (bf (bD (aj 8) (oM (aj 3) (aj 7) lA)) (sI K)) b5)
def lL(K:Fg):TS:=(bf (bD (dC [] 1 (fH K (aX (cw K) (aj 3) (aj 7))) (aK 9) (bN (aX ((yx K false)) (aj 9) (aj 6))) (aj 9)) (aK 8)) (lK K))
def lM(K:Fg):TS:=(jy (fH K (a7 (jw K) [] E0 (ah (aj 0) (ah (aj 5) aE)))) (aK 7) (lL K))
def lN(K:Fg):TS:=(bf (di (bN (aX ((yx K false)) (aX (cw K) (aX (cw K) (aj 0) (aj 5)) (tC (.int 0))) (b7 (ah (tC (.str "num")) (ah (tC (.str "op")) (ah (tC (.str "call")) aE)))))) (bD (aX (cZ K) (aj 6) (ki (ah (aX (cw K) (aX (cw K) (aj 0) (aj 5)) (tC (.int 1))) aE))) (aK 6)) b5) (lM K))
def iS(K:Fg):TS:=(bf (bD (aX (cw K) (aj 3) (aj 5)) (aK 6)) (lN K))
def lO(K:Fg):TS:=(jy (ly (ah (e8 (fP K) (ah (aj 0) aE)) aE)) (aK 5) (iS K))
def sJ(K:Fg):TS:=(bf (bD (tC (.bl false)) (aK 4)) (lO K))
def kj(K:Fg):TS:=(bf (uB (tB (aj 4)) (sJ K)) (sH K))
def ko(K:Fg):TS:=(bf (bD (tC (.bl true)) (aK 4)) (kj K))
def iy(K:Fg):TS:=(bf (bD (e8 (mI K) (ah (aj 2) aE)) (oM (aj 3) (tC (.int 0)) lA)) (ko K))
def jX(K:Fg):TS:=(bf (bD (dC [] 1 (fH K (aj 0)) (aK 9) gw (e8 (mI K) (ah (aj 1) aE))) (aK 3)) (iy K))
abbrev Mw:List Str:=["_law_belt","_law_thing"]
abbrev Mt:List Str:=["_law_belt","_law_thing"]
def Nn(K:Fg):TS:=(cF (aX (cZ K) (b7 (ah (aj 1) aE)) (pj (vD K) (aj 0) cY (eI (ND Nd (tC (.int 1)))))))
abbrev Bp:List Str:=["_law_out","_law_n","_law_belt","_law_due"]
abbrev vV:List Str:=["_law_out","_law_n","_law_belt","_law_due","_law_name","_law_i"]
def AG(K:Fg):TS:=(cF (aj 2))
def q5(K:Fg):TS:=(bD (a7 (Az K) [] E0 (ah (aj 2) (ah (aX (cw K) (aj 2) (aj 5)) aE))) (aK 2))
def q9(K:Fg):TS:=(bf (iK (yP K "list" eN (aj 0) (ah (b7 (ah (b7 (ah (tC (.str "keep")) (ah (aj 5) aE))) (ah (b7 (ah (aj 1) (ah (aj 2) aE))) aE))) aE))) (q5 K))
def AH(K:Fg):TS:=(bf (bD (Hk K (aj 2) (ah (aj 4) aE)) (aK 5)) (q9 K))
def wY(K:Fg):TS:=(bf (jy (Gk K (ah (aj 3) aE)) (aK 4) (AH K)) (AG K))
abbrev FN:List Str:=["_law_state","_law_belt","_law_name"]
abbrev xG:List Str:=["_law_state","_law_belt","_law_name","_law_some"]
def xi(K:Fg):TS:=(cF (aX (cw K) (aj 3) (a7 (b9 K) [] E0 (ah (aj 0) (ah (e8 (fP K) (ah (aj 3) aE)) aE)))))
def DR(K:Fg):TS:=(bf (bD (dC [] 1 (ly (ah (e8 (fP K) (ah (aj 1) aE)) aE)) (aK 4) (bN (aX (fV K) (aX (cw K) (aj 1) (aj 4)) (aj 2))) (aj 4)) (aK 3)) (xi K))
abbrev D7:List Str:=["_law_state","_law_belt"]
abbrev zg:List Str:=["_law_state","_law_belt","_law_i"]
def uO(K:Fg):TS:=(cF (aj 1))
def uP(K:Fg):TS:=(bf (di (bN (aX ((yx K false)) (aX (cw K) (aj 1) (aj 2)) (pj (vD K) (aj 1) cY (eI (aj 2))))) (cF (aX (cZ K) (aX (cZ K) (pj (vD K) (aj 1) cY (eI (aj 2))) (b7 (ah (tC .non) aE))) (pj (vD K) (aj 1) (eI (aX (cZ K) (aj 2) (tC (.int 1)))) cY))) b5) (uO K))
def AM(K:Fg):TS:=(bf (bD (a7 (b9 K) [] E0 (ah (aj 0) (ah (e8 (fP K) (ah (aj 1) aE)) aE))) (aK 2)) (uP K))
abbrev vo:List Str:=["_law_state","_law_row","_law_belt"]
abbrev kz:List Str:=["_law_state","_law_row","_law_belt"]
def u5(K:Fg):TS:=(cF (b7 (ah (aX (cw K) (aj 1) (tC (.int 0))) (ah (a7 (jv K) [] E0 (ah (aj 0) (ah (aj 2) (ah (aX (cw K) (aj 1) (tC (.int 1))) aE)))) aE))))
def u6(K:Fg):TS:=(bf (di (bN (aX (fV K) (aX (cw K) (aj 1) (tC (.int 0))) (tC (.str "test")))) (cF (b7 (ah (tC (.str "test")) (ah (a7 (jv K) [] E0 (ah (aj 0) (ah (aj 2) (ah (aX (cw K) (aj 1) (tC (.int 1))) aE)))) (ah (tC (.str "land")) aE))))) b5) (u5 K))
def u7(K:Fg):TS:=(bf (di (bN (aX (fV K) (aX (cw K) (aj 1) (tC (.int 0))) (tC (.str "call")))) (cF (b7 (ah (tC (.str "call")) (ah (aX (cw K) (aj 1) (tC (.int 2))) (ah (e8 (cI K) (ah (dC [] 1 (fH K (aX (cw K) (aj 1) (tC (.int 3)))) (aK 3) gw (a7 (jv K) [] E0 (ah (aj 0) (ah (aj 2) (ah (aj 3) aE))))) aE)) aE))))) b5) (u6 K))
def u9(K:Fg):TS:=(bf (di (bN (aX (fV K) (aX (cw K) (aj 1) (tC (.int 0))) (tC (.str "op")))) (cF (b7 (ah (tC (.str "op")) (ah (aX (cw K) (aj 1) (tC (.int 2))) (ah (a7 (jv K) [] E0 (ah (aj 0) (ah (aj 2) (ah (aX (cw K) (aj 1) (tC (.int 3))) aE)))) (ah (a7 (jv K) [] E0 (ah (aj 0) (ah (aj 2) (ah (aX (cw K) (aj 1) (tC (.int 4))) aE)))) aE)))))) b5) (u7 K))
def pQ(K:Fg):TS:=(bf (di (bN (aX (fV K) (aX (cw K) (aj 1) (tC (.int 0))) (tC (.str "num")))) (cF (b7 (ah (tC (.str "num")) (ah (aX (cw K) (aj 1) (tC (.int 2))) aE)))) b5) (u9 K))
abbrev FK:List Str:=["_law_state","_law_out","_law_rows","_law_n","_law_known","_law_places","_law_times"]
abbrev xE:List Str:=["_law_state","_law_out","_law_rows","_law_n","_law_known","_law_places","_law_times","_law_belt","_law_i","_law_row","_law_here","_law_after","_law_m","_law_to"]
def wN(K:Fg):TS:=(iK (yP K "list" eN (aj 1) (ah (b7 (ah (b7 (ah (tC (.str "jump")) (ah (b7 (ah (tC (.str "at")) (ah (aj 13) (ah (a7 (b9 K) [] E0 (ah (aj 0) (ah (aj 6) aE))) aE)))) aE))) (ah (b7 (ah (aj 13) (ah (aj 7) aE))) aE))) aE)))
def wO(K:Fg):TS:=(bf (bD (a7 (iw K) [] E0 (ah (aj 1) (ah (aj 13) (ah (aj 7) (ah (aX (cw K) (aj 4) (aj 13)) aE))))) (aK 7)) (wN K))
def wQ(K:Fg):TS:=(bf (bD (a7 (f6 K) [] E0 (ah (aj 2) (ah (aX (cw K) (aj 9) (tC (.int 2))) aE))) (aK 13)) (wO K))
def wR(K:Fg):TS:=(di (bN (aX (EZ K) (aX (cw K) (aj 9) (tC (.int 0))) (tC (.str "test")))) (bf (bD (b7 (ah (aX (gC K) (pj (oY K) (aX (cw K) (aX (cw K) (aj 1) (aj 10)) (tC (.int 0))) cY (eI (tC (.int 2)))) (b7 (ah (e8 (fP K) (ah (aj 1) aE)) aE))) (ah (aX (cw K) (aX (cw K) (aj 1) (aj 10)) (tC (.int 1))) aE))) (oM (aj 1) (aj 10) lA)) (wQ K)) b5)
def wU(K:Fg):TS:=(bf (iK (yP K "list" eN (aj 1) (ah (b7 (ah (b7 (ah (tC (.str "jump")) (ah (b7 (ah (tC (.str "at")) (ah (aj 12) (ah (a7 (b9 K) [] E0 (ah (aj 0) (ah (aj 6) aE))) aE)))) aE))) (ah (b7 (ah (aj 12) (ah (aj 11) aE))) aE))) aE))) (wR K))
def wV(K:Fg):TS:=(bf (bD (a7 (iw K) [] E0 (ah (aj 1) (ah (aj 12) (ah (aj 11) (ah (aX (cw K) (aj 4) (aj 12)) aE))))) (aK 11)) (wU K))
def qJ(K:Fg):TS:=(bf (bD (a7 (f6 K) [] E0 (ah (aj 2) (ah (aX (gC K) (aj 3) (tC (.int 1))) aE))) (aK 12)) (wV K))
def wW(K:Fg):TS:=(bf (di (bN (aX ((yx K false)) (aX (cw K) (aj 9) (tC (.int 0))) (b7 (ah (tC (.str "num")) (ah (tC (.str "op")) (ah (tC (.str "call")) aE)))))) (bD (a7 (Az K) [] E0 (ah (e8 (cI K) (ah (dC [] 1 (fH K (aj 7)) (aK 14) gw (NB (bN (aX (EZ K) (aj 14) (aX (cw K) (aj 9) (tC (.int 1))))) (tC .non) (aj 14))) aE)) (ah (aX (cw K) (aj 9) (tC (.int 1))) aE))) (aK 11)) b5) (qJ K))
def wX(K:Fg):TS:=(bf (bD (aj 7) (aK 11)) (wW K))
def uC(K:Fg):TS:=(bf (di (bN (aX (EZ K) (aX (cw K) (aj 9) (tC (.int 0))) (tC (.str "give")))) Hj b5) (wX K))
def uD(K:Fg):TS:=(bf (iK (yP K "list" eN (aj 1) (ah (b7 (ah (a7 (jV K) [] E0 (ah (aj 0) (ah (aj 9) (ah (aj 7) aE)))) (ah (b7 (ah (aj 3) (ah (aj 7) aE))) aE))) aE))) (uC K))
def uE(K:Fg):TS:=(bf (bD (e8 (fP K) (ah (aj 1) aE)) (aK 10)) (uD K))
def uF(K:Fg):TS:=(bf (bD (aX (cw K) (aj 2) (aj 3)) (aK 9)) (uE K))
def uG(K:Fg):TS:=(bf (bD (a7 (qE K) [] E0 (ah (aj 0) (ah (aj 7) aE))) (aK 7)) (uF K))
def uH(K:Fg):TS:=(bD (a7 (Az K) [] E0 (ah (aj 7) (ah (aX (cw K) (aj 7) (aj 8)) aE))) (aK 7))
def uI(K:Fg):TS:=(bf (iK (yP K "list" eN (aj 1) (ah (b7 (ah (b7 (ah (tC (.str "keep")) (ah (aj 8) aE))) (ah (b7 (ah (aj 3) (ah (aj 7) aE))) aE))) aE))) (uH K))
def uJ(K:Fg):TS:=(bf (di (bN (aX (EZ K) (a7 (b9 K) [] E0 (ah (aj 0) (ah (tC (.int 3)) aE))) (tC (.int 1)))) (bf (bD (a7 (b9 K) [] E0 (ah (aj 0) (ah (aj 5) aE))) (aK 8)) (uI K)) b5) (uG K))
def DG(K:Fg):TS:=(bf (bD (pj (oY K) (aX (gC K) (e8 (cI K) (ah (aX (cw K) (aj 4) (aj 3)) aE)) (aX (fz K) (b7 (ah (tC .non) aE)) (aj 5))) cY (eI (aj 5))) (aK 7)) (uJ K))
abbrev xI:List Str:=["_law_state","_law_part_here","_law_names_here","_law_places"]
abbrev iF:List Str:=["_law_state","_law_part_here","_law_names_here","_law_places","_law_rows","_law_known","_law_belt","_law_out","_law_seats","_law_first","_law_times","_law_n","_law_code"]
def nz(K:Fg):TS:=(cF (b7 (ah (b7 (ah (e8 (fP K) (ah (aX (cw K) (aj 1) (tC (.int 1))) aE)) (ah (e8 (cI K) (ah (aj 12) aE)) aE))) (ah (e8 (cI K) (ah (dC [] 2 (fH K (aj 7)) (nW K 2 (eF (aK 13) (eF (aK 14) mP))) gw (aj 14)) aE)) aE))))
def jW(K:Fg):TS:=(bf (bD (dC [] 2 (fH K (aj 7)) (nW K 2 (eF (aK 13) (eF (aK 14) mP))) gw (aX (gC K) (pj (oY K) (aj 13) cY (eI (tC (.int 1)))) (e8 (cI K) (ah (dC [] 1 (fH K (pj (oY K) (aj 13) (eI (tC (.int 1))) cY)) (aK 15) gw (sS (aj 8) (aj 15) (aj 15))) aE)))) (aK 12)) (nz K))
def nA(K:Fg):TS:=(iK (a7 (uy K) [] E0 (ah (aj 0) (ah (aj 7) (ah (aj 4) (ah (aj 11) (ah (aj 5) (ah (aj 3) (ah (aj 10) aE)))))))))
def nB(K:Fg):TS:=(bf (bD (e8 (fP K) (ah (aj 7) aE)) (oM (aj 8) (b7 (ah (tC (.str "at")) (ah (aj 11) (ah (e8 (wD) (ah (aX ((JH false)) (b7 (ah (tC (.str "at")) (ah (aj 11) (ah (tC (.int 0)) aE)))) (aj 8)) aE)) aE)))) DA)) (nA K))
def nC(K:Fg):TS:=(bf (jy (fH K (aX (Ng) (a7 (kT K) [] E0 (ah (aj 4) aE)) (aj 10))) (aK 11) (nB K)) (jW K))
def nF(K:Fg):TS:=(bf (bD (aX (gC K) (tC (.int 1)) (e8 (wD) (ah (AF (aX (vC) (e8 (fP K) (ah (aj 4) aE)) (tC (.int 5))) (aX (EZ K) (a7 (b9 K) [] E0 (ah (aj 0) (ah (tC (.int 2)) aE))) (tC (.int 1)))) aE))) (aK 10)) (nC K))
def nG(K:Fg):TS:=(bf (iK (yP K "list" eN (aj 7) (ah (b7 (ah (b7 (ah (tC (.str "jump")) (ah (b7 (ah (tC (.str "at")) (ah (aj 9) (ah (tC (.int 0)) aE)))) aE))) (ah (b7 (ah (aj 9) (ah (aj 6) aE))) aE))) aE))) (nF K))
def nI(K:Fg):TS:=(bf (bD (a7 (iw K) [] E0 (ah (aj 7) (ah (aj 9) (ah (aj 6) (ah (aX (cw K) (aj 5) (aj 9)) aE))))) (aK 6)) (nG K))
def nJ(K:Fg):TS:=(bf (bD (a7 (f6 K) [] E0 (ah (aj 4) (ah (tC (.int 0)) aE))) (aK 9)) (nI K))
def mw(K:Fg):TS:=(bf (bD CL (aK 8)) (nJ K))
def mx(K:Fg):TS:=(bf (bD (ki aE) (aK 7)) (mw K))
def my(K:Fg):TS:=(bf (bD (pj (oY K) (aX (gC K) (uA K (ah (aX (cw K) (aj 1) (tC (.int 1))) aE)) (aX (fz K) (b7 (ah (tC .non) aE)) (aj 3))) cY (eI (aj 3))) (aK 6)) (mx K))
def mz(K:Fg):TS:=(bf (bD (dC [] 1 (fH K (a7 (jx K) [] E0 (ah (aj 4) (ah (aj 2) (ah (aX (cw K) (aj 1) (tC (.int 1))) aE))))) (aK 13) gw (e8 (cI K) (ah (aj 13) aE))) (aK 5)) (my K))
def rD(K:Fg):TS:=(bf (bD (aX (cw K) (aj 1) (tC (.int 2))) (aK 4)) (mz K))
abbrev zj:List Str:=["_law_program_here"]
abbrev ku:List Str:=["_law_program_here","_law_found","_law_word","_law_params","_law_rows"]
def px(K:Fg):TS:=(cF (dC [] 1 (ly (ah (e8 (fP K) (ah (aj 1) aE)) aE)) (aK 5) (bN (aX ((yx K true)) (aX (cw K) (aj 1) (aj 5)) (pj (vD K) (aj 1) cY (eI (aj 5))))) (aX (cw K) (aj 1) (aj 5))))
def pA(K:Fg):TS:=(bD (aX (cZ K) (aX (cZ K) (aj 1) (e8 (mI K) (ah (aj 3) aE))) (dC [] 1 (fH K (aj 4)) (aK 5) (bN (aX ((yx K false)) (aX (cw K) (aj 5) (tC (.int 0))) (b7 (ah (tC (.str "num")) (ah (tC (.str "op")) (ah (tC (.str "call")) aE)))))) (aX (cw K) (aj 5) (tC (.int 1))))) (aK 1))
def pB(K:Fg):TS:=(bf (jy (fH K (aj 0)) (nW K 3 (eF (aK 2) (eF (aK 3) (eF (aK 4) mP)))) (pA K)) (px K))
def uX(K:Fg):TS:=(bf (bD (ki aE) (aK 1)) (pB K))
abbrev HX:List Str:=["_law_state","_law_program_here"]
abbrev tm:List Str:=["_law_state","_law_program_here","_law_names_here","_law_places","_law_some"]
def AN(K:Fg):TS:=(cF (b7 (ah (b7 (ah (aj 3) (ah (e8 (cI K) (ah (dC [] 1 (fH K (aj 4)) (aK 5) gw (aX (cw K) (aj 5) (tC (.int 0)))) aE)) aE))) (ah (e8 (cI K) (ah (dC [] 1 (fH K (aj 4)) (aK 5) gw (aX (cw K) (aj 5) (tC (.int 1)))) aE)) aE))))
def uQ(K:Fg):TS:=(bf (bD (dC [] 1 (fH K (aj 1)) (aK 5) gw (a7 (kW K) [] E0 (ah (aj 0) (ah (aj 5) (ah (aj 2) (ah (aj 3) aE)))))) (aK 4)) (AN K))
def AO(K:Fg):TS:=(bf (bD (aX (cZ K) (aX (cZ K) (aX (fz K) (tC (.int 2)) (e8 (fP K) (ah (aj 2) aE))) (tC (.int 2))) (a7 (b9 K) [] E0 (ah (aj 0) (ah (tC (.int 3)) aE)))) (aK 3)) (uQ K))
def Ht(K:Fg):TS:=(bf (bD (a7 (jM K) [] E0 (ah (aj 1) aE)) (aK 2)) (AO K))
abbrev vn:List Str:=["_law_rows"]
abbrev oF:List Str:=["_law_rows","_law_found","_law_row"]
def jz(K:Fg):TS:=(cF (aj 1))
def ie(K:Fg):TS:=(di (bN (aX (fV K) (aX (cw K) (aj 2) (tC (.int 0))) (tC (.str "op")))) (bD (aX (cZ K) (aj 1) (e8 (mI K) (ah (pj (vD K) (aj 2) (eI (tC (.int 3))) cY) aE))) (aK 1)) (di (bN (aX (fV K) (aX (cw K) (aj 2) (tC (.int 0))) (tC (.str "call")))) (bD (aX (cZ K) (aj 1) (e8 (mI K) (ah (aX (cw K) (aj 2) (tC (.int 3))) aE))) (aK 1)) (di (bN (aX ((yx K false)) (aX (cw K) (aj 2) (tC (.int 0))) (b7 (ah (tC (.str "say")) (ah (tC (.str "test")) (ah (tC (.str "give")) aE)))))) (iK (yP K "list" eN (aj 1) (ah (aX (cw K) (aj 2) (tC (.int 1))) aE))) b5)))
def mB(K:Fg):TS:=(bf (jy (fH K (aj 0)) (aK 2) (ie K)) (jz K))
def pP(K:Fg):TS:=(bf (bD (ki aE) (aK 1)) (mB K))
abbrev Bw:List Str:=["_law_papers","_law_name"]
abbrev qd:List Str:=["_law_papers","_law_name"]
def xm(K:Fg):TS:=(cF (e8 (cI K) (ah (dC [] 2 (fH K (aj 0)) (nW K 2 (eF (aK 2) (eF (aK 3) mP))) gw (b7 (ah (aj 2) (ah (e8 (cI K) (ah (dC [] 1 (fH K (aj 3)) (aK 4) gw (aX (cw K) (ki (ah (aj 4) (ah (tC .non) aE))) (e8 (wD) (ah (aX (fV K) (aj 4) (aj 1)) aE)))) aE)) aE)))) aE)))
abbrev Bv:List Str:=["_law_program_here","_law_papers"]
abbrev qc:List Str:=["_law_program_here","_law_papers","_law_found","_law_part_here","_law_some","_law_idle","_law_name"]
def A6(K:Fg):TS:=(cF (e8 (cI K) (ah (aj 2) aE)))
def rO(K:Fg):TS:=(iK (yP K "list" eN (aj 2) (ah (aj 4) aE)))
def A7(K:Fg):TS:=(bD (a7 (oi K) [] E0 (ah (aj 4) (ah (aj 6) aE))) (aK 4))
def rP(K:Fg):TS:=(bf (jy (fH K (aj 5)) (aK 6) (A7 K)) (rO K))
def rQ(K:Fg):TS:=(bf (bD (dC [6] 0 (fH K (a7 (jM K) [] E0 (ah (b7 (ah (aj 3) aE)) aE))) (aK 6) (bN (aX ((yx K true)) (aj 6) (a7 (jU K) [] E0 (ah (aX (cw K) (aj 3) (tC (.int 2))) aE)))) (aj 6)) (aK 5)) (rP K))
def rR(K:Fg):TS:=(bf (jy (zS K (ah (aj 0) (ah (aj 1) aE))) (nW K 2 (eF (aK 3) (eF (aK 4) mP))) (rQ K)) (A6 K))
def xk(K:Fg):TS:=(bf (bD (ki aE) (aK 2)) (rR K))
abbrev Bx:List Str:=["_law_state"]
abbrev vZ:List Str:=["_law_state","_law_some","_law_wide"]
def rS(K:Fg):TS:=(cF (aX (cw K) (ki (ah (aj 2) (ah (aX (cw K) (aj 1) (a7 (b9 K) [] E0 (ah (aj 0) (ah (tC (.int 4)) aE)))) aE))) (a7 (b9 K) [] E0 (ah (aj 0) (ah (tC (.int 2)) aE)))))
def rT(K:Fg):TS:=(bf (bD (aX (cZ K) (aX (fz K) (a7 (b9 K) [] E0 (ah (aj 0) (ah (aX (Dz) (tC (.int 2)) (tC (.int 31))) aE))) (aX (Dz) (tC (.int 2)) (tC (.int 33)))) (a7 (b9 K) [] E0 (ah (aj 0) (ah (aX (Dz) (tC (.int 2)) (tC (.int 31))) aE)))) (aK 2)) (rS K))
def xp(K:Fg):TS:=(bf (bD (ki (ah (tC (.int 0)) (ah (tC (.int 1)) (ah (aX (DB) (aX (DB) (aX (Dz) (tC (.int 2)) (tC (.int 64))) (tC (.int 1))) (a7 (b9 K) [] E0 (ah (aj 0) (ah (tC (.int 3)) aE)))) (ah (a7 (b9 K) [] E0 (ah (aj 0) (ah (tC (.int 12)) aE))) aE))))) (aK 1)) (rT K))
abbrev tJ:List Str:=["_law_state","_law_names_here","_law_many","_law_counts"]
abbrev mY:List Str:=["_law_state","_law_names_here","_law_many","_law_counts","_law_x","_law_sort","_law_k"]
def sv(K:Fg):TS:=(cF (aX (cw K) (ki (ah (b7 (ah (tC (.str "jump")) (ah (a7 (b9 K) [] E0 (ah (aj 0) (ah (aj 2) aE))) aE))) (ah (b7 (ah (tC (.str "give")) (ah (tC (.str "")) aE))) aE))) (aX (DB) (aj 5) (tC (.int 10)))))
def sx(K:Fg):TS:=(bf (di (bN (aX (vC) (aj 5) (tC (.int 10)))) (cF (b7 (ah (tC (.str "test")) (ah (tC (.str "")) (ah (a7 (b9 K) [] E0 (ah (aj 0) (ah (aj 2) aE))) aE))))) b5) (sv K))
def sA(K:Fg):TS:=(bf (di (bN (aX (vC) (aj 5) (tC (.int 8)))) (cF (b7 (ah (tC (.str "say")) (ah (tC (.str "")) aE)))) b5) (sx K))
def sC(K:Fg):TS:=(cF (b7 (ah (tC (.str "call")) (ah (aj 4) (ah (aj 6) (ah (aX (fz K) (b7 (ah (tC (.str "")) aE)) (aX (cw K) (aj 3) (aj 6))) aE))))))
def sD(K:Fg):TS:=(bf (di (bN (aX (fV K) (aj 5) (tC (.int 6)))) (bf (bD (a7 (b9 K) [] E0 (ah (aj 0) (ah (e8 (fP K) (ah (aj 3) aE)) aE))) (aK 6)) (sC K)) b5) (sA K))
def sE(K:Fg):TS:=(bf (di (bN (aX (vC) (aj 5) (tC (.int 6)))) (cF (b7 (ah (tC (.str "op")) (ah (aj 4) (ah (aX (cw K) (tC (.str "+-*<=")) (a7 (b9 K) [] E0 (ah (aj 0) (ah (tC (.int 5)) aE)))) (ah (tC (.str "")) (ah (tC (.str "")) aE))))))) b5) (sD K))
def sF(K:Fg):TS:=(bf (di (bN (aX (vC) (aj 5) (tC (.int 2)))) (cF (b7 (ah (tC (.str "num")) (ah (aj 4) (ah (a7 (oj K) [] E0 (ah (aj 0) aE)) aE))))) b5) (sE K))
def sG(K:Fg):TS:=(bf (bD (a7 (b9 K) [] E0 (ah (aj 0) (ah (tC (.int 12)) aE))) (aK 5)) (sF K))
def nK(K:Fg):TS:=(bf (bD (aX (cw K) (aj 1) (a7 (b9 K) [] E0 (ah (aj 0) (ah (e8 (fP K) (ah (aj 1) aE)) aE)))) (aK 4)) (sG K))
end Bg
end
section
namespace L2
open PySem PySem.Spec PyProof.Rows
section
variable{M:Model}{A:Around}{E:Value->Shared->Prop}{s:Shared}{base:Heap}{env:Env}{outer:List Env}{L e T:Addr}{oe:Obj}{vs:Array Value}
end
open Builtin Builtin.ObjectAttr
section
variable{prog:Program}{w:World}{A:Around}{E:Value->Shared->Prop}{h:Heap}{g:Array GenState}{d:Drawn}{t:Nat}{os:OsState}
variable{nm q:Str}{C N B:Addr}{bs:List Value}{hdct:Bool}{sn:List Str}{sub:List Value}{ab:Bool}{col:Option Bool}{dd:Option Addr}{k0 k1 k2 k3 k5:Option Value}
end
end L2
end
section
namespace L2
open PySem PySem.Spec PyProof.Rows PySem.W
section
variable{prog:Program}{w:World}{A:Around}{E:Value->Shared->Prop}{s:Shared}{K:Fg}{x C D:Addr}{ox od:Obj}{odo:Option Obj}{name:Str}
end
end L2
end
section
namespace L2
open PySem PySem.Spec PyProof.Rows
open Builtin Builtin.ObjectAttr
section
variable{P:Program}{w:World}{H:Hp}{h:Heap}{x C T dx:Addr}{od:Option Addr}{fs:List (Str×V)}
end
section
variable{prog:Program}{w:World}{A:Around}{E:Value->Shared->Prop}{K:Fg}{C x:Addr}{s:Shared}{R:Result->Shared->Prop}
end
section
variable{X:Cx}{pins:List (Addr×Obj)}{σ:St}{H:Hp}{s:Shared}{x C dx:Addr}{fs:List (Str×V)}{f:Str}{v y:V}{u:Value}{A:Around}{E:Value->Shared->Prop}
end
section
variable{X:Cx}{pins:List (Addr×Obj)}{σ:St}{H:Hp}{s:Shared}{x C T T':Addr}{od:Option Addr}{M:Model}{E:Value->Shared->Prop}
end
section
variable{P:Program}{w:World}{K:Fg}{mg:Str->Option Value}{base:Heap}{N:List Str}{qual:Str}{scope:Scope}{f:Addr}{cd:Value}{A:Around}{outer:List Env}{s:Shared}{H:Hp}{E:XK}
end
section
variable{X:Cx}{k:Nat}{f C:Addr}{fd:FuncData}{ps:List Str}{sp:Sp}{x:Str}{p pos apos:Pos}{e o value:Expr}{es:List Expr}{ta tv:TE}{t:TA}
end
section
variable{X:Cx}{pins pins':List (Addr×Obj)}{σ:St}{H:Hp}{s:Shared}{E:Value->Shared->Prop}{x:Addr}
end
section
variable{X:Cx}
end
section
variable{prog:Program}{w:World}{A:Around}{E:Value->Shared->Prop}{s:Shared}{K:Fg}{x C D:Addr}{ox od:Obj}
end
end L2
end
section
namespace BgSet
open PySem
section
variable{prog:Program}{w:World}{K:Type}[DecidableEq K]
variable{kd:KeyKind prog w K}{A:Around}{E:Value->Shared->Prop}{s:Shared}
end
section
variable{prog:Program}{w:World}{A:Around}{E:Value->Shared->Prop}{s:Shared}
end
section
variable{prog:Program}{w:World}{A:Around}{E:Value->Shared->Prop}{s:Shared}{I a:Addr}{i n ep:Nat}{es:Array (Int×Value)}{t:SetTable}
end
end BgSet
end
section
namespace BgSet
open PySem PyProof.Rows
section
variable{prog:Program}{w:World}{A:Around}{R:Result->Shared->Prop}{I:Addr}{fp wr:List Addr}{G:Array GenState->Array GenState->Prop}{n:Nat}{P:Nat->Value->Prop}{St:Nat->Shared->Prop}
variable{K:Type}[DecidableEq K]{kd:KeyKind prog w K}
end
section
variable{prog:Program}{w:World}{A:Around}{E:Value->Shared->Prop}{s:Shared}{K:Type}[DecidableEq K]{kd:KeyKind prog w K}
end
section
variable{prog:Program}{w:World}{A:Around}{E:Value->Shared->Prop}{s:Shared}{K:Type}[DecidableEq K][Inhabited K]{kd:KeyKind prog w K}
end
section
variable{prog:Program}{w:World}{A:Around}{E:Value->Shared->Prop}{s:Shared}{a:Addr}{es:Array (Int×Value)}{ep:Nat}{t:SetTable}
end
end BgSet
end
section
namespace L2
open PySem PySem.Spec PyProof.Rows
section
variable{X:Cx}
end
section
variable{prog:Program}{w:World}{A:Around}{R:Result->Shared->Prop}{I:Addr}{fp wr:List Addr}{n:Nat}{P:Nat->Value->Prop}{St:Nat->Heap->Prop}
end
section
variable{prog:Program}{w:World}{A:Around}{E:Value->Shared->Prop}{s:Shared}{l:Addr}{xs:Array (Int×Tok)}
end
section
variable{X:Cx}
end
section
variable{prog:Program}{w:World}{A:Around}{E:Value->Shared->Prop}{s:Shared}
end
section
variable{X:Cx}
end
section
variable{X:Cx}{k:Nat}{C:Addr}{ps:List Str}{sp:Sp}{x:Str}{p pos:Pos}{e o value:Expr}{es:List Expr}{ta tv te:TE}{t:TA}{E:XK}
end
section
variable{P:Program}{w:World}{K:Fg}{mg:Str->Option Value}{base:Heap}{N:List Str}{qual:Str}{scope:Scope}{f:Addr}{cd:Value}{A:Around}{outer:List Env}{s:Shared}{H:Hp}{E:XK}
end
section
variable{X:Cx}
end
end L2
end
section
namespace HT
open PySem PySem.Spec PyProof.Rows
section
variable{prog:Program}{w:World}{A:Around}{E:Value->Shared->Prop}{s:Shared}
end
end HT
namespace L2
open PySem PySem.Spec PyProof.Rows
section
variable{X:Cx}{e st:Expr}{te ts:TE}{pos p2:Pos}
end
end L2
end
section
namespace Bg
open PySem PySem.Spec PyProof.Rows L2
end Bg
end
section
namespace L2
open PySem PySem.Spec PyProof.Rows
section
variable{X:Cx}
theorem cN(ha:QE X a ta)(hb:QE X b tb)(h:xJ b:=by exact λ_ _=>rfl):QE X (.Subscript a b pos) (aX (cw X.K) ta tb):=M5 KQ ha hb h
theorem ed{x:Str}(c:b6 X.prog X.w X.K X.mg X.base x ps k sp)(ha:QA X (e::es) t)(hr:gU k X.A:=by exact gU.mono (by assumption) (by decide))(hg:Gl X x:=by rfl)(h1:(x==("__debug__":Str))=false:=by decide)
  (h2:starEach (e::es) X.env=(false,eval e X.env)::starEach es X.env:=by rfl) (h3:(backTo pos (starEach es X.env)).any (·.1)=false:=by rfl):QE X (.Call (.Name x p) (e::es) [] pos) (a7 sp [] E0 t):=M4 c hr hg ha h1 h2 h3
theorem gi(B:jH X.mg)(ha:QA X (e::es) t)(hg:Gl X "len":=by rfl)(h2:starEach (e::es) X.env=(false,eval e X.env)::starEach es X.env:=by rfl)(h3:(backTo pos (starEach es X.env)).any (·.1)=false:=by rfl):QE X (.Call (.Name "len" p) (e::es) [] pos) (e8 (fP X.K) t):=gu FU hg B.len_ boot_len ha (by decide) (by decide) h2 h3
theorem eO(i:Nat){x:Str}(he:QE X e te)(hi:X.N[i]?=some x:=by rfl)(hN:X.N.Nodup:=by assumption)(hx:FI X.env.scope x:=by first|exact Or.inl rfl|exact Or.inr rfl)(hs:swapsWith e (some (.Name x pos')) pos.line X.env=pure false:=by rfl)
  (hf:X.fn x=true\/X.env.scope.names.lookup x=some .local:=by first|exact .inl rfl|exact .inr rfl|assumption):QS X (.Assign [.Name x pos'] e pos) (bD te (aK i)):=LV hN hi hx he hs hf
theorem gv(i:Nat){x:Str}(hi:X.N[i]?=some x:=by rfl)(hN:X.N.Nodup:=by first|assumption|(dsimp only[cA];decide +kernel))(hx:FI X.env.scope x:=by first|exact Or.inl rfl|exact Or.inr rfl)
  (hf:X.fn x=true\/X.env.scope.names.lookup x=some .local:=by first|exact .inl rfl|exact .inr rfl|assumption):QG X (.Name x pos) (aK i):=Jx hN hi hx hf
theorem jr{s1:Stmt}(hc:QT X c tc)(ha:QS X s1 t):QS X (.If c [s1] [] pos) (di tc t b5):=kg hc (aO ha) kL
theorem bB(ha:QE X e te)(hs:starEach [e] X.env=(false,eval e X.env)::starEach [] X.env:=by rfl):QA X [e] (ah te aE):=ao ha iQ hs
theorem qw(ho:QE X o to)(ha:QE X e te)(hbase:attributeBase o "append" X.env (eval o X.env)=eval o X.env:=by rfl)
  (hfew:((backTo cpos (starEach [e] X.env)).all (λx=>!x.1)&&(backToKw cpos (keywordEach [] X.env)).all (λx=>x.1.isSome)&&decide (([e]:List Expr).length+([]:List Keyword).length+(if([]:List Keyword).isEmpty then 0 else 1)<30))=true:=by rfl)
  (hline:(apos.endLine==cpos.line)=true:=by rfl) (hs:starEach [e] X.env=(false,eval e X.env)::starEach [] X.env:=by rfl) (hp:(backTo cpos (starEach [] X.env)).any (·.1)=false:=by rfl) :
  QE X (.Call (.Attribute o "append" apos) [e] [] cpos) (yP X.K "list" eN to (ah te aE)):=Ke PySem.F.plainAttrs_list PySem.F.slot_list_append PySem.F.type_list_append wA ho (bB ha hs) hbase hfew hline hs hp
theorem Ov(ho:QE X o to)(ha:QE X e te)(hbase:attributeBase o "join" X.env (eval o X.env)=eval o X.env:=by rfl)
  (hfew:((backTo cpos (starEach [e] X.env)).all (λx=>!x.1)&&(backToKw cpos (keywordEach [] X.env)).all (λx=>x.1.isSome)&&decide (([e]:List Expr).length+([]:List Keyword).length+(if([]:List Keyword).isEmpty then 0 else 1)<30))=true:=by rfl)
  (hline:(apos.endLine==cpos.line)=true:=by rfl) (hs:starEach [e] X.env=(false,eval e X.env)::starEach [] X.env:=by rfl) (hp:(backTo cpos (starEach [] X.env)).any (·.1)=false:=by rfl) :
  QE X (.Call (.Attribute o "join" apos) [e] [] cpos) (yP X.K "str" (GW X.K) to (ah te aE)):=Ke PySem.F.plainAttrs_str PySem.F.slot_str_join PySem.F.type_str_join IK ho (bB ha hs) hbase hfew hline hs hp
theorem Cr(st:Stmt)(N ext:List Str)(js:List Nat)(it:QI X target iter wi)(hg:∀{cl C s₀ H₀ fp},QG (cA X (N++ext) scope cl C s₀ H₀ fp) target g)(hi:∀{cl C s₀ H₀ fp},BA (cA X (N++ext) scope cl C s₀ H₀ fp) ifs tc)(he:∀{cl C s₀ H₀ fp},QE (cA X (N++ext) scope cl C s₀ H₀ fp) elt te)
  (ok:iN (b8 st) N scope (N++ext) js:=by exact⟨rfl,by decide +kernel,by decide +kernel,by decide +kernel,rfl,by decide +kernel⟩) (h1:X.env.scope=b8 st:=by rfl) (h2:X.N=N:=by rfl) (h3:(N++ext).length=N.length+k:=by rfl) (h4:X.calm=true:=by rfl)
  (hs:∀x,foldedSetIterable iter X.env x=pure x:=by intro _;rfl):QE X (.ListComp elt [⟨target,iter,ifs,0⟩] scope pos) (dC js k wi g tc te):=Dy ok h1 h2 h3 h4 it (λ_ _ _ _ _=>hg) (λ_ _ _ _ _=>hi) (λ_ _ _ _ _=>he) hs
theorem Fu(st:Stmt)(N ext:List Str)(js:List Nat)(i:Nat){y:Str}(it:QI X target iter wi)(hg:∀{cl C s₀ H₀ fp},QG (cA X (N++ext) scope cl C s₀ H₀ fp) target g)(hi:∀{cl C s₀ H₀ fp},BA (cA X (N++ext) scope cl C s₀ H₀ fp) ifs tc)(he:∀{cl C s₀ H₀ fp},QE (cA X (N++ext) scope cl C s₀ H₀ fp) elt te)
  (ok:iN (b8 st) N scope (N++ext) js:=by exact⟨rfl,by decide +kernel,by decide +kernel,by decide +kernel,rfl,by decide +kernel⟩) (h1:X.env.scope=b8 st:=by rfl) (h2:X.N=N:=by rfl) (h3:(N++ext).length=N.length+k:=by rfl) (h4:X.calm=true:=by rfl)
  (nd:X.N.Nodup:=by assumption) (hy:X.N[i]?=some y:=by rfl) (hl:FI X.env.scope y:=by first|exact Or.inl rfl|exact Or.inr rfl) (hw:swapsWith (.ListComp elt [⟨target,iter,ifs,0⟩] scope pos) (some (.Name y py)) spos.line X.env=pure true:=by rfl)
  (hs:∀x,foldedSetIterable iter X.env x=pure x:=by intro _;rfl) (hf:X.fn y=true\/X.env.scope.names.lookup y=some .local:=by first|exact .inl rfl|exact .inr rfl|assumption):QS X (.Assign [.Name y py] (.ListComp elt [⟨target,iter,ifs,0⟩] scope pos) spos) (bD (dC js k wi g tc te) (aK i)):=JC ok h1 h2 h3 h4 it (λ_ _ _ _ _=>hg) (λ_ _ _ _ _=>hi) (λ_ _ _ _ _=>he) nd hy hl hw hs hf
end
end L2
namespace Bg
open PySem PySem.Spec PyProof.Rows L2
def c7(K:Fg)(x:Str)(st:Stmt):Prop:=∃(f:Addr) (oc:Value) (od:Option Addr) (kV doc pm:Value) (an:Option Addr) (cdv ct:Value) (osl:Array (Option Value)),
 bH K mainGlobals x=some (some (.ref f))/\K.lookup f=some ⟨oc,od,.func (cW x x (gy st) (e9 st) (b8 st) .none kV doc pm an cdv ct),osl⟩/\eD K cdv x=true/\dy K (.ref f)=true
theorem defAt{K:Fg}{x:Str}{st:Stmt}{f:Addr}{oc:Value}{od:Option Addr}{kV doc pm:Value}{an:Option Addr}{cdv ct:Value}{osl:Array (Option Value)}(a:bH K mainGlobals x=some (some (.ref f)))(l:K.lookup f=some ⟨oc,od,.func (cW x x (gy st) (e9 st) (b8 st) .none kV doc pm an cdv ct),osl⟩)(c:eD K cdv x=true)(k:dy K (.ref f)=true):c7 K x st:=⟨f,oc,od,kV,doc,pm,an,cdv,ct,osl,a,l,c,k⟩
def jI(P:Program)(w:World)(K:Fg)(mg:Str->Option Value)(base:Heap)(N:List Str)(q:Str)(st:Stmt)(k:Nat)(t:TS):Prop:=
 ∀{f:Addr} {cdv:Value} {A:Around} {outer:List Env} {s:Shared} {H:Hp} {E:XK},gU k (A.deeper (envOfC q (b8 st) s.heap.objs.size f cdv))->Bf (xX C1 P w K mg base N q (b8 st) f cdv A outer s H E).nox (e9 st) t
section
variable{P:Program}{w:World}{K:Fg}{mg:Str->Option Value}{base h:Heap}{x q:Str}{N ps:List Str}{st:Stmt}{k:Nat}{sp:Sp}
theorem j7{t:TS}(d:∀{f:Addr} {cdv:Value} {A:Around} {outer:List Env} {s:Shared} {H:Hp} {E:XK},N.Nodup->(A.deeper (envOfC q (b8 st) s.heap.objs.size f cdv)).units<cLine->(A.deeper (envOfC q (b8 st) s.heap.objs.size f cdv)).units+1<cLine->gU k (A.deeper (envOfC q (b8 st) s.heap.objs.size f cdv))->
  Ia (xX C1 P w K mg base N q (b8 st) f cdv A outer s H E).nox (e9 st) t) (nd:N.Nodup:=by decide +kernel):jI P w K mg base N q st k t:=λhr=>(d nd hr.units0 (MD hr) hr).up
structure N4(x:Str)(N ps:List Str)(st:Stmt)(sp:Sp):Prop where
 S:mD N ps (b8 st):=by exact⟨rfl,rfl,rfl,by decide +kernel,rfl,by decide +kernel,by decide +kernel⟩
 len:∀vs H Q E,sp vs H Q E->vs.length=ps.length:=by(intro _ _ _ _ h;(repeat obtain⟨_,h⟩:=h)<;>(subst_vars;rfl))
 bd:∀(kV doc pm:Value) (an:Option Addr) (cdv ct:Value) (us:List Value),us.length=ps.length->bindArgs (cW x x (gy st) (e9 st) (b8 st) .none kV doc pm an cdv ct) ⟨us,[]⟩=pure (ps.zip us):=by
   (intro _ _ _ _ _ _ us hl;first|(obtain⟨_,rfl⟩:=N6 (us:=us) hl;rfl)|(obtain⟨_,_,rfl⟩:=Ol (us:=us) hl;rfl)|(obtain⟨_,_,_,rfl⟩:=Om (us:=us) hl;rfl)|(obtain⟨_,_,_,_,rfl⟩:=On (us:=us) hl;rfl)|(obtain⟨_,_,_,_,_,rfl⟩:=le5 (us:=us) hl;rfl)|(obtain⟨_,_,_,_,_,_,rfl⟩:=Oo (us:=us) hl;rfl)|(obtain⟨_,_,_,_,_,_,_,rfl⟩:=Oq (us:=us) hl;rfl)|(obtain rfl:=le0 (us:=us) hl;rfl))
theorem jY{t:TS}(X:K.In h)(G:h.Ns mainGlobals mg)(l:c7 K x st)(d:jI P w K mg base N x st k t)(r:∀vs H Q E,sp vs H Q E->t {nx:=λ_ H'=>Q .non H',rt:=Q} (cC N vs) H)(z:N4 x N ps st sp:=by exact{}):b6 P w K mg base x ps (k+1) sp:=by
 obtain⟨f,oc,od,kV,doc,pm,an,cdv,ct,osl,a,lk,c,kp⟩:=l
 have F:=Gd lk c kp
 exact⟨⟨f,_,mR X G a,kp,F.binds (ps:=ps) z.bd,F.ok z.S z.len λcdv A outer s H vs Q E hr z=>⟨t,d hr,r vs H Q E z⟩⟩⟩
theorem MK{p:Str}{fa:Addr}{t:TS}(X:K.In h)(G:h.Ns mainGlobals mg)(hfa:mg "law"=some (.ref fa))(l:c7 K "law" st)(d:∀base,jI P w K mg base N "law" st k t)(r:∀vs H Q E,sp vs H Q E->t {nx:=λ_ H'=>Q .non H',rt:=Q} (cC N vs) H)(z:N4 "law" N [p] st sp:=by exact{}) :
  ∃fd:FuncData,(∀(s:Shared) (v:Value),BindsTo s fd ⟨[v],[]⟩ [(p,v)])/\∀base:Heap,K.In base->base.Ns mainGlobals mg->pY P w K mg base C1 (k+1) fa fd [p] sp:=by
 obtain⟨f,oc,od,kV,doc,pm,an,cdv,ct,osl,a,lk,c,kp⟩:=l
 have e:=hfa.symm.trans (mR X G a)
 cases e
 have F:=Gd lk c kp
 exact⟨_,λs v=>.of_eq (z.bd kV doc pm an cdv ct [v] rfl),λbase _ _=>F.ok z.S z.len λcdv A outer s H vs Q E hr z=>⟨t,d base hr,r vs H Q E z⟩⟩
end
end Bg
end
section
namespace L2
open PySem PySem.Spec PyProof.Rows
section
variable{X0:Cx}{NY0:List Str}{sc0 scope:Scope}{cl:List (Str×Addr)}{C:Addr}{s₀:Shared}{H₀:Hp}{fp:List Addr}{elt target iter:Expr}{ifs:List Expr}{pos:Pos}{wi:TI}{g:TG}{tc:TT}{te:TE}{k:Nat}
theorem wu{env:Env}:∀{names:List (Str×NameKind)} {x:Str},(names.lookup x=some .cell\/names.lookup x=some .free)->
  (names.map λ(n,k)=>if(k==NameKind.free&&env.scope.kind==.function&&env.kindOf n==some .cell) then(n,NameKind.cell) else(n,k)).lookup x=some .cell\/(names.map λ(n,k)=>if(k==NameKind.free&&env.scope.kind==.function&&env.kindOf n==some .cell) then(n,NameKind.cell) else(n,k)).lookup x=some .free
 |[],_,h=>by simp at h
 |(n,k)::r,x,h=>by
  have ih:=@wu env r x
  show qN x ((if(k==NameKind.free&&env.scope.kind==.function&&env.kindOf n==some .cell)=true then(n,NameKind.cell) else(n,k))::_)=_\/qN x ((if(k==NameKind.free&&env.scope.kind==.function&&env.kindOf n==some .cell)=true then(n,NameKind.cell) else(n,k))::_)=_
  by_cases hc:(k==NameKind.free&&env.scope.kind==.function&&env.kindOf n==some .cell)=true
  ·rw[if_pos hc]
   cases hx:x==n with
   |true=>exact .inl (by simp only[cL,hx])
   |false=>simp only[cL,hx] at h ⊢;exact ih h
  ·rw[if_neg hc]
   cases hx:x==n with
   |true=>simp only[cL,hx] at h ⊢;exact h
   |false=>simp only[cL,hx] at h ⊢;exact ih h
theorem iN.inn{sc scope:Scope}{N NY:List Str}{js:List Nat}(env:Env)(h:iN sc N scope NY js):iN (relabel sc env) N scope NY js:=⟨h.kind,h.cell,h.names,λx hx hf=>wu (h.free x hx hf),h.pre,h.cap⟩
theorem Oc(ext:List Str)(js:List Nat)(it:QI (cA X0 NY0 sc0 cl C s₀ H₀ fp) target iter wi)(hg:∀{cl' C' s' H' fp'},QG (cA (cA X0 NY0 sc0 cl C s₀ H₀ fp) (NY0++ext) scope cl' C' s' H' fp') target g)(hi:∀{cl' C' s' H' fp'},BA (cA (cA X0 NY0 sc0 cl C s₀ H₀ fp) (NY0++ext) scope cl' C' s' H' fp') ifs tc)(he:∀{cl' C' s' H' fp'},QE (cA (cA X0 NY0 sc0 cl C s₀ H₀ fp) (NY0++ext) scope cl' C' s' H' fp') elt te)
  (ok:iN sc0 NY0 scope (NY0++ext) js:=by exact⟨rfl,by decide +kernel,by decide +kernel,by decide +kernel,rfl,by decide +kernel⟩) (h3:(NY0++ext).length=NY0.length+k:=by rfl) (h4:(cA X0 NY0 sc0 cl C s₀ H₀ fp).calm=true:=by rfl)
  (hs:∀x,foldedSetIterable iter (cA X0 NY0 sc0 cl C s₀ H₀ fp).env x=pure x:=by intro _;rfl):QE (cA X0 NY0 sc0 cl C s₀ H₀ fp) (.ListComp elt [⟨target,iter,ifs,0⟩] scope pos) (dC js k wi g tc te):=Dy (iN.inn X0.env ok) rfl rfl h3 h4 it (λ_ _ _ _ _=>hg) (λ_ _ _ _ _=>hi) (λ_ _ _ _ _=>he) hs
end
end L2
end
section
namespace Bg
open PySem PySem.Spec PyProof.Rows L2
def jA(i:Nat):Stmt:=PySem.Challenge.pw_beltgarth_k52_papers_let_by.main.body.getD i (.Pass ⟨0,0,0,0⟩)
abbrev uu:Stmt:=jA 1
abbrev wH:Stmt:=jA 2
abbrev wI:Stmt:=jA 4
abbrev Au:Stmt:=jA 5
abbrev Av:Stmt:=jA 6
abbrev wK:Stmt:=jA 7
abbrev uv:Stmt:=jA 8
abbrev e7:Stmt:=jA 9
theorem Ax:mD nR gH (b8 e7):=⟨rfl,rfl,rfl,by decide +kernel,rfl,by decide +kernel,by decide +kernel⟩
abbrev me:Stmt:=jA 10
abbrev lD:Stmt:=jA 12
abbrev nY:Stmt:=jA 14
abbrev ur:Stmt:=jA 15
abbrev kO:Stmt:=jA 16
abbrev wJ:Stmt:=jA 18
abbrev kP:Stmt:=jA 19
abbrev nh:Stmt:=jA 20
abbrev lC:Stmt:=jA 21
abbrev iZ:Stmt:=jA 22
abbrev jR:Stmt:=jA 23
abbrev Hd:Stmt:=jA 25
abbrev yH:Stmt:=jA 26
abbrev wL:Stmt:=jA 27
abbrev ni:Stmt:=jA 28
abbrev As:Stmt:=jA 29
abbrev iC:Stmt:=jA 30
abbrev uo:Stmt:=jA 31
abbrev CI:Stmt:=jA 32
abbrev qA:Stmt:=jA 33
abbrev Nl:Stmt:=jA 34
abbrev wG:Stmt:=jA 35
abbrev yI:Stmt:=jA 36
abbrev Ar:Stmt:=jA 37
abbrev kQ:Stmt:=jA 38
abbrev yG:Stmt:=jA 39
abbrev iI:Stmt:=jA 40
abbrev kM:Stmt:=jA 41
abbrev uq:Stmt:=jA 42
abbrev pf:Stmt:=jA 43
abbrev qC:Stmt:=jA 44
abbrev qB:Stmt:=jA 45
abbrev Ko:Stmt:=jA 46
abbrev FL:List Str:=["_law_script"]
abbrev J5:List Str:=["_law_script","_law_state","_law_program_here","_law_code","_law_papers","_law_k","_law_some","_law_again"]
def DH(K:Fg):TS:=(cF (AF (aX (JI) (a7 (gD K) [] E0 (ah (aj 2) (ah (aX (cw K) (aj 7) (tC (.int 0))) (ah (aX (cw K) (aj 7) (tC (.int 1))) aE)))) (tC .non)) (aX (JI) (a7 (gD K) [] E0 (ah (aj 2) (ah (aj 3) (ah (aj 4) aE)))) (tC .non))))
def DI(K:Fg):TS:=(bf (bD (a7 (sQ K) [] E0 (ah (aj 1) (ah (aj 2) aE))) (aK 7)) (DH K))
def DJ(K:Fg):TS:=(bf (di (bN (aX (Al) (a7 (gD K) [] E0 (ah (aj 2) (ah (aj 3) (ah (a7 (kZ K) [] E0 (ah (aj 2) (ah (aj 4) aE))) aE)))) (tC .non))) (cF (tC (.bl false))) b5) (DI K))
def DK(K:Fg):TS:=(di (bN (aX (Al) (a7 (gD K) [] E0 (ah (aj 2) (ah (aj 3) (ah (aX (gC K) (aX (gC K) (pj (oY K) (aj 4) cY (eI (aj 5))) (b7 (ah (aj 6) aE))) (pj (oY K) (aj 4) (eI (aX (gC K) (aj 5) (tC (.int 1)))) cY)) aE)))) (tC .non))) (cF (tC (.bl false))) b5)
def DL(K:Fg):TS:=(bf (bD (aX (cw K) (a7 (kZ K) [] E0 (ah (aj 2) (ah (aj 4) aE))) (aj 5)) (aK 6)) (DK K))
def DM(K:Fg):TS:=(bf (jy (ly (ah (e8 (fP K) (ah (aj 2) aE)) aE)) (aK 5) (DL K)) (DJ K))
def DN(K:Fg):TS:=(bf (di (bN (aX (Al) (a7 (gD K) [] E0 (ah (aj 2) (ah (aj 3) (ah (aj 4) aE)))) (tC .non))) (cF (tC (.bl false))) b5) (DM K))
def DO(K:Fg):TS:=(bf (bD (a7 (sQ K) [] E0 (ah (aj 1) (ah (aj 2) aE))) (nW K 2 (eF (aK 3) (eF (aK 4) mP)))) (DN K))
def DP(K:Fg):TS:=(bf (bD (a7 (oh K) [] E0 (ah (aj 1) (ah (tC (.int 6)) aE))) (aK 2)) (DO K))
def Kp(K:Fg):TS:=(bf (bD (ki (ah (aj 0) (ah (tC (.int 0)) (ah (tC (.int 0)) aE)))) (aK 1)) (DP K))
section
variable(P:Program)(w:World)(K:Fg)(mg:Str->Option Value)(base:Heap)
abbrev kr:=b6 P w K mg base "pushed" zo Bk (iJ K)
abbrev za:=b6 P w K mg base "goal" v5 zf (mN K)
abbrev y9:=b6 P w K mg base "goal" v5 zf (qG K)
abbrev pW:=b6 P w K mg base "leads" tI vT (kU K)
abbrev oB:=b6 P w K mg base "sets" D9 FH (mM K)
abbrev oA:=b6 P w K mg base "set_anew" vm xB (jT K)
abbrev mT:=b6 P w K mg base "row_wrong" tG vh (jt K)
abbrev sW:=b6 P w K mg base "unlike" zq Bm (mh K)
abbrev oz:=b6 P w K mg base "is_right" vk xA (jS K)
abbrev je:=b6 P w K mg base "stands" zp Bl (f6 K)
abbrev vM:=b6 P w K mg base "begun" Bq DW (nZ K)
abbrev iM:=b6 P w K mg base "fits_behind" qe rW (fk K)
abbrev sX:=b6 P w K mg base "weaker" zr Bn (mi K)
abbrev qP:=b6 P w K mg base "behind" zk Bj (kS K)
abbrev pX:=b6 P w K mg base "leads" tI vT (jw K)
abbrev mU:=b6 P w K mg base "same_work" tH vi (ju K)
abbrev lj:=b6 P w K mg base "places_read" qf rX (ix K)
abbrev vN:=b6 P w K mg base "reads" Br DX (og K)
abbrev iL:=b6 P w K mg base "_law_draw" HW Ku (b9 K)
abbrev vS:=b6 P w K mg base "_law_worth" Bx D4 (oj K)
abbrev qT:=b6 P w K mg base "_law_set_names" lT mW (kY K)
abbrev qS:=b6 P w K mg base "_law_rough_row" tJ vj (kX K)
abbrev y4:=b6 P w K mg base "_law_filled" D6 FD (qD K)
abbrev y8:=b6 P w K mg base "_law_mended" D8 FG (qF K)
abbrev Fy:=b6 P w K mg base "_law_part" HY Kw (yO K)
abbrev C3:=b6 P w K mg base "_law_names" FM HS (ph K)
abbrev Kt:=b6 P w K mg base "_law_in" Mw NG (Az K)
abbrev C4:=b6 P w K mg base "_law_place" FN HU (jv K)
abbrev pV:=b6 P w K mg base "_law_brought" Bp DV (iw K)
abbrev oD:=b6 P w K mg base "_law_code_row" vo xD (jV K)
abbrev y7:=b6 P w K mg base "_law_forgot" D7 FE (qE K)
abbrev qQ:=b6 P w K mg base "come_to" xH zd (kT K)
abbrev C2:=b6 P w K mg base "_law_block" FK HR (uy K)
abbrev mV:=b6 P w K mg base "_law_set_names" lT mW (jx K)
abbrev qR:=b6 P w K mg base "_law_part_made" xI ze (kW K)
abbrev nN:=b6 P w K mg base "_law_names_of" zj Bi (jM K)
abbrev vR:=b6 P w K mg base "_law_without" Bw D1 (oi K)
abbrev oC:=b6 P w K mg base "_law_read_names" vn xC (jU K)
abbrev vO:=b6 P w K mg base "wrong" Bs DY (gD K)
abbrev Fx:=b6 P w K mg base "_law_made" HX Kv (sQ K)
abbrev vQ:=b6 P w K mg base "_law_thinned" Bv D0 (kZ K)
abbrev vP:=b6 P w K mg base "_law_program" Bu DZ (oh K)
end
section
variable{P:Program}{w:World}{K:Fg}{mg:Str->Option Value}{base:Heap}
theorem BL(B:jH mg) :jI P w K mg base tu "pushed" uu Cb (uZ K):=j7 λnd hu hu1 hr=>by exact
 (aO (bx (cH fA (bC bW (bh (bB (qv 1))) (qv 0)) dB (cX (gi B (bB (qv 0)))))))
theorem xZ(B:jH mg)(c_p_pushed:kr P w K mg base):jI P w K mg base kx "set_anew" kO yg (pH K):=j7 λnd hu hu1 hr=>by exact
 (aO (bx (ed c_p_pushed (ao (bK bE rfl B.tuple_ boot_tuple (bB (Cr kO kx ["name"] [] (da (qv 0)) (gv 2) dA (Aj (aW (cT hu) (qv 2) (qv 1) rfl) e6 (qv 2))))) (bB (qv 1))))))
theorem BK(B:jH mg)(c_p_set_anew:oA P w K mg base)(c_p_pushed:kr P w K mg base):jI P w K mg base tq "behind" ur Ca (uY K):=j7 λnd hu hu1 hr=>by exact
 (aw (jr (aW (cT hu) (cN (qv 0) az) aP rfl) (bx (ed c_p_pushed (ao (qv 1) (bB (cN (qv 1) (cN (qv 0) az))))))) (aw (jr (aW eC (cN (qv 0) az) (bh (ao aP (ao aP (bB aP)))) rfl) (bx (ed c_p_set_anew (ao (qv 1) (bB (qv 2)))))) (aO (bx (qv 1)))))
theorem zO(B:jH mg) :jI P w K mg base tE "goal" Av Gs (u4 K):=j7 λnd hu hu1 hr=>by exact
 (aw (jr (aW (cT hu) (cN (qv 0) az) aP rfl) (bx (cN (qv 0) az))) (aw (jr (aW (cT hu) (cN (qv 0) az) aP rfl) (bx (cN (qv 0) az))) (aO (bx e6))))
theorem wj(B:jH mg)(c_q_goal:za P w K mg base):jI P w K mg base qb "leads" wK EH (qK K):=j7 λnd hu hu1 hr=>by exact
 (aw (eO 2 (cN (cN (qv 0) (qv 1)) az)) (aw (jr (aW (cT hu) (qv 2) aP rfl) (bx (bh iQ))) (aw (jr (aW (cT hu) (qv 2) aP rfl) (bx (bh (bB (ed c_q_goal (bB (cN (qv 0) (qv 1)))))))) (aw (jr (aW (cT hu) (qv 2) aP rfl) (bx (bh (ao (bC bW (qv 1) az) (bB (ed c_q_goal (bB (cN (qv 0) (qv 1))))))))) (aO (bx (bh (bB (bC bW (qv 1) az)))))))))
theorem BP(B:jH mg) :jI P w K mg base nS "weaker" nY Cf (u3 K):=j7 λnd hu hu1 hr=>by exact
 (aO (bx (gu (qV rfl) rfl B.all_ boot_all (bB (Cr nY nS ["name","fellow"] [] (yw rfl B.zip_ (ao (qv 0) (bB (qv 1)))) (iR rfl (cB (gv 2) (cB (gv 3) gg))) dA (M6 (fR yp (qv 2) e6 rfl) (yv (fR (cT hu) (qv 2) (qv 3) rfl))))))))
theorem r8(B:jH mg)(c_p_weaker:sX P w K mg base):jI P w K mg base lu "fits_behind" lC sh (lE K):=j7 λnd hu hu1 hr=>by exact
 (aO (bx (Cs (fR (cT hu) (cN (qv 0) az) (qv 1) rfl) (yv (ed c_p_weaker (ao (cN (qv 0) az) (bB (qv 2))))))))
theorem F1(B:jH mg) :jI P w K mg base zi "sets" Au Gr (AW K):=j7 λnd hu hu1 hr=>by exact
 (aw (jr (aW eC (cN (qv 0) az) (bh (ao aP (ao aP (bB aP)))) rfl) (bx (cN (qv 0) az))) (aO (bx e6)))
theorem se(B:jH mg) :jI P w K mg base lx "places_read" lD sj (lF K):=j7 λnd hu hu1 hr=>by exact
 (aw (eO 1 (cN (qv 0) az)) (aw (jr (aW (cT hu) (qv 1) aP rfl) (bx (bh (ao (cN (qv 0) az) (bB (cN (qv 0) az)))))) (aw (jr (aW (cT hu) (qv 1) aP rfl) (bx (bK bE rfl B.tuple_ boot_tuple (bB (cN (qv 0) az))))) (aw (jr (aW eC (qv 1) (bh (ao aP (ao aP (ao aP (bB aP))))) rfl) (bx (bh (bB (cN (qv 0) az))))) (aO (bx (bh iQ)))))))
theorem Ek(B:jH mg) :jI P w K mg base vX "reads" wI EE (xg K):=j7 λnd hu hu1 hr=>by exact
 (aw (eO 1 (cN (qv 0) az)) (aw (jr (aW (cT hu) (qv 1) aP rfl) (bx (bh (ao (cN (qv 0) az) (bB (cN (qv 0) az)))))) (aw (jr (aW (cT hu) (qv 1) aP rfl) (bx (bK bE rfl B.tuple_ boot_tuple (bB (cN (qv 0) az))))) (aw (jr (aW eC (qv 1) (bh (ao aP (ao aP (bB aP)))) rfl) (bx (bh (bB (cN (qv 0) az))))) (aO (bx (bh iQ)))))))
theorem vt(B:jH mg)(c_p_places_read:lj P w K mg base)(c_p_reads:vN P w K mg base):jI P w K mg base jN "same_work" jR vy (nu K):=j7 λnd hu hu1 hr=>by exact
 (aw (jr (aW (qu hu) (cN (qv 0) az) (cN (qv 1) az) rfl) (bx md)) (aw (jr (QW.pt (uj (aW eC (cN (qv 0) az) (bh (ao aP (ao aP (bB aP)))) rfl) (sP (aW (qu hu) (cN (qv 0) az) (cN (qv 1) az) rfl)))) (bx md)) (aO (bx (fR (cT hu) (bK bE rfl B.tuple_ boot_tuple (bB (Cr jR jN ["place"] [] (da (ed c_p_places_read (bB (qv 1)))) (gv 3) dA (cN (qv 2) (qv 3))))) (ed c_p_reads (bB (qv 0))) rfl)))))
theorem BM(B:jH mg)(c_p_goal:y9 P w K mg base):jI P w K mg base tw "stands" uv Cc (u0 K):=j7 λnd hu hu1 hr=>by exact
 (aw (eO 2 (qv 1)) (aw (ui PassesOwn.never (aW (cT hu) (cN (cN (qv 0) (qv 2)) az) aP rfl) (aO (eO 2 (ed c_p_goal (bB (cN (qv 0) (qv 2))))))) (aO (bx (qv 2)))))
theorem xY(B:jH mg)(c_p_behind2:qP P w K mg base)(c_q_leads:pX P w K mg base)(c_p_fits_behind:iM P w K mg base)(c_p_sets:oB P w K mg base)(c_p_same_work:mU P w K mg base)(c_p_stands:je P w K mg base):jI P w K mg base iX "is_right" iZ yf (pC K):=j7 λnd hu hu1 hr=>by exact
 (aw (eO 4 (cN (qv 1) (qv 3))) (aw (eO 5 (cN (cN (qv 2) (qv 3)) az)) (aw (eO 6 (cN (cN (qv 2) (qv 3)) az)) (aw (kg (aW eC (cN (qv 4) az) (bh (ao aP (bB aP))) rfl) (aO (eO 7 (bh (bB (qv 5))))) (aO (kg (Cu (qx (ed c_p_same_work (ao (cN (qv 0) (qv 5)) (ao (qv 4) (bB (qv 6))))))) (aO (bx md)) (aO (eO 7 (bK bE rfl B.tuple_ boot_tuple (bB (Cr iZ iX ["to"] [] (da (ed c_q_leads (ao (qv 0) (bB (qv 5))))) (gv 9) dA (ed c_p_stands (ao (qv 0) (bB (qv 9)))))))))))) (aw (eO 8 (ed c_p_behind2 (ao (qv 4) (ao (qv 6) (bB (ed c_p_sets (bB (cN (qv 0) (qv 5))))))))) (aO (bx (gu (qV rfl) rfl B.all_ boot_all (bB (Cr iZ iX ["to","row"] [] (yw rfl B.zip_ (ao (ed c_q_leads (ao (qv 1) (bB (qv 3)))) (bB (qv 7)))) (iR rfl (cB (gv 9) (cB (gv 10) gg))) dA (ed c_p_fits_behind (ao (cN (qv 2) (qv 9)) (ao (qv 10) (bB (qv 8)))))))))))))))
theorem Ej(B:jH mg)(c_p_pushed:kr P w K mg base):jI P w K mg base vW "begun" wH ED (xf K):=j7 λnd hu hu1 hr=>by exact
 (aw (eO 3 (bC eG (bh (bB (qv 2))) (qv 0))) (aw (fj PassesOwn.never rfl (da (qv 1)) (gv 4) (aO (eO 3 (ed c_p_pushed (ao (qv 3) (bB (qv 4))))))) (aO (bx (qv 3)))))
theorem vq(B:jH mg)(c_p_is_right:oz P w K mg base)(c_p_stands:je P w K mg base)(c_p_begun:vM P w K mg base)(c_p_fits_behind:iM P w K mg base):jI P w K mg base mX "row_wrong" nh vx (nr K):=j7 λnd hu hu1 hr=>by exact
 (aw (jr (Cu (qx (ed c_p_fits_behind (ao (cN (qv 3) az) (ao (ed c_p_stands (ao (cN (qv 1) az) (bB az))) (bB (ed c_p_begun (ao (qv 0) (ao (cN (qv 1) az) (bB e6)))))))))) (bx az)) (aw (fj PassesOwn.never rfl (fM rfl B.range_ (bB (gi B (bB (qv 2))))) (gv 4) (aO (jr (Cu (qx (ed c_p_is_right (ao (cN (qv 1) az) (ao (qv 2) (ao (qv 3) (bB (qv 4)))))))) (bx (qv 4))))) (aO (bx e6))))
theorem BN(B:jH mg) :jI P w K mg base ky "unlike" kP Cd (u1 K):=j7 λnd hu hu1 hr=>by exact
 (aw (Fu kP ky ["part"] [] 2 (da (qv 0)) (gv 5) dA (gi B (bB (cN (qv 5) az)))) (aw (Fu kP ky ["part"] [] 3 (da (qv 1)) (gv 5) dA (cN (qv 5) az)) (aw (fj PassesOwn.never rfl (fM rfl B.range_ (bB (gu (wc rfl) rfl B.max_ boot_max (ao (gi B (bB (qv 2))) (bB (gi B (bB (qv 3)))))))) (gv 4) (aO (jr (aW (qu hu) (cH fA (qv 2) (cX (qv 4)) (cX (bC bW (qv 4) az))) (cH fA (qv 3) (cX (qv 4)) (cX (bC bW (qv 4) az))) rfl) (bx (qv 4))))) (aO (bx e6)))))
theorem El(B:jH mg)(c_p_row_wrong:mT P w K mg base)(c_p_unlike:sW P w K mg base):jI P w K mg base vY "wrong" wJ EF (xh K):=j7 λnd hu hu1 hr=>by exact
 (aw (eO 3 (cN (qv 1) az)) (aw (eO 4 (cN (qv 1) az)) (aw (eO 5 (ed c_p_unlike (ao (qv 0) (bB (qv 4))))) (aw (jr (aW oW (qv 5) e6 rfl) (bx (bh (ao (qv 5) (bB az))))) (aw (fj PassesOwn.never rfl (GS rfl B.enumerate_ (bB (qv 0))) (iR rfl (cB (gv 5) (cB (gv 6) gg))) (aw (eO 7 (ed c_p_row_wrong (ao (qv 3) (ao (qv 6) (ao (cN (cN (qv 4) (qv 5)) az) (bB (cN (qv 2) (qv 5)))))))) (aO (jr (aW oW (qv 7) e6 rfl) (bx (bh (ao (qv 5) (bB (qv 7))))))))) (aO (bx e6)))))))
theorem BO(B:jH mg)(c_p_leads:pW P w K mg base)(c_p_sets:oB P w K mg base):jI P w K mg base nR "walked" e7 Ce (u2 K):=j7 λnd hu hu1 hr=>by exact
 (aw (eO 2 (Jv (GT az md JB) rfl rfl (by simp) (by decide))) (aw (eO 3 (fO (bB az))) (aw (ui PassesOwn.never (aW GB (gi B (bB (qv 3))) az rfl) (aw (eO 4 (LR PySem.F.plainAttrs_list PySem.F.slot_list_pop PySem.F.type_list_pop Ld (qv 3))) (aO (jr (QW.pt (Kg (aW yp (qv 1) e6 rfl) (GU (aW (qu hu) (ed c_p_sets (bB (cN (qv 0) (qv 4)))) (qv 1) rfl)))) (fj PassesOwn.never rfl (da (ed c_p_leads (ao (qv 0) (bB (qv 4))))) (gv 5) (aO (kg (aW (ET hu1) (qv 5) (qv 2) rfl) (aw (iu md (jq (qv 2) (qv 5) (Ay hu1))) (aO (fS (qw (qv 3) (qv 5))))) kL))))))) (aO (bx (gu (BI rfl) rfl B.sorted_ boot_sorted (bB (qv 2))))))))
theorem zM(B:jH mg)(c_p_walked_d1:sL P w K mg base "walked" gH nQ [.non] (gK K)):jI P w K mg base lS "come_to" me zX (rh K):=j7 λnd hu hu1 hr=>by exact
 (aO (bx (Cr me lS ["n"] [] (da (LS c_p_walked_d1 (hr.mono (by decide)) rfl (bB (qv 0)))) (gv 1) (mH (aW (qu hu) (cN (cN (qv 0) (qv 1)) az) aP rfl)) (qv 1))))
theorem KB(B:jH mg) :jI P w K mg base FJ "_law_draw" Hd KU (Hm K):=j7 λnd hu hu1 hr=>by exact
 (aw (iu (cH fA (qv 0) dB (cX az)) (Jy rfl (cB (gv 2) (cB (gv 3) gg)))) (aw (iu (bC bW (qv 3) az) (jq (qv 0) az ia)) (aw (kg (QW.pt (uj (aW oU (bC bW (bC yo (qv 3) az) az) (gi B (bB (qv 2))) rfl) (sP (aW (cT hu) (bC ir (cN (qv 2) az) az) az rfl)))) (aw (jr (aW (cT hu) (bC ir (qv 3) az) az rfl) (iu (cN (qv 2) (bC bW (bC yo (qv 3) az) az)) (jq (qv 0) az ia))) (aO (kg (aW iY (cN (qv 0) az) (bh (ao az (bB (Kf Hz az)))) rfl) (aw (iu (gu xQ rfl B.divmod_ boot_divmod (ao (cN (qv 0) az) (bB (qv 1)))) (iR rfl (cB (jq (qv 0) az ia) (cB (gv 4) gg)))) (aO (bx (qv 4)))) kL))) (aO (jr (aW oU (qv 3) (gi B (bB (qv 2))) rfl) (bx (bC ir (cN (qv 2) (qv 3)) (qv 1)))))) (aw (eO 5 (bC bW (bC eG (qv 3) az) az)) (aw (jr (aW GB (gi B (bB (qv 2))) az rfl) (eO 5 (bC bW (qv 5) (bC eG (cN (qv 2) (bC ir (bC eG (qv 3) az) (gi B (bB (qv 2))))) (bC bW az (qv 3)))))) (aw (eO 5 (bC ir (bC eG (bC ir (qv 5) az) (bC bW (qv 3) az)) az)) (aw (eO 5 (bC ir (bC eG (qv 5) (qv 5)) az)) (aO (bx (bC ir (bC ir (bC eG (qv 5) (qv 5)) az) (qv 1)))))))))))
theorem KD(B:jH mg) :jI P w K mg base Mt "_law_in" Nl NO (Nn K):=j7 λnd hu hu1 hr=>by exact
 (aO (bx (bC bW (bh (bB (qv 1))) (cH fA (qv 0) dB (cX (Kf Hz az))))))
theorem Ei(B:jH mg)(c_in:Kt P w K mg base):jI P w K mg base vV "_law_brought" wG EC (wY K):=j7 λnd hu hu1 hr=>by exact
 (aw (fj PassesOwn.never rfl (JA rfl B.reversed_ (bB (qv 3))) (gv 4) (aw (eO 5 (Jw (qv 2) (bB (qv 4)))) (aw (fS (qw (qv 0) (bh (ao (bh (ao aP (bB (qv 5)))) (bB (bh (ao (qv 1) (bB (qv 2))))))))) (aO (eO 2 (ed c_in (ao (qv 2) (bB (cN (qv 2) (qv 5)))))))))) (aO (bx (qv 2))))
theorem Ir(B:jH mg)(c_draw:iL P w K mg base):jI P w K mg base xG "_law_place" yI II (DR K):=j7 λnd hu hu1 hr=>by exact
 (aw (Fu yI xG ["_law_i"] [] 3 (fM rfl B.range_ (bB (gi B (bB (qv 1))))) (gv 4) (mH (aW (cT hu) (cN (qv 1) (qv 4)) (qv 2) rfl)) (qv 4)) (aO (bx (cN (qv 3) (ed c_draw (ao (qv 0) (bB (gi B (bB (qv 3))))))))))
theorem ya(B:jH mg)(c_place:C4 P w K mg base):jI P w K mg base kz "_law_code_row" kQ yi (pQ K):=j7 λnd hu hu1 hr=>by exact
 (aw (jr (aW (cT hu) (cN (qv 1) az) aP rfl) (bx (bh (ao aP (bB (cN (qv 1) az)))))) (aw (jr (aW (cT hu) (cN (qv 1) az) aP rfl) (bx (bh (ao aP (ao (cN (qv 1) az) (ao (ed c_place (ao (qv 0) (ao (qv 2) (bB (cN (qv 1) az))))) (bB (ed c_place (ao (qv 0) (ao (qv 2) (bB (cN (qv 1) az)))))))))))) (aw (jr (aW (cT hu) (cN (qv 1) az) aP rfl) (bx (bh (ao aP (ao (cN (qv 1) az) (bB (bK bE rfl B.tuple_ boot_tuple (bB (Cr kQ kz ["_law_name"] [] (da (cN (qv 1) az)) (gv 3) dA (ed c_place (ao (qv 0) (ao (qv 2) (bB (qv 3)))))))))))))) (aw (jr (aW (cT hu) (cN (qv 1) az) aP rfl) (bx (bh (ao aP (ao (ed c_place (ao (qv 0) (ao (qv 2) (bB (cN (qv 1) az))))) (bB aP)))))) (aO (bx (bh (ao (cN (qv 1) az) (bB (ed c_place (ao (qv 0) (ao (qv 2) (bB (cN (qv 1) az))))))))))))))
theorem FZ(B:jH mg)(c_draw:iL P w K mg base):jI P w K mg base zg "_law_forgot" Ar Gp (AM K):=j7 λnd hu hu1 hr=>by exact
 (aw (eO 2 (ed c_draw (ao (qv 0) (bB (gi B (bB (qv 1))))))) (aw (jr (aW eC (cN (qv 1) (qv 2)) (cH fA (qv 1) dB (cX (qv 2))) rfl) (bx (bC bW (bC bW (cH fA (qv 1) dB (cX (qv 2))) (bh (bB e6))) (cH fA (qv 1) (cX (bC bW (qv 2) az)) dB)))) (aO (bx (qv 1)))))
theorem Im(B:jH mg)(c_draw:iL P w K mg base)(c_brought:pV P w K mg base)(c_p_stands:je P w K mg base)(c_in:Kt P w K mg base)(c_z_code_row:oD P w K mg base)(c_forgot:y7 P w K mg base):jI P w K mg base xE "_law_block" yG IG (DG K):=j7 λnd hu hu1 hr=>by exact
 (aw (eO 7 (cH kR (bC hW (bK bE rfl B.tuple_ boot_tuple (bB (cN (qv 4) (qv 3)))) (bC eG (bh (bB e6)) (qv 5))) dB (cX (qv 5)))) (aw (kg (aW (uc hu) (ed c_draw (ao (qv 0) (bB az))) az rfl) (aw (eO 8 (ed c_draw (ao (qv 0) (bB (qv 5))))) (aw (fS (qw (qv 1) (bh (ao (bh (ao aP (bB (qv 8)))) (bB (bh (ao (qv 3) (bB (qv 7))))))))) (aO (eO 7 (ed c_in (ao (qv 7) (bB (cN (qv 7) (qv 8))))))))) kL) (aw (eO 7 (ed c_forgot (ao (qv 0) (bB (qv 7))))) (aw (eO 9 (cN (qv 2) (qv 3))) (aw (eO 10 (gi B (bB (qv 1)))) (aw (fS (qw (qv 1) (bh (ao (ed c_z_code_row (ao (qv 0) (ao (qv 9) (bB (qv 7))))) (bB (bh (ao (qv 3) (bB (qv 7))))))))) (aw (jr (aW (uc hu) (cN (qv 9) az) aP rfl) JD) (aw (eO 11 (qv 7)) (aw (jr (aW eC (cN (qv 9) az) (bh (ao aP (ao aP (bB aP)))) rfl) (eO 11 (ed c_in (ao (bK bE rfl B.tuple_ boot_tuple (bB (Cr yG xE ["_law_name"] [] (da (qv 7)) (gv 14) dA (Aj (aW (uc hu) (qv 14) (cN (qv 9) az) rfl) e6 (qv 14))))) (bB (cN (qv 9) az)))))) (aw (eO 12 (ed c_p_stands (ao (qv 2) (bB (bC hW (qv 3) az))))) (aw (eO 11 (ed c_brought (ao (qv 1) (ao (qv 12) (ao (qv 11) (bB (cN (qv 4) (qv 12)))))))) (aw (fS (qw (qv 1) (bh (ao (bh (ao aP (bB (bh (ao aP (ao (qv 12) (bB (ed c_draw (ao (qv 0) (bB (qv 6))))))))))) (bB (bh (ao (qv 12) (bB (qv 11))))))))) (aO (kg (aW (uc hu) (cN (qv 9) az) aP rfl) (aw (iu (bh (ao (bC hW (cH kR (cN (cN (qv 1) (qv 10)) az) dB (cX az)) (bh (bB (gi B (bB (qv 1)))))) (bB (cN (cN (qv 1) (qv 10)) az)))) (jq (qv 1) (qv 10) ia)) (aw (eO 13 (ed c_p_stands (ao (qv 2) (bB (cN (qv 9) az))))) (aw (eO 7 (ed c_brought (ao (qv 1) (ao (qv 13) (ao (qv 7) (bB (cN (qv 4) (qv 13)))))))) (aO (fS (qw (qv 1) (bh (ao (bh (ao aP (bB (bh (ao aP (ao (qv 13) (bB (ed c_draw (ao (qv 0) (bB (qv 6))))))))))) (bB (bh (ao (qv 13) (bB (qv 7))))))))))))) kL))))))))))))))
theorem mZ(B:jH mg)(c_q_leads:pX P w K mg base):jI P w K mg base gr "_law_set_names" iC vA (jX K):=j7 λnd hu hu1 hr=>by exact
 (aw (Fu iC gr ["_law_row"] [] 3 (da (qv 0)) (gv 9) dA (bK gX rfl B.list_ boot_list (bB (qv 1)))) (aw (iu (bK gX rfl B.list_ boot_list (bB (qv 2))) (jq (qv 3) az ia)) (aw (eO 4 md) (aw (ui PassesOwn.never (qx (qv 4)) (aw (eO 4 md) (aO (fj PassesOwn.never rfl (fM rfl B.range_ (bB (gi B (bB (qv 0))))) (gv 5) (aw (eO 6 (cN (qv 3) (qv 5))) (aw (jr (aW eC (cN (cN (qv 0) (qv 5)) az) (bh (ao aP (ao aP (bB aP)))) rfl) (eO 6 (bC bW (qv 6) (fO (bB (cN (cN (qv 0) (qv 5)) az)))))) (aO (fj PassesOwn.never rfl (da (ed c_q_leads (ao (qv 0) (bB (qv 5))))) (gv 7) (aw (Fu iC gr ["_law_name"] [] 8 (da (cN (qv 3) (qv 7))) (gv 9) (mH (aW eC (qv 9) (qv 6) rfl)) (qv 9)) (aO (kg (aW oU (gi B (bB (qv 8))) (gi B (bB (cN (qv 3) (qv 7)))) rfl) (aw (iu (qv 8) (jq (qv 3) (qv 7) ia)) (aO (eO 4 md))) kL))))))))))) (aO (bx (qv 3)))))))
theorem zN(B:jH mg)(c_p_come_to:qQ P w K mg base)(c_block:C2 P w K mg base)(c_draw:iL P w K mg base)(c_brought:pV P w K mg base)(c_p_stands:je P w K mg base)(c_z_set_names:mV P w K mg base):jI P w K mg base iF "_law_part_made" iI zY (rD K):=j7 λnd hu hu1 hr=>by exact
 (aw (eO 4 (cN (qv 1) az)) (aw (Fu iI iF ["_law_some"] [] 5 (da (ed c_z_set_names (ao (qv 4) (ao (qv 2) (bB (cN (qv 1) az)))))) (gv 13) dA (bK bE rfl B.tuple_ boot_tuple (bB (qv 13)))) (aw (eO 6 (cH kR (bC hW (Ct rfl rfl B.tuple_ B.reversed_ rfl (bB (cN (qv 1) az))) (bC eG (bh (bB e6)) (qv 3))) dB (cX (qv 3)))) (aw (eO 7 (fO iQ)) (aw (eO 8 GR) (aw (eO 9 (ed c_p_stands (ao (qv 4) (bB az)))) (aw (eO 6 (ed c_brought (ao (qv 7) (ao (qv 9) (ao (qv 6) (bB (cN (qv 5) (qv 9)))))))) (aw (fS (qw (qv 7) (bh (ao (bh (ao aP (bB (bh (ao aP (ao (qv 9) (bB az))))))) (bB (bh (ao (qv 9) (bB (qv 6))))))))) (aw (eO 10 (bC hW az (bK i7 rfl B.int_ boot_int (bB (Cs (fR oU (gi B (bB (qv 4))) az rfl) (yv (fR (uc hu) (ed c_draw (ao (qv 0) (bB az))) az rfl))))))) (aw (fj PassesOwn.never rfl (da (bC Lo (ed c_p_come_to (bB (qv 4))) (qv 10))) (gv 11) (aw (iu (gi B (bB (qv 7))) (jq (qv 8) (bh (ao aP (ao (qv 11) (bB (bK i7 rfl B.int_ boot_int (bB (fR (Lj hu1) (bh (ao aP (ao (qv 11) (bB az)))) (qv 8) rfl))))))) (Ay hu1))) (aO (fS (ed c_block (ao (qv 0) (ao (qv 7) (ao (qv 4) (ao (qv 11) (ao (qv 5) (ao (qv 3) (bB (qv 10))))))))))))) (aw (Fu iI iF ["_law_row","_law_paper"] [] 12 (da (qv 7)) (iR rfl (cB (gv 13) (cB (gv 14) gg))) dA (bC hW (cH kR (qv 13) dB (cX az)) (bK bE rfl B.tuple_ boot_tuple (bB (Oc ["_law_thing"] [] (da (cH kR (qv 13) (cX az) dB)) (gv 15) dA (EY hu1 (qv 8) (qv 15) (qv 15) ⟨rfl,rfl,rfl,rfl⟩)))))) (aO (bx (bh (ao (bh (ao (gi B (bB (cN (qv 1) az))) (bB (bK bE rfl B.tuple_ boot_tuple (bB (qv 12)))))) (bB (bK bE rfl B.tuple_ boot_tuple (bB (Cr iI iF ["_law_row","_law_paper"] [] (da (qv 7)) (iR rfl (cB (gv 13) (cB (gv 14) gg))) dA (qv 14))))))))))))))))))))
theorem BJ(B:jH mg) :jI P w K mg base ku "_law_names_of" kM B0 (uX K):=j7 λnd hu hu1 hr=>by exact
 (aw (eO 1 (fO iQ)) (aw (fj PassesOwn.never rfl (da (qv 0)) (iR rfl (cB (gv 2) (cB (gv 3) (cB (gv 4) gg)))) (aO (eO 1 (bC bW (bC bW (qv 1) (bK gX rfl B.list_ boot_list (bB (qv 3)))) (Cr kM ku ["_law_row"] [] (da (qv 4)) (gv 5) (mH (aW eC (cN (qv 5) az) (bh (ao aP (ao aP (bB aP)))) rfl)) (cN (qv 5) az)))))) (aO (bx (Cr kM ku ["_law_k"] [] (fM rfl B.range_ (bB (gi B (bB (qv 1))))) (gv 5) (mH (aW iY (cN (qv 1) (qv 5)) (cH fA (qv 1) dB (cX (qv 5))) rfl)) (cN (qv 1) (qv 5)))))))
theorem KF(B:jH mg)(c_part_made:qR P w K mg base)(c_draw:iL P w K mg base)(c_names_of:nN P w K mg base):jI P w K mg base tm "_law_made" uq KW (Ht K):=j7 λnd hu hu1 hr=>by exact
 (aw (eO 2 (ed c_names_of (bB (qv 1)))) (aw (eO 3 (bC bW (bC bW (bC eG az (gi B (bB (qv 2)))) az) (ed c_draw (ao (qv 0) (bB az))))) (aw (Fu uq tm ["_law_part_here"] [] 4 (da (qv 1)) (gv 5) dA (ed c_part_made (ao (qv 0) (ao (qv 5) (ao (qv 2) (bB (qv 3))))))) (aO (bx (bh (ao (bh (ao (qv 3) (bB (bK bE rfl B.tuple_ boot_tuple (bB (Cr uq tm ["_law_one"] [] (da (qv 4)) (gv 5) dA (cN (qv 5) az))))))) (bB (bK bE rfl B.tuple_ boot_tuple (bB (Cr uq tm ["_law_one"] [] (da (qv 4)) (gv 5) dA (cN (qv 5) az))))))))))))
theorem Ep(B:jH mg) :jI P w K mg base qd "_law_without" qC EJ (xm K):=j7 λnd hu hu1 hr=>by exact
 (aO (bx (bK bE rfl B.tuple_ boot_tuple (bB (Cr qC qd ["_law_n","_law_names_here"] [] (da (qv 0)) (iR rfl (cB (gv 2) (cB (gv 3) gg))) dA (bh (ao (qv 2) (bB (bK bE rfl B.tuple_ boot_tuple (bB (Oc ["_law_one"] [] (da (qv 3)) (gv 4) dA (cN (fO (ao (qv 4) (bB e6))) (bK i7 rfl B.int_ boot_int (bB (fR (cT hu) (qv 4) (qv 1) rfl)))))))))))))))
theorem x8(B:jH mg) :jI P w K mg base oF "_law_read_names" pf yh (pP K):=j7 λnd hu hu1 hr=>by exact
 (aw (eO 1 (fO iQ)) (aw (fj PassesOwn.never rfl (da (qv 0)) (gv 2) (aO (kg (aW (cT hu) (cN (qv 2) az) aP rfl) (aO (eO 1 (bC bW (qv 1) (bK gX rfl B.list_ boot_list (bB (cH fA (qv 2) (cX az) dB)))))) (aO (kg (aW (cT hu) (cN (qv 2) az) aP rfl) (aO (eO 1 (bC bW (qv 1) (bK gX rfl B.list_ boot_list (bB (cN (qv 2) az)))))) (aO (jr (aW eC (cN (qv 2) az) (bh (ao aP (ao aP (bB aP)))) rfl) (fS (qw (qv 1) (cN (qv 2) az)))))))))) (aO (bx (qv 1)))))
theorem Eo(B:jH mg)(c_without:vR P w K mg base)(c_names_of:nN P w K mg base)(c_read_names:oC P w K mg base):jI P w K mg base qc "_law_thinned" qB EI (xk K):=j7 λnd hu hu1 hr=>by exact
 (aw (eO 2 (fO iQ)) (aw (fj PassesOwn.never rfl (yw rfl B.zip_ (ao (qv 0) (bB (qv 1)))) (iR rfl (cB (gv 3) (cB (gv 4) gg))) (aw (Fu qB qc [] [6] 5 (da (ed c_names_of (bB (bh (bB (qv 3)))))) (gv 6) (mH (aW iY (qv 6) (ed c_read_names (bB (cN (qv 3) az))) rfl)) (qv 6)) (aw (fj PassesOwn.never rfl (da (qv 5)) (gv 6) (aO (eO 4 (ed c_without (ao (qv 4) (bB (qv 6))))))) (aO (fS (qw (qv 2) (qv 4))))))) (aO (bx (bK bE rfl B.tuple_ boot_tuple (bB (qv 2)))))))
theorem Er(B:jH mg)(c_draw:iL P w K mg base):jI P w K mg base vZ "_law_worth" wL EK (xp K):=j7 λnd hu hu1 hr=>by exact
 (aw (eO 1 (fO (ao az (ao az (ao (bC yt (bC yt (bC yq az az) az) (ed c_draw (ao (qv 0) (bB az)))) (bB (ed c_draw (ao (qv 0) (bB az))))))))) (aw (eO 2 (bC bW (bC eG (ed c_draw (ao (qv 0) (bB (bC yq az az)))) (bC yq az az)) (ed c_draw (ao (qv 0) (bB (bC yq az az)))))) (aO (bx (cN (fO (ao (qv 2) (bB (cN (qv 1) (ed c_draw (ao (qv 0) (bB az))))))) (ed c_draw (ao (qv 0) (bB az))))))))
theorem vv(B:jH mg)(c_draw:iL P w K mg base)(c_z_worth:vS P w K mg base):jI P w K mg base mY "_law_rough_row" ni vz (nK K):=j7 λnd hu hu1 hr=>by exact
 (aw (eO 4 (cN (qv 1) (ed c_draw (ao (qv 0) (bB (gi B (bB (qv 1)))))))) (aw (eO 5 (ed c_draw (ao (qv 0) (bB az)))) (aw (jr (aW oU (qv 5) az rfl) (bx (bh (ao aP (ao (qv 4) (bB (ed c_z_worth (bB (qv 0))))))))) (aw (jr (aW oU (qv 5) az rfl) (bx (bh (ao aP (ao (qv 4) (ao (cN aP (ed c_draw (ao (qv 0) (bB az)))) (ao aP (bB aP)))))))) (aw (kg (aW (cT hu) (qv 5) az rfl) (aw (eO 6 (ed c_draw (ao (qv 0) (bB (gi B (bB (qv 3))))))) (aO (bx (bh (ao aP (ao (qv 4) (ao (qv 6) (bB (bC eG (bh (bB aP)) (cN (qv 3) (qv 6))))))))))) kL) (aw (jr (aW oU (qv 5) az rfl) (bx (bh (ao aP (bB aP))))) (aw (jr (aW oU (qv 5) az rfl) (bx (bh (ao aP (ao aP (bB (ed c_draw (ao (qv 0) (bB (qv 2)))))))))) (aO (bx (cN (fO (ao (bh (ao aP (bB (ed c_draw (ao (qv 0) (bB (qv 2))))))) (bB (bh (ao aP (bB aP)))))) (bC yt (qv 5) az)))))))))))
theorem FY(B:jH mg)(c_draw:iL P w K mg base):jI P w K mg base tj "_law_filled" uo Gn (AL K):=j7 λnd hu hu1 hr=>by exact
 (aw (eO 3 (fO iQ)) (aw (fj PassesOwn.never rfl (Jz rfl B.enumerate_ (bB (qv 1))) (iR rfl (cB (gv 4) (cB (gv 5) gg))) (aw (eO 6 (fO iQ)) (aw (fj PassesOwn.never rfl (da (cH fA (qv 5) (cX az) dB)) (gv 7) (aw (kg (aW (cT hu) (qv 7) aP rfl) (aO (eO 7 (cN (cN (qv 2) (qv 4)) (ed c_draw (ao (qv 0) (bB (gi B (bB (cN (qv 2) (qv 4)))))))))) (aO (jr (qx (gu FT rfl B.isinstance_ boot_isinstance (ao (qv 7) (bB (Ju rfl B.tuple_ boot_tuple (v:=.ty "tuple") rfl))))) (eO 7 (bK bE rfl B.tuple_ boot_tuple (bB (Cr uo tj ["_law_one"] [] (da (qv 7)) (gv 8) dA (cN (cN (qv 2) (qv 4)) (ed c_draw (ao (qv 0) (bB (gi B (bB (cN (qv 2) (qv 4))))))))))))))) (aO (fS (qw (qv 6) (qv 7)))))) (aO (fS (qw (qv 3) (bC bW (bh (bB (cN (qv 5) az))) (bK bE rfl B.tuple_ boot_tuple (bB (qv 6)))))))))) (aO (bx (bK bE rfl B.tuple_ boot_tuple (bB (qv 3)))))))
theorem F0(B:jH mg) :jI P w K mg base zh "_law_mended" As Gq (AQ K):=j7 λnd hu hu1 hr=>by exact
 (aw (eO 3 (bC yt (gi B (bB (qv 0))) az)) (aw (jr (aW iY (cN (cN (qv 0) (qv 3)) az) (bh (ao aP (bB aP))) rfl) (iu (bh (ao aP (bB aP))) (jq (qv 0) (qv 3) ia))) (aw (jr (QW.pt (uj (qx (qv 2)) (uj (aW (qu hu) (cN (cN (qv 0) az) az) aP rfl) (sP (aW GB (qv 3) az rfl))))) (iu (bh (ao aP (ao (cN (qv 1) az) (bB az)))) (jq (qv 0) az ia))) (aw (fj PassesOwn.never rfl (fM rfl B.range_ (bB (gi B (bB (qv 0))))) (gv 4) (aw (eO 5 (qv 4)) (aw (fj PassesOwn.never rfl (da (qv 0)) (gv 6) (aO (jr (aW (cT hu) (cN (cN (qv 0) (qv 5)) az) aP rfl) (eO 5 (cN (cN (qv 0) (qv 5)) az))))) (aO (jr (aW (cT hu) (cN (cN (qv 0) (qv 5)) az) aP rfl) (iu (cN (fO (ao (bh (ao aP (bB aP))) (bB (bh (ao aP (bB aP)))))) (bK i7 rfl B.int_ boot_int (bB (fR (cT hu) (qv 4) (qv 3) rfl)))) (jq (qv 0) (qv 4) ia))))))) (aO (bx (qv 0)))))))
theorem KG(B:jH mg)(c_set_names:qT P w K mg base)(c_rough_row:qS P w K mg base)(c_filled:y4 P w K mg base)(c_mended:y8 P w K mg base)(c_draw:iL P w K mg base):jI P w K mg base Bo "_law_part" CI KY (Hu K):=j7 λnd hu hu1 hr=>by exact
 (aw (eO 6 (gu (wc rfl) rfl B.max_ boot_max (ao (bC bW az (bK i7 rfl B.int_ boot_int (bB (fR (cT hu) (gi B (bB (qv 3))) az rfl)))) (bB (bC bW az (ed c_draw (ao (qv 0) (bB (qv 5))))))))) (aw (Fu CI Bo ["_law_n"] [] 7 (fM rfl B.range_ (bB (qv 6))) (gv 9) dA (ed c_rough_row (ao (qv 0) (ao (qv 2) (ao (qv 6) (bB (qv 4))))))) (aw (eO 7 (ed c_mended (ao (qv 7) (ao (qv 2) (bB (fR (cT hu) (gi B (bB (qv 3))) az rfl)))))) (aw (eO 8 (ed c_set_names (ao (qv 7) (ao (qv 2) (bB (qv 3)))))) (aO (bx (bh (ao (qv 1) (ao (bK bE rfl B.tuple_ boot_tuple (bB (qv 3))) (bB (ed c_filled (ao (qv 0) (ao (qv 7) (bB (qv 8)))))))))))))))
theorem Ip(B:jH mg)(c_draw:iL P w K mg base):jI P w K mg base xF "_law_names" yH IH (DQ K):=j7 λnd hu hu1 hr=>by exact
 (aw (eO 2 aP) (aw (eO 3 (bC bW az (ed c_draw (ao (qv 0) (bB az))))) (aw (eO 4 (ed c_draw (ao (qv 0) (bB (qv 3))))) (aw (eO 5 (ed c_draw (ao (qv 0) (bB az)))) (aw (Fu yH xF ["_law_j"] [] 6 (fM rfl B.range_ (bB (qv 3))) (gv 11) dA (cN (qv 2) (bC ir (bC bW (qv 5) (bC eG (bC eG az (qv 11)) (ed c_draw (ao (qv 0) (bB az))))) az))) (aw (eO 7 (fO iQ)) (aw (fj PassesOwn.never rfl (fM rfl B.range_ (bB (qv 1))) (gv 8) (aw (eO 9 (bC bW (bC bW (cH fA (qv 6) dB (cX (qv 4))) (fO (bB (cN (qv 2) (bC ir (bC bW (qv 5) (bC eG az (qv 8))) az))))) (cH fA (qv 6) (cX (bC bW (qv 4) az)) dB))) (aw (eO 10 (Ov aP (qv 9))) (aw (jr (QW.pt (Kg (aW eC (qv 10) (bh (ao aP (ao aP (ao aP (ao aP (ao aP (bB aP))))))) rfl) (GU (QW.pt (uj (aW oU (qv 3) az rfl) (sP (aW (cT hu) (bC ir (bC bW (qv 3) (qv 8)) az) az rfl))))))) (eO 10 (bC bW (qv 10) aP))) (aO (fS (qw (qv 7) (qv 10)))))))) (aO (bx (qv 7))))))))))
theorem Em(B:jH mg)(c_part:Fy P w K mg base)(c_draw:iL P w K mg base)(c_names:C3 P w K mg base):jI P w K mg base pZ "_law_program" qA EG (xj K):=j7 λnd hu hu1 hr=>by exact
 (aw (eO 2 (bK i7 rfl B.int_ boot_int (bB (fR (cT hu) (bC ir (bC yo (gu (xR rfl) rfl B.sum_ boot_sum (bB (cH fA (cN (qv 0) az) dB (cX az)))) az) az) az rfl)))) (aw (eO 3 (cH fA (ed c_names (ao (qv 0) (bB az))) dB (cX (cN (fO (ao (bC bW az (ed c_draw (ao (qv 0) (bB az)))) (bB az))) (qv 2))))) (aw (eO 4 (ed c_names (ao (qv 0) (bB (bC bW az (ed c_draw (ao (qv 0) (bB az)))))))) (aw (Fu qA pZ [] [7] 5 (da (qv 3)) (gv 7) dA (ed c_draw (ao (qv 0) (bB (bC bW (gu (Eh rfl) rfl B.min_ boot_min (ao az (bB (gi B (bB (qv 4)))))) az))))) (aw (eO 6 (fO iQ)) (aw (fj PassesOwn.never rfl (LU rfl B.zip_ (ao (qv 3) (bB (qv 5)))) (iR rfl (cB (gv 7) (cB (gv 8) gg))) (aw (eO 9 (ed c_draw (ao (qv 0) (bB (gi B (bB (qv 4))))))) (aw (eO 10 (cH fA (bC bW (cH fA (qv 4) (cX (qv 9)) dB) (cH fA (qv 4) dB (cX (qv 9)))) dB (cX (qv 8)))) (aO (fS (qw (qv 6) (ed c_part (ao (qv 0) (ao (qv 7) (ao (qv 4) (ao (qv 10) (ao (qv 5) (bB (qv 1)))))))))))))) (aO (bx (bK bE rfl B.tuple_ boot_tuple (bB (qv 6)))))))))))
theorem MC(B:jH mg)(c_p_wrong:vO P w K mg base)(c_made:Fx P w K mg base)(c_thinned:vQ P w K mg base)(c_program:vP P w K mg base):jI P w K mg base J5 "law" Ko Ka (Kp K):=j7 λnd hu hu1 hr=>by exact
 (aw (eO 1 (fO (ao (qv 0) (ao az (bB az))))) (aw (eO 2 (ed c_program (ao (qv 1) (bB az)))) (aw (iu (ed c_made (ao (qv 1) (bB (qv 2)))) (iR rfl (cB (gv 3) (cB (gv 4) gg)))) (aw (jr (aW oW (ed c_p_wrong (ao (qv 2) (ao (qv 3) (bB (qv 4))))) e6 rfl) (bx md)) (aw (fj PassesOwn.never rfl (fM rfl B.range_ (bB (gi B (bB (qv 2))))) (gv 5) (aw (eO 6 (cN (ed c_thinned (ao (qv 2) (bB (qv 4)))) (qv 5))) (aO (jr (aW oW (ed c_p_wrong (ao (qv 2) (ao (qv 3) (bB (bC hW (bC hW (cH kR (qv 4) dB (cX (qv 5))) (bh (bB (qv 6)))) (cH kR (qv 4) (cX (bC hW (qv 5) az)) dB)))))) e6 rfl) (bx md))))) (aw (jr (aW oW (ed c_p_wrong (ao (qv 2) (ao (qv 3) (bB (ed c_thinned (ao (qv 2) (bB (qv 4)))))))) e6 rfl) (bx md)) (aw (eO 7 (ed c_made (ao (qv 1) (bB (qv 2))))) (aO (bx (Cs (fR yp (ed c_p_wrong (ao (qv 2) (ao (cN (qv 7) az) (bB (cN (qv 7) az))))) e6 rfl) (yv (fR yp (ed c_p_wrong (ao (qv 2) (ao (qv 3) (bB (qv 4))))) e6 rfl))))))))))))
end
end Bg
end
section
namespace Bg
open PySem L2
theorem q4{K:Fg}{st scr:Addr}{m:Int}{k:Nat}{ns:List Int}{c:Int}{H H2:Hp}{Q:VK}{o4 o5:Option V}{nx:St->Hp->Prop}(hk:k<=1000000)(m0:0<m)
  (q:∀(d:Int) (H':Hp),0<=d->d<m->gc K H' st (k+1)->eg st H H'->Q (.int d) H') (hS:H2 st=some (.lst [.ref scr,.int ((k:Int)+1),.int c])) (hscr:jJ K H2 scr ns) (hns:ns.length<=63) (hB:eg st H H2) :
  pq K {nx:=nx,rt:=Q} [some (.ref st),some (.int m),some (.ref scr),some (.int (k:Nat)),o4,o5] H2:=by
 have e1:(((k+1:Nat):Nat):Int)=(k:Int)+1:=by lia
 have S2:gc K H2 st (k+1):=⟨scr,ns,c,by rw[e1];exact hS,hscr,hns⟩
 refine⟨_,rfl,.inl ⟨_,_,rfl,rfl,.inr ⟨by decide,by decide⟩,.inl ⟨_,_,rfl,rfl,?_⟩⟩⟩
 have rest:∀z:Int,AI K {nx:=nx,rt:=Q} [some (.ref st),some (.int m),some (.ref scr),some (.int (k:Nat)),o4,some (.int z)] H2:=λz=>by
  have b1:0<=z % 2147483629:=cU _ (by decide)
  have b2:z % 2147483629<2147483629:=cR _ (by decide)
  refine⟨_,rfl,_,_,rfl,rfl,(by show(0:Int)<2147483629;decide),_,rfl,.inl ⟨_,_,rfl,rfl,.inl ⟨_,_,rfl,rfl,.inl ⟨by lia,by lia⟩,_,_,rfl,rfl,(by show(0:Int)<2147483629;decide),?_⟩⟩⟩
  generalize hy:z % 2147483629*((k:Int)+3) % 2147483629=y
  have c1:0<=y:=by rw[<-hy];exact cU _ (by decide)
  have c2:y<2147483629:=by rw[<-hy];exact cR _ (by decide)
  refine⟨_,rfl,_,rfl,.inl ⟨_,_,rfl,rfl,.inl ⟨by lia,by lia⟩,_,_,rfl,rfl,(by show(0:Int)<2147483587;decide),?_⟩⟩
  generalize hx:y*y % 2147483587=x
  have d1:0<=x:=by rw[<-hx];exact cU _ (by decide)
  have d2:x<2147483587:=by rw[<-hx];exact cR _ (by decide)
  refine⟨_,rfl,_,rfl,.inl ⟨_,_,rfl,rfl,.inl ⟨by lia,by lia⟩,_,_,rfl,rfl,(by show(0:Int)<1999999973;decide),_,rfl,_,_,rfl,rfl,m0,?_⟩⟩
  exact q _ H2 (cU _ (by lia)) (cR _ m0) S2 hB
 refine⟨_,rfl,_,_,rfl,.inl ⟨_,hscr.sq,rfl⟩,_,_,rfl,rfl,_,rfl,dn (λhl=>?_) (λ_=>rest _)⟩
 rw[aa] at hl
 have hlp:0<ns.length:=by lia
 refine⟨_,rfl,_,rfl,_,rfl,.inl ⟨_,_,rfl,rfl,.inr ⟨by decide,by decide⟩,_,rfl,_,_,rfl,.inl ⟨_,hscr.sq,rfl⟩,_,_,rfl,rfl,(by rw[aa];lia),?_⟩⟩
 have i1:0<=(k:Int)*7 % ((ns.map V.int).length:Nat):=cU _ (by rw[aa];lia)
 have i2:(k:Int)*7 % ((ns.map V.int).length:Nat)<((ns.map V.int).length:Nat):=cR _ (by rw[aa];lia)
 rw[aa] at i1 i2
 have i3:((k:Int)*7 % (ns.length:Nat)).toNat<ns.length:=by lia
 refine jP hscr.sq (by rw[aa];exact i1) (v:=.int ns[((k:Int)*7 % (ns.length:Nat)).toNat]) (by simp only[aa];rw[aG,ag i3];rfl) ?_
 exact⟨_,rfl,.inl ⟨_,_,rfl,rfl,.inl ⟨_,_,rfl,rfl,.inr ⟨by lia,by lia⟩,.inl ⟨_,_,rfl,rfl,rest _⟩⟩⟩⟩
theorem LX{K:Fg}{vs:List V}{H:Hp}{Q:VK}{E:XK}(h:b9 K vs H Q E):Hm K {nx:=λ_ H'=>Q .non H',rt:=Q} (cC FJ vs) H:=by
 obtain⟨st,m,k,rfl,S,hk,m0,m1,q⟩:=h
 obtain⟨scr,ns,c,hst,hscr,hns⟩:=S
 refine⟨_,rfl,_,rfl,.inl ⟨st,_,rfl,bY.of hst,λp hp=>?_⟩⟩
 refine⟨p,_,rfl,bY.of ai,rfl,_,_,rfl,_,_,rfl,rfl,?_⟩
 have np:st≠p:=ar hst hp
 have B1:eg st H (upd H p (.lst (jD [V.ref scr,V.int (k:Nat),V.int c] none (some 2)))):=(eg.refl st H).new hp
 have h1:(upd H p (.lst (jD [V.ref scr,V.int (k:Nat),V.int c] none (some 2)))) st=some (.lst [.ref scr,.int (k:Nat),.int c]):=by rw[aF np];exact hst
 have s1:jJ K (upd H p (.lst (jD [V.ref scr,V.int (k:Nat),V.int c] none (some 2)))) scr ns:=hscr.mono (.of_but B1 hst)
 generalize upd H p (.lst (jD [V.ref scr,V.int (k:Nat),V.int c] none (some 2)))=H1 at B1 h1 s1 ⊢
 refine⟨_,rfl,.inl ⟨_,_,rfl,rfl,_,rfl,yJ h1 (by decide) (by show 1<3;decide) ?_⟩⟩
 have B2:eg st H (upd H1 st (.lst [.ref scr,.int ((k:Int)+1),.int c])):=B1.trans .upd_at
 have h2:(upd H1 st (.lst [.ref scr,.int ((k:Int)+1),.int c])) st=some (.lst [.ref scr,.int ((k:Int)+1),.int c]):=ai
 have s2:jJ K (upd H1 st (.lst [.ref scr,.int ((k:Int)+1),.int c])) scr ns:=s1.mono (.of_but .upd_at h1)
 show AK K _ [some (.ref st),some (.int m),some (.ref scr),some (.int (k:Nat)),none,none] (upd H1 st (.lst [.ref scr,.int ((k:Int)+1),.int c]))
 generalize upd H1 st (.lst [.ref scr,.int ((k:Int)+1),.int c])=H2 at B2 h2 s2 ⊢
 have tail:=@q4 K st scr m k ns c H H2 Q none none (λ_ H'=>Q .non H') hk m0 q h2 s2 hns B2
 have dig:∀(c':Int) (H3:Hp),H3 st=some (.lst [.ref scr,.int ((k:Int)+1),.int c'])->jJ K H3 scr ns->eg st H H3->
   AJ K {nx:=pq K {nx:=λ_ H'=>Q .non H',rt:=Q},rt:=Q} [some (.ref st),some (.int m),some (.ref scr),some (.int (k:Nat)),none,none] H3:=λc' H3 h3 s3 B3=>by
  refine⟨_,rfl,jP (bY.of h3) (by decide) rfl ?_⟩
  refine⟨_,rfl,(by show 2<=sizeLine;decide),λt ht=>⟨t,_,rfl,.inr (b4.of ai),rfl,rfl,_,rfl,?_⟩⟩
  have n3:st≠t:=ar h3 ht
  have B4:eg st H (upd H3 t (.tup [.int 0,.int (-1)])):=B3.new ht
  have h4:(upd H3 t (.tup [.int 0,.int (-1)])) st=some (.lst [.ref scr,.int ((k:Int)+1),.int c']):=by rw[aF n3];exact h3
  have s4:jJ K (upd H3 t (.tup [.int 0,.int (-1)])) scr ns:=s3.mono (.of_same ((aH.refl H3).new ht))
  refine oO (λ_=>?_) (λ_=>?_)
  ·-- _law_state[2],_law_digit=divmod(_law_state[2],_law_many)
   refine⟨_,rfl,.inl ⟨st,_,_,_,rfl,rfl,bY.of h4,xO (by decide) rfl,_,rfl,_,_,rfl,⟨m0,m1⟩,λp2 hp2=>?_⟩⟩
   have n4:st≠p2:=ar h4 hp2
   refine⟨p2,_,rfl,b4.of ai,rfl,_,_,rfl,_,rfl,yJ (by rw[aF n4];exact h4) (by decide) (by show 2<3;decide) ?_⟩
   refine⟨_,_,rfl,rfl,_,rfl,?_⟩
   have B5:=(B4.new (o:=.tup [.int (c' / m),.int (c' % m)]) hp2)
   have s5:jJ K (upd (upd H3 t (.tup [.int 0,.int (-1)])) p2 (.tup [.int (c' / m),.int (c' % m)])) scr ns:=s4.mono (.of_same ((aH.refl _).new hp2))
   have h5:(upd (upd H3 t (.tup [.int 0,.int (-1)])) p2 (.tup [.int (c' / m),.int (c' % m)])) st=some (.lst [.ref scr,.int ((k:Int)+1),.int c']):=by rw[aF n4];exact h4
   refine q _ _ (cU _ (by lia)) (cR _ m0) ⟨scr,ns,c' / m,?_,s5.mono (.of_but .upd_at h5),hns⟩ (B5.trans .upd_at)
   have e1:(((k+1:Nat):Nat):Int)=(k:Int)+1:=by lia
   rw[ai,e1]
   rfl
  ·exact q4 hk m0 q h4 s4 hns B4
 have e1:(((k+1:Nat):Nat):Int)=(k:Int)+1:=by lia
 have elif:di (bN (aX vC (aj 3) (e8 (fP K) (ah (aj 2) aE)))) (cF (aX jK (aX (cw K) (aj 2) (aj 3)) (aj 1))) b5
   {nx:=pq K {nx:=λ_ H'=>Q V.non H',rt:=Q},rt:=Q} [some (V.ref st),some (V.int m),some (V.ref scr),some (V.int (k:Nat)),none,none] H2:=by
  refine⟨_,rfl,_,rfl,_,_,rfl,.inl ⟨_,s2.sq,rfl⟩,_,_,rfl,rfl,_,rfl,dn (λhlt=>?_) (λ_=>tail)⟩
  rw[aa] at hlt
  have j2:((k:Nat):Int).toNat<ns.length:=by lia
  refine⟨_,rfl,_,rfl,jP s2.sq (by lia) (v:=.int ns[((k:Nat):Int).toNat]) (by rw[aG,ag j2];rfl) ?_⟩
  refine⟨_,rfl,_,_,rfl,rfl,m0,?_⟩
  exact q _ H2 (cU _ (by lia)) (cR _ m0) ⟨scr,ns,c,by rw[e1];exact h2,s2,hns⟩ B2
 refine⟨_,rfl,_,_,rfl,rfl,⟨by decide,by decide⟩,.inl ⟨_,_,rfl,rfl,_,rfl,_,_,rfl,.inl ⟨_,s2.sq,rfl⟩,_,_,rfl,rfl,_,rfl,dn (λhlt=>?_) (λ_=>?_)⟩⟩
 ·rw[aa] at hlt
  have hlp:0<ns.length:=by lia
  have i0:(ns.map V.int)[(0:Int).toNat]?=some (.int ns[0]):=by
   show(ns.map V.int)[0]?=_
   rw[aG,ag hlp];rfl
  refine⟨_,rfl,jP s2.sq (by decide) i0 ⟨_,_,rfl,rfl,(by show(0:Int)<2;decide),.inl ⟨rfl,_,rfl,dn (λ_=>?_) (λ_=>?_)⟩⟩⟩
  ·-- if _law_k % 12==0
   refine⟨_,rfl,_,_,rfl,rfl,(by show(0:Int)<12;decide),.inl ⟨rfl,_,rfl,dn (λ_=>?_) (λ_=>dig c H2 h2 s2 B2)⟩⟩
   have j2:((k:Int) / 12+1).toNat<ns.length:=by lia
   refine⟨_,rfl,_,rfl,_,_,rfl,rfl,⟨by decide,by decide⟩,.inl ⟨_,_,rfl,rfl,jP s2.sq (by lia) (v:=.int ns[((k:Int) / 12+1).toNat]) (by rw[aG,ag j2];rfl) ?_⟩⟩
   refine⟨_,rfl,yJ h2 (by decide) (by show 2<3;decide) ?_⟩
   exact dig _ _ ai (s2.mono (.of_but .upd_at h2)) (B2.trans .upd_at)
  ·exact elif
 ·exact ij elif
theorem E4{K:Fg}{vs:List V}{H:Hp}{Q:VK}{E:XK}(h:og K vs H Q E):xg K {nx:=λ_ H'=>Q .non H',rt:=Q} (cC vX vs) H:=by
 obtain⟨v,r,rfl,hr,q⟩:=h
 cases r with
 |num x z=>
  obtain⟨p,rfl,h⟩:=hr
  refine⟨_,rfl,cE h (by decide) rfl ?_⟩
  refine⟨_,rfl,.inl ⟨rfl,_,rfl,no (by decide +kernel) ?_⟩⟩
  refine⟨_,rfl,.inl ⟨rfl,_,rfl,no (by decide +kernel) ?_⟩⟩
  refine⟨_,rfl,(by show 3<=sizeLine;decide),λt ht=>⟨t,_,rfl,.inr (b4.of ai),rfl,rfl,_,rfl,yd (by decide +kernel) ?_⟩⟩
  have nt:p≠t:=ar h ht
  exact⟨(by show 0<=sizeLine;decide),λt2 ht2=>q t2 _ ai (((aH.refl H).new ht).new ht2)⟩
 |op x s a b=>
  obtain⟨p,rfl,h⟩:=hr
  refine⟨_,rfl,cE h (by decide) rfl ?_⟩
  refine⟨_,rfl,.inl ⟨rfl,_,rfl,yes ?_⟩⟩
  exact⟨_,rfl,cE h (by decide) rfl ⟨_,rfl,cE h (by decide) rfl ⟨(by show 2<=sizeLine;decide),λt ht=>q t _ ai ((aH.refl H).new ht)⟩⟩⟩
 |call x k as=>
  obtain⟨p,q1,rfl,h,h1⟩:=hr
  refine⟨_,rfl,cE h (by decide) rfl ?_⟩
  refine⟨_,rfl,.inl ⟨rfl,_,rfl,no (by decide +kernel) ?_⟩⟩
  refine⟨_,rfl,.inl ⟨rfl,_,rfl,yes ?_⟩⟩
  exact⟨_,rfl,cE h (by decide) rfl ⟨_,_,rfl,.inr ⟨b4.of h1,q _ _ h1 (aH.refl H)⟩⟩⟩
 |say a=>
  obtain⟨p,rfl,h⟩:=hr
  refine⟨_,rfl,cE h (by decide) rfl ?_⟩
  refine⟨_,rfl,.inl ⟨rfl,_,rfl,no (by decide +kernel) ?_⟩⟩
  refine⟨_,rfl,.inl ⟨rfl,_,rfl,no (by decide +kernel) ?_⟩⟩
  refine⟨_,rfl,(by show 3<=sizeLine;decide),λt ht=>⟨t,_,rfl,.inr (b4.of ai),rfl,rfl,_,rfl,tT (by decide +kernel) ?_⟩⟩
  have nt:p≠t:=ar h ht
  exact⟨_,rfl,cE (by rw[aF nt];exact h) (by decide) rfl ⟨(by show 1<=sizeLine;decide),λt2 ht2=>q t2 _ ai (((aH.refl H).new ht).new ht2)⟩⟩
 |jump to=>
  obtain⟨p,rfl,h⟩:=hr
  refine⟨_,rfl,cE h (by decide) rfl ?_⟩
  refine⟨_,rfl,.inl ⟨rfl,_,rfl,no (by decide +kernel) ?_⟩⟩
  refine⟨_,rfl,.inl ⟨rfl,_,rfl,no (by decide +kernel) ?_⟩⟩
  refine⟨_,rfl,(by show 3<=sizeLine;decide),λt ht=>⟨t,_,rfl,.inr (b4.of ai),rfl,rfl,_,rfl,yd (by decide +kernel) ?_⟩⟩
  have nt:p≠t:=ar h ht
  exact⟨(by show 0<=sizeLine;decide),λt2 ht2=>q t2 _ ai (((aH.refl H).new ht).new ht2)⟩
 |test a to=>
  obtain⟨p,rfl,h⟩:=hr
  refine⟨_,rfl,cE h (by decide) rfl ?_⟩
  refine⟨_,rfl,.inl ⟨rfl,_,rfl,no (by decide +kernel) ?_⟩⟩
  refine⟨_,rfl,.inl ⟨rfl,_,rfl,no (by decide +kernel) ?_⟩⟩
  refine⟨_,rfl,(by show 3<=sizeLine;decide),λt ht=>⟨t,_,rfl,.inr (b4.of ai),rfl,rfl,_,rfl,tT (by decide +kernel) ?_⟩⟩
  have nt:p≠t:=ar h ht
  exact⟨_,rfl,cE (by rw[aF nt];exact h) (by decide) rfl ⟨(by show 1<=sizeLine;decide),λt2 ht2=>q t2 _ ai (((aH.refl H).new ht).new ht2)⟩⟩
 |give a=>
  obtain⟨p,rfl,h⟩:=hr
  refine⟨_,rfl,cE h (by decide) rfl ?_⟩
  refine⟨_,rfl,.inl ⟨rfl,_,rfl,no (by decide +kernel) ?_⟩⟩
  refine⟨_,rfl,.inl ⟨rfl,_,rfl,no (by decide +kernel) ?_⟩⟩
  refine⟨_,rfl,(by show 3<=sizeLine;decide),λt ht=>⟨t,_,rfl,.inr (b4.of ai),rfl,rfl,_,rfl,tT (by decide +kernel) ?_⟩⟩
  have nt:p≠t:=ar h ht
  exact⟨_,rfl,cE (by rw[aF nt];exact h) (by decide) rfl ⟨(by show 1<=sizeLine;decide),λt2 ht2=>q t2 _ ai (((aH.refl H).new ht).new ht2)⟩⟩
theorem G3{K:Fg}{vs:List V}{H:Hp}{Q:VK}{E:XK}(h:mM K vs H Q E):AW K {nx:=λ_ H'=>Q .non H',rt:=Q} (cC zi vs) H:=by
 obtain⟨v,r,rfl,hr,q⟩:=h
 cases r with
 |num x z=>
  obtain⟨p,rfl,h⟩:=hr
  refine⟨_,rfl,cE h (by decide) rfl ?_⟩
  refine⟨(by show 3<=sizeLine;decide),λt ht=>⟨t,_,rfl,.inr (b4.of ai),rfl,rfl,_,rfl,tT (by decide +kernel) ?_⟩⟩
  have nt:p≠t:=ar h ht
  exact⟨_,rfl,cE (by rw[aF nt];exact h) (by decide) rfl (q _ ((aH.refl H).new ht))⟩
 |op x s a b=>
  obtain⟨p,rfl,h⟩:=hr
  refine⟨_,rfl,cE h (by decide) rfl ?_⟩
  refine⟨(by show 3<=sizeLine;decide),λt ht=>⟨t,_,rfl,.inr (b4.of ai),rfl,rfl,_,rfl,tT (by decide +kernel) ?_⟩⟩
  have nt:p≠t:=ar h ht
  exact⟨_,rfl,cE (by rw[aF nt];exact h) (by decide) rfl (q _ ((aH.refl H).new ht))⟩
 |call x k as=>
  obtain⟨p,q1,rfl,h,h1⟩:=hr
  refine⟨_,rfl,cE h (by decide) rfl ?_⟩
  refine⟨(by show 3<=sizeLine;decide),λt ht=>⟨t,_,rfl,.inr (b4.of ai),rfl,rfl,_,rfl,tT (by decide +kernel) ?_⟩⟩
  have nt:p≠t:=ar h ht
  exact⟨_,rfl,cE (by rw[aF nt];exact h) (by decide) rfl (q _ ((aH.refl H).new ht))⟩
 |say a=>
  obtain⟨p,rfl,h⟩:=hr
  refine⟨_,rfl,cE h (by decide) rfl ?_⟩
  refine⟨(by show 3<=sizeLine;decide),λt ht=>⟨t,_,rfl,.inr (b4.of ai),rfl,rfl,_,rfl,yd (by decide +kernel) ?_⟩⟩
  have nt:p≠t:=ar h ht
  exact q _ ((aH.refl H).new ht)
 |jump to=>
  obtain⟨p,rfl,h⟩:=hr
  refine⟨_,rfl,cE h (by decide) rfl ?_⟩
  refine⟨(by show 3<=sizeLine;decide),λt ht=>⟨t,_,rfl,.inr (b4.of ai),rfl,rfl,_,rfl,yd (by decide +kernel) ?_⟩⟩
  have nt:p≠t:=ar h ht
  exact q _ ((aH.refl H).new ht)
 |test a to=>
  obtain⟨p,rfl,h⟩:=hr
  refine⟨_,rfl,cE h (by decide) rfl ?_⟩
  refine⟨(by show 3<=sizeLine;decide),λt ht=>⟨t,_,rfl,.inr (b4.of ai),rfl,rfl,_,rfl,yd (by decide +kernel) ?_⟩⟩
  have nt:p≠t:=ar h ht
  exact q _ ((aH.refl H).new ht)
 |give a=>
  obtain⟨p,rfl,h⟩:=hr
  refine⟨_,rfl,cE h (by decide) rfl ?_⟩
  refine⟨(by show 3<=sizeLine;decide),λt ht=>⟨t,_,rfl,.inr (b4.of ai),rfl,rfl,_,rfl,yd (by decide +kernel) ?_⟩⟩
  have nt:p≠t:=ar h ht
  exact q _ ((aH.refl H).new ht)
theorem ka{ms:List Nat}{j:Nat}{x:V}(h:(bG ms)[j]?=some x):∃m,ms[j]?=some m/\x=.int (m:Nat):=by
 unfold bG at h
 rw[aG] at h
 cases e:ms[j]? with
 |none=>rw[e] at h;cases h
 |some m=>rw[e] at h;exact⟨m,rfl,(Option.some.inj h).symm⟩
theorem Fb{α:Type}(n:Nat)(a:α):ax (n+1) a=ax n a++[a]:=by
 exact List.replicate_succ'
def Oh(st nm cn fd wl:Addr)(m:Nat)(f:Int)(ws ys:List Str)(cs:List Nat)(H:Hp)(K:Fg)(k i:Nat):St->Hp->Prop:=λσ' H'=>∃(pvs:List V) (bs:List dZ) (k':Nat) (o7 o8 o9 o10:Option V),σ'=[some (.ref st),some (.int (m:Nat)),some (.int f),some (.ref wl),some (.ref nm),some (.ref cn),some (.ref fd),o7,o8,o9,o10]/\
 H' fd=some (.lst pvs)/\aV (gA H') pvs bs/\bs.length=i/\(∀b∈bs,kC ys cs b/\b.rows.length<=m+1)/\bs.map (·.name)=ws.take i/\bs.map (·.params.length)=cs.take i/\gc K H' st k'/\k'<=k+1001*i/\vf st fd H H'
theorem E6{K:Fg}{vs:List V}{H:Hp}{Q:VK}{E:XK}(h:oh K vs H Q E):xj K {nx:=λ_ H'=>Q .non H',rt:=Q} (cC pZ vs) H:=by
 obtain⟨st,m,k,rfl,S,hk,m1,m50,q⟩:=h
 obtain⟨scr,ns,c,hst,hscr,hns⟩:=id S
 refine⟨_,rfl,jP (bY.of hst) (by decide) rfl ⟨_,rfl,.inl ⟨scr,_,rfl,hscr.sq,λp hp=>?_⟩⟩⟩
 rw[show((1:Int))=((1:Nat):Int) from rfl,gs,<-cM]
 refine⟨p,ns.take 1,rfl,bY.of ai,λz=>⟨_,_,rfl,rfl,⟨by decide,by decide⟩,_,_,rfl,rfl,(by show(0:Int)<16;decide),.inl ⟨rfl,.inr ⟨_,rfl,?_⟩⟩⟩⟩
 have S1:=S.new (o:=.lst ((ns.take 1).map V.int)) hp
 have B1:=(eg.refl st H).new (o:=.lst ((ns.take 1).map V.int)) hp
 generalize upd H p (.lst ((ns.take 1).map V.int))=H1 at S1 B1 ⊢
 obtain⟨f,hf,f01⟩:∃f:Int,(if decide (V.int (z / 4 % 16)=V.int 5)=true then(1:Int) else 0)=f/\(f=0\/f=1):=by
  cases decide (V.int (z / 4 % 16)=V.int 5) with
  |true=>exact⟨1,rfl,.inr rfl⟩
  |false=>exact⟨0,rfl,.inl rfl⟩
 rw[hf]
 show rM K _ [some (.ref st),some (.int (m:Nat)),some (.int f),none,none,none,none,none,none,none,none] H1
 refine⟨_,rfl,st,5,k,rfl,S1,by lia,by decide,λl ws k1 H2 hl wl wnd wok h2 S2 l2 B2=>?_⟩
 have nl:l≠st:=λz=>by obtain⟨_,e⟩:=S1.lst;rw[z,e] at hl;cases hl
 refine⟨_,rfl,st,3,k1,rfl,S2,by lia,by decide,by decide,λd H3 d0 d1 S3 B3=>.inl ⟨_,_,rfl,rfl,(by show 2<=sizeLine;decide),λl4 hl4=>?_⟩⟩
 have h3:=B3 l _ nl h2
 have S4:=S3.new (o:=.lst [V.int (1+d),V.int 5]) hl4
 have B4:=(((B1.trans B2).trans B3).new (o:=.lst [V.int (1+d),V.int 5]) hl4)
 have h4:(upd H3 l4 (.lst [V.int (1+d),V.int 5])) l=some (.lst (ws.map V.str)):=by rw[aF (ar h3 hl4)];exact h3
 have g4:(upd H3 l4 (.lst [V.int (1+d),V.int 5])) l4=some (.lst [V.int (1+d),V.int 5]):=ai
 have words:∀c5:Nat,1<=c5->c5<=5->vD K (V.ref l) none (some (c5:Int)) (upd H3 l4 (.lst [V.int (1+d),V.int 5])) λx H1=>rL K {nx:=λ_ H'=>Q .non H',rt:=Q} [some (.ref st),some (.int (m:Nat)),some (.int f),some x,none,none,none,none,none,none,none] H1:=λc5 c1 c2=>by
  generalize upd H3 l4 (.lst [V.int (1+d),V.int 5])=H4 at S4 B4 h4
  refine .inl ⟨l,_,rfl,bY.of h4,λwp hwp=>?_⟩
  rw[gs,<-cM]
  have wlen:(ws.take c5).length=c5:=by rw[aL];lia
  have S5:=S4.new (o:=.lst ((ws.take c5).map V.str)) hwp
  have B5:=B4.new (o:=.lst ((ws.take c5).map V.str)) hwp
  have h5:(upd H4 wp (.lst ((ws.take c5).map V.str))) wp=some (.lst ((ws.take c5).map V.str)):=ai
  have nwp:wp≠st:=λz=>by obtain⟨_,e⟩:=S4.lst;rw[z,e] at hwp;cases hwp
  have wwnd:(ws.take c5).Nodup:=(jF c5 ws).nodup wnd
  have wwnm:∀y∈ws.take c5,Nm y:=λy hy=>wok y (dR hy)
  generalize ws.take c5=ww at wlen S5 B5 h5 wwnd wwnm ⊢
  generalize upd H4 wp (.lst (ww.map V.str))=H5 at S5 B5 h5 ⊢
  refine⟨_,rfl,_,rfl,st,5,k1+1,rfl,S5,by lia,by decide,by decide,λe H6 e0 e1 S6 B6=>.inl ⟨_,_,rfl,rfl,?_⟩⟩
  obtain⟨n,hn,n2,n6⟩:∃n:Nat,(2:Int)+e=(n:Int)/\2<=n/\n<=6:=⟨(2+e).toNat,by lia,by lia,by lia⟩
  refine⟨st,n,k1+2,by show[V.ref st,V.int (2+e)]=_;rw[hn],S6,by lia,by lia,λnm ys k7 H7 hnm yl ynd yok h7 S7 l7 B7=>?_⟩
  have nnm:nm≠st:=λz=>by obtain⟨_,e⟩:=S6.lst;rw[z,e] at hnm;cases hnm
  have nwn:wp≠nm:=ar (B6 wp _ nwp h5) hnm
  have w7:=B7 wp _ nwp (B6 wp _ nwp h5)
  have BH7:=(B5.trans B6).trans B7
  have yne:∀y∈ys,y≠"":=λy hy=>(yok y hy).ne
  have ysne:ys≠[]:=λz=>by rw[z] at yl;simp at yl;lia
  show rK K _ [some (.ref st),some (.int (m:Nat)),some (.int f),some (.ref wp),some (.ref nm),none,none,none,none,none,none] H7
  refine .inl ⟨_,rfl,wp,rfl,⟨_,bY.of w7⟩,λcn hcn=>?_⟩
  have ncn:cn≠st:=λz=>by obtain⟨_,e⟩:=S7.lst;rw[z,e] at hcn;cases hcn
  have nwc:wp≠cn:=ar w7 hcn
  have nnc:nm≠cn:=ar h7 hcn
  refine fK (xs:=ww.map V.str) (λi σ' H'=>∃(cs:List Nat) (k':Nat) (o:Option V),σ'=[some (.ref st),some (.int (m:Nat)),some (.int f),some (.ref wp),some (.ref nm),none,none,o,none,none,none]/\H' cn=some (.lst (bG cs))/\cs.length=i/\(∀x∈cs,x<=4/\x<=ys.length)/\gc K H' st k'/\k'<=k7+i/\eg st H7 H') ?_ ?_ ?_ ?_
  ·exact⟨[],k7,none,rfl,ai,rfl,by simp,S7.new hcn,by lia,(eg.refl st H7).new hcn⟩
  ·rintro i σ' H' _ ⟨_,_,_,_,_,_,_,_,_,B⟩
   exact bY.of (B wp _ nwp w7)
  ·rintro i x σ' H' hx ⟨cs,k',o,rfl,hc,cl,c4,S',hk',B'⟩
   have il:i<ww.length:=by have:=(ae.mp hx).1;rw[aa] at this;exact this
   refine dz ⟨_,rfl,_,rfl,_,_,rfl,.inl ⟨_,bY.of (B' nm _ nnm h7),rfl⟩,_,_,rfl,.inl ⟨_,_,rfl,rfl,?_⟩⟩
   rw[aa]
   refine⟨st,_,k',rfl,S',by lia,?_,?_,λg H8 g0 g1 S8 B8=>?_⟩
   ·by_cases z:((ys.length:Nat):Int)<4
    ·rw[if_pos z];lia
    ·rw[if_neg z];lia
   ·by_cases z:((ys.length:Nat):Int)<4
    ·rw[if_pos z];lia
    ·rw[if_neg z];lia
   obtain⟨gn,rfl⟩:∃j:Nat,g=(j:Int):=⟨g.toNat,by lia⟩
   have g4:gn<=4/\gn<=ys.length:=by
    by_cases z:((ys.length:Nat):Int)<4
    ·rw[if_pos z] at g1;lia
    ·rw[if_neg z] at g1;lia
   have h8:=B8 cn _ ncn hc
   refine⟨_,h8,bO (by rw[dW];lia),cs++[gn],k'+1,_,rfl,?_,by simp[cl],λx hx=>?_,S8.mono .upd_at h8 (Ne.symm ncn),by lia,?_⟩
   ·rw[ai];unfold bG;rw[aC];rfl
   ·rcases a8.mp hx with z|z
    ·exact c4 x z
    ·rw[au.mp z];exact g4
   ·exact eg.past (B'.trans B8) hcn .upd_at
  ·rintro σ' H8 ⟨cs,k8,o,_,hc,cl,c4,S8,hk8,B8⟩
   rw[aa] at cl hk8
   have csne:cs≠[]:=λz=>by rw[z] at cl;simp at cl;lia
   have w8:=B8 wp _ nwp w7
   have n8:=B8 nm _ nnm h7
   have BH8:=BH7.trans B8
   show rJ K _ [some (.ref st),some (.int (m:Nat)),some (.int f),some (.ref wp),some (.ref nm),some (.ref cn),none,none,none,none,none] H8
   refine⟨(by show 0<=sizeLine;decide),λfd hfd=>?_⟩
   have nfd:fd≠st:=λz=>by obtain⟨_,e⟩:=S8.lst;rw[z,e] at hfd;cases hfd
   have s9:aH H8 (upd H8 fd (.lst [])):=(aH.refl H8).new hfd
   have g9:(upd H8 fd (.lst [])) fd=some (.lst []):=ai
   have HF:H fd=none:=BH8.free nfd hfd
   have nwf:wp≠fd:=ar w8 hfd
   have nnf:nm≠fd:=ar n8 hfd
   have ncf:cn≠fd:=ar hc hfd
   show rH K _ [some (.ref st),some (.int (m:Nat)),some (.int f),some (.ref wp),some (.ref nm),some (.ref cn),some (.ref fd),none,none,none,none] (upd H8 fd (.lst []))
   generalize upd H8 fd (.lst [])=H9 at s9 g9 ⊢
   refine⟨_,rfl,_,rfl,wp,cn,rfl,⟨_,bY.of (s9 _ _ w8)⟩,⟨_,bY.of (s9 _ _ hc)⟩,IA (xs:=ww.map V.str) (ys:=bG cs) (by rw[aa,dW,cl]) (Oh st nm cn fd wp m f ww ys cs H9 K k8) ?_ ?_ ?_ ?_⟩
   ·exact⟨[],[],k8,none,none,none,none,rfl,g9,.nil,rfl,by simp,rfl,rfl,S8.same s9,by lia,.refl _ _ _⟩
   ·rintro i σ' H' _ ⟨_,_,_,_,_,_,_,_,_,_,_,_,_,_,_,_,B⟩
    exact⟨bY.of (B wp _ nwp nwf (s9 _ _ w8)),bY.of (B cn _ ncn ncf (s9 _ _ hc))⟩
   ·rintro i x y σ' H' tp hx hy htp ⟨pvs,bs,k',o7,o8,o9,o10,rfl,hpv,hA,bl,b100,bnm,bct,S',hk',B'⟩
    have il:i<ww.length:=by have:=(ae.mp hx).1;rw[aa] at this;exact this
    obtain⟨c,hcc,rfl⟩:=ka hy
    rw[aG,ag il] at hx
    obtain⟨w,hw,rfl⟩:∃w:Str,ww[i]?=some w/\x=.str w:=⟨ww[i],ag il,(Option.some.inj hx).symm⟩
    have s2:aH H' (upd H' tp (.tup [.str w,.int (c:Nat)])):=(aH.refl H').new htp
    have g2:(upd H' tp (.tup [.str w,.int (c:Nat)])) tp=some (.tup [.str w,.int (c:Nat)]):=ai
    generalize upd H' tp (.tup [.str w,.int (c:Nat)])=H10 at s2 g2 ⊢
    refine⟨tp,_,rfl,b4.of g2,rfl,_,_,rfl,_,_,rfl,rfl,?_⟩
    show rG K _ [some (.ref st),some (.int (m:Nat)),some (.int f),some (.ref wp),some (.ref nm),some (.ref cn),some (.ref fd),some (.str w),some (.int (c:Nat)),o9,o10] H10
    have nm10:=s2 _ _ (B' nm _ nnm nnf (s9 _ _ n8))
    have cn10:=s2 _ _ (B' cn _ ncn ncf (s9 _ _ hc))
    have fd10:=s2 _ _ hpv
    refine⟨_,rfl,_,rfl,_,_,rfl,.inl ⟨_,bY.of nm10,rfl⟩,st,_,k',rfl,S'.same s2,by lia,by rw[aa];lia,by rw[aa];lia,λt H11 t0 t1 S11 B11=>?_⟩
    obtain⟨tn,rfl⟩:∃j:Nat,t=(j:Int):=⟨t.toNat,by lia⟩
    show rF K _ [some (.ref st),some (.int (m:Nat)),some (.int f),some (.ref wp),some (.ref nm),some (.ref cn),some (.ref fd),some (.str w),some (.int (c:Nat)),some (.int (tn:Nat)),o10] H11
    have nm11:=B11 nm _ nnm nm10
    have cn11:=B11 cn _ ncn cn10
    have fd11:=B11 fd _ nfd fd10
    refine⟨_,rfl,_,rfl,_,rfl,.inl ⟨nm,_,rfl,bY.of nm11,λa1 ha1=>?_⟩⟩
    rw[lV,<-iA]
    have nm12:(upd H11 a1 (.lst ((ys.drop tn).map V.str))) nm=some (.lst (ys.map V.str)):=by rw[aF (ar nm11 ha1)];exact nm11
    refine⟨_,rfl,_,rfl,_,rfl,.inl ⟨nm,_,rfl,bY.of nm12,λa2 ha2=>?_⟩⟩
    rw[gs,<-cM]
    have n12:a1≠a2:=ar ai ha2
    refine .inr (.inr (.inl ⟨a1,a2,_,_,rfl,rfl,by rw[aF n12,ai],ai,?_,λa3 ha3=>?_⟩))
    ·have:=bO (n:=100) (by decide)
     rw[aa,aa,cV,aL];lia
    rw[<-aC]
    refine⟨_,rfl,_,rfl,.inl ⟨a3,_,rfl,bY.of ai,λpr hpr=>?_⟩⟩
    rw[gs,<-cM]
    have pin:∀y∈(ys.drop tn++ys.take tn).take c,y∈ys:=λy hy=>by
     rcases a8.mp (dR hy) with z|z
     ·exact List.mem_of_mem_drop z
     ·exact dR z
    have pnd:((ys.drop tn++ys.take tn).take c).Nodup:=by
     refine(jF c _).nodup ?_
     have z:(ys.take tn++ys.drop tn).Nodup:=by rw[List.take_append_drop];exact ynd
     exact(List.perm_append_comm.nodup_iff).mp z
    have plc:((ys.drop tn++ys.take tn).take c).length=c:=by
     have:=(c4 c (aD hcc)).2
     rw[aL,aq,cV,aL];lia
    have pl:((ys.drop tn++ys.take tn).take c).length<=100:=by
     rw[aL,aq,cV,aL];lia
    have s13:aH H11 (upd (upd (upd (upd H11 a1 (.lst ((ys.drop tn).map V.str))) a2 (.lst ((ys.take tn).map V.str))) a3 (.lst ((ys.drop tn++ys.take tn).map V.str))) pr (.lst (((ys.drop tn++ys.take tn).take c).map V.str))):=((((aH.refl H11).new ha1).new ha2).new ha3).new hpr
    have g13:(upd (upd (upd (upd H11 a1 (.lst ((ys.drop tn).map V.str))) a2 (.lst ((ys.take tn).map V.str))) a3 (.lst ((ys.drop tn++ys.take tn).map V.str))) pr (.lst (((ys.drop tn++ys.take tn).take c).map V.str))) pr=some (.lst (((ys.drop tn++ys.take tn).take c).map V.str)):=ai
    show rE K _ [some (.ref st),some (.int (m:Nat)),some (.int f),some (.ref wp),some (.ref nm),some (.ref cn),some (.ref fd),some (.str w),some (.int (c:Nat)),some (.int (tn:Nat)),some (.ref pr)] (upd (upd (upd (upd H11 a1 (.lst ((ys.drop tn).map V.str))) a2 (.lst ((ys.take tn).map V.str))) a3 (.lst ((ys.drop tn++ys.take tn).map V.str))) pr (.lst (((ys.drop tn++ys.take tn).take c).map V.str)))
    generalize upd (upd (upd (upd H11 a1 (.lst ((ys.drop tn).map V.str))) a2 (.lst ((ys.take tn).map V.str))) a3 (.lst ((ys.drop tn++ys.take tn).map V.str))) pr (.lst (((ys.drop tn++ys.take tn).take c).map V.str))=H13 at s13 g13 ⊢
    generalize (ys.drop tn++ys.take tn).take c=ps at pin pl pnd plc g13
    have S13:=S11.same s13
    have npr:pr≠st:=λz=>by
     have:=DT S13 (v:=.ref pr) ⟨pr,rfl,g13⟩
     exact this (by rw[z])
    have fd13:=s13 _ _ fd11
    refine⟨_,rfl,.inl ⟨rfl,_,bY.of fd13⟩,_,rfl,_,rfl,_,rfl,_,rfl,_,rfl,_,rfl,st,nm,pr,cn,w,m,k'+1,ys,ps,cs,rfl,S13,by lia,s13 _ _ nm11,ysne,by lia,yne,g13,pl,pnd,pin,s13 _ _ cn11,csne,by lia,λx hx=>(c4 x hx).1,m1,m50,nnm,npr,ncn,λv b k14 H14 hv hbn hbp bok br S14 l14 B14=>?_⟩
    have fd14:=B14 fd _ nfd fd13
    obtain⟨_,e11⟩:=(S'.same s2).lst
    obtain⟨_,e13⟩:=S13.lst
    have t14:Tp H' H14:=(((Tp.of_same s2).trans (.of_but B11 e11)).trans (.of_same s13)).trans (.of_but B14 e13)
    have t15:Tp H14 (upd H14 fd (.lst (pvs++[v]))):=(Tp.refl H14).lst fd14
    refine⟨fd,_,_,rfl,rfl,fd14,bO (by rw[hA.len];lia),?_⟩
    refine⟨pvs++[v],bs++[b],k14,_,_,_,_,rfl,ai,(hA.imp λ_ _ z=>(z.mono t14).mono t15).snoc (hv.mono t15),by simp[bl],λb' hb'=>(a8.mp hb').elim (b100 b') (λz=>by rw[au.mp z];exact⟨bok,br⟩),by rw[aC,bnm,eW,hw,List.map_singleton,hbn];rfl,by rw[aC,bct,eW,hcc,List.map_singleton,hbp,plc];rfl,S14.mono .upd_at fd14 (Ne.symm nfd),by lia,?_⟩
    exact λe u n1 n2 h=>by rw[aF n2];exact B14 e u n1 (s13 _ _ (B11 e u n1 (s2 _ _ (B' e u n1 n2 h))))
   ·rintro σ' H' ⟨pvs,bs,k',o7,o8,o9,o10,rfl,hpv,hA,bl,b100,bnm,bct,S',hk',B'⟩
    rw[aa] at bl hk'
    refine⟨_,rfl,fd,_,rfl,.inl ⟨bY.of hpv,λl hl=>?_⟩⟩
    rw[aa,<-cl] at bct
    rw[aa] at bnm
    rw[cf] at bnm bct
    have ok:Bz ys cs bs:=⟨ynd,yok,by lia,by lia,by lia,by lia,by rw[bnm];exact wwnd,λb hb=>wwnm _ (by rw[<-bnm];exact List.mem_map_of_mem hb),bct,λx hx=>(c4 x hx).1,λb hb=>(b100 b hb).1⟩
    refine q l pvs bs ys cs k' _ ai (hA.imp λ_ _ z=>z.mono ((Tp.refl H').new hl)) ok (λb hb=>(b100 b hb).2) (S'.new hl) (by lia) (eg.new ?_ hl)
    exact λe u n1 h=>B' e u n1 (ar h HF) (s9 _ _ (BH8 e u n1 h))
 rcases f01 with rfl|rfl
 ·refine⟨_,rfl,jP (bY.of g4) (by decide) rfl ⟨_,rfl,?_⟩⟩
  obtain⟨c5,h5,c1,c2⟩:∃c5:Nat,(1:Int)+d=(c5:Int)/\1<=c5/\c5<=5:=⟨(1+d).toNat,by lia,by lia,by lia⟩
  have z:=words c5 c1 c2
  rw[<-h5] at z
  exact z
 ·refine⟨_,rfl,jP (bY.of g4) (by decide) rfl ⟨_,rfl,?_⟩⟩
  exact words 5 (by decide) (by decide)
theorem jO{H H1:Hp}{a:Addr}{o:HO}(s:aH H H1)(h:H a=none):aH H (upd H1 a o):=λb u e=>by
 rw[aF (ar e h)];exact s b u e
theorem CC{K:Fg}{vs:List V}{H:Hp}{Q:VK}{E:XK}(h:f6 K vs H Q E):u0 K {nx:=λ_ H'=>Q .non H',rt:=Q} (cC tw vs) H:=by
 obtain⟨rt,n,rvs,rs,rfl,hrt,hA,g,hn,q⟩:=h
 refine⟨_,rfl,?_⟩
 show pI K _ [some (.ref rt),some (.int (n:Nat)),some (.int (n:Nat))] H
 refine⟨λm σ' H'=>∃k,k<=rs.length/\m=rs.length-k/\σ'=[some (.ref rt),some (.int (n:Nat)),some (.int (runJ rs k n:Nat))]/\H'=H,⟨_,0,bQ _,rfl,rfl,rfl⟩,?_⟩
 rintro m σ' H' ⟨k,hk,rfl,rfl,rfl⟩
 have lt:=oZ g k hn
 obtain⟨v,r,e1,e2,hra⟩:=hA.get lt
 obtain⟨p,xs,rfl,hp⟩:=hra.ref
 have e1':rvs[((runJ rs k n:Nat):Int).toNat]?=some (.ref p):=by simpa using e1
 refine⟨_,rfl,_,rfl,cE hrt (by lia) e1' (cE hp (by decide) rfl (.inl ⟨rfl,_,rfl,dn (λhw=>?_) (λhw=>?_)⟩))⟩
 ·obtain⟨t',rfl⟩:=qM (sR hw)
  have kl:k<rs.length:=by
   by_cases c:k<rs.length
   ·exact c
   ·have:k=rs.length:=by lia
    subst this
    have:=g.ring n hn _ e2
    cases this
  refine⟨λσ' H''=>σ'=[some (.ref rt),some (.int (n:Nat)),some (.int (runJ rs (k+1) n:Nat))]/\H''=H',?_,?_⟩
  ·rintro σ4 H4 ⟨rfl,rfl⟩
   exact⟨rs.length-(k+1),by lia,k+1,kl,rfl,rfl,rfl⟩
  ·refine⟨_,rfl,_,rfl,cE hrt (by lia) e1' ⟨.ref p,.jump t',rfl,hra,?_⟩⟩
   have e:runJ rs (k+1) n=t':=by rw[mK];unfold stp;rw[e2]
   rw[e]
   exact⟨rfl,rfl⟩
 ·have e:=Hb (rs:=rs) (k:=k) (n:=n) hk λr' hr'=>by
   rw[e2] at hr';cases hr'
   exact ub λz=>hw (by rw[z])
  rw[e] at q
  exact⟨_,rfl,q⟩
def jQ(F:List Nat):List (jC×V):=F.map λ(n:Nat)=>(Sum.inl ((n:Nat):Int),V.bl true)
theorem Mc:∀(F:List Nat) (m:Nat),(fB (jQ F) (Sum.inl (m:Int))).isSome=decide (m∈F)
 |[],m=>rfl
 |a::r,m=>by
  unfold fB jQ
  rw[cg,eQ]
  by_cases c:m=a
  ·subst c
   rw[decide_eq_true (by rfl:((Sum.inl (m:Int),V.bl true):jC×V).1=Sum.inl (m:Int))]
   rw[decide_eq_true bw]
   rfl
  ·have e:decide (((Sum.inl (a:Int),V.bl true):jC×V).1=Sum.inl (m:Int))=false:=decide_eq_false λz=>c (by injection z with z;lia)
   rw[e]
   have ih:=Mc r m
   unfold fB jQ at ih
   refine Eq.trans ih ?_
   rw[Bool.eq_iff_iff,decide_eq_true_eq,decide_eq_true_eq,aQ]
   exact⟨.inr,λz=>z.resolve_left c⟩
theorem NQ{F:List Nat}{m:Nat}(h:m∉F):gk (jQ F) (Sum.inl (m:Int)) (V.bl true)=jQ (F++[m]):=by
 have e:fB (jQ F) (Sum.inl (m:Int))=none:=by
  have:=Mc F m
  rw[decide_eq_false h] at this
  cases q:fB (jQ F) (Sum.inl (m:Int)) with
  |none=>rfl
  |some v=>rw[q] at this;cases this
 rw[Ai _ e]
 unfold jQ
 rw[aC]
 rfl
theorem Gu(F:List Nat):(jQ F).length=F.length:=by unfold jQ;rw[aa]
def HK(rs:List bu)(un:Option Str)(F:List Nat)(n:Nat):Prop:=∀r,rs[n]?=some r->(∀y,un=some y->fQ r≠.str y)->∀m∈bX n r,m∈F
theorem HK.mono{rs:List bu}{un:Option Str}{F F':List Nat}{n:Nat}(h:HK rs un F n)(s:∀x∈F,x∈F'):HK rs un F' n:=λr e hy m hm=>s m (h r e hy m hm)
structure WI(rs:List bu)(un:Option Str)(F W:List Nat)(now:Nat->Prop):Prop where
 nd:F.Nodup
 way:∀x∈F,BC rs un x
 zero:0∈F
 sub:∀x∈W,x∈F
 cl:∀x∈F,x∈W\/now x\/HK rs un F x
theorem WI.add{rs:List bu}{un:Option Str}{F W:List Nat}{now:Nat->Prop}{m:Nat}(i:WI rs un F W now)(h:m∉F)(w:BC rs un m):WI rs un (F++[m]) (W++[m]) now:=by
 refine⟨yn i.nd h,λx hx=>?_,bZ _ i.zero,λx hx=>?_,λx hx=>?_⟩
 ·rcases a8.mp hx with z|z
  ·exact i.way x z
  ·rw[au.mp z];exact w
 ·rcases a8.mp hx with z|z
  ·exact bZ _ (i.sub x z)
  ·exact bq _ z
 ·rcases a8.mp hx with z|z
  ·rcases i.cl x z with a|a|a
   ·exact .inl (bZ _ a)
   ·exact .inr (.inl a)
   ·exact .inr (.inr (a.mono λy hy=>bZ _ hy))
  ·exact .inl (bq _ z)
def NK(rt fd wl:Addr)(H:Hp)(rs:List bu)(un:Option Str)(m:Nat):St->Hp->Prop:=λσ' H'=>∃(F W:List Nat) (o4 o5:Option V),σ'=[some (.ref rt),some (Kq un),some (.ref fd),some (.ref wl),o4,o5]/\H' fd=some (.dK (jQ F))/\H' wl=some (.lst (bG W))/\WI rs un F W (λ_=>False)/\aH H H'/\2*(rs.length-F.length)+W.length<=m
def Oj(rt fd wl tp:Addr)(H:Hp)(rs:List bu)(un:Option Str)(ms:List Nat)(n m j:Nat):St->Hp->Prop:=λσ' H'=>∃(F W:List Nat) (o5:Option V),σ'=[some (.ref rt),some (Kq un),some (.ref fd),some (.ref wl),some (.int (n:Nat)),o5]/\H' fd=some (.dK (jQ F))/\H' wl=some (.lst (bG W))/\H' tp=some (.tup (bG ms))/\WI rs un F W (λx=>x=n)/\aH H H'/\2*(rs.length-F.length)+W.length<=m/\∀i,i<j->∀x,ms[i]?=some x->x∈F
theorem tV(ns:List Nat)(n:Nat):bG (ns++[n])=bG ns++[V.int (n:Nat)]:=by unfold bG;rw[aC];rfl
theorem WI.done{rs:List bu}{un:Option Str}{F:List Nat}(i:WI rs un F [] (λ_=>False))(m:Nat):m∈F↔BC rs un m:=by
 refine⟨i.way m,λh=>?_⟩
 induction h with
 |zero=>exact i.zero
 |step _ e hy hm ih=>
  rcases i.cl _ ih with z|z|z
  ·cases z
  ·exact z.elim
  ·exact z _ e hy _ hm
theorem WI.len{rs:List bu}{un:Option Str}{F W:List Nat}{now:Nat->Prop}(g:cG rs)(i:WI rs un F W now):F.length<=rs.length:=ke i.nd λx hx=>(i.way x hx).lt g
theorem Kr{K:Fg}{rt fd wl:Addr}{H H1:Hp}{rvs:List V}{rs:List bu}{un:Option Str}{F W:List Nat}{n m:Nat}{r:bu}{v:V}{o5:Option V}{D:jB}(hrt:H rt=some (.tup rvs))(hfd:H fd=none)(hwl:H wl=none)(nfw:fd≠wl)(g:cG rs)
  (e1:rvs[n]?=some v) (e2:rs[n]?=some r) (hra:c8 H v r) (hy:∀y,un=some y->fQ r≠.str y) (hn:BC rs un n) (h1:H1 fd=some (.dK (jQ F))) (h2:H1 wl=some (.lst (bG W))) (i:WI rs un F W (λx=>x=n)) (s:aH H H1) (hm:2*(rs.length-F.length)+W.length<=m) (hmb:m<=1000)
  (q:∀(σ':St) (H':Hp),NK rt fd wl H rs un m σ' H'->D.nx σ' H') :
  jy (fH K (a7 (kU K) [] E0 (ah (aj 0) (ah (aj 4) aE)))) (aK 5) (lg K) D [some (.ref rt),some (Kq un),some (.ref fd),some (.ref wl),some (.int (n:Nat)),o5] H1:=by
 refine .inr ⟨_,rfl,_,rfl,rt,n,rvs,v,r,rfl,s _ _ hrt,e1,hra.mono (.of_same s),λtp H2 htp s2=>⟨tp,rfl,⟨_,b4.of htp⟩,kG (xs:=bG (bX n r)) (Oj rt fd wl tp H rs un (bX n r) n m) ?_ ?_ ?_ ?_⟩⟩
 ·exact⟨F,W,_,rfl,s2 _ _ h1,s2 _ _ h2,htp,i,s.trans s2,hm,λi hi=>absurd hi (dE _)⟩
 ·rintro j σ' H' _ ⟨_,_,_,_,_,_,h3,_⟩
  exact b4.of h3
 ·rintro j x σ' H' hx ⟨F',W',p5,rfl,h3,h4,h5,i',s',hm',hj⟩
  obtain⟨to,hto,rfl⟩:=ka hx
  have hw:BC rs un to:=.step hn e2 hy (aD hto)
  have fl:=i'.len g
  have few:=g.few
  show lg K _ [some (.ref rt),some (Kq un),some (.ref fd),some (.ref wl),some (.int (n:Nat)),some (.int (to:Nat))] H'
  refine⟨_,rfl,_,rfl,fd,_,rfl,rV.k (k:=Sum.inl (to:Int)) h3,_,rfl,?_⟩
  show if(!(fB (jQ F') (Sum.inl (to:Int))).isSome)=true then _ else _
  rw[Mc]
  refine BZ (λhin=>?_) (λhin=>?_)
  ·have nd':=ke (yn i'.nd hin) (n:=rs.length) λy hy'=>by
    rcases a8.mp hy' with z|z
    ·exact(i'.way y z).lt g
    ·rw[au.mp z];exact hw.lt g
   rw[aq,aR] at nd'
   refine⟨_,rfl,_,rfl,fd,_,rfl,zb.k (k:=Sum.inl (to:Int)) h3 (bO (by rw[Gu];lia)),?_⟩
   rw[NQ hin]
   have h4':(upd H' fd (.dK (jQ (F'++[to])))) wl=some (.lst (bG W')):=by rw[aF (Ne.symm nfw)];exact h4
   have nwl:W'.length<=100000:=by lia
   refine⟨_,rfl,.inl ⟨rfl,_,bY.of h4'⟩,_,rfl,wl,_,_,rfl,rfl,h4',bO (by rw[dW];exact nwl),?_⟩
   have ntf:tp≠fd:=λz=>by rw[z,h3] at h5;cases h5
   have ntw:tp≠wl:=λz=>by rw[z,h4] at h5;cases h5
   refine⟨F'++[to],W'++[to],_,rfl,by rw[aF nfw,ai],by rw[ai,tV],by rw[aF ntw,aF ntf];exact h5,i'.add hin hw,jO (jO s' hfd) hwl,?_,λk hk x hxk=>?_⟩
   ·simp only[aq,aR];lia
   ·by_cases c:k<j
    ·exact bZ _ (hj k c x hxk)
    ·have:k=j:=by lia
     subst this
     rw[hto] at hxk;cases hxk
     exact bq _ (au.mpr rfl)
  ·refine⟨F',W',_,rfl,h3,h4,h5,i',s',hm',λk hk x hxk=>?_⟩
   by_cases c:k<j
   ·exact hj k c x hxk
   ·have:k=j:=by lia
    subst this
    rw[hto] at hxk;cases hxk
    exact hin
 ·rintro σ' H' ⟨F',W',p5,rfl,h3,h4,h5,i',s',hm',hj⟩
  rw[dW] at hj
  refine q _ _ ⟨F',W',_,_,rfl,h3,h4,⟨i'.nd,i'.way,i'.zero,i'.sub,λx hx=>?_⟩,s',hm'⟩
  rcases i'.cl x hx with z|z|z
  ·exact .inl z
  ·subst z
   refine .inr (.inr λr' e _ m' hm'=>?_)
   rw[e2] at e;cases e
   obtain⟨k,hk,ek⟩:=bP.mp hm'
   exact hj k hk m' (by rw[ag hk,ek])
  ·exact .inr (.inr z)
theorem CF{K:Fg}{vs:List V}{H:Hp}{Q:VK}{E:XK}(h:gK K vs H Q E):u2 K {nx:=λ_ H'=>Q .non H',rt:=Q} (cC nR vs) H:=by
 obtain⟨rt,un,rvs,rs,rfl,hrt,hA,g,q⟩:=h
 refine λfd hfd=>⟨ai,[(Sum.inl 0,V.bl true)],rfl,by decide,?_⟩
 have e0:upd (upd H fd (.dK [])) fd (.dK (ma [] [(Sum.inl 0,V.bl true)]))=upd H fd (.dK (jQ [0])):=by
  rw[yX]
  have:ma [] [((Sum.inl 0:jC),V.bl true)]=jQ [0]:=by
   show gk [] (Sum.inl 0) (V.bl true)=_
   rw[Ai _ HA];rfl
  rw[this]
 show pO K _ [some (.ref rt),some (Kq un),some (.ref fd),none,none,none] (upd (upd H fd (.dK [])) fd (.dK (ma [] [(Sum.inl 0,V.bl true)])))
 rw[e0]
 refine⟨(by show 1<=sizeLine;decide),λwl hwl0=>?_⟩
 have nfw:fd≠wl:=ar ai hwl0
 have hwl:H wl=none:=by
  have:(upd H fd (.dK (jQ [0]))) wl=H wl:=aF (Ne.symm nfw)
  rw[<-this];exact hwl0
 show pN K _ [some (.ref rt),some (Kq un),some (.ref fd),some (.ref wl),none,none] (upd (upd H fd (.dK (jQ [0]))) wl (.lst [V.int 0]))
 have few0:=g.few
 refine⟨λm σ' H'=>m<=1000/\NK rt fd wl H rs un m σ' H',⟨2*(rs.length-1)+1,by lia,[0],[0],none,none,rfl,by rw[aF nfw,ai],ai,⟨by simp,λx hx=>by rw[au.mp hx];exact .zero,by simp,λx hx=>hx,λx hx=>.inl hx⟩,jO (jO (aH.refl H) hfd) hwl,by simp⟩,?_⟩
 rintro m σ' H1 ⟨hmb,F,W,o4,o5,rfl,h1,h2,i,s,hm⟩
 refine⟨_,rfl,_,_,rfl,.inl ⟨_,bY.of h2,rfl⟩,_,_,rfl,rfl,_,rfl,dn (λhl=>?_) (λhl=>?_)⟩
 ·rw[dW] at hl
  obtain⟨L,n,rfl⟩:∃L n,W=L++[n]:=by
   rcases List.eq_nil_or_concat W with z|⟨L,n,z⟩
   ·subst z;simp at hl
   ·exact⟨L,n,by rw[z,List.concat_eq_append]⟩
  have hnF:=i.sub n (bq _ (au.mpr rfl))
  have hn:=i.way n hnF
  have nl:=hn.lt g
  obtain⟨v,r,e1,e2,hra⟩:=hA.get nl
  have hm1:2*(rs.length-F.length)+L.length<=m-1:=by rw[aq,aR] at hm;lia
  have m0:0<m:=by rw[aq,aR] at hm;lia
  refine⟨NK rt fd wl H rs un (m-1),λσ4 H4 h4=>⟨m-1,by lia,by lia,h4⟩,?_⟩
  rw[tV] at h2
  refine⟨_,rfl,.inl ⟨rfl,_,bY.of h2⟩,wl,_,V.int (n:Nat),rfl,rfl,h2,?_,?_⟩
  ·rw[aq,aR,Nat.add_sub_cancel,aI (ay _),dw];rfl
  rw[List.dropLast_concat]
  show pM K _ [some (.ref rt),some (Kq un),some (.ref fd),some (.ref wl),some (.int (n:Nat)),o5] (upd H1 wl (.lst (bG L)))
  have h1':(upd H1 wl (.lst (bG L))) fd=some (.dK (jQ F)):=by rw[aF nfw];exact h1
  have h2':(upd H1 wl (.lst (bG L))) wl=some (.lst (bG L)):=ai
  have s':aH H (upd H1 wl (.lst (bG L))):=jO s hwl
  generalize upd H1 wl (.lst (bG L))=H2 at h1' h2' s'
  have i':WI rs un F L (λx=>x=n):=⟨i.nd,i.way,i.zero,λx hx=>i.sub x (bZ _ hx),λx hx=>by
   rcases i.cl x hx with z|z|z
   ·rcases a8.mp z with z|z
    ·exact .inl z
    ·exact .inr (.inl (au.mp z))
   ·exact z.elim
   ·exact .inr (.inr z)⟩
  have e1':rvs[((n:Nat):Int).toNat]?=some v:=by simpa using e1
  cases un with
  |none=>
   refine⟨_,rfl,rfl,_,rfl,qm (qm ?_)⟩
   exact Kr hrt hfd hwl nfw g e1 e2 hra (λy z=>by cases z) hn h1' h2' i' s' hm1 (by lia) λ_ _ z=>z
  |some y=>
   refine⟨_,rfl,rfl,_,rfl,ij ?_⟩
   refine⟨_,rfl,_,rfl,cE (s' _ _ hrt) (by lia) e1' ⟨v,r,rfl,hra.mono (.of_same s'),λH3 s3=>⟨_,rfl,.inl ⟨?_,_,rfl,?_⟩⟩⟩⟩
   ·cases r<;>rfl
   ·refine BZ (λhne=>?_) (λhe=>?_)
    ·exact Kr hrt hfd hwl nfw g e1 e2 hra (λy' z=>by cases z;exact hne) hn (s3 _ _ h1') (s3 _ _ h2') i' (s'.trans s3) hm1 (by lia) λ_ _ z=>z
    ·refine⟨F,L,_,_,rfl,s3 _ _ h1',s3 _ _ h2',⟨i'.nd,i'.way,i'.zero,i'.sub,λx hx=>?_⟩,s'.trans s3,hm1⟩
     rcases i'.cl x hx with z|z|z
     ·exact .inl z
     ·subst z
      refine .inr (.inr λr' e hy=>?_)
      rw[e2] at e;cases e
      exact absurd he (hy y rfl)
     ·exact .inr (.inr z)
 ·rw[dW] at hl
  have:W=[]:=cx.mp (by lia)
  subst this
  have fl:=i.len g
  have few:=g.few
  refine⟨_,rfl,fd,_,F.map (λn=>((n:Nat):Int)),rfl,h1,?_,by rw[aa];lia,λl ns' hl' hp hs=>?_⟩
  ·unfold jQ;rw[de,de];rfl
  ·obtain⟨ks,rfl,hk,hr⟩:=EV hp hs i.nd
   have e:(ks.map λn=>((n:Nat):Int)).map V.int=bG ks:=by unfold bG;rw[de];rfl
   rw[e]
   refine q l ks _ (λm=>(hk m).trans (i.done m)) hr ai (s.free hl') (s.new hl')
def Le(rs:List bu)(m:Nat):Bool:=match rs[m]? with
 |some r=>!d4 r
 |none=>false
theorem Du{rs:List bu}{m:Nat}(h:m<rs.length):Le rs m=true↔∀r,rs[m]?=some r->d4 r=false:=by
 unfold Le
 rw[ag h]
 constructor
 ·intro z r e;cases e;simpa using z
 ·intro z;simpa using z _ rfl
theorem HB{r:bu}{rs:List bu}{m:Nat}(e:rs[m]?=some r):(!decide (V.str (dD r)=V.str "jump"))=Le rs m:=by
 unfold Le
 rw[e]
 cases r with
 |jump t=>show(!decide (V.str "jump"=V.str "jump"))=false;decide +kernel
 |num x z=>show(!decide (V.str "num"=V.str "jump"))=true;decide +kernel
 |op x s a b=>show(!decide (V.str "op"=V.str "jump"))=true;decide +kernel
 |call x k as=>show(!decide (V.str "call"=V.str "jump"))=true;decide +kernel
 |say a=>show(!decide (V.str "say"=V.str "jump"))=true;decide +kernel
 |test a t=>show(!decide (V.str "test"=V.str "jump"))=true;decide +kernel
 |give a=>show(!decide (V.str "give"=V.str "jump"))=true;decide +kernel
theorem ye(a b:List Nat):bG (a++b)=bG a++bG b:=by unfold bG;rw[aC]
theorem An{K:Fg}{vs:List V}{H:Hp}{Q:VK}{E:XK}(h:kT K vs H Q E):rh K {nx:=λ_ H'=>Q .non H',rt:=Q} (cC lS vs) H:=by
 obtain⟨rt,rvs,rs,rfl,hrt,hA,g,q⟩:=h
 refine .inl ⟨_,rfl,rt,none,rvs,rs,rfl,hrt,hA,g,λl ns H1 hns hr hl hl0 s1=>⟨l,rfl,⟨_,bY.of hl⟩,λD hD=>?_⟩⟩
 have nD:l≠D:=ar hl hD
 have nlt:∀m∈ns,m<rs.length:=λm hm=>((hns m).mp hm).lt g
 refine fK (xs:=bG ns) (λj σ' H'=>∃o,σ'=[some (.ref rt),o]/\H'=upd H1 D (.lst (bG ((ns.take j).filter (Le rs))))) ?_ ?_ ?_ ?_
 ·exact⟨none,rfl,rfl⟩
 ·rintro j σ' H' _ ⟨o,_,rfl⟩
  exact bY.of (by rw[aF nD];exact hl)
 ·rintro j x σ' H' hx ⟨o,rfl,rfl⟩
  obtain⟨m,hm,rfl⟩:=ka hx
  have ml:=nlt m (aD hm)
  obtain⟨v,r,e1,e2,hra⟩:=(hA.imp λ_ _ z=>z.mono (Tp.of_same s1)).get ml
  have nj:j<ns.length:=(ae.mp hm).1
  have few:=g.few
  have nsl:ns.length<=rs.length:=ke (hr.imp λh=>aZ h) nlt
  have ft:=qX (Le rs) ns j m hm
  have fl:((ns.take j).filter (Le rs)).length<=100:=bS (dH _ _) (by rw[aL];lia)
  obtain⟨p,xs,rfl,hp⟩:=hra.ref
  have e1':rvs[((m:Nat):Int).toNat]?=some (.ref p):=by simpa using e1
  have nrt:rt≠D:=ar (s1 _ _ hrt) hD
  have np:p≠D:=ar hp hD
  refine⟨_,rfl,_,rfl,cE (by rw[aF nrt];exact s1 _ _ hrt) (by lia) e1' (cE (by rw[aF np];exact hp) (by decide) rfl (.inl ⟨rfl,_,rfl,?_⟩))⟩
  rw[HB e2]
  refine oO (λhb=>?_) (λhb=>?_)
  ·refine⟨_,rfl,_,ai,bO (by rw[dW];lia),_,rfl,?_⟩
   rw[yX,ft,if_pos hb,ye]
   rfl
  ·refine⟨_,rfl,?_⟩
   rw[ft,if_neg (by rw[hb];decide),bU]
 ·rintro σ' H2 ⟨o,_,rfl⟩
  have et:ns.take (bG ns).length=ns:=aT (by rw[dW];exact ay _)
  rw[et]
  refine q D _ _ (λm=>?_) (hr.filter _) ai (s1.free hD) (s1.new hD)
  rw[df]
  constructor
  ·rintro⟨h1,h2⟩
   exact⟨(hns m).mp h1,(Du (nlt m h1)).mp h2⟩
  ·rintro⟨h1,h2⟩
   have h1':=(hns m).mpr h1
   exact⟨h1',(Du (nlt m h1')).mpr h2⟩
theorem wC(b:List V)(x:V):(iH b x).length=b.length:=by
 unfold iH;rw[aL,bI];omega
theorem Fl(x:V)(l:List V):∀n,(x::l.take n).take n=(x::l).take n
 |0=>rfl
 |n+1=>by
  rw[iV,iV,List.take_take,Nat.min_eq_left (Nat.le_succ n)]
theorem wm(n:Nat):∀(args ys b:List V),n<=b.length->args.foldl iH ((ys++b).take n)=(args.reverse++(ys++b)).take n
 |[],ys,b,_=>rfl
 |x::r,ys,b,hb=>by
  have l1:((ys++b).take n).length=n:=by rw[aL,aq];omega
  have e:iH ((ys++b).take n) x=((x::ys)++b).take n:=by
   unfold iH;rw[l1];exact Fl x (ys++b) n
  rw[eR,e,wm n r (x::ys) b hb,gN,bj]
  rfl
theorem FQ(n:Nat)(args:List V)(e:V):BF n args e=(args.reverse++ax n e).take n:=by
 have h:=wm n args [] (ax n e) (by rw[aU];exact ay _)
 have e0:([]++ax n e).take n=ax n e:=by rw[fF];exact aT (by rw[aU];exact ay _)
 rw[e0] at h
 exact h
theorem FX{xs:List V}(h:xs≠[]):jD xs none (some (-1))=xs.dropLast:=by
 have hl:0<xs.length:=cu.mpr h
 have e:HT.sIx xs.length xs.length (some (-1))=xs.length-1:=by
  show(if(-1:Int)<0 then((-1:Int)+(xs.length:Int)).toNat else min (-1:Int).toNat xs.length)=xs.length-1
  rw[if_pos (by decide)];omega
 unfold jD
 rw[HT.sIx_none,e,ja,ow,List.dropLast_eq_take]
theorem DC(n:Nat)(x:V):(ax n [x]).flatten=ax n x:=by
 induction n with
 |zero=>rfl
 |succ n ih=>rw[cP,eU,ih,cP];rfl
theorem CB{K:Fg}{vs:List V}{H:Hp}{Q:VK}{E:XK}(h:iJ K vs H Q E):uZ K {nx:=λ_ H'=>Q .non H',rt:=Q} (cC tu vs) H:=by
 obtain⟨b,x,xs,rfl,hb,hne,hl,q⟩:=h
 refine⟨_,rfl,(by show 1<=sizeLine;decide),λt ht=>⟨_,rfl,?_⟩⟩
 have hb1:(upd H t (.tup [x])) b=some (.tup xs):=by rw[aF (ar hb ht)];exact hb
 refine .inr (.inr (.inr ⟨t,b,[x],xs,rfl,rfl,b4.of ai,b4.of hb1,by simp,?_,λz=>absurd z hne,λ_ p hp=>?_⟩))
 ·exact dg (bO (by rw[aR];omega))
 have hb2:(upd (upd H t (.tup [x])) p (.tup ([x]++xs))) b=some (.tup xs):=by rw[aF (ar hb1 hp)];exact hb1
 refine⟨_,rfl,_,_,rfl,.inr ⟨xs,b4.of hb2,rfl⟩,_,rfl,.inr ⟨p,_,rfl,b4.of ai,?_,λp2 hp2=>?_⟩⟩
 ·rintro⟨_,z⟩
  rw[HT.sIx_nat] at z
  simp at z
 ·refine q p2 _ ?_ (((aH.refl H).new ht).new hp |>.new hp2)
  rw[ai,gs]
  rfl
theorem E2{K:Fg}{vs:List V}{H:Hp}{Q:VK}{E:XK}(h:nZ K vs H Q E):xf K {nx:=λ_ H'=>Q .non H',rt:=Q} (cC vW vs) H:=by
 obtain⟨n,a,e,xs,rfl,ha,n1,nl,q⟩:=h
 have rep:(ax n [e]).flatten=ax n e:=DC n e
 have main:∀(p:Addr) (H1:Hp),H1 p=some (.tup (ax n e))->aH H H1->rg K {nx:=λ_ H'=>Q .non H',rt:=Q} [some (.int (n:Nat)),some (.ref a),some e,some (.ref p),none] H1:=λp H1 h1 s1=>by
  have turn:∀(i:Nat) x (σ':St) (H':Hp) (D:jB),xs[i]?=some x->(∃pp o,σ'=[some (.int (n:Nat)),some (.ref a),some e,some (.ref pp),o]/\H' pp=some (.tup ((xs.take i).foldl iH (ax n e)))/\aH H H')->
    (∀σ2 H2,(∃pp o,σ2=[some (.int (n:Nat)),some (.ref a),some e,some (.ref pp),o]/\H2 pp=some (.tup ((xs.take (i+1)).foldl iH (ax n e)))/\aH H H2)->D.nx σ2 H2)->
    aK 4 x σ' H' λσ2 H2=>rf K D σ2 H2:=by
   rintro i x σ' H' D hx ⟨pp,o,rfl,hp,s'⟩ hD
   refine⟨_,rfl,_,rfl,pp,x,_,rfl,hp,?_,?_,λp2 H2 h2 s2=>?_⟩
   ·intro z
    have l0:∀(ys b:List V),(ys.foldl iH b).length=b.length:=λys=>by
     induction ys with
     |nil=>intro b;rfl
     |cons y r ih=>intro b;rw[eR,ih,wC]
    have:=l0 (xs.take i) (ax n e)
    rw[z,aU] at this
    simp at this;omega
   ·have l0:∀(ys b:List V),(ys.foldl iH b).length=b.length:=λys=>by
     induction ys with
     |nil=>intro b;rfl
     |cons y r ih=>intro b;rw[eR,ih,wC]
    rw[l0,aU];exact nl
   ·refine hD _ _ ⟨p2,_,rfl,?_,s'.trans s2⟩
    rw[h2]
    have et:xs.take (i+1)=xs.take i++[x]:=by
     rw[eW,hx];rfl
    rw[et,List.foldl_append]
    rfl
  have fin:∀(σ':St) (H':Hp),(∃pp o,σ'=[some (.int (n:Nat)),some (.ref a),some e,some (.ref pp),o]/\H' pp=some (.tup ((xs.take xs.length).foldl iH (ax n e)))/\aH H H')->
    rb K {nx:=λ_ H'=>Q .non H',rt:=Q} σ' H':=by
   rintro σ' H' ⟨pp,o,rfl,hp,s'⟩
   rw[cf] at hp
   exact⟨_,rfl,q pp _ hp s'⟩
  rcases ha with ha|ha
  ·refine .inl ⟨_,rfl,a,rfl,⟨_,bY.of (s1 _ _ ha)⟩,lW (xs:=xs) (λi σ' H'=>∃pp o,σ'=[some (.int (n:Nat)),some (.ref a),some e,some (.ref pp),o]/\H' pp=some (.tup ((xs.take i).foldl iH (ax n e)))/\aH H H') ⟨p,_,rfl,h1,s1⟩ ?_ ?_ fin⟩
   ·rintro i σ' H' _ ⟨pp,o,_,_,s'⟩;exact bY.of (s' _ _ ha)
   ·intro i x σ' H' hx hi
    exact turn i x σ' H' _ hx hi λσ2 H2 z=>z
  ·refine .inr ⟨_,rfl,a,rfl,⟨_,b4.of (s1 _ _ ha)⟩,kG (xs:=xs) (λi σ' H'=>∃pp o,σ'=[some (.int (n:Nat)),some (.ref a),some e,some (.ref pp),o]/\H' pp=some (.tup ((xs.take i).foldl iH (ax n e)))/\aH H H') ⟨p,_,rfl,h1,s1⟩ ?_ ?_ fin⟩
   ·rintro i σ' H' _ ⟨pp,o,_,_,s'⟩;exact b4.of (s' _ _ ha)
   ·intro i x σ' H' hx hi
    exact turn i x σ' H' _ hx hi λσ2 H2 z=>z
 refine⟨_,rfl,(by show 1<=sizeLine;decide),λt ht=>⟨_,rfl,.inr ⟨t,n,[e],rfl,rfl,b4.of ai,by simp,?_,λz=>?_,λ_ p hp=>?_⟩⟩⟩
 ·exact dg (bO (by rw[aR];omega))
 ·subst z
  exact main t _ ai ((aH.refl H).new ht)
 ·exact main p _ (by rw[ai,rep]) (((aH.refl H).new ht).new hp)
theorem uw(a b:Option Str):JQ (oV a) (oV b)=true:=by cases a<;>cases b<;>rfl
theorem cO{α:Type}{xs:List α}{i:Nat}{x:α}(h:xs[i]?=some x):xs.take (i+1)=xs.take i++[x]:=by rw[eW,h];rfl
theorem Md{α β:Type}{xs:List α}{ys:List β}{i:Nat}{x:α}{y:β}(h:xs[i]?=some x)(h':ys[i]?=some y):(xs.zip ys)[i]?=some (x,y):=by
 rw[List.getElem?_zip_eq_some];exact⟨h,h'⟩
theorem CG{K:Fg}{vs:List V}{H:Hp}{Q:VK}{E:XK}(h:mi K vs H Q E):u3 K {nx:=λ_ H'=>Q .non H',rt:=Q} (cC nS vs) H:=by
 obtain⟨a,b,as,bs,rfl,ha,hb,hl,h1000,q⟩:=h
 refine⟨_,rfl,_,rfl,true,true,a,b,rfl,⟨_,b4.of ha⟩,⟨_,b4.of hb⟩,λD hD=>?_⟩
 refine wg (xs:=dh as) (ys:=dh bs) (by rw[cJ,cJ];omega) (λi σ' H'=>∃o1 o2,σ'=[some (.ref a),some (.ref b),o1,o2]/\H' D=some (.lst ((((as.zip bs).take i).map J1).map V.bl))/\aH H H') ?_ ?_ ?_ ?_
 ·exact⟨none,none,rfl,by rw[lQ];exact ai,(aH.refl H).new hD⟩
 ·rintro i σ' H' _ ⟨o1,o2,_,_,s'⟩
  exact⟨b4.of (s' _ _ ha),b4.of (s' _ _ hb)⟩
 ·rintro i x y σ' H' p hx hy hp ⟨o1,o2,rfl,hD',s'⟩
  obtain⟨ox,ex,rfl⟩:=qt hx
  obtain⟨oy,ey,rfl⟩:=qt hy
  refine⟨p,_,rfl,b4.of ai,rfl,_,_,rfl,_,_,rfl,rfl,dz ?_⟩
  have nD:D≠p:=ar hD' hp
  have hD2:upd H' p (.tup [oV ox,oV oy]) D=some (.lst ((((as.zip bs).take i).map J1).map V.bl)):=by rw[aF nD];exact hD'
  have li:((((as.zip bs).take i).map J1).map V.bl).length<=1000:=by rw[aa,aa,aL,List.length_zip];omega
  have HD:H D=none:=by
   cases e:H D with
   |none=>rfl
   |some o=>have:=((aH.refl H).new hD (o:=.lst [])) D o e;rw[ai] at this;rw[hD] at e;cases e
  have app:∀c:Bool,c=J1 (ox,oy)->∃ys,upd H' p (.tup [oV ox,oV oy]) D=some (.lst ys)/\ys.length<sizeLine/\∃o1 o2,[some (V.ref a),some (V.ref b),some (oV ox),some (oV oy)]=[some (.ref a),some (.ref b),o1,o2]/\
    upd (upd H' p (.tup [oV ox,oV oy])) D (.lst (ys++[.bl c])) D=some (.lst ((((as.zip bs).take (i+1)).map J1).map V.bl))/\aH H (upd (upd H' p (.tup [oV ox,oV oy])) D (.lst (ys++[.bl c]))):=by
   rintro c rfl
   refine⟨_,hD2,bO (by omega),_,_,rfl,?_,?_⟩
   ·rw[ai,cO (Md ex ey),aC,aC];rfl
   ·intro c o hc
    have n1:c≠D:=ar hc HD
    rw[aF n1]
    exact(s'.new hp) c o hc
  refine⟨_,rfl,rfl,_,rfl,dn (λe=>?_) (λe=>?_)⟩
  ·refine app true ?_
   unfold J1
   rw[decide_eq_true (show(ox,oy).1=none from Gz.mp e),Bool.true_or]
  ·refine⟨_,rfl,_,rfl,.inl ⟨uw ox oy,app _ ?_⟩⟩
   unfold J1
   rw[decide_eq_false (show ¬(ox,oy).1=none from λz=>e (Gz.mpr z)),Bool.false_or]
   by_cases c:ox=oy
   ·rw[decide_eq_true (show oV ox=oV oy by rw[c]),decide_eq_true (show(ox,oy).1=(ox,oy).2 from c)]
   ·rw[decide_eq_false (show ¬oV ox=oV oy from λz=>c (qr z)),decide_eq_false (show ¬(ox,oy).1=(ox,oy).2 from c)]
 ·rintro σ' H' ⟨o1,o2,_,hD',s'⟩
  have e:(as.zip bs).take (dh as).length=as.zip bs:=aT (by rw[List.length_zip,cJ];omega)
  rw[e] at hD'
  exact⟨D,_,rfl,bY.of hD',q _ s'⟩
theorem yz{K:Fg}{vs:List V}{H:Hp}{Q:VK}{E:XK}(h:jT K vs H Q E):pH K {nx:=λ_ H'=>Q .non H',rt:=Q} (cC kx vs) H:=by
 obtain⟨a,os,x,rfl,ha,hne,hl,q⟩:=h
 refine .inr ⟨_,rfl,a,rfl,⟨_,b4.of ha⟩,λD hD=>?_⟩
 refine eX (xs:=dh os) (λi σ' H'=>∃o1,σ'=[some (.ref a),some (.str x),o1]/\H' D=some (.lst (dh ((os.take i).map (cS x))))/\aH H H') ?_ ?_ ?_ ?_
 ·exact⟨none,rfl,by rw[lQ];exact ai,(aH.refl H).new hD⟩
 ·rintro i σ' H' _ ⟨o1,_,_,s'⟩
  exact b4.of (s' _ _ ha)
 ·rintro i y σ' H' hy ⟨o1,rfl,hD',s'⟩
  obtain⟨oy,ey,rfl⟩:=qt hy
  have li:(dh ((os.take i).map (cS x))).length<=1000:=by rw[cJ,aa,aL];omega
  have app:∀c:V,c=oV (cS x oy)->∃ys,H' D=some (.lst ys)/\ys.length<sizeLine/\∃o1,[some (V.ref a),some (V.str x),some (oV oy)]=[some (.ref a),some (.str x),o1]/\
    upd H' D (.lst (ys++[c])) D=some (.lst (dh ((os.take (i+1)).map (cS x))))/\aH H (upd H' D (.lst (ys++[c]))):=by
   rintro c rfl
   refine⟨_,hD',bO (by omega),_,rfl,?_,λb o hb=>?_⟩
   ·rw[ai,cO ey,aC];unfold dh;rw[aC];rfl
   ·rw[aF (ar hb hD)];exact s' b o hb
  refine dz ⟨_,rfl,_,rfl,.inl ⟨uw oy (some x),_,rfl,dn (λe=>?_) (λe=>?_)⟩⟩
  ·refine app _ ?_
   unfold cS
   rw[if_pos (show oy=some x from qr (b:=some x) e)]
   rfl
  ·refine⟨_,rfl,app _ ?_⟩
   unfold cS
   rw[if_neg (show ¬oy=some x from λz=>e (by rw[z];rfl))]
 ·rintro σ' H' ⟨o1,_,hD',s'⟩
  rw[cJ,cf] at hD'
  refine⟨D,_,rfl,.inl ⟨bY.of hD',λP nP=>⟨_,rfl,P,.str x,_,rfl,ai,?_,?_,λp H2 h2 s2=>q p H2 ?_ ((s'.new nP).trans s2)⟩⟩⟩
  ·intro z
   have:=congrArg ef z
   rw[cJ,aa] at this
   exact hne (cx.mp this)
  ·rw[cJ,aa];exact hl
  ·rw[h2]
   have e:=GP (os.map (cS x)) (some x)
   show some (HO.tup (iH (dh (os.map (cS x))) (oV (some x))))=_
   rw[e];rfl
theorem yK(r:fU):fL (.str (gY r)) [.str "num",.str "op",.str "call"]=oQ r:=by
 cases r with
 |num z=>exact(by decide +kernel:fL (.str "num") [.str "num",.str "op",.str "call"]=true)
 |op s i j=>exact(by decide +kernel:fL (.str "op") [.str "num",.str "op",.str "call"]=true)
 |keep i=>exact(by decide +kernel:fL (.str "keep") [.str "num",.str "op",.str "call"]=false)
 |say i=>exact(by decide +kernel:fL (.str "say") [.str "num",.str "op",.str "call"]=false)
 |jump t=>exact(by decide +kernel:fL (.str "jump") [.str "num",.str "op",.str "call"]=false)
 |test i t=>exact(by decide +kernel:fL (.str "test") [.str "num",.str "op",.str "call"]=false)
 |call k as=>exact(by decide +kernel:fL (.str "call") [.str "num",.str "op",.str "call"]=true)
 |give i=>exact(by decide +kernel:fL (.str "give") [.str "num",.str "op",.str "call"]=false)
theorem sr{K:Fg}{vs:List V}{H:Hp}{Q:VK}{E:XK}(h:ix K vs H Q E):lF K {nx:=λ_ H'=>Q .non H',rt:=Q} (cC lx vs) H:=by
 obtain⟨v,r,rfl,hr,q⟩:=h
 cases r with
 |num z=>
  obtain⟨p,rfl,h⟩:=hr
  refine⟨_,rfl,cE h (by decide) rfl ?_⟩
  refine⟨_,rfl,.inl ⟨rfl,_,rfl,no (by decide +kernel) ?_⟩⟩
  refine⟨_,rfl,.inl ⟨rfl,_,rfl,no (by decide +kernel) ?_⟩⟩
  refine⟨_,rfl,(by show 4<=sizeLine;decide),λt ht=>⟨t,_,rfl,.inr (b4.of ai),rfl,rfl,_,rfl,yd (by decide +kernel) ?_⟩⟩
  have nt:p≠t:=ar h ht
  exact⟨(by show 0<=sizeLine;decide),λt2 ht2=>q t2 _ ai (((aH.refl H).new ht).new ht2)⟩
 |op s i j=>
  obtain⟨p,rfl,h⟩:=hr
  refine⟨_,rfl,cE h (by decide) rfl ?_⟩
  refine⟨_,rfl,.inl ⟨rfl,_,rfl,yes ?_⟩⟩
  exact⟨_,rfl,cE h (by decide) rfl ⟨_,rfl,cE h (by decide) rfl ⟨(by show 2<=sizeLine;decide),λt ht=>q t _ ai ((aH.refl H).new ht)⟩⟩⟩
 |keep i=>
  obtain⟨p,rfl,h⟩:=hr
  refine⟨_,rfl,cE h (by decide) rfl ?_⟩
  refine⟨_,rfl,.inl ⟨rfl,_,rfl,no (by decide +kernel) ?_⟩⟩
  refine⟨_,rfl,.inl ⟨rfl,_,rfl,no (by decide +kernel) ?_⟩⟩
  refine⟨_,rfl,(by show 4<=sizeLine;decide),λt ht=>⟨t,_,rfl,.inr (b4.of ai),rfl,rfl,_,rfl,tT (by decide +kernel) ?_⟩⟩
  have nt:p≠t:=ar h ht
  exact⟨_,rfl,cE (by rw[aF nt];exact h) (by decide) rfl ⟨(by show 1<=sizeLine;decide),λt2 ht2=>q t2 _ ai (((aH.refl H).new ht).new ht2)⟩⟩
 |say i=>
  obtain⟨p,rfl,h⟩:=hr
  refine⟨_,rfl,cE h (by decide) rfl ?_⟩
  refine⟨_,rfl,.inl ⟨rfl,_,rfl,no (by decide +kernel) ?_⟩⟩
  refine⟨_,rfl,.inl ⟨rfl,_,rfl,no (by decide +kernel) ?_⟩⟩
  refine⟨_,rfl,(by show 4<=sizeLine;decide),λt ht=>⟨t,_,rfl,.inr (b4.of ai),rfl,rfl,_,rfl,tT (by decide +kernel) ?_⟩⟩
  have nt:p≠t:=ar h ht
  exact⟨_,rfl,cE (by rw[aF nt];exact h) (by decide) rfl ⟨(by show 1<=sizeLine;decide),λt2 ht2=>q t2 _ ai (((aH.refl H).new ht).new ht2)⟩⟩
 |jump to=>
  obtain⟨p,rfl,h⟩:=hr
  refine⟨_,rfl,cE h (by decide) rfl ?_⟩
  refine⟨_,rfl,.inl ⟨rfl,_,rfl,no (by decide +kernel) ?_⟩⟩
  refine⟨_,rfl,.inl ⟨rfl,_,rfl,no (by decide +kernel) ?_⟩⟩
  refine⟨_,rfl,(by show 4<=sizeLine;decide),λt ht=>⟨t,_,rfl,.inr (b4.of ai),rfl,rfl,_,rfl,yd (by decide +kernel) ?_⟩⟩
  have nt:p≠t:=ar h ht
  exact⟨(by show 0<=sizeLine;decide),λt2 ht2=>q t2 _ ai (((aH.refl H).new ht).new ht2)⟩
 |test i to=>
  obtain⟨p,rfl,h⟩:=hr
  refine⟨_,rfl,cE h (by decide) rfl ?_⟩
  refine⟨_,rfl,.inl ⟨rfl,_,rfl,no (by decide +kernel) ?_⟩⟩
  refine⟨_,rfl,.inl ⟨rfl,_,rfl,no (by decide +kernel) ?_⟩⟩
  refine⟨_,rfl,(by show 4<=sizeLine;decide),λt ht=>⟨t,_,rfl,.inr (b4.of ai),rfl,rfl,_,rfl,tT (by decide +kernel) ?_⟩⟩
  have nt:p≠t:=ar h ht
  exact⟨_,rfl,cE (by rw[aF nt];exact h) (by decide) rfl ⟨(by show 1<=sizeLine;decide),λt2 ht2=>q t2 _ ai (((aH.refl H).new ht).new ht2)⟩⟩
 |call k as=>
  obtain⟨p,q1,rfl,h,h1⟩:=hr
  refine⟨_,rfl,cE h (by decide) rfl ?_⟩
  refine⟨_,rfl,.inl ⟨rfl,_,rfl,no (by decide +kernel) ?_⟩⟩
  refine⟨_,rfl,.inl ⟨rfl,_,rfl,yes ?_⟩⟩
  exact⟨_,rfl,cE h (by decide) rfl ⟨_,_,rfl,.inr ⟨b4.of h1,q _ _ h1 (aH.refl H)⟩⟩⟩
 |give i=>
  obtain⟨p,rfl,h⟩:=hr
  refine⟨_,rfl,cE h (by decide) rfl ?_⟩
  refine⟨_,rfl,.inl ⟨rfl,_,rfl,no (by decide +kernel) ?_⟩⟩
  refine⟨_,rfl,.inl ⟨rfl,_,rfl,no (by decide +kernel) ?_⟩⟩
  refine⟨_,rfl,(by show 4<=sizeLine;decide),λt ht=>⟨t,_,rfl,.inr (b4.of ai),rfl,rfl,_,rfl,tT (by decide +kernel) ?_⟩⟩
  have nt:p≠t:=ar h ht
  exact⟨_,rfl,cE (by rw[aF nt];exact h) (by decide) rfl ⟨(by show 1<=sizeLine;decide),λt2 ht2=>q t2 _ ai (((aH.refl H).new ht).new ht2)⟩⟩
theorem Gm{K:Fg}{p:Addr}{xs:List V}{i:Int}{v:V}{H:Hp}{Q:VK}(h:H p=some (.lst xs)\/H p=some (.tup xs))(h0:0<=i)(e:xs[i.toNat]?=some v)(q:Q v H):cw K (.ref p) (.int i) H Q:=by
 rcases h with h|h
 ·exact jP (bY.of h) h0 e q
 ·exact cE h h0 e q
end Bg
end
section
namespace L2
open PySem PyProof.Rows
end L2
end
section
namespace Bg
open PySem L2
theorem MF(o:Option Str)(os:List (Option Str)):fL (oV o) (dh os)=decide (o∈os):=by
 unfold fL dh
 rw[List.any_map,Bool.eq_iff_iff,List.any_eq_true,decide_eq_true_eq]
 constructor
 ·rintro⟨z,hz,e⟩
  have e':vw (oV z) (oV o)=true:=e
  rw[Dl,decide_eq_true_eq] at e'
  rw[<-e'];exact hz
 ·intro h
  exact⟨o,h,by show vw (oV o) (oV o)=true;rw[Dl];exact decide_eq_true rfl⟩
end Bg
end
section
namespace L2
open PySem PySem.Spec PyProof.Rows
section
variable{X:Cx}
end
end L2
end
section
namespace Bg
open PySem PySem.Spec PyProof.Rows L2
end Bg
end
section
namespace L2
open PySem PySem.Spec PyProof.Rows
section
variable{X:Cx}{tg:Expr}
end
end L2
end
section
namespace Bg
open PySem PySem.Spec PyProof.Rows L2
end Bg
end
section
namespace Bg
open PySem L2
theorem kH{a b:Str}{A B:Prop}(h1:a=b->A)(h2:a≠b->B):if decide (V.str a=V.str b)=true then A else B:=by
 by_cases c:a=b
 ·rw[c,decide_eq_true rfl,if_pos rfl];exact h1 c
 ·rw[decide_eq_false (λz=>c (by injection z)),if_neg (by decide)];exact h2 c
theorem Ap{K:Fg}{vs:List V}{H:Hp}{Q:VK}{E:XK}(h:mN K vs H Q E):u4 K {nx:=λ_ H'=>Q .non H',rt:=Q} (cC tE vs) H:=by
 obtain⟨p,w,xs,rfl,hp,h1,h2,h3⟩:=h
 refine⟨_,rfl,cE hp (by decide) rfl (.inl ⟨rfl,_,rfl,kH (λc=>?_) (λc=>?_)⟩)⟩
 ·obtain⟨y,hy,q⟩:=h1 c
  exact⟨_,rfl,cE hp (by decide) (show(V.str w::xs)[1]?=some y from hy) q⟩
 ·refine⟨_,rfl,cE hp (by decide) rfl (.inl ⟨rfl,_,rfl,kH (λd=>?_) (λd=>?_)⟩)⟩
  ·obtain⟨y,hy,q⟩:=h2 d
   exact⟨_,rfl,cE hp (by decide) (show(V.str w::xs)[2]?=some y from hy) q⟩
  ·exact h3 c d
theorem wF{K:Fg}{vs:List V}{H:Hp}{Q:VK}{E:XK}(h:jw K vs H Q E):qK K {nx:=λ_ H'=>Q .non H',rt:=Q} (cC qb vs) H:=by
 obtain⟨rl,p,n,rvs,xs,w,ms,rfl,hrl,hv,hp,⟨l1,l2,l3,l4⟩,q⟩:=h
 have n0:(0:Int)<=((n:Nat):Int):=aN _
 have hn:rvs[((n:Nat):Int).toNat]?=some (.ref p):=by rw[aB];exact hv
 refine⟨_,rfl,_,rfl,Gm hrl n0 hn (cE hp (by decide) rfl ?_)⟩
 show rN K _ [some (.ref rl),some (.int (n:Nat)),some (.str w)] H
 refine⟨_,rfl,.inl ⟨rfl,_,rfl,kH (λc=>?_) (λc=>?_)⟩⟩
 ·refine⟨(by show 0<=sizeLine;decide),λt nt=>q t _ ?_ ((aH.refl H).new nt)⟩
  rw[ai,l1 c];rfl
 refine⟨_,rfl,.inl ⟨rfl,_,rfl,kH (λd=>?_) (λd=>?_)⟩⟩
 ·obtain⟨g,hg,em⟩:=l2 d
  refine⟨_,rfl,_,rfl,Gm hrl n0 hn ⟨p,w,xs,rfl,hp,λ_=>⟨.int g,hg,⟨(by show 1<=sizeLine;decide),λt nt=>q t _ ?_ ((aH.refl H).new nt)⟩⟩,λz=>absurd (d.symm.trans z) (by decide +kernel),λz=>absurd d z⟩⟩
  rw[ai,em];rfl
 refine⟨_,rfl,.inl ⟨rfl,_,rfl,kH (λe=>?_) (λe=>?_)⟩⟩
 ·obtain⟨g,hg,em⟩:=l3 e
  refine⟨_,rfl,.inl ⟨_,_,rfl,rfl,_,rfl,_,rfl,Gm hrl n0 hn ⟨p,w,xs,rfl,hp,λz=>absurd z d,λ_=>⟨.int g,hg,⟨(by show 2<=sizeLine;decide),λt nt=>q t _ ?_ ((aH.refl H).new nt)⟩⟩,λ_ z=>absurd e z⟩⟩⟩
  rw[ai,em];rfl
 ·refine⟨_,rfl,.inl ⟨_,_,rfl,rfl,⟨(by show 1<=sizeLine;decide),λt nt=>q t _ ?_ ((aH.refl H).new nt)⟩⟩⟩
  rw[ai,l4 c d e];rfl
theorem so{K:Fg}{vs:List V}{H:Hp}{Q:VK}{E:XK}(h:fk K vs H Q E):lE K {nx:=λ_ H'=>Q .non H',rt:=Q} (cC lu vs) H:=by
 obtain⟨_,a,⟨n',os⟩,n,told,rfl,⟨p,b,rfl,hp,hb⟩,ha,few,⟨e1,e2,e3⟩,q⟩:=h
 have e1:n'=n:=e1
 subst e1
 refine⟨_,rfl,cE hp (by decide) rfl ⟨_,rfl,.inl ⟨rfl,_,rfl,?_⟩⟩⟩
 rw[decide_eq_true (show V.int (n':Nat)=V.int (n':Nat) from rfl)]
 refine qm ⟨_,rfl,cE hp (by decide) rfl ⟨_,rfl,b,a,os,told,rfl,hb,ha,e2,few,λH' s=>?_⟩⟩
 have e3:Bd os told=true:=e3
 rw[e3];exact q H' s
theorem Am{K:Fg}{vs:List V}{H:Hp}{Q:VK}{E:XK}(h:kS K vs H Q E):uY K {nx:=λ_ H'=>Q .non H',rt:=Q} (cC tq vs) H:=by
 obtain⟨v,a,r,os,x,rfl,hra,ha,hne,hl,okk,oks,q⟩:=h
 have nev:dh os≠[]:=λz=>hne (by have:=congrArg ef z;rw[cJ] at this;exact cx.mp this)
 have le:(dh os).length<=1000:=by rw[cJ];exact hl
 have stay:∀(p:Addr) (xs:List V),oQ r=false->(∀i,r≠.keep i)->H p=some (.tup (.str (gY r)::xs))->lb K {nx:=λ_ H'=>Q .non H',rt:=Q} [some (.ref p),some (.ref a),some (oV x)] H:=λp xs h1 h2 hp=>by
  have eb:Dd r os x=os:=by
   cases x with
   |none=>cases r<;>first|rfl|exact absurd rfl (h2 _)
   |some y=>cases r<;>first|rfl|exact absurd rfl (h2 _)|cases h1
  refine⟨_,rfl,cE hp (by decide) rfl ⟨(by show 3<=sizeLine;decide),λt ht=>⟨t,_,rfl,.inr (b4.of ai),rfl,rfl,_,rfl,?_⟩⟩⟩
  exact yd ((yK r).trans h1) ⟨_,rfl,q a _ (by rw[aF (ar ha ht),eb];exact ha) ((aH.refl H).new ht)⟩
 have sets:∀(p:Addr) (xs:List V),oQ r=true->H p=some (.tup (.str (gY r)::xs))->lb K {nx:=λ_ H'=>Q .non H',rt:=Q} [some (.ref p),some (.ref a),some (oV x)] H:=λp xs h1 hp=>by
  obtain⟨y,rfl⟩:∃y,x=some y:=by
   have:=oks h1
   cases x with
   |none=>cases this
   |some y=>exact⟨y,rfl⟩
  have eb:Dd r os (some y)=rZ os y:=by
   cases r<;>first|rfl|(cases h1;done)
  refine⟨_,rfl,cE hp (by decide) rfl ⟨(by show 3<=sizeLine;decide),λt ht=>⟨t,_,rfl,.inr (b4.of ai),rfl,rfl,_,rfl,?_⟩⟩⟩
  exact tT ((yK r).trans h1) ⟨_,rfl,_,rfl,a,os,y,rfl,by rw[aF (ar ha ht)];exact ha,hne,hl,λp H2 h2 s2=>q p H2 (by rw[h2,eb]) (((aH.refl H).new ht).trans s2)⟩
 cases r with
 |keep i=>
  obtain⟨p,rfl,h⟩:=hra
  obtain⟨i0,i1⟩:=okk i rfl
  refine⟨_,rfl,cE h (by decide) rfl (.inl ⟨rfl,_,rfl,yes ?_⟩)⟩
  refine⟨_,rfl,_,rfl,_,rfl,cE h (by decide) rfl (cE ha i0 (kK (ag i1)) ⟨a,_,_,rfl,ha,nev,le,λp H2 h2 s2=>q p H2 ?_ s2⟩)⟩
  rw[h2,GP]
  show _=some (HO.tup (dh (dI os ((os[i.toNat]?).getD none))))
  rw[ag i1,dk]
 |num z=>
  obtain⟨p,rfl,h⟩:=hra
  exact⟨_,rfl,cE h (by decide) rfl (.inl ⟨rfl,_,rfl,no (by decide +kernel) (sets p _ rfl h)⟩)⟩
 |op s i j=>
  obtain⟨p,rfl,h⟩:=hra
  exact⟨_,rfl,cE h (by decide) rfl (.inl ⟨rfl,_,rfl,no (by decide +kernel) (sets p _ rfl h)⟩)⟩
 |call k as=>
  obtain⟨p,q1,rfl,h,h1⟩:=hra
  exact⟨_,rfl,cE h (by decide) rfl (.inl ⟨rfl,_,rfl,no (by decide +kernel) (sets p _ rfl h)⟩)⟩
 |say i=>
  obtain⟨p,rfl,h⟩:=hra
  exact⟨_,rfl,cE h (by decide) rfl (.inl ⟨rfl,_,rfl,no (by decide +kernel) (stay p _ rfl (λ_ z=>by cases z) h)⟩)⟩
 |jump to=>
  obtain⟨p,rfl,h⟩:=hra
  exact⟨_,rfl,cE h (by decide) rfl (.inl ⟨rfl,_,rfl,no (by decide +kernel) (stay p _ rfl (λ_ z=>by cases z) h)⟩)⟩
 |test i to=>
  obtain⟨p,rfl,h⟩:=hra
  exact⟨_,rfl,cE h (by decide) rfl (.inl ⟨rfl,_,rfl,no (by decide +kernel) (stay p _ rfl (λ_ z=>by cases z) h)⟩)⟩
 |give i=>
  obtain⟨p,rfl,h⟩:=hra
  exact⟨_,rfl,cE h (by decide) rfl (.inl ⟨rfl,_,rfl,no (by decide +kernel) (stay p _ rfl (λ_ z=>by cases z) h)⟩)⟩
theorem Et(ss:List Str):lP (ss.map V.str) (ss.map V.str)=true:=by
 rw[oJ rfl,cK]
 intro j hj
 rw[ff,aa] at hj
 rw[aG,ag hj]
 simp[vw]
theorem y3(r:bu):fL (.str (dD r)) [V.str "num",V.str "op",V.str "call"]=(fW r).isSome:=by
 cases r<;>(first|(show fL (.str "num") _=true;decide +kernel)|(show fL (.str "op") _=true;decide +kernel)|(show fL (.str "call") _=true;decide +kernel)|(show fL (.str "say") _=false;decide +kernel)|(show fL (.str "jump") _=false;decide +kernel)|(show fL (.str "test") _=false;decide +kernel)|(show fL (.str "give") _=false;decide +kernel))
theorem JN{H:Hp}{p:Addr}{r:bu}(h:c8 H (.ref p) r)(e:(fW r).isSome=true):∃x xs,H p=some (.tup (.str (dD r)::.str x::Ee r::xs))/\JQ (Ee r) (Ee r)=true:=by
 cases r with
 |num y z=>obtain⟨p',e',h⟩:=h;cases e';exact⟨_,_,h,rfl⟩
 |op y s a b=>obtain⟨p',e',h⟩:=h;cases e';exact⟨_,_,h,rfl⟩
 |call y k as=>obtain⟨p',q,e',h,_⟩:=h;cases e';exact⟨_,_,h,rfl⟩
 |jump to=>cases e
 |say a=>cases e
 |test a to=>cases e
 |give a=>cases e
theorem FV{H:Hp}{p:Addr}{c:fU}(h:fu H (.ref p) c)(e:oQ c=true):∃xs,H p=some (.tup (.str (gY c)::MA c::xs)):=by
 cases c with
 |num z=>obtain⟨p',e',h⟩:=h;cases e';exact⟨_,h⟩
 |op s i j=>obtain⟨p',e',h⟩:=h;cases e';exact⟨_,h⟩
 |call k as=>obtain⟨p',q,e',h,_⟩:=h;cases e';exact⟨_,h⟩
 |keep i=>cases e
 |say i=>cases e
 |jump to=>cases e
 |test i to=>cases e
 |give i=>cases e
theorem vF{K:Fg}{vs:List V}{H:Hp}{Q:VK}{E:XK}(h:ju K vs H Q E):nu K {nx:=λ_ H'=>Q .non H',rt:=Q} (cC jN vs) H:=by
 obtain⟨v,u,a,r,c,os,rfl,hr,hc,ha,few,rfew,⟨wd,arg,ln,at_⟩,q⟩:=h
 obtain⟨p,xs,rfl,hp⟩:=hr.ref
 obtain⟨p2,ys,rfl,hp2⟩:=hc.ref
 refine⟨_,rfl,cE hp (by decide) rfl ⟨_,rfl,cE hp2 (by decide) rfl (.inl ⟨rfl,_,rfl,?_⟩)⟩⟩
 rw[<-wd,decide_eq_true (show V.str (dD r)=V.str (dD r) from rfl)]
 refine ij ?_
 have last:∀(H1:Hp),aH H H1->lI K {nx:=λ_ H'=>Q .non H',rt:=Q} [some (.ref p),some (.ref p2),some (.ref a)] H1:=λH1 s1=>by
  refine .inr ⟨_,rfl,.ref p2,c,rfl,hc.mono (Tp.of_same s1),λpp H2 hpp s2=>⟨pp,rfl,⟨_,b4.of hpp⟩,λD nD=>?_⟩⟩
  have ha2:=s2 _ _ (s1 _ _ ha)
  refine eX (xs:=(kf c).map V.int) (λi σ' H'=>∃o,σ'=[some (.ref p),some (.ref p2),some (.ref a),o]/\H' D=some (.lst (((bR r).take i).map V.str))/\aH H2 H') ⟨none,rfl,ai,(aH.refl H2).new nD⟩ ?_ ?_ ?_
  ·rintro i σ' H' _ ⟨_,_,_,s⟩;exact b4.of (s _ _ hpp)
  ·rintro i x σ' H3 hx ⟨o,rfl,hD,s⟩
   rw[aG] at hx
   obtain⟨z,ez,rfl⟩:=fq.mp hx
   have il:i<(bR r).length:=by rw[<-ln];exact(ae.mp ez).1
   have er:(bR r)[i]?=some (bR r)[i]:=ag il
   obtain⟨z0,hz⟩:=at_ i z _ ez er
   refine dz ⟨_,rfl,_,rfl,cE (s _ _ ha2) z0 (kK hz) ⟨_,hD,bO (by rw[aa,aL];lia),_,rfl,?_,jO s nD⟩⟩
   rw[ai,cO er,aC];rfl
  ·rintro σ' H3 ⟨o,_,hD,s3⟩
   rw[aa,ln,cf] at hD
   refine⟨D,_,rfl,.inl ⟨bY.of hD,λt nt=>?_⟩⟩
   have s4:aH H3 (upd H3 t (.tup ((bR r).map V.str))):=(aH.refl H3).new nt
   have ht:upd H3 t (.tup ((bR r).map V.str)) t=some (.tup ((bR r).map V.str)):=ai
   generalize upd H3 t (.tup ((bR r).map V.str))=H4 at s4 ht ⊢
   have s04:=((s1.trans s2).trans s3).trans s4
   refine⟨_,rfl,.ref p,r,rfl,hr.mono (Tp.of_same s04),λp5 H5 hp5 s5=>.inr (.inl ⟨t,p5,_,_,rfl,rfl,b4.of (s5 _ _ ht),b4.of hp5,j9 _,j9 _,?_⟩)⟩
   rw[if_neg Bool.false_ne_true,Et]
   exact q H5 (s04.trans s5)
 show lJ K _ [some (.ref p),some (.ref p2),some (.ref a)] H
 refine⟨_,rfl,cE hp (by decide) rfl ⟨(by show 3<=sizeLine;decide),λt nt=>⟨t,_,rfl,.inr (b4.of ai),rfl,rfl,_,rfl,?_⟩⟩⟩
 have s1:aH H (upd H t (.tup [V.str "num",V.str "op",V.str "call"])):=(aH.refl H).new nt
 generalize upd H t (.tup [V.str "num",V.str "op",V.str "call"])=H1 at s1 ⊢
 rw[show(if false=true then !fL (V.str (dD r)) [V.str "num",V.str "op",V.str "call"] else fL (V.str (dD r)) [V.str "num",V.str "op",V.str "call"])=(fW r).isSome from y3 r]
 refine oO (λhs=>?_) (λhs=>ij (last H1 s1))
 obtain⟨x,xs',hp',sc⟩:=JN hr hs
 have ic:oQ c=true:=by
  rw[<-yK c,<-wd]
  exact(y3 r).trans hs
 obtain⟨ys',hp2'⟩:=FV hc ic
 refine⟨_,rfl,cE (s1 _ _ hp') (by decide) rfl ⟨_,rfl,cE (s1 _ _ hp2') (by decide) rfl (.inl ⟨by rw[<-arg];exact sc,_,rfl,?_⟩)⟩⟩
 rw[<-arg,decide_eq_true (show Ee r=Ee r from rfl)]
 exact ij (last H1 s1)
theorem L7(c:fU):fL (.str (gY c)) [V.str "keep",V.str "jump"]=yL c:=by
 cases c<;>(first|(show fL (.str "num") _=false;decide +kernel)|(show fL (.str "op") _=false;decide +kernel)|(show fL (.str "call") _=false;decide +kernel)|(show fL (.str "say") _=false;decide +kernel)|(show fL (.str "keep") _=true;decide +kernel)|(show fL (.str "jump") _=true;decide +kernel)|(show fL (.str "test") _=false;decide +kernel)|(show fL (.str "give") _=false;decide +kernel))
theorem Cg{H:Hp}{v:V}{r:bu}(n:Nat)(h:c8 H v r):∃p xs,v=.ref p/\H p=some (.tup (.str (dD r)::xs))/\yj (dD r) xs n ((bX n r).map λk=>((k:Nat):Int)):=by
 cases r with
 |num y z=>obtain⟨p,e,h⟩:=h;exact⟨p,_,e,h,λz=>absurd (show("num":Str)="give" from z) (by decide +kernel),λz=>absurd (show("num":Str)="jump" from z) (by decide +kernel),λz=>absurd (show("num":Str)="test" from z) (by decide +kernel),λ_ _ _=>rfl⟩
 |op y s a b=>obtain⟨p,e,h⟩:=h;exact⟨p,_,e,h,λz=>absurd (show("op":Str)="give" from z) (by decide +kernel),λz=>absurd (show("op":Str)="jump" from z) (by decide +kernel),λz=>absurd (show("op":Str)="test" from z) (by decide +kernel),λ_ _ _=>rfl⟩
 |call y k as=>obtain⟨p,q,e,h,_⟩:=h;exact⟨p,_,e,h,λz=>absurd (show("call":Str)="give" from z) (by decide +kernel),λz=>absurd (show("call":Str)="jump" from z) (by decide +kernel),λz=>absurd (show("call":Str)="test" from z) (by decide +kernel),λ_ _ _=>rfl⟩
 |say a=>obtain⟨p,e,h⟩:=h;exact⟨p,_,e,h,λz=>absurd (show("say":Str)="give" from z) (by decide +kernel),λz=>absurd (show("say":Str)="jump" from z) (by decide +kernel),λz=>absurd (show("say":Str)="test" from z) (by decide +kernel),λ_ _ _=>rfl⟩
 |jump to=>obtain⟨p,e,h⟩:=h;exact⟨p,_,e,h,λz=>absurd (show("jump":Str)="give" from z) (by decide +kernel),λ_=>⟨_,rfl,rfl⟩,λz=>absurd (show("jump":Str)="test" from z) (by decide +kernel),λ_ z=>absurd rfl z⟩
 |test a to=>obtain⟨p,e,h⟩:=h;exact⟨p,_,e,h,λz=>absurd (show("test":Str)="give" from z) (by decide +kernel),λz=>absurd (show("test":Str)="jump" from z) (by decide +kernel),λ_=>⟨_,rfl,rfl⟩,λ_ _ z=>absurd rfl z⟩
 |give a=>obtain⟨p,e,h⟩:=h;exact⟨p,_,e,h,λ_=>rfl,λz=>absurd (show("give":Str)="jump" from z) (by decide +kernel),λz=>absurd (show("give":Str)="test" from z) (by decide +kernel),λz=>absurd rfl z⟩
theorem zZ{H:Hp}{v:V}{c:fU}(n:Nat)(h:fu H v c):∃p xs,v=.ref p/\H p=some (.tup (.str (gY c)::xs))/\yj (gY c) xs n (jj (n:Nat) c):=by
 cases c with
 |num z=>obtain⟨p,e,h⟩:=h;exact⟨p,_,e,h,λz=>absurd (show("num":Str)="give" from z) (by decide +kernel),λz=>absurd (show("num":Str)="jump" from z) (by decide +kernel),λz=>absurd (show("num":Str)="test" from z) (by decide +kernel),λ_ _ _=>rfl⟩
 |op s i j=>obtain⟨p,e,h⟩:=h;exact⟨p,_,e,h,λz=>absurd (show("op":Str)="give" from z) (by decide +kernel),λz=>absurd (show("op":Str)="jump" from z) (by decide +kernel),λz=>absurd (show("op":Str)="test" from z) (by decide +kernel),λ_ _ _=>rfl⟩
 |call k as=>obtain⟨p,q,e,h,_⟩:=h;exact⟨p,_,e,h,λz=>absurd (show("call":Str)="give" from z) (by decide +kernel),λz=>absurd (show("call":Str)="jump" from z) (by decide +kernel),λz=>absurd (show("call":Str)="test" from z) (by decide +kernel),λ_ _ _=>rfl⟩
 |keep i=>obtain⟨p,e,h⟩:=h;exact⟨p,_,e,h,λz=>absurd (show("keep":Str)="give" from z) (by decide +kernel),λz=>absurd (show("keep":Str)="jump" from z) (by decide +kernel),λz=>absurd (show("keep":Str)="test" from z) (by decide +kernel),λ_ _ _=>rfl⟩
 |say i=>obtain⟨p,e,h⟩:=h;exact⟨p,_,e,h,λz=>absurd (show("say":Str)="give" from z) (by decide +kernel),λz=>absurd (show("say":Str)="jump" from z) (by decide +kernel),λz=>absurd (show("say":Str)="test" from z) (by decide +kernel),λ_ _ _=>rfl⟩
 |jump to=>obtain⟨p,e,h⟩:=h;exact⟨p,_,e,h,λz=>absurd (show("jump":Str)="give" from z) (by decide +kernel),λ_=>⟨_,rfl,rfl⟩,λz=>absurd (show("jump":Str)="test" from z) (by decide +kernel),λ_ z=>absurd rfl z⟩
 |test i to=>obtain⟨p,e,h⟩:=h;exact⟨p,_,e,h,λz=>absurd (show("test":Str)="give" from z) (by decide +kernel),λz=>absurd (show("test":Str)="jump" from z) (by decide +kernel),λ_=>⟨_,rfl,rfl⟩,λ_ _ z=>absurd rfl z⟩
 |give i=>obtain⟨p,e,h⟩:=h;exact⟨p,_,e,h,λ_=>rfl,λz=>absurd (show("give":Str)="jump" from z) (by decide +kernel),λz=>absurd (show("give":Str)="test" from z) (by decide +kernel),λz=>absurd rfl z⟩
theorem L6(r:bu):fQ r=oV (fW r):=by cases r<;>rfl
theorem JU{c:fU}(h:yL c=true):oQ c=false:=by cases c<;>first|rfl|cases h
theorem yy{K:Fg}{vs:List V}{H:Hp}{Q:VK}{E:XK}(h:jS K vs H Q E):pC K {nx:=λ_ H'=>Q .non H',rt:=Q} (cC iX vs) H:=by
 obtain⟨rt,ct,pp,m,places,rvs,cvs,pvs,rs,cs,ps,rfl,hrt,hR,good,hct,hC,hpp,hP,p1,p1000,rfew,wide,⟨c,⟨n,os⟩,r,ec,eq,er,ol,okk,same,lin,len,nxt⟩,q⟩:=h
 have er:rs[n]?=some r:=er
 have ol:os.length=places:=ol
 have m0:(0:Int)<=((m:Nat):Int):=aN _
 have n0:(0:Int)<=((n:Nat):Int):=aN _
 obtain⟨cv,_,ecv,e2,hcv⟩:=hC.get (i:=m) (ae.mp ec).1
 rw[ec] at e2;cases e2
 obtain⟨pv,_,epv,e2,pa,na,rfl,hpa,hna⟩:=hP.get (i:=m) (ae.mp eq).1
 rw[eq] at e2;cases e2
 obtain⟨rv,_,erv,e2,hrv⟩:=hR.get (i:=n) (ae.mp er).1
 rw[er] at e2;cases e2
 have nl:n<rs.length:=(ae.mp er).1
 have one:os≠[]:=λz=>by rw[z] at ol;have:(0:Nat)=places:=ol;lia
 have hpa:H pa=some (.tup [.int (n:Nat),.ref na]):=hpa
 have hna:H na=some (.tup (dh os)):=hna
 refine⟨_,rfl,_,rfl,cE hct m0 (by rw[aB];exact ecv) ?_⟩
 show mv K _ [some (.ref rt),some (.ref ct),some (.ref pp),some (.int (m:Nat)),some cv,none,none,none,none] H
 refine⟨_,rfl,_,rfl,cE hpp m0 (by rw[aB];exact epv) (cE hpa (by decide) rfl ?_)⟩
 show mr K _ [some (.ref rt),some (.ref ct),some (.ref pp),some (.int (m:Nat)),some cv,some (.int (n:Nat)),none,none,none] H
 refine⟨_,rfl,_,rfl,cE hpp m0 (by rw[aB];exact epv) (cE hpa (by decide) rfl ?_)⟩
 show mq K _ [some (.ref rt),some (.ref ct),some (.ref pp),some (.int (m:Nat)),some cv,some (.int (n:Nat)),some (.ref na),none,none] H
 have rest:∀(pn:Addr) (H1:Hp),aH H H1->H1 pn=some (.tup (bG (dO rs c n)))->mn K {nx:=λ_ H'=>Q .non H',rt:=Q} [some (.ref rt),some (.ref ct),some (.ref pp),some (.int (m:Nat)),some cv,some (.int (n:Nat)),some (.ref na),some (.ref pn),none] H1:=λpn H1 s1 hpn=>by
  refine⟨_,rfl,_,rfl,_,rfl,_,rfl,cE (s1 _ _ hrt) n0 (by rw[aB];exact erv) ⟨rv,r,rfl,hrv.mono (Tp.of_same s1),λH2 s2=>?_⟩⟩
  have s02:=s1.trans s2
  rw[L6]
  have st:oQ c=true->(fW r).isSome=true:=λhs=>by
   cases hsil:yL c with
   |true=>rw[JU hsil] at hs;cases hs
   |false=>rw[<-y3 r,(same hsil).wd];exact(yK c).trans hs
  refine⟨cv,na,c,os,fW r,rfl,hcv.mono (Tp.of_same s02),s02 _ _ hna,one,by lia,λi e=>by rw[ol];exact okk i e,st,λtl H3 htl s3=>?_⟩
  have s03:=s02.trans s3
  show mj K _ [some (.ref rt),some (.ref ct),some (.ref pp),some (.int (m:Nat)),some cv,some (.int (n:Nat)),some (.ref na),some (.ref pn),some (.ref tl)] H3
  obtain⟨cp,cxs,ecp,hcp,lw⟩:=zZ m (hcv.mono (Tp.of_same s03))
  refine⟨_,rfl,_,rfl,ct,cp,m,cvs,cxs,gY c,jj (m:Nat) c,rfl,.inr (s03 _ _ hct),by rw[ecv,ecp],hcp,lw,λld H4 hld s4=>?_⟩
  have s04:=s03.trans s4
  have hpn4:=s4 _ _ (s3 _ _ (s2 _ _ hpn))
  have htl4:=s4 _ _ htl
  have hpp4:=s04 _ _ hpp
  refine⟨_,rfl,true,true,ld,pn,rfl,⟨_,b4.of hld⟩,⟨_,b4.of hpn4⟩,λD nD=>?_⟩
  refine wg (xs:=(jj (m:Nat) c).map V.int) (ys:=bG (dO rs c n)) (by rw[aa,dW,len];exact ay _) (λi σ' H'=>∃o1 o2,σ'=[some (.ref rt),some (.ref ct),some (.ref pp),some (.int (m:Nat)),some cv,some (.int (n:Nat)),some (.ref na),some (.ref pn),some (.ref tl),o1,o2]/\H' D=some (.lst ((ax i true).map V.bl))/\aH H4 H') ⟨none,none,rfl,ai,(aH.refl H4).new nD⟩ ?_ ?_ ?_
  ·rintro i σ' H' _ ⟨_,_,_,_,s⟩;exact⟨b4.of (s _ _ hld),b4.of (s _ _ hpn4)⟩
  ·rintro i x y σ' H5 t hx hy nt ⟨o1,o2,rfl,hD,s5⟩
   rw[aG] at hx
   obtain⟨to,eto,rfl⟩:=fq.mp hx
   obtain⟨k,ek,rfl⟩:=ka hy
   obtain⟨t0,q',eq',fit⟩:=nxt i to k eto ek
   obtain⟨qv,_,eqv,e2,hqv⟩:=hP.get (i:=to.toNat) (ae.mp eq').1
   rw[eq'] at e2;cases e2
   refine⟨t,_,rfl,b4.of ai,rfl,_,_,rfl,_,_,rfl,rfl,dz ?_⟩
   have s6:aH H5 (upd H5 t (.tup [.int to,.int (k:Nat)])):=(aH.refl H5).new nt
   show a7 (fk K) [] E0 _ [some (.ref rt),some (.ref ct),some (.ref pp),some (.int (m:Nat)),some cv,some (.int (n:Nat)),some (.ref na),some (.ref pn),some (.ref tl),some (.int to),some (.int (k:Nat))] _ _
   generalize upd H5 t (.tup [.int to,.int (k:Nat)])=H6 at s6 ⊢
   have s46:=s5.trans s6
   have il:i<3:=by
    have h1:=(ae.mp eto).1
    have:(jj (m:Nat) c).length<=2:=by cases c<;>simp[jj]
    lia
   refine⟨_,rfl,_,rfl,cE (s46 _ _ hpp4) t0 eqv ⟨_,rfl,_,rfl,qv,tl,q',k,_,rfl,hqv.mono (Tp.of_same (s04.trans s46)),s46 _ _ htl4,by rw[wide _ _ eq'];exact p1000,fit,λH7 s7=>⟨_,s7 _ _ (s6 _ _ hD),bO (by rw[aa,aU];lia),_,_,rfl,?_,jO (s46.trans s7) nD⟩⟩⟩
   rw[ai,List.replicate_succ',aC];rfl
  ·rintro σ' H5 ⟨o1,o2,_,hD,s5⟩
   refine⟨D,_,rfl,bY.of hD,?_⟩
   have:∀k:Nat,(ax k true).all id=true:=λk=>by simp
   rw[this]
   exact q H5 (s04.trans s5)
 obtain⟨cp,cxs,ecp,hcp⟩:=hcv.ref
 subst ecp
 refine⟨_,rfl,cE hcp (by decide) rfl ⟨(by show 2<=sizeLine;decide),λt nt=>⟨t,_,rfl,.inr (b4.of ai),rfl,rfl,_,rfl,?_⟩⟩⟩
 have s1:aH H (upd H t (.tup [V.str "keep",V.str "jump"])):=(aH.refl H).new nt
 generalize upd H t (.tup [V.str "keep",V.str "jump"])=H1 at s1 ⊢
 rw[show(if false=true then !fL (V.str (gY c)) [V.str "keep",V.str "jump"] else fL (V.str (gY c)) [V.str "keep",V.str "jump"])=yL c from L7 c]
 refine oO (λhs=>?_) (λhs=>?_)
 ·refine⟨_,rfl,(by show 1<=sizeLine;decide),λpn npn=>rest pn _ (s1.new npn) ?_⟩
  rw[ai]
  unfold dO
  rw[if_pos hs];rfl
 ·refine⟨_,rfl,_,rfl,cE (s1 _ _ hrt) n0 (by rw[aB];exact erv) ⟨_,rfl,_,rfl,rv,.ref cp,na,r,c,os,rfl,hrv.mono (Tp.of_same s1),hcv.mono (Tp.of_same s1),s1 _ _ hna,by lia,rfew r (aD er),same hs,λH2 s2=>⟨_,rfl,ij ?_⟩⟩⟩
  have s02:=s1.trans s2
  obtain⟨rp,rxs,erp,hrp,lw⟩:=Cg n (hrv.mono (Tp.of_same s02))
  refine .inr ⟨_,rfl,_,rfl,rt,rp,n,rvs,rxs,dD r,_,rfl,.inr (s02 _ _ hrt),by rw[erv,erp],hrp,lw,λld H3 hld s3=>⟨ld,rfl,⟨_,b4.of hld⟩,λD nD=>?_⟩⟩
  have s03:=s02.trans s3
  have hpl:dO rs c n=(bX n r).map (runJ rs rs.length):=by
   unfold dO
   rw[if_neg (by rw[hs];exact Bool.false_ne_true),er]
  refine eX (xs:=((bX n r).map λk=>((k:Nat):Int)).map V.int) (λi σ' H'=>∃o,σ'=[some (.ref rt),some (.ref ct),some (.ref pp),some (.int (m:Nat)),some (.ref cp),some (.int (n:Nat)),some (.ref na),none,none,o]/\H' D=some (.lst (bG (((bX n r).take i).map (runJ rs rs.length))))/\aH H3 H') ⟨none,rfl,ai,(aH.refl H3).new nD⟩ ?_ ?_ ?_
  ·rintro i σ' H' _ ⟨_,_,_,s⟩;exact b4.of (s _ _ hld)
  ·rintro i x σ' H4 hx ⟨o,rfl,hD,s4⟩
   rw[aG,aG] at hx
   obtain⟨z,ez,rfl⟩:=fq.mp hx
   obtain⟨k,ek,rfl⟩:=fq.mp ez
   have il:i<3:=by
    have h1:=(ae.mp ek).1
    have:(bX n r).length<=2:=by cases r<;>simp[bX]
    lia
   refine dz ⟨_,rfl,_,rfl,rt,k,rvs,rs,rfl,s4 _ _ (s03 _ _ hrt),hR.imp λ_ _ z=>z.mono (Tp.of_same (s03.trans s4)),good,lin k (aD ek),_,hD,bO (by rw[dW,aa,aL];lia),_,rfl,?_,jO s4 nD⟩
   rw[ai,cO ek]
   unfold bG
   rw[aC,aC];rfl
  ·rintro σ' H4 ⟨o,_,hD,s4⟩
   rw[aa,aa,cf,<-hpl] at hD
   refine⟨D,_,rfl,.inl ⟨bY.of hD,λpn npn=>rest pn _ ((s03.trans s4).new npn) ai⟩⟩
theorem Ig(n:Nat)(ys:List Str):BF n (ys.map V.str) .non=dh ((ys.reverse.map some++ax n none).take n):=by
 rw[FQ]
 unfold dh
 rw[cM,aC,jc,de,<-jZ]
 rfl
theorem vE{K:Fg}{vs:List V}{H:Hp}{Q:VK}{E:XK}(h:jt K vs H Q E):nr K {nx:=λ_ H'=>Q .non H',rt:=Q} (cC mX vs) H:=by
 obtain⟨v,ct,pp,places,cvs,pvs,b,cs,ps,rfl,⟨pa,qa,ra,rvs,rfl,hpa,hqa,hra,hR⟩,good,rne,p100,rfew,hct,hC,cfew,hpp,hP,p1,p1000,R,q⟩:=h
 obtain⟨q0,eq0,fit⟩:=R.fst
 have rpos:0<b.rows.length:=cu.mpr rne
 obtain⟨qv,_,eqv,e2,hqv⟩:=hP.get (i:=0) (ae.mp eq0).1
 rw[eq0] at e2;cases e2
 refine⟨_,rfl,cE hpp (by decide) eqv ⟨_,rfl,cE hpa (by decide) rfl ⟨ra,0,rvs,b.rows,rfl,hra,hR,good,rpos,?_⟩⟩⟩
 refine⟨_,rfl,_,rfl,cE hpa (by decide) rfl ⟨places,qa,.non,_,rfl,.inr hqa,p1,p1000,λbg H1 hbg s1=>?_⟩⟩
 rw[Ig] at hbg
 refine⟨qv,bg,q0,_,_,rfl,hqv.mono (Tp.of_same s1),hbg,by rw[R.wide _ _ eq0];exact p1000,fit,λH2 s2=>⟨_,rfl,ij ?_⟩⟩
 have s02:=s1.trans s2
 show lH K _ [some (.int (places:Nat)),some (.ref pa),some (.ref ct),some (.ref pp),none] H2
 refine⟨_,rfl,_,_,rfl,.inr ⟨_,b4.of (s02 _ _ hct),rfl⟩,_,rfl,by lia,by rw[hC.len];lia,iq (n:=((cvs.length:Nat):Int).toNat) (λi σ' H'=>∃o4,σ'=[some (.int (places:Nat)),some (.ref pa),some (.ref ct),some (.ref pp),o4]/\aH H H') ⟨none,rfl,s02⟩ ?_ ?_⟩
 ·rintro i σ' H3 hi ⟨o4,rfl,s3⟩
  have hi:i<cs.length:=by rw[<-hC.len];simpa using hi
  have e0:(0:Int)+(i:Int)=((i:Nat):Int):=by lia
  show lG K _ [some (.int (places:Nat)),some (.ref pa),some (.ref ct),some (.ref pp),some (.int ((0:Int)+(i:Int)))] H3
  rw[e0]
  refine⟨_,rfl,cE (s3 _ _ hpa) (by decide) rfl ⟨_,rfl,_,rfl,_,rfl,ra,ct,pp,i,places,rvs,cvs,pvs,b.rows,cs,ps,rfl,s3 _ _ hra,hR.imp λ_ _ z=>z.mono (Tp.of_same s3),good,s3 _ _ hct,hC.imp λ_ _ z=>z.mono (Tp.of_same s3),s3 _ _ hpp,hP.imp λ_ _ z=>z.mono (Tp.of_same s3),p1,p1000,rfew,R.wide,R.row i hi,λH4 s4=>⟨_,rfl,ij ⟨_,rfl,s3.trans s4⟩⟩⟩⟩
 ·rintro σ' H3 ⟨o4,rfl,s3⟩
  exact q H3 s3
theorem wo(zs:List Int):(zs.map V.int).all gJ=true:=by
 rw[List.all_map,cK];intro _ _;rfl
theorem Es(zs:List Int):lP (zs.map V.int) (zs.map V.int)=true:=by
 rw[oJ rfl,cK]
 intro j hj
 rw[ff,aa] at hj
 rw[aG,ag hj]
 simp[vw]
theorem FW(zs:List Int)(a b:Int):∃ws:List Int,jD (zs.map V.int) (some a) (some b)=ws.map V.int:=by
 unfold jD
 exact⟨_,by rw[<-iA,<-cM]⟩
theorem CD{K:Fg}{vs:List V}{H:Hp}{Q:VK}{E:XK}(h:mh K vs H Q E):u1 K {nx:=λ_ H'=>Q .non H',rt:=Q} (cC ky vs) H:=by
 obtain⟨pg,pt,pvs,cvs,bs,cps,rfl,hpg,hP,hpt,hC,few,eqs,q⟩:=h
 have bl:=hP.len
 have cl:=hC.len
 have cb:cps.length=bs.length:=by have:=congrArg ef eqs;rwa [aa,aa] at this
 refine .inr ⟨_,rfl,pg,rfl,⟨_,b4.of hpg⟩,λD nD=>?_⟩
 refine eX (xs:=pvs) (λi σ' H'=>∃o,σ'=[some (.ref pg),some (.ref pt),none,none,none,o]/\H' D=some (.lst (((bs.take i).map λb=>((b.params.length:Nat):Int)).map V.int))/\aH H H') ⟨none,rfl,ai,(aH.refl H).new nD⟩ ?_ ?_ ?_
 ·rintro i σ' H' _ ⟨_,_,_,s⟩;exact b4.of (s _ _ hpg)
 ·rintro i x σ' H1 hx ⟨o,rfl,hD,s⟩
  obtain⟨b,eb,p,qa,ra,rvs,rfl,hp,hqa,_,_⟩:=hP.of_v hx
  have il:=(ae.mp eb).1
  refine dz ⟨_,rfl,cE (s _ _ hp) (by decide) rfl ⟨_,_,rfl,.inr ⟨_,b4.of (s _ _ hqa),rfl⟩,_,hD,bO (by rw[aa,aa,aL];lia),_,rfl,?_,jO s nD⟩⟩
  rw[ai,cO eb,aC,aC,aa];rfl
 ·rintro σ' H1 ⟨o,_,hD,s1⟩
  rw[bl,cf] at hD
  show pL K _ [some (.ref pg),some (.ref pt),some (.ref D),none,none] H1
  refine .inr ⟨_,rfl,pt,rfl,⟨_,b4.of (s1 _ _ hpt)⟩,λE' nE=>?_⟩
  refine eX (xs:=cvs) (λi σ' H'=>∃o,σ'=[some (.ref pg),some (.ref pt),some (.ref D),none,none,o]/\H' E'=some (.lst (((cps.take i).map (·.1)).map V.int))/\aH H1 H') ⟨none,rfl,ai,(aH.refl H1).new nE⟩ ?_ ?_ ?_
  ·rintro i σ' H' _ ⟨_,_,_,s⟩;exact b4.of (s _ _ (s1 _ _ hpt))
  ·rintro i x σ' H2 hx ⟨o,rfl,hE,s⟩
   obtain⟨b,eb,p,ra,rvs,rfl,hp,_,_⟩:=hC.of_v hx
   have il:=(ae.mp eb).1
   refine dz ⟨_,rfl,cE (s _ _ (s1 _ _ hp)) (by decide) rfl ⟨_,hE,bO (by rw[aa,aa,aL];lia),_,rfl,?_,jO s nE⟩⟩
   rw[ai,cO eb,aC,aC];rfl
  ·rintro σ' H2 ⟨o,_,hE,s2⟩
   rw[cl,cf,eqs] at hE
   have hD2:=s2 _ _ hD
   have s02:=s1.trans s2
   show pK K _ [some (.ref pg),some (.ref pt),some (.ref D),some (.ref E'),none] H2
   generalize (bs.map λb=>((b.params.length:Nat):Int))=zs at hD2 hE eqs
   have zl:zs.length<=100:=by rw[<-eqs,aa];lia
   refine⟨_,rfl,_,_,rfl,.inl ⟨_,bY.of hD2,rfl⟩,_,rfl,_,_,rfl,.inl ⟨_,bY.of hE,rfl⟩,_,_,rfl,?_⟩
   rw[if_neg (by intro z;exact absurd z (Int.lt_irrefl _))]
   refine⟨_,rfl,by lia,by rw[aa];lia,iq (n:=(((zs.map V.int).length:Nat):Int).toNat) (λi σ' H'=>∃o4,σ'=[some (.ref pg),some (.ref pt),some (.ref D),some (.ref E'),o4]/\H' D=some (.lst (zs.map V.int))/\H' E'=some (.lst (zs.map V.int))/\aH H H') ⟨none,rfl,hD2,hE,s02⟩ ?_ ?_⟩
   ·rintro i σ' H3 hi ⟨o4,rfl,hD3,hE3,s3⟩
    show pJ K _ [some (.ref pg),some (.ref pt),some (.ref D),some (.ref E'),some (.int ((0:Int)+(i:Int)))] H3
    refine⟨_,rfl,_,rfl,_,rfl,_,rfl,.inl ⟨_,_,rfl,rfl,_,rfl,.inl ⟨D,_,rfl,bY.of hD3,λa na=>?_⟩⟩⟩
    obtain⟨ws,ew⟩:=FW zs ((0:Int)+(i:Int)) ((0:Int)+(i:Int)+1)
    rw[ew]
    have s4:aH H3 (upd H3 a (.lst (ws.map V.int))):=(aH.refl H3).new na
    have ha:upd H3 a (.lst (ws.map V.int)) a=some (.lst (ws.map V.int)):=ai
    generalize upd H3 a (.lst (ws.map V.int))=H4 at s4 ha ⊢
    refine⟨_,rfl,_,rfl,_,rfl,_,rfl,.inl ⟨_,_,rfl,rfl,_,rfl,.inl ⟨E',_,rfl,bY.of (s4 _ _ hE3),λc nc=>?_⟩⟩⟩
    rw[ew]
    have s5:aH H4 (upd H4 c (.lst (ws.map V.int))):=(aH.refl H4).new nc
    have hc:upd H4 c (.lst (ws.map V.int)) c=some (.lst (ws.map V.int)):=ai
    generalize upd H4 c (.lst (ws.map V.int))=H5 at s5 hc ⊢
    refine .inr (.inr ⟨a,c,_,_,rfl,rfl,bY.of (s5 _ _ ha),bY.of hc,wo _,wo _,_,rfl,?_⟩)
    rw[if_pos rfl,Es]
    have s35:=s4.trans s5
    exact ij ⟨_,rfl,s35 _ _ hD3,s35 _ _ hE3,s3.trans s35⟩
   ·rintro σ' H3 ⟨o4,rfl,_,_,s3⟩
    exact q H3 s3
theorem E5{K:Fg}{vs:List V}{H:Hp}{Q:VK}{E:XK}(h:gD K vs H Q E):xh K {nx:=λ_ H'=>Q .non H',rt:=Q} (cC vY vs) H:=by
 obtain⟨pg,pp,cv,places,pvs,qvs,bs,cps,pss,rfl,hpg,hP,few,bok,⟨ca,cq,cvs,rfl,hca,hcq,hC⟩,cfew,hpp,hQ,p1,p1000,R,q⟩:=h
 have l1:=R.len
 have l2:=R.ln2
 refine⟨_,rfl,cE hca (by decide) rfl ?_⟩
 show rC K _ [some (.ref pg),some (.ref ca),some (.ref pp),some (.int (places:Nat)),none,none,none,none] H
 refine⟨_,rfl,cE hca (by decide) rfl ?_⟩
 show rB K _ [some (.ref pg),some (.ref ca),some (.ref pp),some (.int (places:Nat)),some (.ref cq),none,none,none] H
 refine⟨_,rfl,_,rfl,pg,cq,pvs,cvs,bs,cps,rfl,hpg,hP,hcq,hC,few,R.cnt,λH1 s1=>?_⟩
 show rA K _ [some (.ref pg),some (.ref ca),some (.ref pp),some (.int (places:Nat)),some (.ref cq),some .non,none,none] H1
 refine⟨_,rfl,rfl,_,rfl,ij ?_⟩
 show rq K _ [some (.ref pg),some (.ref ca),some (.ref pp),some (.int (places:Nat)),some (.ref cq),some .non,none,none] H1
 refine⟨_,rfl,pg,rfl,⟨_,b4.of (s1 _ _ hpg)⟩,Ey (xs:=pvs) (λi σ' H'=>∃o5 o6 o7,σ'=[some (.ref pg),some (.ref ca),some (.ref pp),some (.int (places:Nat)),some (.ref cq),o5,o6,o7]/\aH H H') ⟨_,none,none,rfl,s1⟩ ?_ ?_ ?_⟩
 ·rintro i σ' H' _ ⟨_,_,_,_,s⟩;exact b4.of (s _ _ hpg)
 ·rintro i x σ' H2 t hx nt ⟨o5,o6,o7,rfl,s2⟩
  obtain⟨b,eb,hb⟩:=hP.of_v hx
  have il:=(ae.mp eb).1
  obtain⟨cv,c,ecv,ec,cpa,cra,crvs,rfl,hcpa,hcra,hCR⟩:=hC.get (i:=i) (by lia)
  obtain⟨qv,ps,eqv,eps,qpa,qus,rfl,hqpa,hQP⟩:=hQ.get (i:=i) (by lia)
  obtain⟨g1,g2,g3,g4⟩:=bok b (aD eb)
  refine⟨t,_,rfl,b4.of ai,rfl,_,_,rfl,_,_,rfl,rfl,?_⟩
  have s3:aH H2 (upd H2 t (.tup [.int (i:Nat),x])):=(aH.refl H2).new nt
  show rn K _ [some (.ref pg),some (.ref ca),some (.ref pp),some (.int (places:Nat)),some (.ref cq),some (.int (i:Nat)),some x,o7] _
  generalize upd H2 t (.tup [.int (i:Nat),x])=H3 at s3 ⊢
  have s03:=s2.trans s3
  have T:=Tp.of_same s03
  refine⟨_,rfl,_,rfl,_,rfl,_,rfl,cE (s03 _ _ hcq) (aN _) (by rw[aB];exact ecv) (cE (s03 _ _ hcpa) (by decide) rfl ⟨_,rfl,_,rfl,cE (s03 _ _ hpp) (aN _) (by rw[aB];exact eqv) ⟨x,cra,qpa,places,crvs,qus,b,c.2,ps,rfl,hb.mono T,g1,g2,g3,g4,s03 _ _ hcra,hCR.imp λ_ _ z=>z.mono T,cfew c (aD ec),s03 _ _ hqpa,hQP.imp λ_ _ z=>z.mono T,p1,p1000,R.part i b c ps eb ec eps,λH4 s4=>?_⟩⟩)⟩
  show rj K _ [some (.ref pg),some (.ref ca),some (.ref pp),some (.int (places:Nat)),some (.ref cq),some (.int (i:Nat)),some x,some .non] H4
  exact⟨_,rfl,rfl,_,rfl,ij ⟨_,_,_,rfl,s03.trans s4⟩⟩
 ·rintro σ' H2 ⟨o5,o6,o7,rfl,s2⟩
  exact q H2 s2
theorem Ga(c:Nat):(ax c [V.str ""]).flatten=(ax c ("":Str)).map V.str:=by
 induction c with
 |zero=>rfl
 |succ c ih=>rw[cP,eU,ih,cP,cg];rfl
theorem JT:∀i:Nat,i<5->∃c,("+-*<=":Str).cps.toList[i]?=some c/\(⟨#[c]⟩:Str)∈DF
 |0,_=>⟨43,by decide +kernel,by decide +kernel⟩
 |1,_=>⟨45,by decide +kernel,by decide +kernel⟩
 |2,_=>⟨42,by decide +kernel,by decide +kernel⟩
 |3,_=>⟨60,by decide +kernel,by decide +kernel⟩
 |4,_=>⟨61,by decide +kernel,by decide +kernel⟩
 |n+5,h=>by lia
theorem E9{K:Fg}{vs:List V}{H:Hp}{Q:VK}{E:XK}(h:oj K vs H Q E):xp K {nx:=λ_ H'=>Q .non H',rt:=Q} (cC vZ vs) H:=by
 obtain⟨st,k,rfl,S,hk,q⟩:=h
 have e31:(2:Int) ^ dj 31=2147483648:=by decide
 have e33:(2:Int) ^ dj 33=8589934592:=by decide
 have e64:(2:Int) ^ dj 64=18446744073709551616:=by decide
 have f64:(2:Int) ^ 64=18446744073709551616:=by decide
 refine⟨_,_,rfl,rfl,⟨by decide,by decide,by decide⟩,_,_,rfl,rfl,_,rfl,st,3,k,rfl,S,by lia,by decide,by decide,λd2 H2 a0 a1 S2 B2=>?_⟩
 refine⟨_,_,rfl,rfl,_,rfl,st,12,k+1,rfl,S2,by lia,by decide,by decide,λd3 H3 b0 b1 S3 B3=>?_⟩
 refine⟨(by show 4<=sizeLine;decide),λl nl=>?_⟩
 have nls:l≠st:=λz=>by obtain⟨ys,e⟩:=S3.lst;rw[z,e] at nl;cases nl
 have hl:upd H3 l (.lst [.int 0,.int 1,.int ((2:Int) ^ dj 64-1-d2),.int d3]) l=some (.lst [.int 0,.int 1,.int ((2:Int) ^ dj 64-1-d2),.int d3]):=ai
 have S4:=S3.new (o:=.lst [.int 0,.int 1,.int ((2:Int) ^ dj 64-1-d2),.int d3]) nl
 have B4:eg st H (upd H3 l (.lst [.int 0,.int 1,.int ((2:Int) ^ dj 64-1-d2),.int d3])):=(B2.trans B3).new nl
 show rT K _ [some (.ref st),some (.ref l),none] (upd H3 l (.lst [.int 0,.int 1,.int ((2:Int) ^ dj 64-1-d2),.int d3]))
 generalize upd H3 l (.lst [.int 0,.int 1,.int ((2:Int) ^ dj 64-1-d2),.int d3])=H4 at hl S4 B4
 refine⟨_,rfl,_,_,rfl,rfl,⟨by decide,by decide,by decide⟩,st,_,k+1+1,rfl,S4,by lia,by rw[e31];decide,by rw[e31];decide,λd5 H5 c0 c1 S5 B5=>?_⟩
 rw[e31] at c1
 refine⟨_,_,rfl,rfl,⟨by decide,by decide,by decide⟩,.inl ⟨_,_,rfl,rfl,.inl ⟨by lia,by lia⟩,?_⟩⟩
 refine⟨_,rfl,_,_,rfl,rfl,⟨by decide,by decide,by decide⟩,st,_,k+1+1+1,rfl,S5,by lia,by rw[e31];decide,by rw[e31];decide,λd6 H6 g0 g1 S6 B6=>.inl ⟨_,_,rfl,rfl,?_⟩⟩
 rw[e31] at g1
 have hl6:=B6 _ _ nls (B5 _ _ nls hl)
 have w0:0<=d5*(2:Int) ^ dj 33+d6:=by rw[e33];lia
 have w1:d5*(2:Int) ^ dj 33+d6<2 ^ 64:=by rw[e33,f64];lia
 show rS K _ [some (.ref st),some (.ref l),some (.int (d5*(2:Int) ^ dj 33+d6))] H6
 generalize d5*(2:Int) ^ dj 33+d6=wd at w0 w1
 refine⟨_,rfl,_,rfl,_,rfl,st,4,k+1+1+1+1,rfl,S6,by lia,by decide,by decide,λd7 H7 i0 i1 S7 B7=>?_⟩
 have hl7:=B7 _ _ nls hl6
 have B7':eg st H H7:=((B4.trans B5).trans B6).trans B7
 have fin:∀z:Int,0<=z->z<2 ^ 64->[V.int wd,.int z].length<=sizeLine/\∀p,H7 p=none->(a7 (b9 K) [] E0 (ah (aj 0) (ah (tC (.int 2)) aE))) [some (.ref st),some (.ref l),some (.int wd)] (upd H7 p (.lst [V.int wd,.int z])) λy H2=>cw K (.ref p) y H2 Q:=λz z0 z1=>
  ⟨(by show 2<=sizeLine;decide),λp np=>⟨_,rfl,st,2,k+1+1+1+1+1,rfl,S7.new np,by lia,by decide,by decide,λd8 H8 j0 j1 S8 B8=>by
   have nps:p≠st:=λz=>by obtain⟨ys,e⟩:=S7.lst;rw[z,e] at np;cases np
   have h8:=B8 _ _ nps ai
   have B8':eg st H H8:=(B7'.new np).trans B8
   rcases(by lia:d8=0\/d8=1) with rfl|rfl
   ·exact jP (bY.of h8) (by decide) rfl (q wd _ H8 w0 w1 S8 (by lia) B8')
   ·exact jP (bY.of h8) (by decide) rfl (q z _ H8 z0 z1 S8 (by lia) B8')⟩⟩
 rcases(by lia:d7=0\/d7=1\/d7=2\/d7=3) with rfl|rfl|rfl|rfl
 ·exact jP (bY.of hl7) (by decide) rfl (fin _ (by decide) (by decide))
 ·exact jP (bY.of hl7) (by decide) rfl (fin _ (by decide) (by decide))
 ·exact jP (bY.of hl7) (by decide) rfl (fin _ (by rw[e64];lia) (by rw[e64,f64];lia))
 ·exact jP (bY.of hl7) (by decide) rfl (fin _ (by lia) (by lia))
theorem vH{K:Fg}{vs:List V}{H:Hp}{Q:VK}{E:XK}(h:kX K vs H Q E):nK K {nx:=λ_ H'=>Q .non H',rt:=Q} (cC mY vs) H:=by
 obtain⟨st,nm,cn,n,k,ys,cs,rfl,S,hk,hnm,ysne,ysl,n1,n2,hcn,csne,csl,cs4,nnm,ncn,q⟩:=h
 have yl:0<ys.length:=cu.mpr ysne
 have cl:0<cs.length:=cu.mpr csne
 refine⟨_,rfl,_,rfl,_,rfl,_,_,rfl,.inl ⟨_,bY.of hnm,rfl⟩,st,_,k,rfl,S,by lia,by rw[aa];lia,by rw[aa];lia,λd H1 d0 d1 S1 B1=>?_⟩
 rw[aa] at d1
 have dl:d.toNat<ys.length:=by lia
 refine jP (bY.of (B1 nm _ nnm hnm)) d0 (AD (ag dl)) ?_
 have hx:ys[d.toNat]∈ys:=dM dl
 generalize ys[d.toNat]=x at hx ⊢
 refine⟨_,rfl,st,12,k+1,rfl,S1,by lia,by decide,by decide,λs H2 s0 s1 S2 B2'=>?_⟩
 have B2:eg st H H2:=B1.trans B2'
 have hcn2:=B2 cn _ ncn hcn
 refine⟨_,rfl,_,_,rfl,rfl,_,rfl,dn (λ_=>?_) (λhs2=>?_)⟩
 ·refine⟨_,rfl,_,rfl,st,k+2,rfl,S2,by lia,λz k3 H3 z0 z1 S3 l3 B3=>⟨(by show 3<=sizeLine;decide),λp hp=>?_⟩⟩
  exact q _ (.num x z) _ _ ⟨p,rfl,ai⟩ ⟨hx,z0,z1⟩ (S3.new hp) (by lia) ((B2.trans B3).new hp)
 refine⟨_,rfl,_,_,rfl,rfl,_,rfl,dn (λ_=>?_) (λhs6=>?_)⟩
 ·refine⟨_,rfl,_,rfl,st,5,k+2,rfl,S2,by lia,by decide,by decide,λe H3 e0 e1 S3 B3=>?_⟩
  obtain⟨c,c1,c2⟩:=JT e.toNat (by lia)
  refine NN (by decide +kernel) e0 c1 ⟨(by show 5<=sizeLine;decide),λp hp=>?_⟩
  exact q _ (.op x ⟨#[c]⟩ "" "") _ _ ⟨p,rfl,ai⟩ ⟨hx,c2,rfl,rfl⟩ (S3.new hp) (by lia) ((B2.trans B3).new hp)
 refine⟨_,rfl,.inl ⟨rfl,_,rfl,dn (λ_=>?_) (λ_=>?_)⟩⟩
 ·refine⟨_,rfl,_,rfl,_,_,rfl,.inl ⟨_,bY.of hcn2,rfl⟩,st,_,k+2,rfl,S2,by lia,by rw[dW];lia,by rw[dW];lia,λe H3 e0 e1 S3 B3=>?_⟩
  rw[dW] at e1
  obtain⟨j,rfl⟩:∃j:Nat,e=(j:Int):=⟨e.toNat,by lia⟩
  have jl:j<cs.length:=by lia
  have hcn3:=B3 cn _ ncn hcn2
  have cj:cs[j]?=some cs[j]:=ag jl
  have c4:cs[j]<=4:=cs4 _ (dM jl)
  generalize cs[j]=c at cj c4
  refine⟨_,rfl,_,rfl,(by show 1<=sizeLine;decide),λp1 hp1=>?_⟩
  have nc1:cn≠p1:=ar hcn3 hp1
  refine⟨_,rfl,_,rfl,jP (bY.of (by rw[aF nc1];exact hcn3)) (by lia) (v:=.int (c:Nat)) (by simpa using EA cj) ?_⟩
  have S4:=S3.new (o:=.tup [V.str ""]) hp1
  have B4:=(B2.trans B3).new (o:=.tup [V.str ""]) hp1
  have c5:1*c<=sizeLine:=bS (by lia) (show 100<=sizeLine by decide)
  refine .inr ⟨p1,c,[V.str ""],rfl,rfl,b4.of ai,by simp,c5,λh1=>⟨(by show 4<=sizeLine;decide),λp hp=>?_⟩,λhne p2 hp2=>⟨(by show 4<=sizeLine;decide),λp hp=>?_⟩⟩
  ·have n1p:p1≠p:=ar ai hp
   subst h1
   refine q _ (.call x j [""]) _ _ ⟨p,p1,rfl,ai,by rw[aF n1p,ai];rfl⟩ ⟨hx,1,cj,rfl⟩ (S4.new hp) (by lia) (B4.new hp)
  ·have n2p:p2≠p:=ar ai hp
   refine q _ (.call x j (ax c "")) _ _ ⟨p,p2,rfl,ai,by rw[aF n2p,ai,Ga]⟩ ⟨hx,c,cj,rfl⟩ ((S4.new hp2).new hp) (by lia) ((B4.new hp2).new hp)
 refine⟨_,rfl,_,_,rfl,rfl,_,rfl,dn (λ_=>?_) (λhs8=>?_)⟩
 ·exact⟨(by show 2<=sizeLine;decide),λp hp=>q _ (.say "") _ _ ⟨p,rfl,ai⟩ rfl (S2.new hp) (by lia) (B2.new hp)⟩
 refine⟨_,rfl,_,_,rfl,rfl,_,rfl,dn (λ_=>?_) (λhs10=>?_)⟩
 ·refine⟨_,rfl,_,rfl,st,_,k+2,rfl,S2,by lia,by lia,by lia,λe H3 e0 e1 S3 B3=>⟨(by show 3<=sizeLine;decide),λp hp=>?_⟩⟩
  obtain⟨j,rfl⟩:∃j:Nat,e=(j:Int):=⟨e.toNat,by lia⟩
  exact q _ (.test "" j) _ _ ⟨p,rfl,ai⟩ ⟨rfl,by lia⟩ (S3.new hp) (by lia) ((B2.trans B3).new hp)
 refine⟨_,rfl,_,rfl,st,_,k+2,rfl,S2,by lia,by lia,by lia,λe H3 e0 e1 S3 B3=>⟨(by show 2<=sizeLine;decide),λp hp=>?_⟩⟩
 obtain⟨j,rfl⟩:∃j:Nat,e=(j:Int):=⟨e.toNat,by lia⟩
 refine⟨(by show 2<=sizeLine;decide),λp2 hp2=>⟨(by show 2<=sizeLine;decide),λl hl=>?_⟩⟩
 have n12:p≠p2:=ar ai hp2
 have n2l:p2≠l:=ar ai hl
 have n1l:p≠l:=ar (by rw[aF n12];exact ai) hl
 have S4:=((S3.new (o:=.tup [V.str "jump",V.int (j:Nat)]) hp).new (o:=.tup [V.str "give",V.str ""]) hp2).new (o:=.lst [V.ref p,V.ref p2]) hl
 have B4:=(((B2.trans B3).new (o:=.tup [V.str "jump",V.int (j:Nat)]) hp).new (o:=.tup [V.str "give",V.str ""]) hp2).new (o:=.lst [V.ref p,V.ref p2]) hl
 refine⟨_,rfl,_,_,rfl,rfl,?_⟩
 rcases(by lia:s=10\/s=11) with rfl|rfl
 ·exact jP (bY.of ai) (by decide) rfl (q _ (.jump j) _ _ ⟨p,rfl,by rw[aF n1l,aF n12,ai]⟩ (by show j<n;lia) S4 (by lia) B4)
 ·exact jP (bY.of ai) (by decide) rfl (q _ (.give "") _ _ ⟨p2,rfl,by rw[aF n2l,ai]⟩ rfl S4 (by lia) B4)
theorem Ds{H:Hp}{p:Addr}{r:bu}(n:Nat)(h:c8 H (.ref p) r):∃xs,H p=some (.tup (.str (dD r)::xs))/\yj (dD r) xs (n:Nat) ((bX n r).map λm=>((m:Nat):Int)):=by
 have no:∀{a b:Str},a≠b->∀{P:Prop},a=b->P:=λh _ e=>absurd e h
 have e1:(((n+1:Nat):Nat):Int)=(n:Int)+1:=by lia
 cases r with
 |num x z=>obtain⟨p',e,h⟩:=h;cases e;exact⟨_,h,no (by simp only[dD];decide +kernel),no (by simp only[dD];decide +kernel),no (by simp only[dD];decide +kernel),λ_ _ _=>by show[(((n+1:Nat):Nat):Int)]=_;rw[e1]⟩
 |op x s a b=>obtain⟨p',e,h⟩:=h;cases e;exact⟨_,h,no (by simp only[dD];decide +kernel),no (by simp only[dD];decide +kernel),no (by simp only[dD];decide +kernel),λ_ _ _=>by show[(((n+1:Nat):Nat):Int)]=_;rw[e1]⟩
 |call x k as=>obtain⟨p',q,e,h,_⟩:=h;cases e;exact⟨_,h,no (by simp only[dD];decide +kernel),no (by simp only[dD];decide +kernel),no (by simp only[dD];decide +kernel),λ_ _ _=>by show[(((n+1:Nat):Nat):Int)]=_;rw[e1]⟩
 |say a=>obtain⟨p',e,h⟩:=h;cases e;exact⟨_,h,no (by simp only[dD];decide +kernel),no (by simp only[dD];decide +kernel),no (by simp only[dD];decide +kernel),λ_ _ _=>by show[(((n+1:Nat):Nat):Int)]=_;rw[e1]⟩
 |jump to=>obtain⟨p',e,h⟩:=h;cases e;exact⟨_,h,no (by simp only[dD];decide +kernel),λ_=>⟨_,rfl,rfl⟩,no (by simp only[dD];decide +kernel),λ_ z=>absurd rfl z⟩
 |test a to=>obtain⟨p',e,h⟩:=h;cases e;exact⟨_,h,no (by simp only[dD];decide +kernel),no (by simp only[dD];decide +kernel),λ_=>⟨_,rfl,by show[(((n+1:Nat):Nat):Int),_]=_;rw[e1]⟩,λ_ _ z=>absurd rfl z⟩
 |give a=>obtain⟨p',e,h⟩:=h;cases e;exact⟨_,h,λ_=>rfl,no (by simp only[dD];decide +kernel),no (by simp only[dD];decide +kernel),λz=>absurd rfl z⟩
theorem CA{K:Fg}{vs:List V}{H:Hp}{Q:VK}{E:XK}(h:kU K vs H Q E):qK K {nx:=λ_ H'=>Q .non H',rt:=Q} (cC qb vs) H:=by
 obtain⟨rt,n,rvs,v,r,rfl,hrt,hv,hr,q⟩:=h
 obtain⟨p,xs0,rfl,_⟩:=hr.ref
 obtain⟨xs,hp,lw⟩:=Ds n hr
 refine wF (E:=E) ⟨rt,p,n,rvs,xs,dD r,_,rfl,.inr hrt,hv,hp,lw,λt H' ht s=>q t H' ?_ s⟩
 rw[ht];unfold bG;rw[de];rfl
theorem E3{K:Fg}{vs:List V}{H:Hp}{Q:VK}{E:XK}(h:qG K vs H Q E):u4 K {nx:=λ_ H'=>Q .non H',rt:=Q} (cC tE vs) H:=by
 obtain⟨v,r,rfl,hr,q⟩:=h
 have no:∀{a b:Str},a≠b->∀{P:Prop},a=b->P:=λh _ e=>absurd e h
 refine Ap (E:=E) ?_
 cases r with
 |num x z=>obtain⟨p',e,h⟩:=hr;cases e;exact⟨_,_,_,rfl,h,no (by decide +kernel),no (by decide +kernel),λ_ _=>q⟩
 |op x s a b=>obtain⟨p',e,h⟩:=hr;cases e;exact⟨_,_,_,rfl,h,no (by decide +kernel),no (by decide +kernel),λ_ _=>q⟩
 |call x k as=>obtain⟨p',q',e,h,_⟩:=hr;cases e;exact⟨_,_,_,rfl,h,no (by decide +kernel),no (by decide +kernel),λ_ _=>q⟩
 |say a=>obtain⟨p',e,h⟩:=hr;cases e;exact⟨_,_,_,rfl,h,no (by decide +kernel),no (by decide +kernel),λ_ _=>q⟩
 |jump to=>obtain⟨p',e,h⟩:=hr;cases e;exact⟨_,_,_,rfl,h,λ_=>⟨_,rfl,q⟩,no (by decide +kernel),λz=>absurd rfl z⟩
 |test a to=>obtain⟨p',e,h⟩:=hr;cases e;exact⟨_,_,_,rfl,h,no (by decide +kernel),λ_=>⟨_,rfl,q⟩,λ_ z=>absurd rfl z⟩
 |give a=>obtain⟨p',e,h⟩:=hr;cases e;exact⟨_,_,_,rfl,h,no (by decide +kernel),no (by decide +kernel),λ_ _=>q⟩
structure KZ(kl:Addr)(H:Hp)(ys ps:List Str)(n:Nat)(H':Hp)(refs:List V)(kss:List (List Str)):Prop where
 at_:H' kl=some (.lst refs)
 all:aV (Ed kl H') refs kss
 len:kss.length=n
 wit:∀(i:Nat) ks,kss[i]?=some ks->ks.length<=max ys.length ps.length/\∀y∈ks,y∈ys\/y∈ps
 same:aH H H'
section
variable{kl:Addr}{H H' H2:Hp}{ys ps:List Str}{n:Nat}{refs:List V}{kss:List (List Str)}
theorem KZ.grown(k:KZ kl H ys ps n H' refs kss)(s:aH H' H2):KZ kl H ys ps n H2 refs kss:=
 ⟨s _ _ k.at_,k.all.imp λ_ _ z=>z.same s,k.len,k.wit,k.same.trans s⟩
theorem KZ.vlen(k:KZ kl H ys ps n H' refs kss):refs.length=n:=k.all.len.trans k.len
theorem KZ.get(k:KZ kl H ys ps n H' refs kss){j:Nat}(hj:j<n):∃a ks,refs[j]?=some (.ref a)/\kss[j]?=some ks/\a≠kl/\H' a=some (.lst (ks.map V.str)):=by
 obtain⟨v,ks,e1,e2,a,rfl,n1,h1⟩:=k.all.get (i:=j) (by rw[k.len];exact hj)
 exact⟨a,ks,e1,e2,n1,h1⟩
theorem KZ.set{a:Addr}{m:Nat}{kp:List Str}(k:KZ kl H ys ps n H' refs kss)(hkl:H kl=none)(na:a≠kl)(ha:H' a=some (.lst (kp.map V.str)))
  (hw:kp.length<=max ys.length ps.length/\∀y∈kp,y∈ys\/y∈ps):KZ kl H ys ps n (upd H' kl (.lst (refs.set m (.ref a)))) (refs.set m (.ref a)) (kss.set m kp):=by
 refine⟨ai,aV.set (k.all.imp λ_ _ z=>z.upd) ⟨a,rfl,na,by rw[aF na];exact ha⟩,by rw[dc];exact k.len,λi ks e=>?_,λb o h=>?_⟩
 ·by_cases c:m=i
  ·subst c
   have hi:m<kss.length:=by have:=(ae.mp e).1;rw[dc] at this;exact this
   rw[aY hi] at e;cases e;exact hw
  ·rw[bz c] at e;exact k.wit i ks e
 ·rw[aF (ar h hkl)];exact k.same _ _ h
end
theorem lq.set{ys ps:List Str}{rs:List bu}{kss:List (List Str)}{m:Nat}{km kp:List Str}(h:lq ys ps rs kss)(e:kss[m]?=some km)(hs:∀kss':List (List Str),kss'.length=rs.length->(∀(i:Nat) ks,kss'[i]?=some ks->∀y∈ks,y∈ys)->tf ps rs kss'->∀k',kss'[m]?=some k'->∀y∈k',y∈km->y∈kp):lq ys ps rs (kss.set m kp):=by
 intro kss' l1 l2 l3 i ks ks' e1 e2 y hy
 by_cases c:m=i
 ·subst c
  rw[aY (ae.mp e).1] at e1;cases e1
  exact hs kss' l1 l2 l3 ks' e2 y hy (h kss' l1 l2 l3 m km ks' e e2 y hy)
 ·rw[bz c] at e1
  exact h kss' l1 l2 l3 i ks ks' e1 e2 y hy
def J6(ys ps:List Str)(rs:List bu)(n:Nat)(r:bu)(ls:List Str):Prop:=∀kss':List (List Str),kss'.length=rs.length->(∀(i:Nat) ks,kss'[i]?=some ks->∀y∈ks,y∈ys)->tf ps rs kss'->∀ks',kss'[n]?=some ks'->∀y,y∈ks'\/fQ r=.str y->y∈ls
def Mf(rl nm pr kl:Addr)(H:Hp)(ys ps:List Str)(rs:List bu)(B i:Nat):St->Hp->Prop:=λσ' H'=>∃(refs:List V) (kss:List (List Str)) (more:Bool) (o5 o6 o7 o8:Option V),σ'=[some (.ref rl),some (.ref nm),some (.ref pr),some (.ref kl),some (.bl more),o5,o6,o7,o8]/\KZ kl H ys ps rs.length H' refs kss/\2*qI kss+more.toNat<=B/\xM ps kss/\lq ys ps rs kss/\(more=false->tK rs i kss)
def NL(rl nm pr kl:Addr)(H:Hp)(ys ps:List Str)(rs:List bu)(B i:Nat)(la l:Addr)(ls:List Str)(ms:List Nat)(kss0:List (List Str))(j:Nat):St->Hp->Prop:=λσ' H'=>∃(refs:List V) (kss:List (List Str)) (more:Bool) (o7 o8:Option V),σ'=[some (.ref rl),some (.ref nm),some (.ref pr),some (.ref kl),some (.bl more),some (.int (i:Nat)),some (.ref la),o7,o8]/\KZ kl H ys ps rs.length H' refs kss/\2*qI kss+more.toNat<=B/\H' la=some (.lst (ls.map V.str))/\H' l=some (.tup (bG ms))/\xM ps kss/\lq ys ps rs kss/\
 (more=false->kss=kss0/\tK rs i kss0/\∀j',j'<j->∀m km,ms[j']?=some m->kss0[m]?=some km->∀y∈km,y∈ls)
theorem N0{K:Fg}{rl nm pr kl la l:Addr}{H H':Hp}{ys ps ls:List Str}{rs:List bu}{r:bu}{kss0:List (List Str)}{B i mm j0:Nat}{refs:List V}{kss:List (List Str)}{more:Bool}{o8:Option V}{rt:VK}{bk:St->Hp->Prop}
  (hkl:H kl=none) (nla:la≠kl) (nl:l≠kl) (hm:mm<rs.length) (ysl:ys.length<=100) (psl:ps.length<=100) (hri:rs[i]?=some r) (hmj:(bX i r)[j0]?=some mm) (ta:J6 ys ps rs i r ls) (hz:xM ps kss) (ht:lq ys ps rs kss) (hc:more=false->kss=kss0/\tK rs i kss0/\∀j',j'<j0->∀m km,(bX i r)[j']?=some m->kss0[m]?=some km->∀y∈km,y∈ls) (k:KZ kl H ys ps rs.length H' refs kss) (hB:2*qI kss+more.toNat<=B) (hla:H' la=some (.lst (ls.map V.str))) (hl:H' l=some (.tup (bG (bX i r)))) :
  lL K {nx:=NL rl nm pr kl H ys ps rs B i la l ls (bX i r) kss0 (j0+1),rt:=rt,ct:=NL rl nm pr kl H ys ps rs B i la l ls (bX i r) kss0 (j0+1),bk:=bk} [some (.ref rl),some (.ref nm),some (.ref pr),some (.ref kl),some (.bl more),some (.int (i:Nat)),some (.ref la),some (.int (mm:Nat)),o8] H':=by
 obtain⟨am,km,e1,e2,nam,ham⟩:=k.get hm
 obtain⟨k1,k2⟩:=k.wit mm km e2
 have km100:km.length<=100:=by lia
 have e1':refs[((mm:Nat):Int).toNat]?=some (.ref am):=by simpa using e1
 refine .inl ⟨_,rfl,_,rfl,jP (bY.of k.at_) (by lia) e1' ⟨am,rfl,⟨_,bY.of ham⟩,λD hD=>?_⟩⟩
 have nD:kl≠D:=ar k.at_ hD
 have naD:am≠D:=ar ham hD
 have nlaD:la≠D:=ar hla hD
 have nlD:l≠D:=ar hl hD
 refine fK (xs:=km.map V.str) (λj σ' H2=>∃o,σ'=[some (.ref rl),some (.ref nm),some (.ref pr),some (.ref kl),some (.bl more),some (.int (i:Nat)),some (.ref la),some (.int (mm:Nat)),o8,o]/\H2=upd H' D (.lst (((km.take j).filter λy=>decide (y∈ls)).map V.str))) ?_ ?_ ?_ ?_
 ·exact⟨none,rfl,rfl⟩
 ·rintro j σ' H2 _ ⟨o,_,rfl⟩
  exact bY.of (by rw[aF naD];exact ham)
 ·rintro j x σ' H2 hx ⟨o,rfl,rfl⟩
  rw[aG] at hx
  obtain⟨y,hy,rfl⟩:∃y,km[j]?=some y/\V.str y=x:=by
   cases e:km[j]? with
   |none=>rw[e] at hx;cases hx
   |some y=>rw[e] at hx;exact⟨y,rfl,Option.some.inj hx⟩
  have jl:j<km.length:=(ae.mp hy).1
  have fl:((km.take j).filter λy=>decide (y∈ls)).length<=100:=bS (dH _ _) (by rw[aL];lia)
  have ft:=qX (λy=>decide (y∈ls)) km j y hy
  refine⟨_,rfl,_,rfl,la,_,rfl,.inl (bY.of (by rw[aF nlaD];exact hla)),rfl,j9 _,_,rfl,?_⟩
  show if fL (.str y) (ls.map V.str)=true then _ else _
  rw[oP]
  refine dn (λhin=>?_) (λhin=>?_)
  ·refine⟨_,rfl,_,ai,bO (by rw[aa];lia),_,rfl,?_⟩
   rw[yX,ft,if_pos (by simpa using hin),aC]
   rfl
  ·refine⟨_,rfl,?_⟩
   rw[ft,if_neg (by simpa using hin),bU]
 ·rintro σ' H2 ⟨o,_,rfl⟩
  have et:km.take (km.map V.str).length=km:=aT (by rw[aa];exact ay _)
  rw[et]
  have fl:(km.filter λy=>decide (y∈ls)).length<=km.length:=dH _ _
  have fm:∀y∈km.filter (λy=>decide (y∈ls)),y∈ys\/y∈ps:=λy hy=>k2 y (df.mp hy).1
  have fi:∀y,y∈km->y∈ls->y∈km.filter (λy=>decide (y∈ls)):=λy h1 h2=>df.mpr ⟨h1,by simpa using h2⟩
  have fs:∀y∈km.filter (λy=>decide (y∈ls)),y∈km:=λy hy=>(df.mp hy).1
  have fe:¬(km.filter (λy=>decide (y∈ls))).length<km.length->∀y∈km,y∈ls:=λhn y hy=>by
   have:=List.length_filter_eq_length_iff.mp (Nat.le_antisymm (dH (λy=>decide (y∈ls)) km) (Nat.not_lt.mp hn)) y hy
   simpa using this
  generalize km.filter (λy=>decide (y∈ls))=kp at fl fm fi fs fe
  have k':=k.grown ((aH.refl H').new (o:=.lst (kp.map V.str)) hD)
  have hla':(upd H' D (.lst (kp.map V.str))) la=some (.lst (ls.map V.str)):=by rw[aF nlaD];exact hla
  have hl':(upd H' D (.lst (kp.map V.str))) l=some (.tup (bG (bX i r))):=by rw[aF nlD];exact hl
  have ham':(upd H' D (.lst (kp.map V.str))) am=some (.lst (km.map V.str)):=by rw[aF naD];exact ham
  have hD':(upd H' D (.lst (kp.map V.str))) D=some (.lst (kp.map V.str)):=ai
  generalize upd H' D (.lst (kp.map V.str))=H3 at k' hla' hl' ham' hD'
  show lK K _ [some (.ref rl),some (.ref nm),some (.ref pr),some (.ref kl),some (.bl more),some (.int (i:Nat)),some (.ref la),some (.int (mm:Nat)),some (.ref D)] H3
  refine⟨_,rfl,_,_,rfl,.inl ⟨_,bY.of hD',rfl⟩,_,rfl,_,rfl,jP (bY.of k'.at_) (by lia) e1' ⟨_,_,rfl,.inl ⟨_,bY.of ham',rfl⟩,_,_,rfl,rfl,_,rfl,dn (λhlt=>?_) (λhlt=>?_)⟩⟩
  ·rw[aa,aa] at hlt
   refine⟨_,rfl,_,rfl,_,rfl,yJ k'.at_ (by lia) (by rw[k'.vlen];simpa using hm) ?_⟩
   have ei:((mm:Nat):Int).toNat=mm:=by simp
   rw[ei]
   have ss:=AE (kp:=kp) e2
   have ht':lq ys ps rs (kss.set mm kp):=ht.set e2 λkss' l1 l2 l3 k2' e' y hy hym=>by
    obtain⟨kn,en⟩:∃kn,kss'[i]?=some kn:=⟨_,ag (by rw[l1];exact(ae.mp hri).1)⟩
    exact fi y hym (ta kss' l1 l2 l3 kn en y (l3.on i mm r kn k2' hri (aD hmj) en e' y hy))
   refine⟨_,kss.set mm kp,true,_,_,rfl,k'.set hkl (Ne.symm nD) hD' ⟨by lia,fm⟩,?_,by rw[aF nla];exact hla',by rw[aF nl];exact hl',hz.set e2 fs,ht',λz=>by cases z⟩
   have:(true:Bool).toNat=1:=rfl
   lia
  ·rw[aa,aa] at hlt
   refine⟨refs,kss,more,_,_,rfl,k',hB,hla',hl',hz,ht,λhmo=>?_⟩
   obtain⟨c1,c2,c3⟩:=hc hmo
   refine⟨c1,c2,λj' hj' m km' hm' hk'=>?_⟩
   by_cases cj:j'<j0
   ·exact c3 j' cj m km' hm' hk'
   ·have:j'=j0:=by lia
    subst this
    rw[hmj] at hm';cases hm'
    rw[<-c1,e2] at hk';cases hk'
    exact fe (by lia)
theorem zw.same{H H':Hp}{a:Addr}{xs:List V}(h:zw H a xs)(s:aH H H'):zw H' a xs:=h.imp (s _ _) (s _ _)
theorem zw.ne{H:Hp}{a p:Addr}{xs:List V}(h:zw H a xs)(np:H p=none):a≠p:=by rcases h with h|h<;>exact ar h np
theorem NZ{K:Fg}{rl nm pr kl:Addr}{H H':Hp}{ys ps:List Str}{B i:Nat}{rvs:List V}{rs:List bu}{refs:List V}{kss:List (List Str)}{more:Bool}{o6 o7 o8:Option V}{rt:VK}{bk:St->Hp->Prop}
  (hkl:H kl=none) (hrl:zw H rl rvs) (hA:aV (c8 H) rvs rs) (ysl:ys.length<=100) (psl:ps.length<=100) (inr:∀(n m:Nat) r,rs[n]?=some r->m∈bX n r->m<rs.length) (hi:i<rs.length) (k:KZ kl H ys ps rs.length H' refs kss) (hB:2*qI kss+more.toNat<=B) (hz:xM ps kss) (ht:lq ys ps rs kss) (hP:more=false->tK rs i kss) :
  iS K {nx:=Mf rl nm pr kl H ys ps rs B (i+1),rt:=rt,ct:=Mf rl nm pr kl H ys ps rs B (i+1),bk:=bk} [some (.ref rl),some (.ref nm),some (.ref pr),some (.ref kl),some (.bl more),some (.int (i:Nat)),o6,o7,o8] H':=by
 obtain⟨a,ks,e1,e2,na,ha⟩:=k.get hi
 obtain⟨k1,k2⟩:=k.wit i ks e2
 have k100:ks.length<=100:=by lia
 obtain⟨v,r,f1,f2,hra⟩:=hA.get (i:=i) hi
 obtain⟨p,xs,rfl,hp⟩:=hra.ref
 have e1':refs[((i:Nat):Int).toNat]?=some (.ref a):=by simpa using e1
 have f1':rvs[((i:Nat):Int).toNat]?=some (.ref p):=by simpa using f1
 have nkl:rl≠kl:=hrl.ne hkl
 have ways:∀(la:Addr) (ls:List Str) (H2:Hp),la≠kl->(∀y∈ls,y∈ks\/fQ r=.str y)->(∀y,y∈ks\/fQ r=.str y->y∈ls)->KZ kl H ys ps rs.length H2 refs kss->H2 la=some (.lst (ls.map V.str))->
   lM K {nx:=Mf rl nm pr kl H ys ps rs B (i+1),rt:=rt,ct:=Mf rl nm pr kl H ys ps rs B (i+1),bk:=bk} [some (.ref rl),some (.ref nm),some (.ref pr),some (.ref kl),some (.bl more),some (.int (i:Nat)),some (.ref la),o7,o8] H2:=λla ls H2 nla hls hls2 k2 hla=>by
  obtain⟨xs',hp',lw⟩:=Ds i hra
  refine .inr ⟨_,rfl,_,rfl,rl,p,i,rvs,xs',dD r,_,rfl,hrl.same k2.same,f1,k2.same _ _ hp',lw,λl H3 hl s3=>?_⟩
  have hl:H3 l=some (.tup (bG (bX i r))):=by rw[hl];unfold bG;rw[de];rfl
  have k3:=k2.grown s3
  have nl:l≠kl:=λz=>by rw[z,k3.at_] at hl;cases hl
  have ta:J6 ys ps rs i r ls:=λkss' l1 l2 l3 ks' e' y hy=>hls2 y (hy.imp (ht kss' l1 l2 l3 i ks ks' e2 e' y) id)
  refine⟨l,rfl,⟨_,b4.of hl⟩,kG (xs:=bG (bX i r)) (λj=>NL rl nm pr kl H ys ps rs B i la l ls (bX i r) kss j) ?_ ?_ ?_ ?_⟩
  ·exact⟨refs,kss,more,_,_,rfl,k3,hB,s3 _ _ hla,hl,hz,ht,λhmo=>⟨rfl,hP hmo,λj' hj'=>absurd hj' (dE _)⟩⟩
  ·rintro j σ' H3 _ ⟨_,_,_,_,_,_,_,_,_,h3,_,_⟩
   exact b4.of h3
  ·rintro j x σ' H3 hx ⟨refs3,kss3,more3,o73,o83,rfl,k3',hB3,hla3,hl3,hz3,ht3,hc3⟩
   obtain⟨mm,hmm,rfl⟩:=ka hx
   exact N0 hkl nla nl (inr i mm r f2 (aD hmm)) ysl psl f2 hmm ta hz3 ht3 hc3 k3' hB3 hla3 hl3
  ·rintro σ' H3 ⟨refs3,kss3,more3,o73,o83,rfl,k3',hB3,hla3,hl3,hz3,ht3,hc3⟩
   refine⟨refs3,kss3,more3,_,_,_,_,rfl,k3',hB3,hz3,ht3,λhmo=>?_⟩
   obtain⟨c1,c2,c3⟩:=hc3 hmo
   subst c1
   intro n m r' ks' km hn hr' hm' hks' hkm y hy
   by_cases cn:n<i
   ·exact c2 n m r' ks' km cn hr' hm' hks' hkm y hy
   ·have:n=i:=by lia
    subst this
    rw[f2] at hr';cases hr'
    rw[e2] at hks';cases hks'
    obtain⟨j',hj',hmj⟩:=bP.mp hm'
    have hmj':(bX n r)[j']?=some m:=by rw[ag hj',hmj]
    exact hls y (c3 j' (by rw[dW];exact hj') m km hmj' hkm y hy)
 refine⟨_,rfl,_,rfl,jP (bY.of k.at_) (by lia) e1' ?_⟩
 show lN K _ [some (.ref rl),some (.ref nm),some (.ref pr),some (.ref kl),some (.bl more),some (.int (i:Nat)),some (.ref a),o7,o8] H'
 refine⟨_,rfl,_,rfl,Gm (hrl.same k.same) (by lia) f1' (cE (k.same _ _ hp) (by decide) rfl ⟨(by show 3<=sizeLine;decide),λt ht=>⟨t,_,rfl,.inr (b4.of ai),rfl,rfl,_,rfl,?_⟩⟩)⟩
 have sm:=(aH.refl H').new (o:=.tup [V.str "num",V.str "op",V.str "call"]) ht
 have kt:=k.grown sm
 have hat:=sm _ _ ha
 generalize upd H' t (.tup [V.str "num",V.str "op",V.str "call"])=H1 at sm kt hat ⊢
 refine oO (λhb=>?_) (λhb=>?_)
 ·have hb':fL (.str (dD r)) [V.str "num",V.str "op",V.str "call"]=true:=hb
  obtain⟨x,hx⟩:=Dq hb'
  obtain⟨xs',hp'⟩:=DE hra hx
  refine⟨_,rfl,_,rfl,_,rfl,Gm (hrl.same kt.same) (by lia) f1' (cE (kt.same _ _ hp') (by decide) rfl ⟨(by show 1<=sizeLine;decide),λp1 hp1=>?_⟩)⟩
  have na1:a≠p1:=ar hat hp1
  refine .inr (.inr (.inl ⟨a,p1,_,_,rfl,rfl,by rw[aF na1];exact hat,ai,?_,λp2 hp2=>?_⟩))
  ·have:=bO (n:=101) (by decide)
   rw[aa]
   show ks.length+1<=sizeLine
   lia
  have k5:=(kt.grown ((aH.refl H1).new (o:=.lst [V.str x]) hp1)).grown ((aH.refl _).new (o:=.lst (ks.map V.str++[V.str x])) hp2)
  have np2:p2≠kl:=λz=>by
   have:=(kt.grown ((aH.refl H1).new (o:=.lst [V.str x]) hp1)).at_
   rw[z,this] at hp2;cases hp2
  refine ways p2 (ks++[x]) _ np2 (λy hy=>(a8.mp hy).imp id λz=>by rw[au.mp z];exact hx) (λy hy=>a8.mpr (hy.imp id λz=>?_)) k5 (by rw[ai,aC];rfl)
  rw[hx] at z
  exact au.mpr (by injection z with z;exact z.symm)
 ·refine ways a ks _ na (λy hy=>.inl hy) (λy hy=>hy.elim id λz=>?_) kt hat
  have hb':fL (.str (dD r)) [V.str "num",V.str "op",V.str "call"]=false:=hb
  cases r with
  |num _ _=>exact absurd hb' (by show ¬fL (.str "num") [V.str "num",V.str "op",V.str "call"]=false;decide +kernel)
  |op _ _ _ _=>exact absurd hb' (by show ¬fL (.str "op") [V.str "num",V.str "op",V.str "call"]=false;decide +kernel)
  |call _ _ _=>exact absurd hb' (by show ¬fL (.str "call") [V.str "num",V.str "op",V.str "call"]=false;decide +kernel)
  |_=>cases z
theorem m8{K:Fg}{vs:List V}{H:Hp}{Q:VK}{E:XK}(h:jx K vs H Q E):jX K {nx:=λ_ H'=>Q .non H',rt:=Q} (cC gr vs) H:=by
 obtain⟨rl,nm,pr,rvs,rs,ys,ps,rfl,hrl,hA,rpos,r100,inr,hnm,ysl,hpr,psl,q⟩:=h
 have body:∀(kl:Addr),H kl=none->∀(H1:Hp) (refs:List V),H1 kl=some (.lst refs)->aV (Ed kl H1) refs (ax rs.length ys)->aH H H1->
   iy K {nx:=λ_ H'=>Q .non H',rt:=Q} [some (.ref rl),some (.ref nm),some (.ref pr),some (.ref kl),none,none,none,none,none] H1:=by
  intro kl hkl H1 refs hk ha s
  have rlen:refs.length=rs.length:=by rw[ha.len,aU]
  refine⟨_,rfl,pr,_,rfl,(hpr.same s).imp (λh=>bY.of h) (λh=>b4.of h),λa ha0=>?_⟩
  have nak:kl≠a:=ar hk ha0
  have K0:KZ kl H ys ps rs.length H1 refs (ax rs.length ys):=⟨hk,ha,by rw[aU],λi ks e=>by
   have hm:=aD e
   rw[jd] at hm
   rw[hm.2];exact⟨Nat.le_max_left _ _,λy hy=>.inl hy⟩,s⟩
  have K1:=K0.grown ((aH.refl H1).new (o:=.lst (ps.map V.str)) ha0)
  refine⟨_,rfl,yJ K1.at_ (by decide) (by rw[rlen];exact rpos) ?_⟩
  have K2:=K1.set (m:=0) (kp:=ps) (a:=a) hkl (Ne.symm nak) ai ⟨Nat.le_max_right _ _,λy hy=>.inr hy⟩
  show ko K _ [some (.ref rl),some (.ref nm),some (.ref pr),some (.ref kl),none,none,none,none,none] (upd (upd H1 a (.lst (ps.map V.str))) kl (.lst (refs.set 0 (.ref a))))
  generalize upd (upd H1 a (.lst (ps.map V.str))) kl (.lst (refs.set 0 (.ref a)))=H2 at K2 ⊢
  generalize refs.set 0 (.ref a)=refs2 at K2
  have Z2:xM ps ((ax rs.length ys).set 0 ps):=λks e y hy=>by
   rw[aY (by rw[aU];exact rpos)] at e;cases e;exact hy
  have T2:lq ys ps rs ((ax rs.length ys).set 0 ps):=λkss' l1 l2 l3 i ks ks' e1 e2 y hy=>by
   by_cases c:0=i
   ·subst c
    rw[aY (by rw[aU];exact rpos)] at e1;cases e1
    exact l3.zero ks' e2 y hy
   ·rw[bz c] at e1
    have hm:=aD e1
    rw[jd] at hm
    rw[hm.2];exact l2 i ks' e2 y hy
  generalize (ax rs.length ys).set 0 ps=kss2 at K2 Z2 T2
  show kj K _ [some (.ref rl),some (.ref nm),some (.ref pr),some (.ref kl),some (.bl true),none,none,none,none] H2
  refine⟨λm σ' H'=>∃(refs:List V) (kss:List (List Str)) (more:Bool) (o5 o6 o7 o8:Option V),σ'=[some (.ref rl),some (.ref nm),some (.ref pr),some (.ref kl),some (.bl more),o5,o6,o7,o8]/\KZ kl H ys ps rs.length H' refs kss/\xM ps kss/\lq ys ps rs kss/\(more=false->tK rs rs.length kss)/\2*qI kss+more.toNat=m,⟨_,refs2,kss2,true,_,_,_,_,rfl,K2,Z2,T2,(λz=>by cases z),rfl⟩,?_⟩
  rintro m σ' H' ⟨refs3,kss3,more,o5,o6,o7,o8,rfl,K3,Z3,T3,P3,hm⟩
  refine⟨_,rfl,more,rfl,oO (λhmore=>?_) (λhmore=>?_)⟩
  ·subst hmore
   refine⟨Mf rl nm pr kl H ys ps rs (2*qI kss3) rs.length,?_,?_⟩
   ·rintro σ4 H4 ⟨refs4,kss4,more4,p5,p6,p7,p8,rfl,K4,hB,Z4,T4,P4⟩
    refine⟨_,?_,refs4,kss4,more4,_,_,_,_,rfl,K4,Z4,T4,P4,rfl⟩
    have:(true:Bool).toNat=1:=rfl
    lia
   ·-- more=False;for n in range(len(rows))
    show lO K _ [some (.ref rl),some (.ref nm),some (.ref pr),some (.ref kl),some (.bl false),o5,o6,o7,o8] H'
    have hlr:=hrl.same K3.same
    refine⟨_,rfl,_,_,rfl,hlr.imp (λh=>⟨_,bY.of h,rfl⟩) (λh=>⟨_,b4.of h,rfl⟩),_,rfl,by lia,by rw[hA.len];lia,iq (λi=>Mf rl nm pr kl H ys ps rs (2*qI kss3) i) ⟨refs3,kss3,false,_,_,_,_,rfl,K3,by simp,Z3,T3,λ_ n _ _ _ _ hn=>absurd hn (dE _)⟩ ?_ ?_⟩
    ·rintro i σ5 H5 hi ⟨refs5,kss5,more5,p5,p6,p7,p8,rfl,K5,hB,Z5,T5,P5⟩
     have hi:i<rs.length:=by rw[hA.len] at hi;simpa using hi
     have e0:(0:Int)+(i:Int)=((i:Nat):Int):=by lia
     show iS K _ [some (.ref rl),some (.ref nm),some (.ref pr),some (.ref kl),some (.bl more5),some (.int ((0:Int)+(i:Int))),p6,p7,p8] H5
     rw[e0]
     exact NZ hkl hrl hA ysl psl inr hi K5 hB Z5 T5 P5
    ·rintro σ5 H5 h5
     rw[hA.len,aB] at h5
     exact h5
  ·exact⟨_,rfl,q kl refs3 kss3 H' hkl K3.at_ (K3.all.imp λ_ _ ⟨a,e,_,h⟩=>⟨a,e,h⟩) K3.len K3.wit ⟨Z3,λn m r ks km hr hm hks hkm=>P3 hmore n m r ks km (ae.mp hr).1 hr hm hks hkm⟩ T3 K3.same⟩
 have stp:∀(kl:Addr),H kl=none->∀(j:Nat) (x:V) (σ':St) (H':Hp),rvs[j]?=some x->(∃(refs:List V) (o:Option V),σ'=[some (.ref rl),some (.ref nm),some (.ref pr),none,none,none,none,none,none,o]/\H' kl=some (.lst refs)/\aV (Ed kl H') refs (ax j ys)/\aH H H')->
   aK 9 x σ' H' λσ2 H2=>pe kl gw (e8 (mI K) (ah (aj 1) aE)) {nx:=λσ' H'=>∃(refs:List V) (o:Option V),σ'=[some (.ref rl),some (.ref nm),some (.ref pr),none,none,none,none,none,none,o]/\H' kl=some (.lst refs)/\aV (Ed kl H') refs (ax (j+1) ys)/\aH H H',rt:=λ_ _=>False,ct:=λσ' H'=>∃(refs:List V) (o:Option V),σ'=[some (.ref rl),some (.ref nm),some (.ref pr),none,none,none,none,none,none,o]/\H' kl=some (.lst refs)/\aV (Ed kl H') refs (ax (j+1) ys)/\aH H H',bk:=λ_ H'=>iy K {nx:=λ_ H'=>Q .non H',rt:=Q} [some (.ref rl),some (.ref nm),some (.ref pr),some (.ref kl),none,none,none,none,none] H'} σ2 H2:=by
  rintro kl hkl j x σ' H' hx ⟨refs,o,rfl,hk,ha,s⟩
  refine dz ?_
  have jl:j<rvs.length:=(ae.mp hx).1
  have rl100:rvs.length<=100:=by rw[hA.len];exact r100
  have rlen:refs.length=j:=by rw[ha.len,aU]
  refine⟨_,rfl,nm,_,rfl,.inl (bY.of (s _ _ hnm)),λa ha0=>?_⟩
  have nak:kl≠a:=ar hk ha0
  refine⟨refs,by rw[aF nak];exact hk,bO (by lia),refs++[.ref a],_,rfl,ai,?_,λb o h=>?_⟩
  ·rw[Fb]
   refine aV.snoc (ha.imp λ_ _ z=>(z.same ((aH.refl H').new ha0)).upd) ⟨a,rfl,Ne.symm nak,?_⟩
   rw[aF (Ne.symm nak),ai]
  ·have h1:=s b o h
   rw[aF (ar h hkl),aF (ar h1 ha0)];exact h1
 rcases hrl with hrl'|hrl'
 ·refine .inl ⟨_,rfl,rl,rfl,⟨_,bY.of hrl'⟩,λkl hkl=>?_⟩
  refine fK (xs:=rvs) (λj σ' H'=>∃(refs:List V) (o:Option V),σ'=[some (.ref rl),some (.ref nm),some (.ref pr),none,none,none,none,none,none,o]/\H' kl=some (.lst refs)/\aV (Ed kl H') refs (ax j ys)/\aH H H') ⟨[],none,rfl,ai,.nil,(aH.refl H).new hkl⟩ ?_ (stp kl hkl) ?_
  ·rintro j σ' H' _ ⟨_,_,_,_,_,s⟩
   exact bY.of (s _ _ hrl')
  ·rintro σ' H1 ⟨refs,o,_,hk,ha,s⟩
   rw[hA.len] at ha
   exact body kl hkl H1 refs hk ha s
 ·refine .inr ⟨_,rfl,rl,rfl,⟨_,b4.of hrl'⟩,λkl hkl=>?_⟩
  refine eX (xs:=rvs) (λj σ' H'=>∃(refs:List V) (o:Option V),σ'=[some (.ref rl),some (.ref nm),some (.ref pr),none,none,none,none,none,none,o]/\H' kl=some (.lst refs)/\aV (Ed kl H') refs (ax j ys)/\aH H H') ⟨[],none,rfl,ai,.nil,(aH.refl H).new hkl⟩ ?_ (stp kl hkl) ?_
  ·rintro j σ' H' _ ⟨_,_,_,_,_,s⟩
   exact b4.of (s _ _ hrl')
  ·rintro σ' H1 ⟨refs,o,_,hk,ha,s⟩
   rw[hA.len] at ha
   exact body kl hkl H1 refs hk ha s
theorem vG{K:Fg}{vs:List V}{H:Hp}{Q:VK}{E:XK}(h:uz K vs H Q E):jX K {nx:=λ_ H'=>Q .non H',rt:=Q} (cC gr vs) H:=by
 obtain⟨rl,nm,pr,rvs,rs,ys,ps,cs,rfl,hrl,hA,hOk,hE,hnm,ysl,hpr,psl,pin,hnum,q⟩:=h
 have n1:0<rs.length:=cu.mpr hOk.pos
 obtain⟨w,wy,wp,w0⟩:∃w:Str,w∈ys/\(ps≠[]->w∈ps)/\(ps=[]->∃z,rs[0]?=some (.num w z)):=by
  cases ps with
  |cons p r=>exact⟨p,pin p bw,λ_=>bw,λz=>by cases z⟩
  |nil=>
   have h0:=hnum rfl
   rw[gL] at h0
   cases e:rs[0]? with
   |none=>rw[e] at h0;cases h0
   |some r=>
    rw[e,bV] at h0
    cases r with
    |num x z=>exact⟨x,(hOk.rough _ (aD e)).1,λz=>absurd rfl z,λ_=>⟨z,rfl⟩⟩
    |_=>cases h0
 refine m8 (E:=E) ⟨rl,nm,pr,rvs,rs,ys,ps,rfl,.inl hrl,hA,n1,hOk.few,λn m r hr hm=>?_,hnm,ysl,.inl hpr,psl,λkl refs kss H' hkl hk hall hlen hwit kn jA s=>q kl refs kss H' hkl hk hall hlen (λi ks e=>?_) kn s⟩
 ·obtain⟨j,hj,ej⟩:=bP.mp hm
  exact Gx hr (hOk.rough r (aD hr)) hE (by rw[ag hj,ej])
 ·obtain⟨z1,z2⟩:=hwit i ks e
  refine⟨by lia,λy hy=>(z2 y hy).elim id (pin y),?_⟩
  by_cases c:i=0/\ps=[]
  ·exact .inr c
  ·left
   have il:i<rs.length:=by rw[<-hlen];exact(ae.mp e).1
   have at_:∀j,j<rs.length->((fX rs.length).map λj=>if j=0/\ps=[] then([]:List Str) else[w])[j]?=some (if j=0/\ps=[] then[] else[w]):=λj hj=>by
    rw[aG,List.getElem?_range hj];rfl
   have inv:∀j ks,((fX rs.length).map λj=>if j=0/\ps=[] then([]:List Str) else[w])[j]?=some ks->ks=(if j=0/\ps=[] then[] else[w]):=λj ks e=>by
    have hj:j<rs.length:=by have:=(ae.mp e).1;simpa using this
    rw[at_ j hj] at e;exact(Option.some.inj e).symm
   have:=jA ((fX rs.length).map λj=>if j=0/\ps=[] then([]:List Str) else[w]) (by rw[aa,jE]) (λj ks e y hy=>by
     rw[inv j ks e] at hy
     split at hy
     ·cases hy
     ·rw[au.mp hy];exact wy) ⟨λks e y hy=>by
     rw[inv 0 ks e] at hy
     split at hy
     ·cases hy
     ·rename_i hh
      rw[au.mp hy];exact wp λz=>hh ⟨rfl,z⟩,λn m r kn' km hr hm e1 e2 y hy=>by
     have ey:y=w:=by
      rw[inv m km e2] at hy
      split at hy
      ·cases hy
      ·exact au.mp hy
     subst ey
     rw[inv n kn' e1]
     by_cases cc:n=0/\ps=[]
     ·right
      obtain⟨z,hz⟩:=w0 cc.2
      rw[cc.1,hz] at hr;cases hr;rfl
     ·left
      rw[if_neg cc];exact au.mpr rfl⟩ i ks _ e (at_ i il) w (by rw[if_neg c];exact au.mpr rfl)
   rintro rfl
   cases this
theorem Cq{b:List (Option Str)}(o:Option Str)(h:b≠[]):dI b o=o::b.dropLast:=by
 obtain⟨d,y,rfl⟩:∃d y,b=d++[y]:=⟨b.dropLast,b.getLast h,(List.dropLast_concat_getLast h).symm⟩
 unfold dI
 simp[j4,aT]
theorem NT{K:Fg}{vs:List V}{H:Hp}{Q:VK}{E:XK}(h:Az K vs H Q E):Nn K {nx:=λ_ H'=>Q .non H',rt:=Q} (cC Mt vs) H:=by
 obtain⟨a,os,o,rfl,ha,l2,l1,q⟩:=h
 have ne:os≠[]:=by rintro rfl;cases l2
 have nv:dh os≠[]:=λz=>ne (iU.mp z)
 refine⟨_,rfl,(by show 1<=sizeLine;decide),λt nt=>?_⟩
 have ha1:upd H t (.tup [oV o]) a=some (.tup (dh os)):=by rw[aF (ar ha nt)];exact ha
 have ht:upd H t (.tup [oV o]) t=some (.tup [oV o]):=ai
 have s1:aH H (upd H t (.tup [oV o])):=(aH.refl H).new nt
 generalize upd H t (.tup [oV o])=H1 at ha1 ht s1
 refine⟨_,rfl,_,rfl,_,rfl,.inr ⟨a,_,rfl,b4.of ha1,?_,λp np=>?_⟩⟩
 ·rintro⟨_,z⟩
  have hl:0<(dh os).length:=by rw[cJ];lia
  have e:HT.sIx (dh os).length (dh os).length (some (-1))=(dh os).length-1:=by
   show(if(-1:Int)<0 then((-1:Int)+((dh os).length:Int)).toNat else min (-1:Int).toNat (dh os).length)=(dh os).length-1
   rw[if_pos (by decide)];lia
  lia
 ·rw[show jD (dh os) none (some (-1))=(dh os).dropLast from FX nv]
  refine .inr (.inr (.inr ⟨t,p,[oV o],(dh os).dropLast,rfl,rfl,b4.of (by rw[aF (ar ht np)];exact ht),b4.of ai,by simp,?_,λz=>?_,λ_ p2 np2=>q p2 _ ?_ ((s1.new np).new np2)⟩))
  ·exact dg (bO (by rw[aR,iE,cJ];lia))
  ·have:=congrArg ef z
   rw[iE,cJ,eS] at this;lia
  ·rw[ai,Cq o ne]
   unfold dh;rw[cg,List.map_dropLast];rfl
def IE(os:List (Option Str))(y:Str)(i:Nat):List Nat:=(fX i).filter λj=>decide (os[j]?=some (some y))
theorem zW(os:List (Option Str))(y:Str)(i:Nat):IE os y (i+1)=IE os y i++(if os[i]?=some (some y) then[i] else[]):=by
 unfold IE
 rw[List.range_succ,List.filter_append]
 by_cases c:os[i]?=some (some y)
 ·rw[if_pos c];simp[c]
 ·rw[if_neg c];simp[c]
theorem JL{K:Fg}{vs:List V}{H:Hp}{Q:VK}{E:XK}(h:jv K vs H Q E):DR K {nx:=λ_ H'=>Q .non H',rt:=Q} (cC xG vs) H:=by
 obtain⟨st,ba,k,os,y,rfl,S,k9,hb,l1,hy,q⟩:=h
 refine⟨_,rfl,_,_,rfl,.inr ⟨_,b4.of hb,rfl⟩,_,rfl,by lia,by rw[cJ];lia,λD nD=>?_⟩
 refine kF (λi σ' H'=>∃o,σ'=[some (.ref st),some (.ref ba),some (.str y),none,o]/\H' D=some (.lst (bG (IE os y i)))/\aH H H') ⟨none,rfl,ai,(aH.refl H).new nD⟩ ?_ ?_
 ·rintro i σ' H' hi ⟨o,rfl,hD,s⟩
  rw[aB,cJ] at hi
  have e0:(0:Int)+(i:Int)=((i:Nat):Int):=by lia
  have hxi:=ag hi
  have li:(IE os y i).length<=1000:=bS (dH _ _) (by rw[jE];lia)
  rw[e0]
  refine⟨_,rfl,_,rfl,cE (s _ _ hb) (aN _) (by rw[aB];exact kK hxi) ⟨_,rfl,.inl ⟨uw os[i] (some y),_,rfl,dn (λe=>?_) (λe=>?_)⟩⟩⟩
  ·have e1:os[i]?=some (some y):=by rw[hxi,qr (b:=some y) e]
   refine⟨_,rfl,_,hD,bO (by unfold bG;rw[aa];lia),_,rfl,?_,λb o hb'=>?_⟩
   ·rw[ai,zW,if_pos e1];unfold bG;rw[aC];rfl
   ·rw[aF (ar hb' nD)];exact s b o hb'
  ·have e1:os[i]?≠some (some y):=λz=>e (by rw[hxi] at z;rw[Option.some.inj z];rfl)
   refine⟨_,rfl,?_,s⟩
   rw[hD,zW,if_neg e1,bU]
 ·rintro σ' H' ⟨o,_,hD,s⟩
  rw[aB,cJ] at hD
  obtain⟨j,hj,ej⟩:=bP.mp hy
  have mem:∀i,i∈IE os y os.length->os[i]?=some (some y):=λi hi=>by
   have:=(df.mp hi).2
   simpa using this
  have ne:0<(IE os y os.length).length:=gM (a:=j) (df.mpr ⟨ff.mpr hj,by rw[ag hj,ej];exact decide_eq_true rfl⟩)
  have li:(IE os y os.length).length<=1000:=bS (dH _ _) (by rw[jE];lia)
  generalize IE os y os.length=is at hD mem ne li
  have il:(bG is).length=is.length:=aa ..
  have nst:st≠D:=by obtain⟨ys,e⟩:=S.lst;exact ar e nD
  show xi K _ [some (.ref st),some (.ref ba),some (.str y),some (.ref D)] H'
  refine⟨_,rfl,_,rfl,_,rfl,_,_,rfl,.inl ⟨_,bY.of hD,rfl⟩,st,((bG is).length:Nat),k,rfl,S.same s,by lia,by rw[il];lia,by rw[il];lia,λd H2 d0 d1 S2 B2=>?_⟩
  rw[il] at d1
  have dl:d.toNat<is.length:=by lia
  have e2:(bG is)[d.toNat]?=some (.int (is[d.toNat]:Nat)):=by unfold bG;rw[aG,ag dl];rfl
  exact jP (bY.of (B2 _ _ (Ne.symm nst) hD)) d0 e2 (q _ H2 (mem _ (dM dl)) S2 λb u n e=>B2 b u n (s b u e))
theorem i4:∀{as bs:List (Option Str)},as.length=bs.length->(Bd as bs=true↔∀(i:Nat) y,as[i]?=some (some y)->bs[i]?=some (some y))
 |[],[],_=>⟨λ_ i y h=>by simp at h,λ_=>rfl⟩
 |[],_::_,h=>by cases h
 |_::_,[],h=>by cases h
 |a::as,b::bs,h=>by
  have ih:=i4 (as:=as) (bs:=bs) (by simpa using h)
  have e:Bd (a::as) (b::bs)=(J1 (a,b)&&Bd as bs):=rfl
  rw[e,Bool.and_eq_true,ih]
  constructor
  ·rintro⟨h1,h2⟩ i y hy
   cases i with
   |zero=>
    have hy:some a=some (some y):=hy
    cases hy
    have h1:(decide ((some y:Option Str)=none) || decide (some y=b))=true:=h1
    rw[decide_eq_false (by simp),Bool.false_or,decide_eq_true_eq] at h1
    rw[<-h1];rfl
   |succ i=>exact h2 i y hy
  ·intro hh
   refine⟨?_,λi y hy=>hh (i+1) y hy⟩
   show(decide (a=none) || decide (a=b))=true
   cases a with
   |none=>rw[decide_eq_true rfl,Bool.true_or]
   |some y=>
    have:=hh 0 y rfl
    have:some b=some (some y):=this
    cases this
    rw[decide_eq_true (p:=some y=some y) rfl,Bool.or_true]
theorem ve(as:List (Option Str)):Bd as as=true:=(i4 rfl).mpr λ_ _ h=>h
theorem Fq{as bs cs:List (Option Str)}(l1:as.length=bs.length)(l2:bs.length=cs.length)(h1:Bd as bs=true)(h2:Bd bs cs=true):Bd as cs=true:=
 (i4 (l1.trans l2)).mpr λi y h=>(i4 l2).mp h2 i y ((i4 l1).mp h1 i y h)
theorem HN.refl(a:List (Option Str)):HN a a:=⟨rfl,ve a,λ_ _ h=>h⟩
theorem dQ{α:Type}{l:List α}{k:Nat}{x:α}:x∈l.take k↔∃j,j<k/\l[j]?=some x:=by
 rw[List.mem_iff_getElem?]
 constructor
 ·rintro⟨j,h⟩
  rw[dJ] at h
  by_cases c:j<k
  ·rw[if_pos c] at h;exact⟨j,c,h⟩
  ·rw[if_neg c] at h;cases h
 ·rintro⟨j,c,h⟩
  exact⟨j,by rw[dJ,if_pos c];exact h⟩
theorem HN.set{a:List (Option Str)}{i:Nat}{o:Option Str}(hi:a[i]?=some o)(h:o∈a.take i):HN a (a.set i none):=by
 have il:=(ae.mp hi).1
 refine⟨dc ..,(i4 (by rw[dc])).mpr λj y e=>?_,λy k hm=>?_⟩
 ·by_cases c:i=j
  ·subst c;rw[aY il] at e;cases e
  ·rw[bz c] at e;exact e
 ·obtain⟨j,jk,ej⟩:=dQ.mp hm
  by_cases c:i=j
  ·subst c
   rw[hi] at ej;cases ej
   obtain⟨j2,h2,e2⟩:=dQ.mp h
   exact dQ.mpr ⟨j2,by lia,by rw[bz (by lia)];exact e2⟩
  ·exact dQ.mpr ⟨j,jk,by rw[bz c];exact ej⟩
theorem nq{α:Type}{l:List α}{i:Nat}{x:α}(h:i<l.length):l.set i x=l.take i++[x]++l.drop (i+1):=by
 rw[List.set_eq_take_append_cons_drop,if_pos h];simp
theorem GZ{K:Fg}{vs:List V}{H:Hp}{Q:VK}{E:XK}(h:qE K vs H Q E):AM K {nx:=λ_ H'=>Q .non H',rt:=Q} (cC zg vs) H:=by
 obtain⟨st,ba,k,os,rfl,S,k9,hb,ne,l1,q⟩:=h
 have lp:0<os.length:=cu.mpr ne
 refine⟨_,rfl,_,rfl,_,_,rfl,.inr ⟨_,b4.of hb,rfl⟩,st,((dh os).length:Nat),k,rfl,S,by lia,by rw[cJ];lia,by rw[cJ];lia,λd H1 d0 d1 S1 B1=>?_⟩
 rw[cJ] at d1
 obtain⟨i,rfl⟩:=fc d0
 have il:i<os.length:=by lia
 have nb:ba≠st:=λz=>by obtain⟨ys,e⟩:=S.lst;rw[z,e] at hb;cases hb
 have hb1:=B1 _ _ nb hb
 have hxi:=ag il
 have nw:∀c:Nat,c<os.length->¬(HT.sIx (dh os).length 0 none=0/\HT.sIx (dh os).length (dh os).length (some (c:Int))=(dh os).length):=λc hc ⟨_,z⟩=>by
  rw[HT.sIx_nat,cJ] at z
  lia
 show uP K _ [some (.ref st),some (.ref ba),some (.int (i:Nat))] H1
 refine⟨_,rfl,_,rfl,cE hb1 (aN _) (by rw[aB];exact kK hxi) ⟨_,rfl,_,rfl,_,rfl,.inr ⟨ba,_,rfl,b4.of hb1,nw i il,λp np=>?_⟩⟩⟩
 rw[gs]
 have hp:upd H1 p (.tup ((dh os).take i)) p=some (.tup ((dh os).take i)):=ai
 have s2:aH H1 (upd H1 p (.tup ((dh os).take i))):=(aH.refl H1).new np
 generalize upd H1 p (.tup ((dh os).take i))=H2 at hp s2
 have tk:(dh os).take i=dh (os.take i):=by unfold dh;rw[cM]
 rw[tk] at hp
 refine⟨p,_,rfl,.inr (b4.of hp),Dv _,Af _,_,rfl,?_⟩
 show if fL (oV os[i]) (dh (os.take i))=true then _ else _
 rw[MF]
 refine dn (λhin=>?_) (λhin=>?_)
 ·have i0:os.take i≠[]:=λz=>by rw[z] at hin;cases hin
  have hb2:=s2 _ _ hb1
  refine⟨_,rfl,_,rfl,_,rfl,.inr ⟨ba,_,rfl,b4.of hb2,nw i il,λp2 np2=>?_⟩⟩
  rw[gs,tk]
  have hp2:upd H2 p2 (.tup (dh (os.take i))) p2=some (.tup (dh (os.take i))):=ai
  have s3:=s2.trans ((aH.refl H2).new (o:=.tup (dh (os.take i))) np2)
  generalize upd H2 p2 (.tup (dh (os.take i)))=H3 at hp2 s3
  refine⟨(by show 1<=sizeLine;decide),λp3 np3=>?_⟩
  have hp2':=((aH.refl H3).new (o:=.tup [.non]) np3) _ _ hp2
  have s4:=s3.trans ((aH.refl H3).new (o:=.tup [.non]) np3)
  have hp3:upd H3 p3 (.tup [V.non]) p3=some (.tup [V.non]):=ai
  generalize upd H3 p3 (.tup [V.non])=H4 at hp2' s4 hp3
  have tl:(dh (os.take i)).length<=1000:=by rw[cJ,aL];lia
  refine .inr (.inr (.inr ⟨p2,p3,_,_,rfl,rfl,b4.of hp2',b4.of hp3,λz=>i0 (iU.mp z),dg (bO (by rw[aR];lia)),(λz=>by cases z),λ_ p4 np4=>?_⟩))
  have s5:=s4.trans ((aH.refl H4).new (o:=.tup (dh (os.take i)++[V.non])) np4)
  have hp4:upd H4 p4 (.tup (dh (os.take i)++[V.non])) p4=some (.tup (dh (os.take i)++[V.non])):=ai
  generalize upd H4 p4 (.tup (dh (os.take i)++[V.non]))=H5 at s5 hp4
  have hb5:=s5 _ _ hb1
  have ee:((i:Nat):Int)+1=((i+1:Nat):Int):=by lia
  refine⟨_,rfl,_,rfl,.inl ⟨_,_,rfl,rfl,_,rfl,.inr ⟨ba,_,rfl,b4.of hb5,?_,λp6 np6=>?_⟩⟩⟩
  ·rintro⟨z,_⟩
   rw[ee,HT.sIx_nat,cJ] at z
   lia
  rw[ee,lV]
  have dr:(dh os).drop (i+1)=dh (os.drop (i+1)):=by unfold dh;rw[iA]
  rw[dr]
  have hp4':=((aH.refl H5).new (o:=.tup (dh (os.drop (i+1)))) np6) _ _ hp4
  have s6:=s5.trans ((aH.refl H5).new (o:=.tup (dh (os.drop (i+1)))) np6)
  have hp6:upd H5 p6 (.tup (dh (os.drop (i+1)))) p6=some (.tup (dh (os.drop (i+1)))):=ai
  generalize upd H5 p6 (.tup (dh (os.drop (i+1))))=H6 at hp4' s6 hp6
  have fin:∀(p:Addr) (H':Hp),H' p=some (.tup (dh (os.take i)++[V.non]++dh (os.drop (i+1))))->aH H1 H'->Q (.ref p) H':=λp7 H7 h7 s7=>
   q p7 (os.set i none) H7 (by rw[nq il];unfold dh;rw[aC,aC];exact h7) (.set hxi hin) (S1.same s7) λb u n e=>s7 _ _ (B1 b u n e)
  refine .inr (.inr (.inr ⟨p4,p6,_,_,rfl,rfl,b4.of hp4',b4.of hp6,by simp,dg (bO (by rw[aq,aR,cJ (os.drop (i+1)),cV];lia)),λz=>?_,λ_ p7 np7=>fin p7 _ ai (s6.new np7)⟩))
  refine fin p4 H6 ?_ s6
  rw[z,bU];exact hp4'
 ·show uO K _ [some (.ref st),some (.ref ba),some (.int (i:Nat))] H2
  exact⟨_,rfl,q ba os H2 (s2 _ _ hb1) (HN.refl os) (S1.same s2) λb u n e=>s2 _ _ (B1 b u n e)⟩
theorem JZ{t:TA}{σ:St}{H:Hp}{Q:VK}(xs:List V)(pure:∀R:List V->Hp->Prop,R xs H->t σ H R)(hl:xs.length<=100)(q:∀p H',H' p=some (.tup xs)->aH H H'->Q (.ref p) H'):b7 t σ H Q:=
 pure _ ⟨bS hl (by decide),λp np=>q p _ ai ((aH.refl H).new np)⟩
theorem eJ{t:TA}{σ:St}{H:Hp}{Q:VK}(h:t σ H λxs H1=>xs.length<=sizeLine/\∀p,H1 p=none->Q (.ref p) (upd H1 p (.tup xs))):b7 t σ H Q:=h
theorem zz{te:TE}{g:TG}{u:TS}{D:jB}{σ:St}{H:Hp}(h:te σ H λx H1=>g x σ H1 (u D)):bf (bD te g) u D σ H:=h
theorem cz{ta:TE}{tr:TA}{σ:St}{H:Hp}{Q:List V->Hp->Prop}(h:ta σ H λx H1=>tr σ H1 λxs H2=>Q (x::xs) H2):ah ta tr σ H Q:=h
theorem xU{v:V}{tr:TA}{σ:St}{H:Hp}{Q:List V->Hp->Prop}(h:tr σ H λxs H2=>Q (v::xs) H2):ah (tC v) tr σ H Q:=h
theorem xV{i:Nat}{v:V}{tr:TA}{σ:St}{H:Hp}{Q:List V->Hp->Prop}(e:σ[i]?=some (some v))(h:tr σ H λxs H2=>Q (v::xs) H2):ah (aj i) tr σ H Q:=⟨v,e,h⟩
theorem jm{t tr:TA}{σ:St}{H:Hp}{Q:List V->Hp->Prop}(xs:List V)(pure:∀R:List V->Hp->Prop,R xs H->t σ H R)(hl:xs.length<=100)(q:∀p H',H' p=some (.tup xs)->aH H H'->tr σ H' λys H2=>Q (.ref p::ys) H2):ah (b7 t) tr σ H Q:=JZ xs pure hl q
theorem aV.cons{α:Type}{R:V->α->Prop}{vs:List V}{rs:List α}{v:V}{r:α}(q:R v r)(h:aV R vs rs):aV R (v::vs) (r::rs):=⟨by simp[h.len],λi v' r' a b=>by
 match i with
 |0=>cases a;cases b;exact q
 |i+1=>exact h.at_ i v' r' a b⟩
theorem zy{ol:Addr}{u w:V}{out:List XO}{H:Hp}{D:jB}{σ:St}(x:XO)(hu:nU H u x.1)(hw:qg H w x.2)(ho:kA H ol out)(hl:out.length<=99999)(q:∀H3,kA H3 ol (out++[x])->eg ol H H3->D.nx σ H3) :
  [u,w].length<=sizeLine/\∀p,H p=none->eN (.ref ol) [.ref p] (upd H p (.tup [u,w])) (λ_ H1=>D.nx σ H1):=by
 refine⟨by show 2<=sizeLine;decide,λp np=>?_⟩
 obtain⟨outs,h1,h2⟩:=ho
 have npo:ol≠p:=ar h1 np
 have s1:aH H (upd H p (.tup [u,w])):=(aH.refl H).new np
 have t2:Tp H (upd (upd H p (.tup [u,w])) ol (.lst (outs++[.ref p]))):=Tp.lst (Tp.of_same s1) (s1 _ _ h1)
 refine⟨ol,outs,.ref p,rfl,rfl,s1 _ _ h1,bO (by rw[h2.len];lia),q _ ⟨_,ai,(h2.imp λ_ _ z=>z.mono t2).snoc ⟨p,u,w,rfl,?_,hu.mono t2,hw.mono t2⟩⟩ λb o n e=>?_⟩
 ·rw[aF (Ne.symm npo)];exact ai
 ·rw[aF n];exact s1 _ _ e
theorem kA.same{H H':Hp}{ol:Addr}{out:List XO}(h:kA H ol out)(s:aH H H'):kA H' ol out:=let⟨outs,h1,h2⟩:=h;⟨outs,s _ _ h1,h2.imp λ_ _ z=>z.mono (.of_same s)⟩
theorem sM(os:List (Option Str)):∀(l:List Str),(mO os l).length=os.length
 |[]=>rfl
 |y::l=>by show(mO (dI os (some y)) l).length=_;rw[sM _ l,gd]
theorem zF(y:Str):∀(l:List Str) (os:List (Option Str)),mO os (l++[y])=dI (mO os l) (some y)
 |[],os=>rfl
 |z::l,os=>zF y l (dI os (some z))
theorem zG(n:Nat)(y:Str):∀(l:List Str) (os:List (Option Str)),qi n os (l++[y])=qi n os l++[(.c (.keep (((mO os l).idxOf (some y):Nat):Int)),(n,mO os l))]
 |[],os=>rfl
 |z::l,os=>by
  show _::qi n (dI os (some z)) (l++[y])=_
  rw[zG n y l (dI os (some z))];rfl
theorem gW(n:Nat):∀(l:List Str) (os:List (Option Str)),(qi n os l).length=l.length
 |[],os=>rfl
 |z::l,os=>by show(qi n _ l).length+1=l.length+1;rw[gW n l]
theorem sV.at:∀{l:List Str} {os:List (Option Str)},sV os l->∀{i:Nat} {y:Str},l[i]?=some y->some y∈mO os (l.take i)
 |[],os,_,i,y,e=>by simp at e
 |z::l,os,h,0,y,e=>by cases e;exact h.1
 |z::l,os,h,i+1,y,e=>sV.at (l:=l) h.2 (i:=i) e
theorem BY:∀{os:List (Option Str)} {o:Option Str},o∈os->os[os.idxOf o]?=some o/\∀m,m<os.idxOf o->os[m]?≠some o
 |[],o,h=>by cases h
 |a::os,o,h=>by
  rw[List.idxOf_cons]
  by_cases c:a=o
  ·subst c
   simp
  ·have hb:(a==o)=false:=by simpa using c
   rw[hb]
   have hm:o∈os:=by rcases aQ.mp h with z|z;exact absurd z.symm c;exact z
   obtain⟨i1,i2⟩:=BY hm
   refine⟨i1,λm hm'=>?_⟩
   have hm':m<os.idxOf o+1:=hm'
   cases m with
   |zero=>intro z;exact c (Option.some.inj z)
   |succ m=>exact i2 m (by lia)
theorem E1{K:Fg}{vs:List V}{H:Hp}{Q:VK}{E:XK}(h:iw K vs H Q E):wY K {nx:=λ_ H'=>Q .non H',rt:=Q} (cC vV vs) H:=by
 obtain⟨ol,ba,du,n,out,os,due,rfl,ho,hb,l2,l1,hd,dl,outl,bo,q⟩:=h
 have ndu:du≠ol:=λz=>by obtain⟨outs,e,_⟩:=ho;rw[z,e] at hd;cases hd
 refine⟨_,rfl,du,_,rfl,b4.of hd,Iz (xs:=due.map V.str) (λi σ' H'=>∃b' o4 o5,σ'=[some (.ref ol),some (.int (n:Nat)),some (.ref b'),some (.ref du),o4,o5]/\H' b'=some (.tup (dh (mO os (due.reverse.take i))))/\kA H' ol (out++qi n os (due.reverse.take i))/\eg ol H H') ⟨ba,none,none,rfl,hb,?_,λ_ _ _ e=>e⟩ ?_ ?_ ?_⟩
 ·rw[lQ];show kA H ol (out++[]);rw[bU];exact ho
 ·rintro i σ' H' _ ⟨b',o4,o5,_,_,_,B⟩
  exact b4.of (B _ _ ndu hd)
 ·rintro i x σ' H' hx ⟨b',o4,o5,rfl,hb',ho',B⟩
  rw[<-jZ,aG] at hx
  obtain⟨y,hy,rfl⟩:∃y,due.reverse[i]?=some y/\V.str y=x:=by
   cases e:due.reverse[i]? with
   |none=>rw[e] at hx;cases hx
   |some y=>rw[e] at hx;exact⟨y,rfl,Option.some.inj hx⟩
  have il:i<due.reverse.length:=(ae.mp hy).1
  rw[bJ] at il
  have mem:=bo.at hy
  have ts:due.reverse.take (i+1)=due.reverse.take i++[y]:=cO hy
  have eL:=zG n y (due.reverse.take i) os
  have eB:=zF y (due.reverse.take i) os
  have ll:(qi n os (due.reverse.take i)).length=i:=by rw[gW,aL,bJ];lia
  have bl:(mO os (due.reverse.take i)).length=os.length:=sM ..
  rw[<-ts] at eL eB
  generalize mO os (due.reverse.take i)=os' at hb' mem eL eB bl
  generalize qi n os (due.reverse.take i)=pre at ho' eL ll
  obtain⟨j1,j2⟩:=BY mem
  have jl:os'.idxOf (some y)<os'.length:=(ae.mp j1).1
  generalize os'.idxOf (some y)=j at j1 j2 eL jl
  refine⟨_,rfl,b',_,rfl,hb',_,rfl,_,rfl,rfl,Af _,b4.of hb',j,⟨_,kK j1,?_⟩,λm hm z hz=>?_,?_⟩
  ·show vw (oV (some y)) (oV (some y))=true
   rw[Dl,decide_eq_true_eq]
  ·obtain⟨o,eo,rfl⟩:=qt hz
   show vw (oV o) (oV (some y))=false
   rw[Dl,decide_eq_false_iff_not]
   rintro rfl
   exact j2 m hm eo
  show q9 K _ [some (.ref ol),some (.int (n:Nat)),some (.ref b'),some (.ref du),some (.str y),some (.int (j:Nat))] H'
  have hol:=ho'
  obtain⟨outs,hol,_⟩:=hol
  refine⟨_,rfl,.inl ⟨rfl,_,bY.of hol⟩,cz (eJ (jm [.str "keep",.int (j:Nat)] (λR h=>⟨_,rfl,h⟩) (by show 2<=100;decide) λp1 H1 h1 s1=>jm [.int (n:Nat),.ref b'] (λR h=>⟨_,rfl,_,rfl,h⟩) (by show 2<=100;decide) λp2 H2 h2 s2=>zy (.c (.keep ((j:Nat):Int)),(n,os')) ⟨p1,rfl,s2 _ _ h1⟩ ⟨p2,b',rfl,h2,(s1.trans s2) _ _ hb'⟩ (ho'.same (s1.trans s2)) (by rw[aq];lia) λH3 ho3 B3=>?_))⟩
  have nb':b'≠ol:=λz=>by rw[z,hol] at hb';cases hb'
  have hb3:=B3 _ _ nb' ((s1.trans s2) _ _ hb')
  show q5 K _ [some (.ref ol),some (.int (n:Nat)),some (.ref b'),some (.ref du),some (.str y),some (.int (j:Nat))] H3
  refine⟨_,rfl,_,rfl,_,rfl,cE hb3 (aN _) (by rw[aB];exact kK j1) ⟨b',os',some y,rfl,hb3,by lia,by lia,λp4 H4 h4 s4=>?_⟩⟩
  refine⟨p4,_,_,rfl,?_,?_,λb o nb e=>s4 _ _ (B3 b o nb ((s1.trans s2) _ _ (B b o nb e)))⟩
  ·rw[eB];exact h4
  ·rw[eL,<-bj];exact ho3.same s4
 ·rintro σ' H' ⟨b',o4,o5,rfl,hb',ho',B⟩
  have e:due.reverse.take (due.map V.str).length=due.reverse:=aT (by rw[aa,bJ];exact ay _)
  rw[e] at hb' ho'
  exact⟨_,rfl,q b' H' hb' ho' B⟩
theorem qk{a:Str}{A B:Prop}(h:A):if decide (V.str a=V.str a)=true then A else B:=kH (λ_=>h) λc=>absurd rfl c
theorem gZ{a b:Str}{A B:Prop}(e:a≠b)(h:B):if decide (V.str a=V.str b)=true then A else B:=kH (λc=>absurd c e) λ_=>h
theorem gc.tup_ne{K:Fg}{H:Hp}{st a:Addr}{k:Nat}{xs:List V}(S:gc K H st k)(h:H a=some (.tup xs)):a≠st:=λz=>by obtain⟨ys,e⟩:=S.lst;rw[z,e] at h;cases h
theorem fY{st:Addr}{H H1 H2:Hp}(B:eg st H H1)(s:aH H1 H2):eg st H H2:=λb u n e=>s _ _ (B b u n e)
theorem Df{st:Addr}{H H1 H2:Hp}(B:eg st H H1)(B2:eg st H1 H2):eg st H H2:=λb u n e=>B2 b u n (B b u n e)
theorem fZ{α:Type}{a b:α}{t:Nat}(h:[a][t]?=some b):t=0/\a=b:=by
 cases t with
 |zero=>exact⟨rfl,Option.some.inj h⟩
 |succ t=>simp at h
theorem yB{K:Fg}{vs:List V}{H:Hp}{Q:VK}{E:XK}(h:jV K vs H Q E):pQ K {nx:=λ_ H'=>Q .non H',rt:=Q} (cC kz vs) H:=by
 obtain⟨st,ba,v,k,r,os,rfl,S,k8,hr,nj,hb,l1,rl,rin,q⟩:=h
 cases r with
 |num x z=>
  obtain⟨p,rfl,h⟩:=hr
  refine⟨_,rfl,cE h (by decide) rfl (.inl ⟨rfl,_,rfl,qk ?_⟩)⟩
  refine⟨_,rfl,cE h (by decide) rfl ⟨(by show 2<=sizeLine;decide),λt nt=>?_⟩⟩
  exact q _ (.c (.num z)) k _ ⟨t,rfl,ai⟩ ⟨_,rfl,rfl,rfl,rfl,λt i a e=>by simp[kf] at e⟩ (S.new nt) (by lia) (fY (λ_ _ _ e=>e) ((aH.refl H).new nt))
 |op x s a b=>
  obtain⟨p,rfl,h⟩:=hr
  refine⟨_,rfl,cE h (by decide) rfl (.inl ⟨rfl,_,rfl,gZ (by decide +kernel) ?_⟩)⟩
  refine⟨_,rfl,cE h (by decide) rfl (.inl ⟨rfl,_,rfl,qk ?_⟩)⟩
  refine⟨_,rfl,cE h (by decide) rfl ⟨_,rfl,_,rfl,_,rfl,cE h (by decide) rfl ⟨st,ba,k,os,a,rfl,S,by lia,hb,l1,rin a (by simp[bR]),λi H1 e1 S1 B1=>?_⟩⟩⟩
  have h1:=B1 _ _ (S.tup_ne h) h
  have hb1:=B1 _ _ (S.tup_ne hb) hb
  refine⟨_,rfl,_,rfl,_,rfl,cE h1 (by decide) rfl ⟨st,ba,k+1,os,b,rfl,S1,by lia,hb1,l1,rin b (by simp[bR]),λj H2 e2 S2 B2=>⟨(by show 4<=sizeLine;decide),λt nt=>?_⟩⟩⟩
  refine q _ (.c (.op s ((i:Nat):Int) ((j:Nat):Int))) (k+1+1) _ ⟨t,rfl,ai⟩ ⟨_,rfl,rfl,rfl,rfl,λt i' a' e1' e2'=>?_⟩ (S2.new nt) (by lia) (fY (Df B1 B2) ((aH.refl H2).new nt))
  match t with
  |0=>cases e1';cases e2';exact⟨aN _,by rw[aB];exact e1⟩
  |1=>cases e1';cases e2';exact⟨aN _,by rw[aB];exact e2⟩
  |t+2=>simp[kf] at e1'
 |call x c as=>
  obtain⟨p,qa,rfl,h,ha⟩:=hr
  refine⟨_,rfl,cE h (by decide) rfl (.inl ⟨rfl,_,rfl,gZ (by decide +kernel) ?_⟩)⟩
  refine⟨_,rfl,cE h (by decide) rfl (.inl ⟨rfl,_,rfl,gZ (by decide +kernel) ?_⟩)⟩
  refine⟨_,rfl,cE h (by decide) rfl (.inl ⟨rfl,_,rfl,qk ?_⟩)⟩
  refine⟨_,rfl,cE h (by decide) rfl (.inr ⟨_,rfl,cE h (by decide) rfl ⟨qa,rfl,⟨_,b4.of ha⟩,λD nD=>?_⟩⟩)⟩
  have nst:st≠D:=by obtain⟨ys,e⟩:=S.lst;exact ar e nD
  have rl:as.length<=10:=rl
  refine eX (xs:=as.map V.str) (λi σ' H'=>∃(o:Option V) (is:List Nat),σ'=[some (.ref st),some (.ref p),some (.ref ba),o]/\H' D=some (.lst (bG is))/\is.length=i/\(∀(t:Nat) j a,is[t]?=some j->as[t]?=some a->os[j]?=some (some a))/\gc K H' st (k+i)/\eg st H H') ⟨none,[],rfl,ai,rfl,λt j a e=>by simp at e,S.new nD,fY (λ_ _ _ e=>e) ((aH.refl H).new nD)⟩ ?_ ?_ ?_
  ·rintro i σ' H' _ ⟨o,is,_,_,_,_,_,B⟩
   exact b4.of (B _ _ (S.tup_ne ha) ha)
  ·rintro i v σ' H' hx ⟨o,is,rfl,hD,il,hat,Si,B⟩
   rw[aG] at hx
   obtain⟨a,hy,rfl⟩:∃y,as[i]?=some y/\V.str y=v:=by
    cases e:as[i]? with
    |none=>rw[e] at hx;cases hx
    |some y=>rw[e] at hx;exact⟨y,rfl,Option.some.inj hx⟩
   have ial:i<as.length:=(ae.mp hy).1
   refine dz ⟨_,rfl,_,rfl,_,rfl,st,ba,k+i,os,a,rfl,Si,by lia,B _ _ (S.tup_ne hb) hb,l1,rin a (aD hy),λj H1 e1 S1 B1=>?_⟩
   refine⟨_,B1 _ _ (Ne.symm nst) hD,bO (by unfold bG;rw[aa];lia),_,is++[j],rfl,?_,by rw[aq,il];rfl,λt j' a' h1 h2=>?_,?_,λb u n e=>?_⟩
   ·rw[ai];unfold bG;rw[aC];rfl
   ·by_cases ct:t<is.length
    ·rw[aS ct] at h1;exact hat t j' a' h1 h2
    ·rw[aI (by lia)] at h1
     obtain⟨z1,z2⟩:=fZ h1
     have:t=i:=by lia
     subst this
     rw[hy] at h2;cases h2;rw[<-z2];exact e1
   ·refine gc.mono S1 (a:=D) (ys:=bG is) (λb o n e=>by rw[aF n];exact e) (B1 _ _ (Ne.symm nst) hD) nst
   ·rw[aF (ar e nD)];exact B1 _ _ n (B _ _ n e)
  ·rintro σ' H' ⟨o,is,_,hD,il,hat,Si,B⟩
   rw[aa] at il Si
   refine⟨D,bG is,rfl,.inl ⟨bY.of hD,λp3 np3=>⟨(by show 3<=sizeLine;decide),λt nt=>?_⟩⟩⟩
   have s1:=((aH.refl H').new (o:=.tup (bG is)) np3)
   have h3:upd H' p3 (.tup (bG is)) p3=some (.tup (bG is)):=ai
   generalize upd H' p3 (.tup (bG is))=H3 at s1 h3 nt
   have s2:=s1.new (o:=.tup [.str "call",.int (c:Nat),.ref p3]) nt
   refine q _ (.c (.call ((c:Nat):Int) (is.map λi=>((i:Nat):Int)))) (k+as.length) _ ⟨t,p3,rfl,ai,?_⟩ ⟨_,rfl,rfl,rfl,by show(is.map _).length=as.length;rw[aa,il],λt' i' a' e1' e2'=>?_⟩ (Si.same s2) (by lia) (fY B s2)
   ·rw[aF (ar h3 nt),h3];unfold bG;rw[de];rfl
   ·have e1':(is.map λi=>((i:Nat):Int))[t']?=some i':=e1'
    rw[aG] at e1'
    cases e:is[t']? with
    |none=>rw[e] at e1';cases e1'
    |some j=>
     rw[e] at e1'
     have:=Option.some.inj e1'
     subst this
     exact⟨aN _,by rw[aB];exact hat t' j a' e e2'⟩
 |say a=>
  obtain⟨p,rfl,h⟩:=hr
  refine⟨_,rfl,cE h (by decide) rfl (.inl ⟨rfl,_,rfl,gZ (by decide +kernel) ?_⟩)⟩
  refine⟨_,rfl,cE h (by decide) rfl (.inl ⟨rfl,_,rfl,gZ (by decide +kernel) ?_⟩)⟩
  refine⟨_,rfl,cE h (by decide) rfl (.inl ⟨rfl,_,rfl,gZ (by decide +kernel) ?_⟩)⟩
  refine⟨_,rfl,cE h (by decide) rfl (.inl ⟨rfl,_,rfl,gZ (by decide +kernel) ?_⟩)⟩
  refine⟨_,rfl,cE h (by decide) rfl ⟨_,rfl,_,rfl,_,rfl,cE h (by decide) rfl ⟨st,ba,k,os,a,rfl,S,by lia,hb,l1,rin a (by simp[bR]),λi H1 e1 S1 B1=>⟨(by show 2<=sizeLine;decide),λt nt=>?_⟩⟩⟩⟩
  refine q _ (.c (.say ((i:Nat):Int))) (k+1) _ ⟨t,rfl,ai⟩ ⟨_,rfl,rfl,rfl,rfl,λt' i' a' e1' e2'=>?_⟩ (S1.new nt) (by lia) (fY B1 ((aH.refl H1).new nt))
  obtain⟨rfl,rfl⟩:=fZ e1'
  obtain⟨_,rfl⟩:=fZ e2'
  exact⟨aN _,by rw[aB];exact e1⟩
 |jump to=>cases nj
 |test a to=>
  obtain⟨p,rfl,h⟩:=hr
  refine⟨_,rfl,cE h (by decide) rfl (.inl ⟨rfl,_,rfl,gZ (by decide +kernel) ?_⟩)⟩
  refine⟨_,rfl,cE h (by decide) rfl (.inl ⟨rfl,_,rfl,gZ (by decide +kernel) ?_⟩)⟩
  refine⟨_,rfl,cE h (by decide) rfl (.inl ⟨rfl,_,rfl,gZ (by decide +kernel) ?_⟩)⟩
  refine⟨_,rfl,cE h (by decide) rfl (.inl ⟨rfl,_,rfl,qk ?_⟩)⟩
  refine⟨_,rfl,_,rfl,_,rfl,cE h (by decide) rfl ⟨st,ba,k,os,a,rfl,S,by lia,hb,l1,rin a (by simp[bR]),λi H1 e1 S1 B1=>⟨(by show 3<=sizeLine;decide),λt nt=>?_⟩⟩⟩
  exact q _ (.land i) (k+1) _ ⟨t,rfl,ai⟩ ⟨i,rfl,e1⟩ (S1.new nt) (by lia) (fY B1 ((aH.refl H1).new nt))
 |give a=>
  obtain⟨p,rfl,h⟩:=hr
  refine⟨_,rfl,cE h (by decide) rfl (.inl ⟨rfl,_,rfl,gZ (by decide +kernel) ?_⟩)⟩
  refine⟨_,rfl,cE h (by decide) rfl (.inl ⟨rfl,_,rfl,gZ (by decide +kernel) ?_⟩)⟩
  refine⟨_,rfl,cE h (by decide) rfl (.inl ⟨rfl,_,rfl,gZ (by decide +kernel) ?_⟩)⟩
  refine⟨_,rfl,cE h (by decide) rfl (.inl ⟨rfl,_,rfl,gZ (by decide +kernel) ?_⟩)⟩
  refine⟨_,rfl,cE h (by decide) rfl ⟨_,rfl,_,rfl,_,rfl,cE h (by decide) rfl ⟨st,ba,k,os,a,rfl,S,by lia,hb,l1,rin a (by simp[bR]),λi H1 e1 S1 B1=>⟨(by show 2<=sizeLine;decide),λt nt=>?_⟩⟩⟩⟩
  refine q _ (.c (.give ((i:Nat):Int))) (k+1) _ ⟨t,rfl,ai⟩ ⟨_,rfl,rfl,rfl,rfl,λt' i' a' e1' e2'=>?_⟩ (S1.new nt) (by lia) (fY B1 ((aH.refl H1).new nt))
  obtain⟨rfl,rfl⟩:=fZ e1'
  obtain⟨_,rfl⟩:=fZ e2'
  exact⟨aN _,by rw[aB];exact e1⟩
theorem oX{os:List (Option Str)}{x o:Option Str}{k:Nat}(h:o∈os.take k)(hk:k<os.length):o∈(dI os x).take (k+1):=by
 obtain⟨j,jk,e⟩:=dQ.mp h
 refine dQ.mpr ⟨j+1,by lia,?_⟩
 unfold dI
 rw[dJ,if_pos (by lia)]
 exact e
theorem GN{os:List (Option Str)}{x:Option Str}{k:Nat}(h:0<os.length):x∈(dI os x).take (k+1):=by
 refine dQ.mpr ⟨0,by lia,?_⟩
 unfold dI
 rw[dJ,if_pos h];rfl
theorem xP:∀(l:List Str) (os:List (Option Str)) (k:Nat),(∀y∈l,some y∈os.take k)->k+l.length<=os.length+1->sV os l
 |[],_,_,_,_=>trivial
 |z::l,os,k,h,hk=>by
  rw[bI] at hk
  refine⟨dR (h z bw),?_⟩
  cases hl:l with
  |nil=>exact trivial
  |cons w r=>
   rw[<-hl]
   have l1:1<=l.length:=by rw[hl,bI];lia
   exact xP l (dI os (some z)) (k+1) (λy hy=>oX (h y (bF _ hy)) (by lia)) (by rw[gd];lia)
theorem i5(ks:List Str)(places:Nat):(dS ks places).length=places:=by
 unfold dS
 rw[aL,aq,aa,aU];lia
theorem qh{ks:List Str}{places N:Nat}(h:ks.length<=N)(hN:N<=places){y:Str}(hy:y∈ks):some y∈(dS ks places).take N:=by
 obtain⟨j,hj,e⟩:=bP.mp hy
 refine dQ.mpr ⟨j,by lia,?_⟩
 unfold dS
 rw[dJ,if_pos (by lia),aS (by rw[aa];exact hj),aG,ag hj,e];rfl
theorem qL{α:Type}{l:List α}{a b:Nat}{x:α}(h:x∈l.take a)(hab:a<=b):x∈l.take b:=by
 obtain⟨j,jk,e⟩:=dQ.mp h
 exact dQ.mpr ⟨j,by lia,e⟩
theorem mL{r:bu}{y:Str}:fQ r=.str y↔fW r=some y:=by
 cases r<;>simp[fQ,fW]
theorem kE(r:bu)(os:List (Option Str)):(eE r os).length=os.length:=by
 unfold eE
 cases fW r with
 |none=>rfl
 |some y=>show(rZ os y).length=_;unfold rZ;rw[gd,aa]
theorem BE{r:bu}{os:List (Option Str)}{y:Str}{k:Nat}(hk:k<os.length)(h:some y∈os.take k\/fQ r=.str y):some y∈(eE r os).take (k+1):=by
 unfold eE
 cases e:fW r with
 |none=>
  rcases h with h|h
  ·exact qL h (by lia)
  ·rw[mL.mp h] at e;cases e
 |some x=>
  show some y∈(rZ os x).take (k+1)
  unfold rZ
  by_cases c:x=y
  ·subst c
   exact GN (by rw[aa];lia)
  ·rcases h with h|h
   ·have eb:cS x (some y)=some y:=by unfold cS;rw[if_neg (λz=>c (Option.some.inj z).symm)]
    exact oX (by rw[<-cM];exact eV.mpr ⟨some y,h,eb⟩) (by rw[aa];exact hk)
   ·rw[mL.mp h] at e;exact absurd (Option.some.inj e).symm c
theorem rY.run{rs:List bu}{kss:List (List Str)}{N places:Nat}(g:cG rs)(h:rY rs kss N places):∀(k m:Nat) ks km,m<rs.length->kss[m]?=some ks->kss[runJ rs k m]?=some km->∀y∈km,y∈ks
 |0,m,ks,km,_,e1,e2,y,hy=>by
  have e2:kss[m]?=some km:=e2
  rw[e1] at e2;cases e2;exact hy
 |k+1,m,ks,km,hm,e1,e2,y,hy=>by
  have e2:kss[runJ rs k (stp rs m)]?=some km:=e2
  have sl:stp rs m<rs.length:=Hg g hm
  obtain⟨ks',e'⟩:∃ks',kss[stp rs m]?=some ks':=⟨_,ag (by rw[h.len];exact sl)⟩
  have ih:=rY.run g h k (stp rs m) ks' km sl e' e2 y hy
  have hr:=ag hm
  by_cases c:∃t,rs[m]=.jump t
  ·obtain⟨t,c⟩:=c
   have es:stp rs m=t:=by unfold stp;rw[hr,c]
   rw[es] at e'
   rcases h.on m t (.jump t) ks ks' (by rw[hr,c]) (by simp[bX]) e1 e' y ih with z|z
   ·exact z
   ·cases z
  ·have es:stp rs m=m:=by
    unfold stp;rw[hr]
    cases e:rs[m] with
    |jump t=>exact absurd ⟨t,e⟩ c
    |_=>rfl
   rw[es,e1] at e';cases e';exact ih
theorem rY.due{rs:List bu}{kss:List (List Str)}{N places n m:Nat}{r:bu}{ks:List Str}{os os':List (Option Str)}(g:cG rs)(h:rY rs kss N places)(hn:kss[n]?=some ks)(hr:rs[n]?=some r)(hm:m∈bX n r)
  (hl:os.length=places) (hin:∀y∈ks,some y∈os.take (N+1)) (he:os'=eE r os):∃km,kss[runJ rs rs.length m]?=some km/\km.length<=N/\sV os' km.reverse:=by
 have ml:m<rs.length:=g.inr n m r hr hm
 have rl:=oZ g rs.length ml
 obtain⟨km,e2⟩:∃km,kss[runJ rs rs.length m]?=some km:=⟨_,ag (by rw[h.len];exact rl)⟩
 obtain⟨k1,e1⟩:∃k1,kss[m]?=some k1:=⟨_,ag (by rw[h.len];exact ml)⟩
 have fw:=h.few _ _ e2
 have rm:=h.room
 subst he
 refine⟨km,e2,fw,xP _ _ (N+2) (λy hy=>?_) (by rw[bJ,kE];lia)⟩
 have y1:=h.run g rs.length m k1 km ml e1 e2 y (j3.mp hy)
 exact BE (by lia) ((h.on n m r ks k1 hr hm hn e1 y y1).imp (hin y) id)
theorem Ah{K:Fg}{a b:Addr}{xs ys:List V}{H:Hp}{Q:VK}(ha:H a=some (.tup xs))(hb:H b=some (.tup ys))(ny:ys≠[])(hl:xs.length+ys.length<=5000)(q:∀(p:Addr) (H':Hp),H' p=some (.tup (xs++ys))->aH H H'->Q (.ref p) H'):gC K (.ref a) (.ref b) H Q:=by
 by_cases c:xs=[]
 ·subst c
  exact .inl ⟨a,b,ys,rfl,rfl,b4.of ha,b4.of hb,q b H hb (aH.refl H)⟩
 ·exact .inr (.inr (.inr (.inr ⟨a,b,xs,ys,rfl,rfl,b4.of ha,b4.of hb,c,dg (bO (by lia)),λz=>absurd z ny,λ_ p np=>q p _ ai ((aH.refl H).new np)⟩)))
theorem Hf{K:Fg}{a:Addr}{xs:List V}{c:Nat}{H:Hp}{Q:VK}(ha:H a=some (.tup xs))(q:∀(p:Addr) (H':Hp),H' p=some (.tup (xs.take c))->aH H H'->Q (.ref p) H'):oY K (.ref a) none (some ((c:Nat):Int)) H Q:=by
 by_cases w:HT.sIx xs.length 0 none=0/\HT.sIx xs.length xs.length (some ((c:Nat):Int))=xs.length
 ·refine .inl ⟨a,xs,rfl,b4.of ha,w,q a H ?_ (aH.refl H)⟩
  have z:=w.2
  rw[HT.sIx_nat] at z
  rw[aT (by lia)];exact ha
 ·refine .inr (.inr ⟨a,xs,rfl,b4.of ha,w,λp np=>?_⟩)
  rw[gs]
  exact q p _ ai ((aH.refl H).new np)
theorem Hv{K:Fg}{t:Addr}{n:Nat}{H:Hp}{Q:VK}(ht:H t=some (.tup [.non]))(n2:2<=n)(n1:n<=1000)(q:∀(p:Addr) (H':Hp),H' p=some (.tup (dh (ax n none)))->aH H H'->Q (.ref p) H'):fz K (.ref t) (.int (n:Nat)) H Q:=by
 refine .inr ⟨t,n,[.non],rfl,rfl,b4.of ht,by simp,dg (bO (by rw[aR];lia)),λz=>by lia,λ_ p np=>q p _ ?_ ((aH.refl H).new np)⟩
 rw[ai,DC]
 unfold dh;rw[jc];rfl
structure BW(K:Fg)(st ol:Addr)(H H':Hp)(k:Nat)(out:List XO):Prop where
 s:gc K H' st k
 o:kA H' ol out
 b:Ks st ol H H'
 tp:Tp H H'
 ne:st≠ol
theorem BW.draw{K:Fg}{st ol:Addr}{H H' H2:Hp}{k k2:Nat}{out:List XO}(w:BW K st ol H H' k out)(S:gc K H2 st k2)(B:eg st H' H2):BW K st ol H H2 k2 out:=by
 obtain⟨ys,e⟩:=w.s.lst
 have t:=Tp.of_but B e
 obtain⟨outs,o1,o2⟩:=w.o
 exact⟨S,⟨outs,B _ _ (Ne.symm w.ne) o1,o2.imp λ_ _ z=>z.mono t⟩,λp o n1 n2 h=>B _ _ n1 (w.b p o n1 n2 h),w.tp.trans t,w.ne⟩
theorem BW.same{K:Fg}{st ol:Addr}{H H' H2:Hp}{k:Nat}{out:List XO}(w:BW K st ol H H' k out)(s:aH H' H2):BW K st ol H H2 k out:=
 ⟨w.s.same s,w.o.same s,λp o n1 n2 h=>s _ _ (w.b p o n1 n2 h),w.tp.trans (.of_same s),w.ne⟩
theorem BW.outs{K:Fg}{st ol:Addr}{H H' H2:Hp}{k:Nat}{out out2:List XO}(w:BW K st ol H H' k out)(O:kA H2 ol out2)(B:eg ol H' H2):BW K st ol H H2 k out2:=by
 obtain⟨outs,o1,o2⟩:=w.o
 exact⟨w.s.mono B o1 w.ne,O,λp o n1 n2 h=>B _ _ n2 (w.b p o n1 n2 h),w.tp.trans (Tp.of_but B o1),w.ne⟩
theorem C9{K:Fg}{D:jB}{σ:St}{st ol b:Addr}{H H':Hp}{k m times im ib:Nat}{out:List XO}{os:List (Option Str)}(w:BW K st ol H H' k out)(k9:k<=900000)(hl:out.length<=99999)(t1:1<=times)(t2:times<=2)
  (h0:σ[0]?=some (some (.ref st))) (h1:σ[1]?=some (some (.ref ol))) (h6:σ[6]?=some (some (.int (times:Nat)))) (hm:σ[im]?=some (some (.int (m:Nat)))) (hb:σ[ib]?=some (some (.ref b))) (hbt:H' b=some (.tup (dh os)))
  (q:∀t H2,t<times->BW K st ol H H2 (k+1) (out++[(.jmp m t,(m,os))])->(∀p xs,H' p=some (.tup xs)->H2 p=some (.tup xs))->D.nx σ H2) :
  (iK (yP K "list" eN (aj 1) (ah (b7 (ah (b7 (ah (tC (.str "jump")) (ah (b7 (ah (tC (.str "at")) (ah (aj im) (ah (a7 (b9 K) [] E0 (ah (aj 0) (ah (aj 6) aE))) aE)))) aE))) (ah (b7 (ah (aj im) (ah (aj ib) aE))) aE))) aE))) D σ H':=by
 have hol:=w.o
 obtain⟨outs,hol,_⟩:=hol
 refine⟨_,h1,.inl ⟨rfl,_,bY.of hol⟩,cz (eJ (cz (eJ (xU (cz (eJ (xU (xV hm (cz ?_)))))))))⟩
 refine⟨_,h0,_,h6,st,(times:Nat),k,rfl,w.s,by lia,by lia,by lia,λd H1 d0 d1 S1 B1=>?_⟩
 obtain⟨t,rfl⟩:=fc d0
 have w1:=w.draw S1 B1
 have hb1:=B1 _ _ (w.s.tup_ne hbt) hbt
 have tp1:Tp H' H1:=by obtain⟨ys,e⟩:=w.s.lst;exact Tp.of_but B1 e
 refine⟨by show 3<=sizeLine;decide,λp1 np1=>⟨by show 2<=sizeLine;decide,λp2 np2=>?_⟩⟩
 have s1:=(aH.refl H1).new (o:=.tup [.str "at",.int (m:Nat),.int (t:Nat)]) np1
 have e1:upd H1 p1 (.tup [.str "at",.int (m:Nat),.int (t:Nat)]) p1=some (.tup [.str "at",.int (m:Nat),.int (t:Nat)]):=ai
 have np2':upd H1 p1 (.tup [.str "at",.int (m:Nat),.int (t:Nat)]) p2=none:=np2
 show ah (b7 (ah (aj im) (ah (aj ib) aE))) aE σ (upd (upd H1 p1 (.tup [.str "at",.int (m:Nat),.int (t:Nat)])) p2 (.tup [.str "jump",.ref p1])) _
 generalize upd H1 p1 (.tup [.str "at",.int (m:Nat),.int (t:Nat)])=H2 at s1 e1 np2'
 have s2:=(aH.refl H2).new (o:=.tup [.str "jump",.ref p1]) np2'
 have e2:upd H2 p2 (.tup [.str "jump",.ref p1]) p2=some (.tup [.str "jump",.ref p1]):=ai
 have e1':=s2 _ _ e1
 generalize upd H2 p2 (.tup [.str "jump",.ref p1])=H3 at s2 e2 e1'
 refine jm [.int (m:Nat),.ref b] (λR h=>⟨_,hm,_,hb,h⟩) (by show 2<=100;decide) λp4 H4 h4 s4=>?_
 have s13:=(s1.trans s2).trans s4
 refine zy (.jmp m t,(m,os)) ⟨p2,p1,rfl,s4 _ _ e2,s4 _ _ e1'⟩ ⟨p4,b,rfl,h4,s13 _ _ hb1⟩ ((w1.same s13).o) hl λH5 ho5 B5=>q t H5 (by lia) ((w1.same s13).outs ho5 B5) λp xs hp=>?_
 have h14:=s13 _ _ (tp1 _ _ hp)
 exact B5 _ _ (λz=>by obtain⟨o2,e,_⟩:=(w1.same s13).o;rw[z,e] at h14;cases h14) h14
theorem N5{K:Fg}{σ:St}{st ol b kl:Addr}{H H':Hp}{k m im ib:Nat}{out:List XO}{os:List (Option Str)}{refs:List V}{kss:List (List Str)}{km:List Str}{R:VK}(w:BW K st ol H H' k out)(hl:out.length<=90000)
  (h1:σ[1]?=some (some (.ref ol))) (h4:σ[4]?=some (some (.ref kl))) (hm:σ[im]?=some (some (.int (m:Nat)))) (hb:σ[ib]?=some (some (.ref b))) (hbt:H' b=some (.tup (dh os))) (o2:2<=os.length) (o1:os.length<=1000)
  (hkl:H kl=some (.lst refs)) (nk1:kl≠st) (nk2:kl≠ol) (hA:aV (j6 H) refs kss) (e:kss[m]?=some km) (kl100:km.length<=100) (bo:sV os km.reverse)
  (q:∀p H2,H2 p=some (.tup (dh (mO os km.reverse)))->BW K st ol H H2 k (out++qi m os km.reverse)->Tp H' H2->R (.ref p) H2) :
  a7 (iw K) [] E0 (ah (aj 1) (ah (aj im) (ah (aj ib) (ah (aX (cw K) (aj 4) (aj im)) aE)))) σ H' R:=by
 have ml:m<kss.length:=(ae.mp e).1
 obtain⟨v,km',v1,v2,a,rfl,ha⟩:=hA.get (i:=m) ml
 rw[e] at v2;cases v2
 have hk1:=w.b _ _ nk1 nk2 hkl
 refine⟨_,h1,_,hm,_,hb,_,h4,_,hm,jP (bY.of hk1) (aN _) (by rw[aB];exact v1) ⟨ol,b,a,m,out,os,km,rfl,w.o,hbt,o2,o1,w.tp _ _ ha,kl100,hl,bo,λp H2 hp O2 B2=>q p H2 hp (w.outs O2 B2) ?_⟩⟩
 obtain⟨outs,o3,_⟩:=w.o
 exact Tp.of_but B2 o3
theorem MB{K:Fg}{st ol rt kl b af rp:Addr}{H H1:Hp}{Q:VK}{n places times N k1 here i8:Nat}{out pre:List XO}{rvs refs:List V}{rs:List bu}{kss:List (List Str)}{ks:List Str}{r:bu}{x:iP}{os:List (Option Str)}{o8 o12 o13:Option V}
  (w:BW K st ol H H1 k1 (out++pre++[(x,(n,os))])) (k9:k1<=800000) (ol8:out.length<=80000) (pl:pre.length<=1) (hrt:H rt=some (.tup rvs)) (hA:aV (c8 H) rvs rs) (g:cG rs) (hr:rs[n]?=some r) (hrp:c8 H (.ref rp) r) (nj:d4 r=false) (ng:∀a,r≠.give a)
  (hkl:H kl=some (.lst refs)) (nk1:kl≠st) (nk2:kl≠ol) (hK:aV (j6 H) refs kss) (kn:rY rs kss N places) (t1:1<=times) (t2:times<=2) (hks:kss[n]?=some ks) (osl:os.length=places) (hin:∀y∈ks,some y∈os.take (N+1)) (wx:C7 r x os)
  (hb:H1 b=some (.tup (dh os))) (haf:H1 af=some (.tup (dh (eE r os)))) (eh:here=out.length+pre.length)
  (q:∀tail x' k' H',lU rs kss times n (out.length+pre.length) os r x tail x'->kA H' ol (out++(pre++(x',(n,os))::tail))->gc K H' st k'->k'<=k1+2->Ks st ol H H'->Q .non H') :
  qJ K {nx:=λ_ H'=>Q .non H',rt:=Q} [some (.ref st),some (.ref ol),some (.ref rt),some (.int (n:Nat)),some (.ref kl),some (.int (places:Nat)),some (.int (times:Nat)),some (.ref b),o8,some (.ref rp),some (.int (here:Nat)),some (.ref af),o12,o13] H1:=by
 have rm:=kn.room
 have ms:=kn.most
 have n1:n+1∈bX n r:=by
  cases r with
  |jump t=>cases nj
  |give a=>exact absurd rfl (ng a)
  |_=>simp[bX]
 have n1l:=g.inr n (n+1) r hr n1
 obtain⟨km,em,kml,bo⟩:=kn.due g hks hr n1 osl hin rfl
 have e1:((n:Nat):Int)+1=((n+1:Nat):Int):=by lia
 have ml:=oZ g rs.length n1l
 refine⟨_,rfl,_,rfl,.inr (.inl ⟨_,_,rfl,rfl,rt,n+1,rvs,rs,by rw[<-e1];rfl,w.tp _ _ hrt,hA.imp λ_ _ z=>z.mono w.tp,g,n1l,?_⟩)⟩
 have egm:(kss[runJ rs rs.length (n+1)]?).getD []=km:=by rw[em];rfl
 have go1:∀t,cD kss (runJ rs rs.length (n+1)) t (eE r os)=qi (runJ rs rs.length (n+1)) (eE r os) km.reverse++[(.jmp (runJ rs rs.length (n+1)) t,(runJ rs rs.length (n+1),mO (eE r os) km.reverse))]:=λt=>by unfold cD;rw[egm]
 have onc:(∀a to,r≠.test a to)->∀t,t<times->lU rs kss times n (out.length+pre.length) os r x (cD kss (runJ rs rs.length (n+1)) t (eE r os)) x:=λnt t ht=>.on ht ng nt
 have tsc:∀a to,r=.test a to->eE r os=os:=λa to z=>by rw[z];rfl
 generalize hm:runJ rs rs.length (n+1)=m at em ml go1 onc egm
 show wV K _ [some (.ref st),some (.ref ol),some (.ref rt),some (.int (n:Nat)),some (.ref kl),some (.int (places:Nat)),some (.int (times:Nat)),some (.ref b),o8,some (.ref rp),some (.int (here:Nat)),some (.ref af),some (.int (m:Nat)),o13] H1
 refine N5 (km:=km) w (by simp only[aq,aR];lia) rfl rfl rfl rfl haf (by rw[kE];lia) (by rw[kE];lia) hkl nk1 nk2 hK em (by lia) bo λp2 H2 hp2 w2 tp2=>?_
 show wU K _ [some (.ref st),some (.ref ol),some (.ref rt),some (.int (n:Nat)),some (.ref kl),some (.int (places:Nat)),some (.int (times:Nat)),some (.ref b),o8,some (.ref rp),some (.int (here:Nat)),some (.ref p2),some (.int (m:Nat)),o13] H2
 have ll:(qi m (eE r os) km.reverse).length=km.length:=by rw[gW,bJ]
 refine C9 w2 (by lia) (by simp only[aq,aR,ll];lia) t1 t2 rfl rfl rfl rfl rfl hp2 λt H3 ht w3 tp3=>?_
 have hb3:=tp3 _ _ (tp2 _ _ hb)
 obtain⟨rp',xs,erp,hrw⟩:=hrp.ref
 cases erp
 show wR K _ [some (.ref st),some (.ref ol),some (.ref rt),some (.int (n:Nat)),some (.ref kl),some (.int (places:Nat)),some (.int (times:Nat)),some (.ref b),o8,some (.ref rp),some (.int (here:Nat)),some (.ref p2),some (.int (m:Nat)),o13] H3
 refine⟨_,rfl,cE (w3.tp _ _ hrw) (by decide) rfl (.inr (.inl ⟨rfl,_,rfl,kH (λc=>?_) (λc=>?_)⟩))⟩
 ·-- a test
  obtain⟨a,to,rfl⟩:∃a to,r=.test a to:=by
   cases r with
   |test a to=>exact⟨a,to,rfl⟩
   |num _ _=>exact absurd c (by show ¬("num":Str)="test";decide +kernel)
   |op _ _ _ _=>exact absurd c (by show ¬("op":Str)="test";decide +kernel)
   |call _ _ _=>exact absurd c (by show ¬("call":Str)="test";decide +kernel)
   |say _=>exact absurd c (by show ¬("say":Str)="test";decide +kernel)
   |jump _=>cases nj
   |give a=>exact absurd rfl (ng a)
  obtain⟨i,rfl,wi⟩:=wx
  have ea:eE (.test a to) os=os:=rfl
  rw[ea] at w2 w3 hp2 go1 ll bo
  obtain⟨outs,hol,hAo⟩:=w3.o
  have hle:here<(out++pre++[(iP.land i,(n,os))]++qi m os km.reverse++[(iP.jmp m t,(m,mO os km.reverse))]).length:=by simp only[aq,aR];lia
  have hat:(out++pre++[(iP.land i,(n,os))]++qi m os km.reverse++[(iP.jmp m t,(m,mO os km.reverse))])[here]?=some (iP.land i,(n,os)):=by
   rw[bj,bj,aI (by rw[aq];lia),eh,aq,dw];rfl
  obtain⟨v,xo,v1,v2,hxo⟩:=hAo.get hle
  rw[hat] at v2;cases v2
  obtain⟨pz,u,wz,rfl,hz,⟨pu,rfl,hu⟩,hwz⟩:=hxo
  have v1':outs[((here:Nat):Int).toNat]?=some (.ref pz):=by rw[aB];exact v1
  refine zz (eJ (cz ⟨_,rfl,_,rfl,jP (bY.of hol) (aN _) v1' (cE hz (by decide) rfl ⟨_,rfl,Hf (c:=2) hu λp4 H4 h4 s4=>?_⟩)⟩))
  refine⟨_,rfl,_,_,rfl,.inl ⟨_,bY.of (s4 _ _ hol),rfl⟩,(by show 1<=sizeLine;decide),λp5 np5=>?_⟩
  have s5:=s4.trans ((aH.refl H4).new (o:=.tup [.int (outs.length:Nat)]) np5)
  have h5:upd H4 p5 (.tup [V.int (outs.length:Nat)]) p5=some (.tup [V.int (outs.length:Nat)]):=ai
  have h4':=((aH.refl H4).new (o:=.tup [.int (outs.length:Nat)]) np5) _ _ h4
  show gC K (.ref p4) (.ref p5) (upd H4 p5 (.tup [V.int (outs.length:Nat)])) _
  generalize upd H4 p5 (.tup [V.int (outs.length:Nat)])=H5 at s5 h5 h4'
  refine Ah h4' h5 (by simp) (by show 2+1<=5000;decide) λp6 H6 h6 s6=>?_
  have s36:=s5.trans s6
  refine⟨_,rfl,_,rfl,jP (bY.of (s36 _ _ hol)) (aN _) v1' (cE (s36 _ _ hz) (by decide) rfl ⟨(by show 2<=sizeLine;decide),λp7 np7=>?_⟩)⟩
  have s7:=s36.trans ((aH.refl H6).new (o:=.tup [.ref p6,wz]) np7)
  have h7:upd H6 p7 (.tup [V.ref p6,wz]) p7=some (.tup [V.ref p6,wz]):=ai
  have h6':=((aH.refl H6).new (o:=.tup [.ref p6,wz]) np7) _ _ h6
  have w7:=w3.same s7
  refine⟨_,rfl,_,rfl,yJ (s7 _ _ hol) (aN _) (by rw[aB,hAo.len];exact hle) ?_⟩
  show wQ K _ [some (.ref st),some (.ref ol),some (.ref rt),some (.int (n:Nat)),some (.ref kl),some (.int (places:Nat)),some (.int (times:Nat)),some (.ref b),o8,some (.ref rp),some (.int (here:Nat)),some (.ref p2),some (.int (m:Nat)),o13] (upd (upd H6 p7 (.tup [V.ref p6,wz])) ol (.lst (outs.set ((here:Nat):Int).toNat (.ref p7))))
  generalize upd H6 p7 (.tup [V.ref p6,wz])=H7 at s7 h7 h6' w7
  rw[aB]
  have B8:eg ol H7 (upd H7 ol (.lst (outs.set here (.ref p7)))):=λb o nb e=>by rw[aF nb];exact e
  have tp8:Tp H7 (upd H7 ol (.lst (outs.set here (.ref p7)))):=Tp.of_but B8 (s7 _ _ hol)
  have w8:=w7.outs (H2:=upd H7 ol (.lst (outs.set here (.ref p7)))) (out2:=(out++pre++[(iP.land i,(n,os))]++qi m os km.reverse++[(iP.jmp m t,(m,mO os km.reverse))]).set here (.c (.test ((i:Nat):Int) ((outs.length:Nat):Int)),(n,os))) ⟨_,ai,aV.set (hAo.imp λ_ _ z=>z.mono ((Tp.of_same s7).trans tp8)) ⟨p7,.ref p6,wz,rfl,tp8 _ _ h7,⟨p6,rfl,tp8 _ _ h6'⟩,hwz.mono ((Tp.of_same s7).trans tp8)⟩⟩ B8
  have hb8:=tp8 _ _ (s7 _ _ hb3)
  generalize upd H7 ol (.lst (outs.set here (.ref p7)))=H8 at w8 hb8
  have eset:(out++pre++[(iP.land i,(n,os))]++qi m os km.reverse++[(iP.jmp m t,(m,mO os km.reverse))]).set here (.c (.test ((i:Nat):Int) ((outs.length:Nat):Int)),(n,os))=out++(pre++(.c (.test ((i:Nat):Int) ((outs.length:Nat):Int)),(n,os))::cD kss m t os):=by
   rw[go1 t,bj,bj,List.set_append_right _ _ (by rw[aq];lia),eh,aq,dw]
   simp
  rw[eset] at w8
  have olen:outs.length=out.length+pre.length+1+(cD kss m t os).length:=by
   rw[hAo.len,go1 t];simp only[aq,aR];lia
  have gl:(cD kss m t os).length=km.length+1:=by rw[go1 t,aq,ll];rfl
  obtain⟨rp'',erp,hrw'⟩:=hrp
  cases erp
  have tol:to<rs.length:=g.inr n to _ hr (by simp[bX])
  obtain⟨kt,et,ktl,bt⟩:=kn.due (m:=to) (os':=os) g hks hr (by simp[bX]) osl hin rfl
  have go2:∀t,cD kss (runJ rs rs.length to) t os=qi (runJ rs rs.length to) os kt.reverse++[(.jmp (runJ rs rs.length to) t,(runJ rs rs.length to,mO os kt.reverse))]:=λt=>by unfold cD;rw[et];rfl
  have fin:∀t',t'<times->lU rs kss times n (out.length+pre.length) os (.test a to) (.land i) (cD kss m t os++cD kss (runJ rs rs.length to) t' os) (.c (.test ((i:Nat):Int) ((outs.length:Nat):Int))):=λt' ht'=>by
   rw[olen,<-hm];exact .test ht ht'
  refine⟨_,rfl,_,rfl,cE (w8.tp _ _ hrw') (by decide) rfl ⟨rt,to,rvs,rs,rfl,w8.tp _ _ hrt,hA.imp λ_ _ z=>z.mono w8.tp,g,tol,?_⟩⟩
  generalize runJ rs rs.length to=m2 at et go2 fin
  show wO K _ [some (.ref st),some (.ref ol),some (.ref rt),some (.int (n:Nat)),some (.ref kl),some (.int (places:Nat)),some (.int (times:Nat)),some (.ref b),o8,some (.ref rp),some (.int (here:Nat)),some (.ref p2),some (.int (m:Nat)),some (.int (m2:Nat))] H8
  refine N5 (km:=kt) w8 (by simp only[aq,bI,gl];lia) rfl rfl rfl rfl hb8 (by lia) (by lia) hkl nk1 nk2 hK et (by lia) bt λp9 H9 hp9 w9 tp9=>?_
  show wN K _ [some (.ref st),some (.ref ol),some (.ref rt),some (.int (n:Nat)),some (.ref kl),some (.int (places:Nat)),some (.int (times:Nat)),some (.ref p9),o8,some (.ref rp),some (.int (here:Nat)),some (.ref p2),some (.int (m:Nat)),some (.int (m2:Nat))] H9
  refine C9 w9 (by lia) (by simp only[aq,bI,gl,gW,bJ];lia) t1 t2 rfl rfl rfl rfl rfl hp9 λt' H10 ht' w10 tp10=>?_
  refine q _ _ _ H10 (fin t' ht') ?_ w10.s (by lia) w10.b
  have:=w10.o
  rw[go2 t']
  simpa[bj] using this
 ·have nt:∀a to,r≠.test a to:=λa to z=>c (by rw[z];rfl)
  refine q _ x _ H3 (onc nt t ht) ?_ w3.s (by lia) w3.b
  have:=w3.o
  rw[go1 t]
  simpa[bj] using this
theorem JJ{K:Fg}{vs:List V}{H:Hp}{Q:VK}{E:XK}(h:uy K vs H Q E):DG K {nx:=λ_ H'=>Q .non H',rt:=Q} (cC xE vs) H:=by
 obtain⟨st,ol,rt,kl,n,places,times,N,k,out,rvs,refs,rs,kss,rfl,S,k7,O,ol8,nso,hrt,hA,g,rl10,sd,hkl,nk1,nk2,hK,kn,t1,t2,q⟩:=h
 have hn:n<rs.length:=sd.1.lt g
 have rm:=kn.room
 have ms:=kn.most
 obtain⟨v,r,v1,hr,hrow⟩:=hA.get hn
 obtain⟨rp,rxs,rfl,hrw⟩:=hrow.ref
 obtain⟨v,ks,v2,hks,a,rfl,ha⟩:=hK.get (i:=n) (by rw[kn.len];exact hn)
 have nj:d4 r=false:=sd.2 r hr
 have ksl:=kn.few n ks hks
 have rd:=kn.read n r ks sd hr hks
 have w0:BW K st ol H H k out:=⟨S,O,λ_ _ _ _ e=>e,Tp.refl H,nso⟩
 have v1':rvs[((n:Nat):Int).toNat]?=some (.ref rp):=by rw[aB];exact v1
 have v2':refs[((n:Nat):Int).toNat]?=some (.ref a):=by rw[aB];exact v2
 have after14:∀(H1:Hp) (k1:Nat) (b1:Addr) (pre:List XO) (belt1:List (Option Str)) (o8:Option V),BW K st ol H H1 k1 (out++pre)->k1<=k+2->H1 b1=some (.tup (dh belt1))->belt1.length=places->(∀y∈ks,some y∈belt1.take (N+1))->(∀os,HN belt1 os->C5 (dS ks places) n pre os)->pre.length<=1->
   uG K {nx:=λ_ H'=>Q .non H',rt:=Q} [some (.ref st),some (.ref ol),some (.ref rt),some (.int (n:Nat)),some (.ref kl),some (.int (places:Nat)),some (.int (times:Nat)),some (.ref b1),o8,none,none,none,none,none] H1:=by
  intro H1 k1 b1 pre belt1 o8 w1 k1l hb1 bl1 bin hpre pl
  refine⟨_,rfl,_,rfl,st,b1,k1,belt1,rfl,w1.s,by lia,hb1,(by rintro rfl;simp at bl1;lia),by lia,λp os H2 hp fg S2 B2=>?_⟩
  have w2:=w1.draw S2 B2
  have osl:os.length=places:=fg.len.trans bl1
  have hin:∀y∈ks,some y∈os.take (N+1):=λy hy=>fg.fst y (N+1) (bin y hy)
  show uF K _ [some (.ref st),some (.ref ol),some (.ref rt),some (.int (n:Nat)),some (.ref kl),some (.int (places:Nat)),some (.int (times:Nat)),some (.ref p),o8,none,none,none,none,none] H2
  refine⟨_,rfl,_,rfl,cE (w2.tp _ _ hrt) (aN _) v1' ?_⟩
  obtain⟨outs,hol,hAo⟩:=w2.o
  have eh:outs.length=out.length+pre.length:=by rw[hAo.len,aq]
  show uE K _ [some (.ref st),some (.ref ol),some (.ref rt),some (.int (n:Nat)),some (.ref kl),some (.int (places:Nat)),some (.int (times:Nat)),some (.ref p),o8,some (.ref rp),none,none,none,none] H2
  refine⟨_,rfl,_,_,rfl,.inl ⟨_,bY.of hol,rfl⟩,?_⟩
  show uD K _ [some (.ref st),some (.ref ol),some (.ref rt),some (.int (n:Nat)),some (.ref kl),some (.int (places:Nat)),some (.int (times:Nat)),some (.ref p),o8,some (.ref rp),some (.int (outs.length:Nat)),none,none,none] H2
  refine⟨_,rfl,.inl ⟨rfl,_,bY.of hol⟩,cz (eJ (cz ⟨_,rfl,_,rfl,_,rfl,st,p,.ref rp,k1+1,r,os,rfl,w2.s,by lia,hrow.mono w2.tp,nj,hp,by lia,rl10 r (aD hr),λy hy=>dR (hin y (rd y hy)),λu x k3 H3 hx wx S3 k3l B3=>?_⟩))⟩
  have w3:=w2.draw S3 B3
  have hp3:=B3 _ _ (w2.s.tup_ne hp) hp
  refine jm [.int (n:Nat),.ref p] (λR h=>⟨_,rfl,_,rfl,h⟩) (by show 2<=100;decide) λp4 H4 h4 s4=>?_
  refine zy (x,(n,os)) (hx.mono (.of_same s4)) ⟨p4,p,rfl,h4,s4 _ _ hp3⟩ (w3.same s4).o (by rw[aq];lia) λH5 O5 B5=>?_
  have w5:=(w3.same s4).outs O5 B5
  have hp5:H5 p=some (.tup (dh os)):=B5 _ _ (λz=>by obtain⟨o2,e,_⟩:=(w3.same s4).o;have:=s4 _ _ hp3;rw[z,e] at this;cases this) (s4 _ _ hp3)
  show uC K _ [some (.ref st),some (.ref ol),some (.ref rt),some (.int (n:Nat)),some (.ref kl),some (.int (places:Nat)),some (.int (times:Nat)),some (.ref p),o8,some (.ref rp),some (.int (outs.length:Nat)),none,none,none] H5
  refine⟨_,rfl,cE (w5.tp _ _ hrw) (by decide) rfl (.inr (.inl ⟨rfl,_,rfl,kH (λc=>?_) (λc=>?_)⟩))⟩
  ·obtain⟨y,rfl⟩:∃y,r=.give y:=by
    cases r with
    |give y=>exact⟨y,rfl⟩
    |num _ _=>exact absurd c (by show ¬("num":Str)="give";decide +kernel)
    |op _ _ _ _=>exact absurd c (by show ¬("op":Str)="give";decide +kernel)
    |call _ _ _=>exact absurd c (by show ¬("call":Str)="give";decide +kernel)
    |say _=>exact absurd c (by show ¬("say":Str)="give";decide +kernel)
    |test _ _=>exact absurd c (by show ¬("test":Str)="give";decide +kernel)
    |jump _=>cases nj
   exact q (pre++[(x,(n,os))]) k3 H5 ⟨ks,_,pre,os,x,x,[],hks,hr,hpre os fg,wx,.give,rfl⟩ (by rw[<-bj];exact w5.o) w5.s (by lia) w5.b
  have ng:∀y,r≠.give y:=λy z=>c (by rw[z];rfl)
  have last:∀(af:Addr) (H6:Hp),BW K st ol H H6 k3 (out++pre++[(x,(n,os))])->H6 p=some (.tup (dh os))->H6 af=some (.tup (dh (eE r os)))->
    qJ K {nx:=λ_ H'=>Q .non H',rt:=Q} [some (.ref st),some (.ref ol),some (.ref rt),some (.int (n:Nat)),some (.ref kl),some (.int (places:Nat)),some (.int (times:Nat)),some (.ref p),o8,some (.ref rp),some (.int (outs.length:Nat)),some (.ref af),none,none] H6:=λaf H6 w6 hp6 haf=>
   MB (i8:=0) w6 (by lia) ol8 pl hrt hA g hr hrow nj ng hkl nk1 nk2 hK kn t1 t2 hks osl hin wx hp6 haf eh λtail x' k' H' tl O' S' kl' B'=>
    q (pre++(x',(n,os))::tail) k' H' ⟨ks,r,pre,os,x,x',tail,hks,hr,hpre os fg,wx,tl,rfl⟩ O' S' (by lia) B'
  show wX K _ [some (.ref st),some (.ref ol),some (.ref rt),some (.int (n:Nat)),some (.ref kl),some (.int (places:Nat)),some (.int (times:Nat)),some (.ref p),o8,some (.ref rp),some (.int (outs.length:Nat)),none,none,none] H5
  refine⟨_,rfl,?_⟩
  show wW K _ [some (.ref st),some (.ref ol),some (.ref rt),some (.int (n:Nat)),some (.ref kl),some (.int (places:Nat)),some (.int (times:Nat)),some (.ref p),o8,some (.ref rp),some (.int (outs.length:Nat)),some (.ref p),none,none] H5
  refine⟨_,rfl,cE (w5.tp _ _ hrw) (by decide) rfl ⟨(by show 3<=sizeLine;decide),λt nt=>⟨t,_,rfl,.inr (b4.of ai),rfl,rfl,_,rfl,?_⟩⟩⟩
  have s6:=(aH.refl H5).new (o:=.tup [V.str "num",V.str "op",V.str "call"]) nt
  have w6:=w5.same s6
  have hp6:=s6 _ _ hp5
  generalize upd H5 t (.tup [V.str "num",V.str "op",V.str "call"])=H6 at s6 w6 hp6
  refine oO (λhb=>?_) (λhb=>?_)
  ·have hb':fL (.str (dD r)) [V.str "num",V.str "op",V.str "call"]=true:=hb
   obtain⟨y,hy⟩:=Dq hb'
   obtain⟨xs',hrw'⟩:=DE hrow hy
   have hrw6:=w6.tp _ _ hrw'
   have ea:eE r os=dI (os.map (cS y)) (some y):=by
    unfold eE;rw[mL.mp hy];rfl
   refine .inr ⟨_,rfl,p,rfl,⟨_,b4.of hp6⟩,λD nD=>?_⟩
   refine eX (xs:=dh os) (λi σ' H'=>∃o,σ'=[some (.ref st),some (.ref ol),some (.ref rt),some (.int (n:Nat)),some (.ref kl),some (.int (places:Nat)),some (.int (times:Nat)),some (.ref p),o8,some (.ref rp),some (.int (outs.length:Nat)),some (.ref p),none,none,o]/\H' D=some (.lst (dh ((os.take i).map (cS y))))/\aH H6 H') ⟨none,rfl,ai,(aH.refl H6).new nD⟩ ?_ ?_ ?_
   ·rintro i σ' H' _ ⟨o1,_,_,s'⟩
    exact b4.of (s' _ _ hp6)
   ·rintro i z σ' H' hz ⟨o1,rfl,hD',s'⟩
    obtain⟨oy,ey,rfl⟩:=qt hz
    have li:(dh ((os.take i).map (cS y))).length<=1000:=by rw[cJ,aa,aL];lia
    have app:∀c:V,c=oV (cS y oy)->∃ys,H' D=some (.lst ys)/\ys.length<sizeLine/\∃o,[some (.ref st),some (.ref ol),some (.ref rt),some (.int (n:Nat)),some (.ref kl),some (.int (places:Nat)),some (.int (times:Nat)),some (.ref p),o8,some (.ref rp),some (.int (outs.length:Nat)),some (.ref p),none,none,some (oV oy)]=[some (.ref st),some (.ref ol),some (.ref rt),some (.int (n:Nat)),some (.ref kl),some (.int (places:Nat)),some (.int (times:Nat)),some (.ref p),o8,some (.ref rp),some (.int (outs.length:Nat)),some (.ref p),none,none,o]/\
      upd H' D (.lst (ys++[c])) D=some (.lst (dh ((os.take (i+1)).map (cS y))))/\aH H6 (upd H' D (.lst (ys++[c]))):=by
     rintro c rfl
     refine⟨_,hD',bO (by lia),_,rfl,?_,λb o hb=>?_⟩
     ·rw[ai,cO ey,aC];unfold dh;rw[aC];rfl
     ·rw[aF (ar hb nD)];exact s' b o hb
    refine dz ⟨_,rfl,_,rfl,cE (s' _ _ hrw6) (by decide) rfl (.inr (.inl ⟨uw oy (some y),_,rfl,dn (λe=>?_) (λe=>?_)⟩))⟩
    ·refine app _ ?_
     unfold cS
     rw[if_pos (show oy=some y from qr (b:=some y) e)]
     rfl
    ·refine⟨_,rfl,app _ ?_⟩
     unfold cS
     rw[if_neg (show ¬oy=some y from λz=>e (by rw[z];rfl))]
   ·rintro σ' H7 ⟨o1,_,hD',s7⟩
    have et:os.take (dh os).length=os:=aT (by rw[cJ];exact ay _)
    rw[et] at hD'
    refine⟨D,_,rfl,.inl ⟨bY.of hD',λp8 np8=>?_⟩⟩
    have s8:=s7.trans ((aH.refl H7).new (o:=.tup (dh (os.map (cS y)))) np8)
    have hp8:upd H7 p8 (.tup (dh (os.map (cS y)))) p8=some (.tup (dh (os.map (cS y)))):=ai
    show ah (aX (cw K) (aj 9) (tC (.int 1))) aE _ (upd H7 p8 (.tup (dh (os.map (cS y))))) _
    generalize upd H7 p8 (.tup (dh (os.map (cS y))))=H8 at s8 hp8
    refine⟨_,rfl,cE (s8 _ _ hrw6) (by decide) rfl ⟨p8,os.map (cS y),some y,rfl,hp8,by rw[aa];lia,by rw[aa];lia,λp9 H9 h9 s9=>?_⟩⟩
    rw[<-ea] at h9
    exact last p9 H9 (w6.same (s8.trans s9)) ((s8.trans s9) _ _ hp6) h9
  ·have en:fW r=none:=by
    have hb':fL (.str (dD r)) [V.str "num",V.str "op",V.str "call"]=false:=hb
    cases r with
    |num _ _=>exact absurd hb' (by show ¬fL (.str "num") [V.str "num",V.str "op",V.str "call"]=false;decide +kernel)
    |op _ _ _ _=>exact absurd hb' (by show ¬fL (.str "op") [V.str "num",V.str "op",V.str "call"]=false;decide +kernel)
    |call _ _ _=>exact absurd hb' (by show ¬fL (.str "call") [V.str "num",V.str "op",V.str "call"]=false;decide +kernel)
    |_=>rfl
   have ea:eE r os=os:=by unfold eE;rw[en]
   exact last p H6 w6 hp6 (by rw[ea];exact hp6)
 have bM:∀y∈ks,some y∈(dS ks places).take N:=λy hy=>qh ksl (by lia) hy
 refine⟨_,rfl,_,rfl,jP (bY.of hkl) (aN _) v2' ⟨a,_,rfl,.inr ⟨b4.of ha,?_⟩⟩⟩
 refine⟨(by show 1<=sizeLine;decide),λt nt=>⟨_,rfl,?_⟩⟩
 have s1:=(aH.refl H).new (o:=.tup [.non]) nt
 have h1:upd H t (.tup [V.non]) t=some (.tup [V.non]):=ai
 show fz K (.ref t) (.int (places:Nat)) (upd H t (.tup [V.non])) _
 generalize upd H t (.tup [V.non])=H1 at s1 h1
 refine Hv h1 (by lia) (by lia) λp2 H2 h2 s2=>?_
 have s12:=s1.trans s2
 refine Ah (s12 _ _ ha) h2 (λz=>by have:=congrArg ef z;rw[cJ,aU,eS] at this;lia) (by rw[cJ,aU,aa];lia) λp3 H3 h3 s3=>?_
 refine⟨_,rfl,_,rfl,Hf h3 λp4 H4 h4 s4=>?_⟩
 have s14:=(s12.trans s3).trans s4
 have h4':H4 p4=some (.tup (dh (dS ks places))):=by
  rw[h4]
  unfold dS dh
  rw[cM,aC,de];rfl
 have w4:=w0.same s14
 have bl:=i5 ks places
 generalize dS ks places=belt at h4' bM bl after14
 clear h4 h3 h2 h1
 show uJ K _ [some (.ref st),some (.ref ol),some (.ref rt),some (.int (n:Nat)),some (.ref kl),some (.int (places:Nat)),some (.int (times:Nat)),some (.ref p4),none,none,none,none,none,none] H4
 refine⟨_,rfl,st,3,k,rfl,w4.s,by lia,by decide,by decide,λd H5 d0 d1 S5 B5=>.inr (.inl ⟨rfl,_,rfl,dn (λc=>?_) (λc=>?_)⟩)⟩
 ·have w5:=w4.draw S5 B5
  have h5:=B5 _ _ (w4.s.tup_ne h4') h4'
  refine⟨_,rfl,_,rfl,st,(places:Nat),k+1,rfl,w5.s,by lia,by lia,by lia,λd H6 d0 d1 S6 B6=>?_⟩
  obtain⟨i,rfl⟩:=fc d0
  have il:i<belt.length:=by lia
  have w6:=w5.draw S6 B6
  have h6:=B6 _ _ (w5.s.tup_ne h5) h5
  obtain⟨outs,hol,hAo⟩:=w6.o
  show uI K _ [some (.ref st),some (.ref ol),some (.ref rt),some (.int (n:Nat)),some (.ref kl),some (.int (places:Nat)),some (.int (times:Nat)),some (.ref p4),some (.int (i:Nat)),none,none,none,none,none] H6
  refine⟨_,rfl,.inl ⟨rfl,_,bY.of hol⟩,cz (eJ (jm [.str "keep",.int (i:Nat)] (λR h=>⟨_,rfl,h⟩) (by show 2<=100;decide) λp7 H7 h7 s7=>jm [.int (n:Nat),.ref p4] (λR h=>⟨_,rfl,_,rfl,h⟩) (by show 2<=100;decide) λp8 H8 h8 s8=>?_))⟩
  have s78:=s7.trans s8
  refine zy (.c (.keep ((i:Nat):Int)),(n,belt)) ⟨p7,rfl,s8 _ _ h7⟩ ⟨p8,p4,rfl,h8,s78 _ _ h6⟩ (w6.same s78).o (by lia) λH9 O9 B9=>?_
  have w9:=(w6.same s78).outs O9 B9
  have h9:H9 p4=some (.tup (dh belt)):=B9 _ _ (λz=>by obtain⟨o2,e,_⟩:=(w6.same s78).o;have:=s78 _ _ h6;rw[z,e] at this;cases this) (s78 _ _ h6)
  have hxi:=ag il
  show uH K _ [some (.ref st),some (.ref ol),some (.ref rt),some (.int (n:Nat)),some (.ref kl),some (.int (places:Nat)),some (.int (times:Nat)),some (.ref p4),some (.int (i:Nat)),none,none,none,none,none] H9
  refine⟨_,rfl,_,rfl,_,rfl,cE h9 (aN _) (by rw[aB];exact kK hxi) ⟨p4,belt,belt[i],rfl,h9,by lia,by lia,λp10 H10 h10 s10=>?_⟩⟩
  have ek:dI belt belt[i]=lz belt i:=by unfold lz;rw[hxi];rfl
  rw[ek] at h10
  exact after14 H10 (k+1+1) p10 [(.c (.keep ((i:Nat):Int)),(n,belt))] (lz belt i) _ (w9.same s10) (by lia) h10 (by rw[<-ek,gd];exact bl) (λy hy=>by rw[<-ek];exact oX (bM y hy) (by lia)) (λos fg=>.yes il fg) (ay _)
 ·have w5:=w4.draw S5 B5
  have h5:=B5 _ _ (w4.s.tup_ne h4') h4'
  exact after14 H5 (k+1) p4 [] belt none (by rw[bU];exact w5) (by lia) h5 bl (λy hy=>qL (bM y hy) (by lia)) (λos fg=>.no fg) (by decide)
def Mz(rs:List bu)(kss:List (List Str))(places times:Nat)(L:List XO)(m:Nat)(x:iP)(q:kD):Prop:=q.2.length=places/\match x with
 |.c c=>(∀to,c≠.jump to)/\∃r,rs[q.1]?=some r/\(∀i,c=.keep i->0<=i/\i.toNat<places)/\(yL c=false->zu r c q.2)/\(jj (m:Nat) c).length=(dO rs c q.1).length/\
   ∀(t:Nat) to n,(jj (m:Nat) c)[t]?=some to->(dO rs c q.1)[t]?=some n->0<=to/\∃y,L[to.toNat]?=some y/\sZ y.2 n (Dd c q.2 (fW r))
 |.land _=>False
 |.jmp n t=>q.1=n/\t<times/\ji rs n/\∃ks,kss[n]?=some ks/\Bd (dS ks places) q.2=true
def ip(rs:List bu)(kss:List (List Str))(places times:Nat)(L:List XO)(a b:Nat):Prop:=∀m x q,a<=m->m<b->L[m]?=some (x,q)->Mz rs kss places times L m x q
section
variable{rs:List bu}{kss:List (List Str)}{places times:Nat}
theorem Mz.more{L:List XO}{m:Nat}{x:iP}{q:kD}(h:Mz rs kss places times L m x q)(B:List XO):Mz rs kss places times (L++B) m x q:=by
 refine⟨h.1,?_⟩
 cases x with
 |land i=>exact h.2
 |jmp n t=>exact h.2
 |c c=>
  obtain⟨hj,r,h1,h2,h3,h4,h5⟩:=h.2
  refine⟨hj,r,h1,h2,h3,h4,λt to n e1 e2=>?_⟩
  obtain⟨z,y,ey,f⟩:=h5 t to n e1 e2
  exact⟨z,y,by rw[aS (ae.mp ey).1];exact ey,f⟩
theorem ip.more{L:List XO}(h:ip rs kss places times L 0 L.length)(B:List XO):ip rs kss places times (L++B) 0 L.length:=λm x q h0 hm e=>by
 rw[aS hm] at e
 exact(h m x q h0 hm e).more B
theorem ip.join{L:List XO}{a b c:Nat}(h1:ip rs kss places times L a b)(h2:ip rs kss places times L b c):ip rs kss places times L a c:=λm x q ha hc e=>by
 by_cases z:m<b
 ·exact h1 m x q ha z e
 ·exact h2 m x q (by lia) hc e
theorem ip.one{L:List XO}{a:Nat}(h:∀x q,L[a]?=some (x,q)->Mz rs kss places times L a x q):ip rs kss places times L a (a+1):=λm x q ha hc e=>by
 have:m=a:=by lia
 subst this;exact h x q e
theorem j8(m:Nat)(os:List (Option Str)):sZ (m,os) m os:=⟨rfl,rfl,ve os⟩
theorem De(m:Nat)(y:iP):∀(l:List Str) (os:List (Option Str)) (B:List XO),∃x,(qi m os l++(y,(m,mO os l))::B)[0]?=some (x,(m,os))
 |[],os,B=>⟨y,rfl⟩
 |z::l,os,B=>⟨_,rfl⟩
theorem FS(m:Nat)(y:iP){r:bu}(hr:rs[m]?=some r):∀(l:List Str) (os:List (Option Str)) (A B:List XO),os.length=places->sV os l->
  ip rs kss places times (A++(qi m os l++(y,(m,mO os l))::B)) A.length (A.length+l.length)
 |[],os,A,B,_,_=>λmm x q ha hc=>absurd ha (by simp at hc;lia)
 |z::l,os,A,B,hl,bo=>by
  have ih:=FS m y hr l (dI os (some z)) (A++[(.c (.keep ((os.idxOf (some z):Nat):Int)),(m,os))]) B (by rw[gd];exact hl) bo.2
  obtain⟨x0,e0⟩:=De m y l (dI os (some z)) B
  have eL:A++[(.c (.keep ((os.idxOf (some z):Nat):Int)),(m,os))]++(qi m (dI os (some z)) l++(y,(m,mO (dI os (some z)) l))::B)=A++(qi m os (z::l)++(y,(m,mO os (z::l)))::B):=by
   rw[bj];rfl
  rw[eL] at ih
  have la:(A++[((.c (.keep ((os.idxOf (some z):Nat):Int)),(m,os)):XO)]).length=A.length+1:=by rw[aq];rfl
  rw[la] at ih
  have e1:(A++(qi m os (z::l)++(y,(m,mO os (z::l)))::B))[A.length+1]?=some (x0,(m,dI os (some z))):=by
   rw[aI (by lia),gE];exact e0
  refine(ip.one λx q e=>?_).join (b:=A.length+1) (by rw[bI,show A.length+(l.length+1)=A.length+1+l.length by lia];exact ih)
  have e:(A++(qi m os (z::l)++(y,(m,mO os (z::l)))::B))[A.length]?=some (x,q):=e
  rw[aI (ay _),dw] at e
  have e:=Option.some.inj e
  obtain⟨i1,i2⟩:=BY bo.1
  have il:=(ae.mp i1).1
  cases e
  refine⟨hl,(λto z=>by cases z),r,hr,λi ei=>?_,(λz=>by cases z),rfl,λt to n h1 h2=>?_⟩
  ·cases ei;exact⟨aN _,by rw[aB,<-hl];exact il⟩
  ·have h1:[((A.length:Nat):Int)+1][t]?=some to:=h1
   have h2:[m][t]?=some n:=h2
   obtain⟨rfl,rfl⟩:=fZ h1
   obtain⟨_,rfl⟩:=fZ h2
   refine⟨by lia,_,by rw[show(((A.length:Nat):Int)+1).toNat=A.length+1 by lia];exact e1,?_⟩
   have:Dd (.keep ((os.idxOf (some z):Nat):Int)) os (fW r)=dI os (some z):=by
    show lz os ((os.idxOf (some z):Nat):Int).toNat=_
    unfold lz;rw[aB,i1];rfl
   rw[this];exact j8 m _
theorem FR:∀(l:List Str) (os:List (Option Str)),mO os l=(l.reverse.map some++os).take os.length
 |[],os=>by simp[mO]
 |z::l,os=>by
  show mO (dI os (some z)) l=_
  rw[FR l,gd,gN,aC,bj]
  unfold dI
  rw[j4,j4,List.take_take]
  congr 2
  show min _ _=_
  lia
theorem Ih(km:List Str)(os:List (Option Str)):Bd (dS km os.length) (mO os km.reverse)=true:=by
 have e:=FR km.reverse os
 rw[List.reverse_reverse] at e
 refine(i4 (by rw[i5,sM])).mpr λi y h=>?_
 rw[e]
 unfold dS at h
 rw[dJ] at h ⊢
 by_cases c:i<os.length
 ·rw[if_pos c] at h ⊢
  by_cases d:i<(km.map some).length
  ·rw[aS d] at h ⊢;exact h
  ·rw[aI (by lia)] at h
   have:=aD h
   rw[jd] at this
   cases this.2
 ·rw[if_neg c] at h;cases h
theorem mG(kss:List (List Str))(m t:Nat)(os:List (Option Str))(B:List XO):∃x,(cD kss m t os++B)[0]?=some (x,(m,os)):=by
 unfold cD
 rw[bj]
 exact De m _ _ os B
theorem oN{m t:Nat}{os:List (Option Str)}{km:List Str}(A B:List XO)(ht:t<times)(sd:ji rs m)(g:cG rs)(em:kss[m]?=some km)(hl:os.length=places)(bo:sV os km.reverse) :
  ip rs kss places times (A++(cD kss m t os++B)) A.length (A.length+(cD kss m t os).length):=by
 have e:cD kss m t os++B=qi m os km.reverse++(.jmp m t,(m,mO os km.reverse))::B:=by
  unfold cD;rw[em,bj];rfl
 have hr:=ag (sd.1.lt g)
 have l1:(cD kss m t os).length=km.reverse.length+1:=by unfold cD;rw[em,aq,gW];rfl
 rw[e,l1]
 refine(FS m (.jmp m t) hr km.reverse os A B hl bo).join (b:=A.length+km.reverse.length) (ip.one λx q e=>?_)
 rw[aI (by lia),gE,aI (by rw[gW];exact ay _),gW,dw] at e
 cases Option.some.inj e
 refine⟨by rw[sM];exact hl,rfl,ht,sd,km,em,?_⟩
 rw[<-hl];exact Ih km os
theorem yZ(g:cG rs):∀(k m:Nat),BC rs none m->BC rs none (runJ rs k m)
 |0,m,h=>h
 |k+1,m,h=>by
  refine yZ g k (stp rs m) ?_
  have hm:=h.lt g
  have hr:=ag hm
  unfold stp
  rw[hr]
  cases e:rs[m] with
  |jump t=>exact .step h (by rw[hr,e]) (λy z=>by cases z) (by simp[bX])
  |_=>exact h
theorem qH(g:cG rs){n m:Nat}{r:bu}(sd:ji rs n)(hr:rs[n]?=some r)(hm:m∈bX n r):ji rs (runJ rs rs.length m):=
 ⟨yZ g _ m (.step sd.1 hr (λy z=>by cases z) hm),λr' e=>g.ring m (g.inr n m r hr hm) r' e⟩
theorem Ef{r:bu}{c:fU}{os:List (Option Str)}(hw:dD r=gY c)(hj:d4 r=false):Dd c os (fW r)=eE r os:=by
 cases r<;>cases c<;>first|rfl|exact absurd hw (by simp only[dD,gY];decide +kernel)|cases hj
theorem EN{r:bu}{n:Nat}(hj:d4 r=false)(ng:∀a,r≠.give a)(nt:∀a to,r≠.test a to):bX n r=[n+1]:=by
 cases r with
 |jump t=>cases hj
 |give a=>exact absurd rfl (ng a)
 |test a to=>exact absurd rfl (nt a to)
 |_=>rfl
theorem Aw{r:bu}{c:fU}(hw:dD r=gY c)(hj:d4 r=false):yL c=false/\∀to,c≠.jump to:=by
 cases r<;>cases c<;>first|exact⟨rfl,λto z=>by cases z⟩|exact absurd hw (by simp only[dD,gY];decide +kernel)|cases hj
theorem CJ{r:bu}{c:fU}{w:Int}(hw:dD r=gY c)(ng:∀a,r≠.give a)(nt:∀a to,r≠.test a to)(hj:d4 r=false):jj w c=[w+1]:=by
 cases r<;>cases c<;>first|rfl|exact absurd rfl (ng _)|exact absurd rfl (nt _ _)|exact absurd hw (by simp only[dD,gY];decide +kernel)|cases hj
end
section
variable{rs:List bu}{kss:List (List Str)}{places times N:Nat}
theorem uf{n:Nat}{r:bu}{c:fU}(hr:rs[n]?=some r)(hs:yL c=false):dO rs c n=(bX n r).map (runJ rs rs.length):=by
 unfold dO
 rw[hs,hr];rfl
theorem ip.cast{L L':List XO}{a b a' b':Nat}(h:ip rs kss places times L a b)(eL:L=L')(ea:a=a')(eb:b=b'):ip rs kss places times L' a' b':=by subst eL ea eb;exact h
theorem A8(g:cG rs)(kn:rY rs kss N places){n:Nat}{r:bu}{ks:List Str}{os:List (Option Str)}{x x':iP}{tail:List XO}(A:List XO)(sd:ji rs n)(hks:kss[n]?=some ks)(hr:rs[n]?=some r)(osl:os.length=places)(hin:∀y∈ks,some y∈os.take (N+1))
  (wx:C7 r x os) (tl:lU rs kss times n A.length os r x tail x'):ip rs kss places times (A++(x',(n,os))::tail) A.length (A.length+1+tail.length):=by
 have nj:=sd.2 r hr
 have at0:∀(T:List XO),(A++(x',(n,os))::T)[A.length]?=some (x',(n,os)):=λT=>by rw[aI (ay _),dw];rfl
 have at1:∀(T:List XO) (j:Nat),(A++(x',(n,os))::T)[A.length+1+j]?=T[j]?:=λT j=>by
  rw[aI (by lia),show A.length+1+j-A.length=j+1 by lia];rfl
 cases tl with
 |@give a x=>
  obtain⟨c,rfl,sw⟩:=wx
  obtain⟨sl,cj⟩:=Aw sw.wd nj
  refine ip.one λx q e=>?_
  rw[at0] at e
  cases e
  have ec:∃i,c=.give i:=by
   have hw:=sw.wd
   cases c<;>first|exact⟨_,rfl⟩|exact absurd hw (by simp only[dD,gY];decide +kernel)
  obtain⟨i,rfl⟩:=ec
  refine⟨osl,cj,_,hr,(λi z=>by cases z),λ_=>sw,by rw[uf hr rfl];rfl,λt to m e1 e2=>?_⟩
  have e1:([]:List Int)[t]?=some to:=e1
  simp at e1
 |@on r x t ht ng nt=>
  have hw:∃c,x=.c c/\zu r c os:=by
   cases r with
   |test a to=>exact absurd rfl (nt a to)
   |_=>exact wx
  obtain⟨c,rfl,sw⟩:=hw
  obtain⟨sl,cj⟩:=Aw sw.wd nj
  have le:bX n r=[n+1]:=EN nj ng nt
  have hm:n+1∈bX n r:=by rw[le];exact au.mpr rfl
  obtain⟨km,em,kml,bo⟩:=kn.due (m:=n+1) (os':=eE r os) g hks hr hm osl hin rfl
  have sd2:=qH g sd hr hm
  obtain⟨x0,e0⟩:=mG kss (runJ rs rs.length (n+1)) t (eE r os) []
  rw[bU] at e0
  have hp:dO rs c n=[runJ rs rs.length (n+1)]:=by rw[uf hr sl,le];rfl
  have cl:jj ((A.length:Nat):Int) c=[((A.length:Nat):Int)+1]:=CJ sw.wd ng nt nj
  have ga:=oN (times:=times) (places:=places) (A++[(.c c,(n,os))]) [] ht sd2 g em (by rw[kE];exact osl) bo
  refine(ip.one λx q e=>?_).join (b:=A.length+1) (ga.cast (by rw[bU,bj];rfl) (by rw[aq];rfl) (by rw[aq];rfl))
  rw[at0] at e
  cases e
  refine⟨osl,cj,_,hr,(λi z=>by rw[z] at sl;cases sl),λ_=>sw,by rw[hp,cl];rfl,λt' to m e1 e2=>?_⟩
  rw[cl] at e1
  have hp':dO rs c (n,os).1=[runJ rs rs.length (n+1)]:=hp
  rw[hp'] at e2
  obtain⟨rfl,rfl⟩:=fZ e1
  obtain⟨_,rfl⟩:=fZ e2
  refine⟨by lia,_,by rw[show(((A.length:Nat):Int)+1).toNat=A.length+1+0 by lia,at1];exact e0,?_⟩
  rw[Ef sw.wd nj];exact j8 _ _
 |@test a to i t t' ht ht'=>
  obtain⟨i',ei,hi⟩:=wx
  cases ei
  have hm1:n+1∈bX n (.test a to):=by simp[bX]
  have hm2:to∈bX n (.test a to):=by simp[bX]
  obtain⟨km,em,kml,bo⟩:=kn.due (m:=n+1) (os':=os) g hks hr hm1 osl hin rfl
  obtain⟨kt,et,ktl,bt⟩:=kn.due (m:=to) (os':=os) g hks hr hm2 osl hin rfl
  have sd1:=qH g sd hr hm1
  have sd2:=qH g sd hr hm2
  obtain⟨x0,e0⟩:=mG kss (runJ rs rs.length (n+1)) t os (cD kss (runJ rs rs.length to) t' os)
  obtain⟨x1,e1⟩:=mG kss (runJ rs rs.length to) t' os []
  rw[bU] at e1
  have hp:dO rs (.test ((i:Nat):Int) ((A.length+1+(cD kss (runJ rs rs.length (n+1)) t os).length:Nat):Int)) n=[runJ rs rs.length (n+1),runJ rs rs.length to]:=by rw[uf hr rfl];rfl
  generalize hM1:runJ rs rs.length (n+1)=M1 at e0 hp sd1 em at0 at1 ⊢
  generalize hM2:runJ rs rs.length to=M2 at e0 e1 hp sd2 et at0 at1 ⊢
  have gl:(cD kss M1 t os).length=km.length+1:=by unfold cD;rw[em,aq,gW];simp
  generalize hG2:cD kss M2 t' os=G2 at e0 e1 at0 at1 ⊢
  have ga:=oN (times:=times) (places:=places) (t:=t) (A++[(.c (.test ((i:Nat):Int) ((A.length+1+(cD kss M1 t os).length:Nat):Int)),(n,os))]) G2 ht sd1 g em osl bo
  have gb:=oN (times:=times) (places:=places) (t:=t') (A++[(.c (.test ((i:Nat):Int) ((A.length+1+(cD kss M1 t os).length:Nat):Int)),(n,os))]++cD kss M1 t os) [] ht' sd2 g et osl bt
  rw[hG2] at gb
  generalize hG1:cD kss M1 t os=G1 at e0 hp gl ga gb at0 at1 ⊢
  refine((ip.one λx q e=>?_).join (b:=A.length+1) (ga.cast (by rw[bj];rfl) (by rw[aq];rfl) rfl)).join (gb.cast (by rw[bU,bj,bj];rfl) (by rw[aq]) (by rw[aq,aq,aq];simp only[aR];lia))
  rw[at0] at e
  cases e
  refine⟨osl,(λto z=>by cases z),_,hr,(λi z=>by cases z),λ_=>⟨rfl,rfl,rfl,λt i' a' h1 h2=>?_⟩,by rw[hp];rfl,λt' to' m h1 h2=>?_⟩
  ·obtain⟨rfl,rfl⟩:=fZ h1
   obtain⟨_,rfl⟩:=fZ h2
   exact⟨aN _,by rw[aB];exact hi⟩
  ·have hp':dO rs (.test ((i:Nat):Int) ((A.length+1+G1.length:Nat):Int)) (n,os).1=[M1,M2]:=hp
   rw[hp'] at h2
   have h1:[((A.length:Nat):Int)+1,((A.length+1+G1.length:Nat):Int)][t']?=some to':=h1
   match t' with
   |0=>
    cases h1;cases h2
    exact⟨by lia,_,by rw[show(((A.length:Nat):Int)+1).toNat=A.length+1+0 by lia,at1];exact e0,j8 _ _⟩
   |1=>
    cases h1;cases h2
    refine⟨by lia,_,by rw[aB,at1,aI (ay _),dw];exact e1,j8 _ _⟩
   |t'+2=>simp at h1
theorem Ii(g:cG rs)(kn:rY rs kss N places){n:Nat}(L blk:List XO)(sd:ji rs n)(h:Fv rs kss places times L.length n blk) :
  ip rs kss places times (L++blk) L.length (L.length+blk.length)/\∃x w ks,blk[0]?=some (x,(n,w))/\kss[n]?=some ks/\w.length=places/\Bd w (dS ks places)=true:=by
 obtain⟨ks,r,pre,os,x,x',tail,hks,hr,hpre,wx,tl,rfl⟩:=h
 have rm:=kn.room
 have bl:=i5 ks places
 have ksl:=kn.few n ks hks
 have bM:∀y∈ks,some y∈(dS ks places).take N:=λy hy=>qh ksl (by lia) hy
 cases hpre with
 |no fg=>
  refine⟨?_,x',os,ks,rfl,hks,fg.len.trans bl,fg.wk⟩
  have ta:=A8 (times:=times) g kn L sd hks hr (fg.len.trans bl) (λy hy=>fg.fst y _ (qL (bM y hy) (by lia))) wx tl
  exact ta.cast rfl rfl (by rw[fF,bI];lia)
 |@yes i os il fg=>
  refine⟨?_,_,dS ks places,ks,rfl,hks,bl,ve _⟩
  have ek:(lz (dS ks places) i).length=places:=by unfold lz;rw[gd,bl]
  have ta:=A8 (times:=times) g kn (L++[(.c (.keep ((i:Nat):Int)),(n,dS ks places))]) sd hks hr (fg.len.trans ek) (λy hy=>fg.fst y _ (by unfold lz;exact oX (bM y hy) (by rw[bl];lia))) wx (by rw[aq];exact tl)
  refine(ip.one λx q e=>?_).join (b:=L.length+1) (ta.cast (by rw[bj]) (by rw[aq];rfl) (by simp only[aq,bI,eS];lia))
  rw[aI (ay _),dw] at e
  cases Option.some.inj e
  refine⟨bl,(λto z=>by cases z),r,hr,λi' ei=>?_,(λz=>by cases z),rfl,λt to m h1 h2=>?_⟩
  ·cases ei;exact⟨aN _,by rw[aB,<-bl];exact il⟩
  ·have h1:[((L.length:Nat):Int)+1][t]?=some to:=h1
   have h2:[n][t]?=some m:=h2
   obtain⟨rfl,rfl⟩:=fZ h1
   obtain⟨_,rfl⟩:=fZ h2
   refine⟨by lia,(x',(n,os)),by rw[show(((L.length:Nat):Int)+1).toNat=L.length+1 by lia,aI (by lia),gE];rfl,rfl,?_,?_⟩
   ·show os.length=(lz (dS ks places) ((i:Nat):Int).toNat).length
    rw[aB,ek];exact fg.len.trans ek
   ·show Bd os (lz (dS ks places) ((i:Nat):Int).toNat)=true
    rw[aB];exact fg.wk
theorem Ij(kn:rY rs kss N places){n b:Nat}{blk:List XO}(h:Fv rs kss places times b n blk):blk.length<=2*N+4/\0<blk.length:=by
 obtain⟨ks,r,pre,os,x,x',tail,hks,hr,hpre,wx,tl,rfl⟩:=h
 have pl:pre.length<=1:=by cases hpre<;>simp
 have gl:∀m t os,(cD kss m t os).length<=N+1:=λm t os=>by
  unfold cD
  rw[aq,gW,bJ]
  cases e:kss[m]? with
  |none=>simp
  |some km=>have:=kn.few m km e;simp;exact this
 have tl':tail.length<=2*N+2:=by
  cases tl with
  |give=>simp
  |@on r x t _ _ _=>have:=gl (runJ rs rs.length (n+1)) t (eE r os);lia
  |@test a to i t t' _ _=>have:=gl (runJ rs rs.length (n+1)) t os;have:=gl (runJ rs rs.length to) t' os;rw[aq];lia
 rw[aq,bI]
 lia
end
theorem oR:∀{l zs:List Str},l.Nodup->(∀y∈l,y∈zs)->l.length<=zs.length
 |[],_,_,_=>bQ _
 |a::l,zs,nd,h=>by
  rw[dX] at nd
  have ha:=h a bw
  have ih:=oR (l:=l) (zs:=zs.erase a) nd.2 λy hy=>(List.mem_erase_of_ne (λz=>nd.1 (by rw[<-z];exact hy))).mpr (h y (bF _ hy))
  rw[List.length_erase_of_mem ha] at ih
  have:=gM ha
  rw[bI];lia
def zv(kss:List (List Str))(places:Nat)(L:List XO)(n a:Nat):Prop:=∃x w ks,L[a]?=some (x,(n,w))/\kss[n]?=some ks/\w.length=places/\Bd w (dS ks places)=true
theorem zv.more{kss:List (List Str)}{places n a:Nat}{L:List XO}(h:zv kss places L n a)(B:List XO):zv kss places (L++B) n a:=by
 obtain⟨x,w,ks,e,h⟩:=h
 exact⟨x,w,ks,by rw[aS (ae.mp e).1];exact e,h⟩
def jL(f:Nat->Nat->Option Nat):iP->fU
 |.c c=>c
 |.land i=>.test ((i:Nat):Int) 0
 |.jmp n t=>.jump (((f n t).getD 0:Nat):Int)
section
variable{rs:List bu}{kss:List (List Str)}{places times N:Nat}
theorem Ha(g:cG rs){L:List XO}{f:Nat->Nat->Option Nat}(all:ip rs kss places times L 0 L.length)(hf:∀n t,ji rs n->t<times->∃a,f n t=some a/\zv kss places L n a){m:Nat}(hm:m<L.length):tM places rs (L.map λx=>jL f x.1) (L.map (·.2)) m:=by
 obtain⟨x,q,e⟩:∃x q,L[m]?=some (x,q):=⟨L[m].1,L[m].2,ag hm⟩
 have ok:=all m x q (bQ _) hm e
 have e1:(L.map λx=>jL f x.1)[m]?=some (jL f x):=by rw[aG,e];rfl
 have e2:(L.map (·.2))[m]?=some q:=by rw[aG,e];rfl
 have pp:∀(i:Nat) y,L[i]?=some y->(L.map (·.2))[i]?=some y.2:=λi y h=>by rw[aG,h];rfl
 obtain⟨ql,ok⟩:=ok
 cases x with
 |land i=>exact ok.elim
 |c c=>
  obtain⟨cj,r,h1,h2,h3,h4,h5⟩:=ok
  refine⟨c,q,r,e1,e2,h1,ql,h2,h3,λto ht=>g.inr _ _ _ h1 ht,h4,λt to n a1 a2=>?_⟩
  obtain⟨z,y,ey,fy⟩:=h5 t to n a1 a2
  exact⟨z,y.2,pp _ _ ey,fy⟩
 |jmp n t=>
  obtain⟨qn,ht,sd,ks,eks,wk⟩:=ok
  obtain⟨a,fa,x',w,ks',ea,eks',wl,wk'⟩:=hf n t sd ht
  rw[eks] at eks';cases eks'
  obtain⟨r,hr⟩:∃r,rs[n]?=some r:=⟨_,ag (sd.1.lt g)⟩
  have er:jL f (.jmp n t)=.jump ((a:Nat):Int):=by show fU.jump (((f n t).getD 0:Nat):Int)=_;rw[fa];rfl
  rw[er] at e1
  rw[<-qn] at hr
  refine⟨_,q,r,e1,e2,hr,ql,(λi z=>by cases z),(λz=>by cases z),λto ht=>g.inr _ _ _ hr ht,rfl,λt' to' n' a1 a2=>?_⟩
  have a1:[((a:Nat):Int)][t']?=some to':=a1
  have a2:[q.1][t']?=some n':=a2
  obtain⟨rfl,rfl⟩:=fZ a1
  obtain⟨_,rfl⟩:=fZ a2
  refine⟨aN _,(n,w),by rw[aB];exact pp _ _ ea,qn.symm,?_,?_⟩
  ·have eb:Dd (.jump ((a:Nat):Int)) q.2 (fW r)=q.2:=by
    unfold Dd
    cases fW r<;>rfl
   rw[eb,ql];exact wl
  ·have eb:Dd (.jump ((a:Nat):Int)) q.2 (fW r)=q.2:=by
    unfold Dd
    cases fW r<;>rfl
   rw[eb];exact Fq (by rw[i5];exact wl) (by rw[i5,ql]) wk' wk
end
theorem Cn{b:dZ}{kss:List (List Str)}{places times:Nat}{L:List XO}{f:Nat->Nat->Option Nat}{x:iP}(g:cG b.rows)(all:ip b.rows kss places times L 0 L.length)(hf:∀n t,ji b.rows n->t<times->∃a,f n t=some a/\zv kss places L n a)
  (h0:L[0]?=some (x,(runJ b.rows b.rows.length 0,dS b.params.reverse places))):fI places b (L.map λx=>jL f x.1) (L.map (·.2)):=by
 refine⟨by rw[aa,aa],λi q e=>?_,⟨_,by rw[aG,h0];rfl,j8 _ _⟩,λm hm=>Ha g all hf (by rw[aa] at hm;exact hm)⟩
 rw[aG] at e
 cases h:L[i]? with
 |none=>rw[h] at e;cases e
 |some y=>
  rw[h] at e
  have e:=Option.some.inj e
  subst e
  exact(all i y.1 y.2 (bQ _) (ae.mp h).1 h).1
theorem MI{b:dZ}{ys us:List Str}{cs:List Nat}{kss:List (List Str)}{places:Nat}(ok:kC ys cs b)(und:∀y,mE [b] y->y∈us)(room:2*us.length+2<=places)(most:places<=100)(hlen:kss.length=b.rows.length)(wit:∀(i:Nat) ks,kss[i]?=some ks->ks.length<=max us.length b.params.length/\∀y∈ks,y∈us\/y∈b.params)
  (kn:tf b.params b.rows kss) (jA:lq us b.params b.rows kss):rY b.rows kss us.length places:=by
 have pin:∀y∈b.params,y∈us:=λy hy=>und y ⟨b,au.mpr rfl,.inl hy⟩
 have pl:=oR ok.pnd pin
 refine⟨hlen,λn ks e=>by have:=(wit n ks e).1;lia,λn r ks sd hr hks y hy=>?_,kn.on,room,most⟩
 obtain⟨kss0,l0,kn0,rd⟩:=ok.known
 have named:∀n,BC b.rows none n->∀ks,kss0[n]?=some ks->∀y∈ks,y∈us:=λn w=>by
  induction w with
  |zero=>exact λks e y hy=>pin y (kn0.zero ks e y hy)
  |@step n m r w hr _ hm ih=>
   intro km em y hy
   obtain⟨kn',en⟩:∃k,kss0[n]?=some k:=⟨_,ag (by rw[l0];exact(ae.mp hr).1)⟩
   rcases kn0.on n m r kn' km hr hm en em y hy with z|z
   ·exact ih kn' en y z
   ·exact und y ⟨b,au.mpr rfl,.inr ⟨r,aD hr,mL.mp z⟩⟩
 obtain⟨k0,e0⟩:∃k,kss0[n]?=some k:=⟨_,ag (by rw[l0];exact(ae.mp hr).1)⟩
 have y0:=rd n r k0 hr e0 y hy
 have inv:∀(i:Nat) k',(kss0.map λks=>ks.filter λy=>decide (y∈us))[i]?=some k'->∃k,kss0[i]?=some k/\k'=k.filter λy=>decide (y∈us):=λi k' e=>by
  rw[aG] at e
  cases h:kss0[i]? with
  |none=>rw[h] at e;cases e
  |some k=>rw[h] at e;exact⟨k,rfl,(Option.some.inj e).symm⟩
 have mf:∀(k:List Str) y,y∈k.filter (λy=>decide (y∈us))↔y∈k/\y∈us:=λk y=>by rw[df,decide_eq_true_eq]
 refine jA (kss0.map λks=>ks.filter λy=>decide (y∈us)) (by rw[aa,l0]) (λi k' e y hy=>?_) ⟨λk' e y hy=>?_,λn m r k1 k2 hr hm e1 e2 y hy=>?_⟩ n ks (k0.filter λy=>decide (y∈us)) hks (by rw[aG,e0];rfl) y ((mf _ _).mpr ⟨y0,named n sd.1 k0 e0 y y0⟩)
 ·obtain⟨k,_,rfl⟩:=inv i k' e
  exact((mf _ _).mp hy).2
 ·obtain⟨k,ek,rfl⟩:=inv 0 k' e
  exact kn0.zero k ek y ((mf _ _).mp hy).1
 ·obtain⟨a1,ea1,rfl⟩:=inv n k1 e1
  obtain⟨a2,ea2,rfl⟩:=inv m k2 e2
  obtain⟨h1,h2⟩:=(mf _ _).mp hy
  exact(kn0.on n m r a1 a2 hr hm ea1 ea2 y h1).imp (λz=>(mf _ _).mpr ⟨z,h2⟩) id
def tY(n t:Nat):List dm:=[some (.inr "at"),some (.inl ((n:Nat):Int)),some (.inl ((t:Nat):Int))]
theorem IF{n t n' t':Nat}(h:tY n t=tY n' t'):n=n'/\t=t':=by
 unfold tY at h
 injection h with _ h
 injection h with h1 h
 injection h with h2 _
 have h1:=Sum.inl.inj (Option.some.inj h1)
 have h2:=Sum.inl.inj (Option.some.inj h2)
 exact⟨by lia,by lia⟩
structure v7(kvs:List (List dm×V))(f:Nat->Nat->Option Nat):Prop where
 at_:∀n t,fB kvs (tY n t)=(f n t).map λa=>V.int ((a:Nat):Int)
 only:∀k v,fB kvs k=some v->∃n t,k=tY n t
theorem v7.put{kvs:List (List dm×V)}{f:Nat->Nat->Option Nat}(h:v7 kvs f)(n t a:Nat):v7 (gk kvs (tY n t) (.int ((a:Nat):Int))) λn' t'=>if n'=n/\t'=t then some a else f n' t':=by
 refine⟨λn' t'=>?_,λk v e=>?_⟩
 ·rw[Bc]
  by_cases c:n'=n/\t'=t
  ·obtain⟨rfl,rfl⟩:=c
   rw[if_pos rfl,if_pos ⟨rfl,rfl⟩];rfl
  ·rw[if_neg (λz=>c (IF z)),if_neg c];exact h.at_ n' t'
 ·rw[Bc] at e
  by_cases c:k=tY n t
  ·exact⟨n,t,c⟩
  ·rw[if_neg c] at e;exact h.only k v e
def Ic(H:Hp)(kvs:List (List dm×V))(v v':V):Prop:=(((∃i,v=.int i)\/∃s,v=.str s)/\v'=v)\/∃b k,v=.ref b/\H b=some (.tup (k.map kN))/\v'=(fB kvs k).getD v
theorem Ic.mono{H H':Hp}{kvs:List (List dm×V)}{v v':V}(h:Ic H kvs v v')(t:Tp H H'):Ic H' kvs v v':=h.imp id λ⟨b,k,e,hb,e'⟩=>⟨b,k,e,t _ _ hb,e'⟩
theorem NU{K:Fg}{a:Addr}{x y:V}{xs:List V}{H:Hp}{Q:VK}(ha:H a=some (.tup (x::y::xs)))(q:∀p,H p=none->Q (.ref p) (upd H p (.tup (y::xs)))):oY K (.ref a) (some 1) none H Q:=by
 refine .inr (.inr ⟨a,_,rfl,b4.of ha,zK x (by simp),λp np=>?_⟩)
 rw[zL];exact q p np
theorem JO{K:Fg}{σ:St}{H:Hp}{R:VK}{pu d:Addr}{w:Str}{vs vs':List V}{kvs:List (List dm×V)}(h13:σ[13]?=some (some (.ref pu)))(h8:σ[8]?=some (some (.ref d)))(hl:σ.length=15)(hpu:H pu=some (.tup (.str w::vs)))(vne:vs≠[])(vl:vs.length<=10)
  (hd:H d=some (.dT kvs)) (kne:kvs≠[]) (all:aV (Ic H kvs) vs vs') (q:∀p H',H' p=some (.tup (.str w::vs'))->aH H H'->R (.ref p) H') :
  (aX (gC K) (pj (oY K) (aj 13) cY (eI (tC (.int 1)))) (e8 (cI K) (ah (dC [] 1 (fH K (pj (oY K) (aj 13) (eI (tC (.int 1))) cY)) (aK 15) gw (sS (aj 8) (aj 15) (aj 15))) aE))) σ H R:=by
 obtain⟨y,ys,rfl⟩:∃y ys,vs=y::ys:=by cases vs with|nil=>exact absurd rfl vne|cons y ys=>exact⟨y,ys,rfl⟩
 refine⟨_,h13,_,rfl,Hf (c:=1) hpu λp1 H1 h1 s1=>?_⟩
 refine .inr ⟨_,h13,_,rfl,NU (s1 _ _ hpu) λp2 np2=>?_⟩
 have s2:=s1.trans ((aH.refl H1).new (o:=.tup (y::ys)) np2)
 have h2:upd H1 p2 (.tup (y::ys)) p2=some (.tup (y::ys)):=ai
 have h1':=((aH.refl H1).new (o:=.tup (y::ys)) np2) _ _ h1
 show ∃a,_
 generalize upd H1 p2 (.tup (y::ys))=H2 at s2 h2 h1'
 refine⟨p2,rfl,⟨_,b4.of h2⟩,λD nD=>?_⟩
 have tp2:Tp H H2:=.of_same s2
 refine eX (xs:=y::ys) (λi σ' H'=>∃o,σ'=σ++[o]/\H' D=some (.lst (vs'.take i))/\aH H2 H') ⟨none,rfl,ai,(aH.refl H2).new nD⟩ ?_ ?_ ?_
 ·rintro i σ' H' _ ⟨o,_,_,s⟩
  exact b4.of (s _ _ h2)
 ·rintro i x σ' H' hx ⟨o,rfl,hD,s⟩
  obtain⟨x',ex',tr⟩:=all.of_v hx
  have il:i<(y::ys).length:=(ae.mp hx).1
  have hd':=s _ _ (s2 _ _ hd)
  have tr':=tr.mono (tp2.trans (.of_same s))
  have eset:(σ++[o]).set 15 (some x)=σ++[some x]:=by rw[List.set_append_right _ _ (by lia),hl];rfl
  have g8:∀z:Option V,(σ++[z])[8]?=some (some (.ref d)):=λz=>by rw[aS (by lia)];exact h8
  have g15:∀z:Option V,(σ++[z])[15]?=some z:=λz=>by rw[aI (by lia),hl];rfl
  have fin:∃zs,H' D=some (.lst zs)/\zs.length<sizeLine/\∃o,σ++[some x]=σ++[o]/\upd H' D (.lst (zs++[x'])) D=some (.lst (vs'.take (i+1)))/\aH H2 (upd H' D (.lst (zs++[x']))):=
   ⟨_,hD,bO (by rw[aL];lia),_,rfl,by rw[ai,cO ex'],λb o hb=>by rw[aF (ar hb nD)];exact s b o hb⟩
  show pe D gw (sS (aj 8) (aj 15) (aj 15)) _ ((σ++[o]).set 15 (some x)) H'
  rw[eset]
  refine dz ⟨_,g8 _,d,rfl,.inr ⟨_,.inl hd'⟩,_,g15 _,_,g15 _,?_⟩
  rcases tr' with⟨fl,rfl⟩|⟨b,k,rfl,hb,rfl⟩
  ·exact .inr ⟨⟨kvs,kne,hd',fl⟩,fin⟩
  ·exact .inl ⟨_,rV.t hd' hb,fin⟩
 ·rintro σ' H3 ⟨o,_,hD,s3⟩
  have et:vs'.take (y::ys).length=vs':=aT (by rw[all.len];exact ay _)
  rw[et] at hD
  refine⟨D,_,rfl,.inl ⟨bY.of hD,λp4 np4=>?_⟩⟩
  have s4:=(aH.refl H3).new (o:=.tup vs') np4
  have h4:upd H3 p4 (.tup vs') p4=some (.tup vs'):=ai
  refine Ah (s4 _ _ (s3 _ _ h1')) h4 ?_ ?_ λp5 H5 h5 s5=>q p5 H5 h5 ((s2.trans s3).trans (s4.trans s5))
  ·rintro rfl;have:=all.len;simp at this
  ·show 1+vs'.length<=5000
   rw[<-all.len];lia
theorem Ic.int{H:Hp}{kvs:List (List dm×V)}(i:Int):Ic H kvs (.int i) (.int i):=.inl ⟨.inl ⟨i,rfl⟩,rfl⟩
theorem Ic.str{H:Hp}{kvs:List (List dm×V)}(s:Str):Ic H kvs (.str s) (.str s):=.inl ⟨.inr ⟨s,rfl⟩,rfl⟩
theorem Np{H:Hp}{u:V}{x:iP}{kvs:List (List dm×V)}{f:Nat->Nat->Option Nat}(h:nU H u x)(sk:v7 kvs f)(nl:∀i,x≠.land i)(hj:∀n t,x=.jmp n t->∃a,f n t=some a) :
  ∃pu w vs vs',u=.ref pu/\H pu=some (.tup (.str w::vs))/\vs≠[]/\vs.length<=10/\aV (Ic H kvs) vs vs'/\∀p H',H' p=some (.tup (.str w::vs'))->Tp H H'->fu H' (.ref p) (jL f x):=by
 cases x with
 |land i=>exact absurd rfl (nl i)
 |jmp n t=>
  obtain⟨p,a,rfl,h1,h2⟩:=h
  obtain⟨b,e⟩:=hj n t rfl
  refine⟨p,_,[.ref a],[.int ((b:Nat):Int)],rfl,h1,by simp,by simp,aV.cons (.inr ⟨a,tY n t,rfl,h2,?_⟩) .nil,λp' H' hp _=>⟨p',rfl,?_⟩⟩
  ·rw[sk.at_,e];rfl
  ·rw[hp,e];rfl
 |c c=>
  cases c with
  |num z=>obtain⟨p,rfl,h⟩:=h;exact⟨p,_,_,_,rfl,h,by simp,by simp,aV.cons (.int z) .nil,λp' H' hp _=>⟨p',rfl,hp⟩⟩
  |op s i j=>obtain⟨p,rfl,h⟩:=h;exact⟨p,_,_,_,rfl,h,by simp,by simp,aV.cons (.str s) (aV.cons (.int i) (aV.cons (.int j) .nil)),λp' H' hp _=>⟨p',rfl,hp⟩⟩
  |keep i=>obtain⟨p,rfl,h⟩:=h;exact⟨p,_,_,_,rfl,h,by simp,by simp,aV.cons (.int i) .nil,λp' H' hp _=>⟨p',rfl,hp⟩⟩
  |say i=>obtain⟨p,rfl,h⟩:=h;exact⟨p,_,_,_,rfl,h,by simp,by simp,aV.cons (.int i) .nil,λp' H' hp _=>⟨p',rfl,hp⟩⟩
  |jump i=>obtain⟨p,rfl,h⟩:=h;exact⟨p,_,_,_,rfl,h,by simp,by simp,aV.cons (.int i) .nil,λp' H' hp _=>⟨p',rfl,hp⟩⟩
  |test i j=>obtain⟨p,rfl,h⟩:=h;exact⟨p,_,_,_,rfl,h,by simp,by simp,aV.cons (.int i) (aV.cons (.int j) .nil),λp' H' hp _=>⟨p',rfl,hp⟩⟩
  |give i=>obtain⟨p,rfl,h⟩:=h;exact⟨p,_,_,_,rfl,h,by simp,by simp,aV.cons (.int i) .nil,λp' H' hp _=>⟨p',rfl,hp⟩⟩
  |call k as=>
   obtain⟨p,q,rfl,h,hq⟩:=h
   refine⟨p,_,_,[.int k,.ref q],rfl,h,by simp,by simp,aV.cons (.int k) (aV.cons (.inr ⟨q,as.map λi=>some (.inl i),rfl,?_,?_⟩) .nil),λp' H' hp t=>⟨p',q,rfl,hp,t _ _ hq⟩⟩
   ·rw[hq,de];rfl
   ·have:fB kvs (as.map λi=>(some (.inl i):dm))=none:=by
     cases e:fB kvs (as.map λi=>(some (.inl i):dm)) with
     |none=>rfl
     |some v=>
      obtain⟨n,t,z⟩:=sk.only _ v e
      cases as with
      |nil=>cases z
      |cons i r=>
       rw[cg] at z
       injection z with z _
       cases Option.some.inj z
    rw[this];rfl
theorem LH{K:Fg}{H:Hp}{Q:VK}{pt ol d qa ra:Addr}{nm:Str}{params:List Str}{L:List XO}{kvs:List (List dm×V)}{f:Nat->Nat->Option Nat}{s0 t2 t3 s4 s5 s6 s9 s10 s11:Option V}(hpt:H pt=some (.tup [.str nm,.ref qa,.ref ra]))(hqa:H qa=some (.tup (params.map V.str)))
  (ho:kA H ol L) (hL:L.length<=99999) (hd:H d=some (.dT kvs)) (kne:kvs≠[]) (sk:v7 kvs f) (nl:∀(m:Nat) i q,L[m]?≠some (.land i,q)) (hj:∀(m:Nat) n t q,L[m]?=some (.jmp n t,q)->∃a,f n t=some a)
  (q:∀(p cp pp:Addr) (pvs:List V) (H':Hp),H' p=some (.tup [.ref cp,.ref pp])->gS H' (.ref cp) (((params.length:Nat):Int),L.map λx=>jL f x.1)->H' pp=some (.tup pvs)->aV (qg H') pvs (L.map (·.2))->aH H H'->Q (.ref p) H') :
  jW K {nx:=λ_ H'=>Q .non H',rt:=Q} [s0,some (.ref pt),t2,t3,s4,s5,s6,some (.ref ol),some (.ref d),s9,s10,s11,none] H:=by
 obtain⟨outs,hol,hA⟩:=ho
 refine .inl ⟨_,rfl,ol,rfl,⟨_,bY.of hol⟩,λD nD=>?_⟩
 refine fK (xs:=outs) (λi σ' H'=>∃o1 o2 us,σ'=[s0,some (.ref pt),t2,t3,s4,s5,s6,some (.ref ol),some (.ref d),s9,s10,s11,none,o1,o2]/\H' D=some (.lst us)/\aV (fu H') us ((L.take i).map λx=>jL f x.1)/\aH H H') ⟨none,none,[],rfl,ai,.nil,(aH.refl H).new nD⟩ ?_ ?_ ?_
 ·rintro i σ' H' _ ⟨_,_,_,_,_,_,s⟩
  exact bY.of (s _ _ hol)
 ·rintro i v σ' H' hv ⟨o1,o2,us,rfl,hD,hU,s⟩
  obtain⟨⟨x,q0⟩,ex,p0,u,w0,rfl,h0,hu,hw⟩:=hA.of_v hv
  have il:i<outs.length:=(ae.mp hv).1
  have tp:Tp H H':=.of_same s
  obtain⟨pu,w,vs,vs',rfl,hpu,vne,vl,all,mk⟩:=Np (x:=x) (f:=f) (hu.mono tp) sk (λi z=>nl _ i q0 (by rw[ex,z])) (λn t z=>hj _ n t q0 (by rw[ex,z]))
  refine⟨p0,_,rfl,b4.of (s _ _ h0),rfl,_,_,rfl,_,_,rfl,rfl,dz ?_⟩
  refine JO (vs:=vs) (vs':=vs') rfl rfl rfl hpu vne vl (s _ _ hd) kne all λp H2 hp s2=>?_
  have nDp:D≠p:=λz=>by rw[<-z,s2 _ _ hD] at hp;cases hp
  have ulen:us.length=i:=by rw[hU.len,aa,aL,<-hA.len];lia
  have ets:(L.take (i+1)).map (λx=>jL f x.1)=(L.take i).map (λx=>jL f x.1)++[jL f x]:=by rw[cO ex,aC];rfl
  have tD:Tp H' (upd H2 D (.lst (us++[.ref p]))):=Tp.lst (.of_same s2) (s2 _ _ hD)
  refine⟨us,s2 _ _ hD,bO (by rw[ulen];have:=hA.len;lia),_,_,us++[.ref p],rfl,ai,?_,λb o hb=>by rw[aF (ar hb nD)];exact s2 _ _ (s _ _ hb)⟩
  rw[ets]
  refine(hU.imp λ_ _ z=>z.mono tD).snoc (mk p _ (by rw[aF (Ne.symm nDp)];exact hp) tD)
 ·rintro σ' H1 ⟨o1,o2,us,_,hD,hU,s1⟩
  rw[hA.len,cf] at hU
  have nqa:=s1 _ _ hqa
  show nz K _ [s0,some (.ref pt),t2,t3,s4,s5,s6,some (.ref ol),some (.ref d),s9,s10,s11,some (.ref D)] H1
  refine eJ (cz (eJ (cz ⟨_,rfl,cE (s1 _ _ hpt) (by decide) rfl ⟨_,_,rfl,.inr ⟨_,b4.of nqa,rfl⟩,cz ⟨_,rfl,D,us,rfl,.inl ⟨bY.of hD,λp2 np2=>⟨(by show 2<=sizeLine;decide),λp3 np3=>?_⟩⟩⟩⟩⟩)))
  have s2:=s1.trans ((aH.refl H1).new (o:=.tup us) np2)
  have h2:upd H1 p2 (.tup us) p2=some (.tup us):=ai
  have hU2:aV (fu (upd H1 p2 (.tup us))) us (L.map λx=>jL f x.1):=hU.imp λ_ _ z=>z.mono (.of_same ((aH.refl H1).new np2))
  have np3':upd H1 p2 (.tup us) p3=none:=np3
  show(ah (e8 (cI K) (ah (dC [] 2 (fH K (aj 7)) (nW K 2 (eF (aK 13) (eF (aK 14) mP))) gw (aj 14)) aE)) aE) _ (upd (upd H1 p2 (.tup us)) p3 (.tup [.int ((params.map V.str).length:Nat),.ref p2])) _
  generalize upd H1 p2 (.tup us)=H2 at s2 h2 hU2 np3'
  have s3:=s2.trans ((aH.refl H2).new (o:=.tup [.int ((params.map V.str).length:Nat),.ref p2]) np3')
  have h3:upd H2 p3 (.tup [V.int ((params.map V.str).length:Nat),.ref p2]) p3=some (.tup [V.int ((params.map V.str).length:Nat),.ref p2]):=ai
  have h2':=((aH.refl H2).new (o:=.tup [.int ((params.map V.str).length:Nat),.ref p2]) np3') _ _ h2
  have hU3:aV (fu (upd H2 p3 (.tup [V.int ((params.map V.str).length:Nat),.ref p2]))) us (L.map λx=>jL f x.1):=hU2.imp λ_ _ z=>z.mono (.of_same ((aH.refl H2).new np3'))
  generalize upd H2 p3 (.tup [V.int ((params.map V.str).length:Nat),.ref p2])=H3 at s3 h3 h2' hU3
  rw[aa] at h3
  refine cz (.inl ⟨_,rfl,ol,rfl,⟨_,bY.of (s3 _ _ hol)⟩,λD2 nD2=>?_⟩)
  refine fK (xs:=outs) (λi σ' H'=>∃o1 o2 us,σ'=[s0,some (.ref pt),t2,t3,s4,s5,s6,some (.ref ol),some (.ref d),s9,s10,s11,some (.ref D),o1,o2]/\H' D2=some (.lst us)/\aV (qg H') us ((L.take i).map (·.2))/\aH H3 H') ⟨none,none,[],rfl,ai,.nil,(aH.refl H3).new nD2⟩ ?_ ?_ ?_
  ·rintro i σ' H' _ ⟨_,_,_,_,_,_,s⟩
   exact bY.of (s _ _ (s3 _ _ hol))
  ·rintro i v σ' H' hv ⟨o1,o2,us,rfl,hD2,hU,s⟩
   obtain⟨⟨x,q0⟩,ex,p0,u,w0,rfl,h0,hu,hw⟩:=hA.of_v hv
   have il:i<outs.length:=(ae.mp hv).1
   have tp:Tp H H':=.of_same (s3.trans s)
   refine⟨p0,_,rfl,b4.of (tp _ _ h0),rfl,_,_,rfl,_,_,rfl,rfl,dz ⟨_,rfl,?_⟩⟩
   have ulen:us.length=i:=by rw[hU.len,aa,aL,<-hA.len];lia
   have ets:(L.take (i+1)).map (·.2)=(L.take i).map (·.2)++[q0]:=by rw[cO ex,aC];rfl
   have tD:Tp H' (upd H' D2 (.lst (us++[w0]))):=Tp.lst (.refl H') hD2
   refine⟨us,hD2,bO (by rw[ulen];have:=hA.len;lia),_,_,us++[w0],rfl,ai,?_,λb o hb=>by rw[aF (ar hb nD2)];exact s _ _ hb⟩
   rw[ets]
   exact(hU.imp λ_ _ z=>z.mono tD).snoc ((hw.mono tp).mono tD)
  ·rintro σ' H4 ⟨o1,o2,pvs,_,hD2,hP,s4'⟩
   rw[hA.len,cf] at hP
   refine⟨D2,pvs,rfl,.inl ⟨bY.of hD2,λp5 np5=>⟨(by show 2<=sizeLine;decide),λp6 np6=>?_⟩⟩⟩
   have s5':=(aH.refl H4).new (o:=.tup pvs) np5
   have h5:upd H4 p5 (.tup pvs) p5=some (.tup pvs):=ai
   have np6':upd H4 p5 (.tup pvs) p6=none:=np6
   show Q (.ref p6) (upd (upd H4 p5 (.tup pvs)) p6 (.tup [.ref p3,.ref p5]))
   generalize upd H4 p5 (.tup pvs)=H5 at s5' h5 np6'
   have s6':=s5'.trans ((aH.refl H5).new (o:=.tup [.ref p3,.ref p5]) np6')
   have s36:=s4'.trans s6'
   refine q p6 p3 p5 pvs _ ai ⟨p3,p2,us,rfl,s36 _ _ h3,s36 _ _ h2',hU3.imp λ_ _ z=>z.mono (.of_same s36)⟩ (((aH.refl H5).new np6') _ _ h5) (hP.imp λ_ _ z=>z.mono (.of_same s6')) (s3.trans s36)
theorem GQ(kvs:List (List dm×V))(k:List dm)(v:V):(gk kvs k v).length<=kvs.length+1/\gk kvs k v≠[]:=by
 unfold gk
 split
 ·rename_i h
  refine⟨by rw[aa];lia,λz=>?_⟩
  rw[iU] at z
  rw[z] at h;cases h
 ·exact⟨by rw[aq];exact ay _,by simp⟩
theorem LP{ns:List Nat}(pw:ns.Pairwise (·<·)){i j n:Nat}(hi:ns[i]?=some n)(hj:ns[j]?=some n):i=j:=by
 obtain⟨il,ei⟩:=ae.mp hi
 obtain⟨jl,ej⟩:=ae.mp hj
 rw[List.pairwise_iff_getElem] at pw
 rcases Nat.lt_trichotomy i j with c|c|c
 ·have:=pw i j il jl c;lia
 ·exact c
 ·have:=pw j i jl il c;lia
structure oG(ns:List Nat)(f:Nat->Nat->Option Nat)(j:Nat):Prop where
 i1:∀(i n:Nat),ns[i]?=some n->i<j->∃a,f n 0=some a
 i2:∀(i n:Nat),ns[i]?=some n->j<=i->f n 0=none
 i3:∀(i n:Nat),ns[i]?=some n->i+ns.length<j->∃a,f n 1=some a
theorem oG.lo{ns:List Nat}{f:Nat->Nat->Option Nat}{j n a:Nat}(h:oG ns f j)(pw:ns.Pairwise (·<·))(e:ns[j]?=some n):oG ns (λn' t'=>if n'=n/\t'=0 then some a else f n' t') (j+1):=by
 have jl:=(ae.mp e).1
 refine⟨λi m em hi=>?_,λi m em hi=>?_,λi m em hi=>by lia⟩
 ·by_cases c:m=n
  ·exact⟨a,by simp only[c,and_self,if_true]⟩
  ·have ij:i≠j:=λz=>by
    rw[z,e] at em
    exact absurd (Option.some.inj em).symm c
   obtain⟨b,hb⟩:=h.i1 i m em (by lia)
   exact⟨b,by simp only[c,false_and,if_false];exact hb⟩
 ·have c:m≠n:=λz=>by rw[z] at em;have:=LP pw em e;lia
  simp only[c,false_and,if_false]
  exact h.i2 i m em (by lia)
theorem oG.hi{ns:List Nat}{f:Nat->Nat->Option Nat}{j n a:Nat}(h:oG ns f j)(hj:ns.length<=j)(e:ns[j-ns.length]?=some n):oG ns (λn' t'=>if n'=n/\t'=1 then some a else f n' t') (j+1):=by
 have jl:=(ae.mp e).1
 refine⟨λi m em hi=>?_,λi m em hi=>?_,λi m em hi=>?_⟩
 ·obtain⟨b,hb⟩:=h.i1 i m em (by have:=(ae.mp em).1;lia)
  refine⟨b,?_⟩
  have:¬(m=n/\(0:Nat)=1):=λz=>absurd z.2 (by decide)
  simp only[this,if_false];exact hb
 ·have:=(ae.mp em).1;lia
 ·by_cases c:m=n
  ·exact⟨a,by simp only[c,and_self,if_true]⟩
  ·have ij:i≠j-ns.length:=λz=>by
    rw[z,e] at em
    exact absurd (Option.some.inj em).symm c
   obtain⟨b,hb⟩:=h.i3 i m em (by lia)
   exact⟨b,by simp only[c,false_and,if_false];exact hb⟩
structure vU(K:Fg)(H:Hp)(st ol d kl it:Addr)(rs:List bu)(kss:List (List Str))(refs xs:List V)(N places times k1:Nat)(ns:List Nat)(L0:List XO)(j:Nat)(H':Hp)(k':Nat)(L:List XO)(f:Nat->Nat->Option Nat)(kvs:List (List dm×V)):Prop where
 s:gc K H' st k'
 kle:k'<=k1+20*j
 o:kA H' ol L
 ol_:L.length<=L0.length+(2*N+4)*j
 all:ip rs kss places times L 0 L.length
 pre:∃T,L=L0++T
 hd:H' d=some (.dT kvs)
 kl_:kvs.length<=j
 kne:0<j->kvs≠[]
 sk:v7 kvs f
 ok:∀n t a,f n t=some a->zv kss places L n a
 si:oG ns f j
 hk:H' kl=some (.lst refs)
 tk:aV (j6 H') refs kss
 it_:H' it=some (.lst xs)
 b:eg st H H'
theorem EO{K:Fg}{H:Hp}{st ol d kl it ra pt:Addr}{rvs:List V}{rs:List bu}{kss:List (List Str)}{refs xs:List V}{N places times k1 j n tt:Nat}{ns:List Nat}{L0 L:List XO}{H':Hp}{k':Nat}{f:Nat->Nat->Option Nat}{kvs:List (List dm×V)}{s1 s2 s6 s9 o11 s12:Option V}{D:jB}
  (hra:H ra=some (.tup rvs)) (hrows:aV (c8 H) rvs rs) (g:cG rs) (rl:∀r∈rs,(bR r).length<=10) (kn:rY rs kss N places) (nso:st≠ol) (nk1:kl≠st) (nk2:kl≠ol) (ni1:it≠st) (ni2:it≠ol) (S0:∃ys,H st=some (.lst ys)) (nol:H ol=none) (nd:H d=none) (t1:1<=times) (t2:times<=2)
  (k6:k1<=650000) (l0:L0.length<=200) (j128:j<=128) (sd:ji rs n) (w:vU K H st ol d kl it rs kss refs xs N places times k1 ns L0 j H' k' L f kvs)
  (htt:tt=(if(f n 0).isSome then 1 else 0)) (hsi:∀a,oG ns (λn' t'=>if n'=n/\t'=tt then some a else f n' t') (j+1))
  (q:∀H2 k2 L2 f2 kvs2,vU K H st ol d kl it rs kss refs xs N places times k1 ns L0 (j+1) H2 k2 L2 f2 kvs2->D.nx [some (.ref st),s1,s2,some (.int (places:Nat)),some (.ref ra),some (.ref kl),s6,some (.ref ol),some (.ref d),s9,some (.int (times:Nat)),some (.int (n:Nat)),s12] H2) :
  nB K D [some (.ref st),s1,s2,some (.int (places:Nat)),some (.ref ra),some (.ref kl),s6,some (.ref ol),some (.ref d),s9,some (.int (times:Nat)),some (.int (n:Nat)),s12] H':=by
 have hol:=w.o
 obtain⟨outs,hol,hAo⟩:=hol
 have most:=kn.most
 have room:=kn.room
 have Ll:L.length<=200+102*j:=by
  have h1:=w.ol_
  have h2:(2*N+4)*j<=102*j:=Nat.mul_le_mul_right _ (by lia)
  lia
 refine zz ⟨_,rfl,_,_,rfl,.inl ⟨_,bY.of hol,rfl⟩,_,rfl,eJ (xU (xV rfl (cz ⟨_,rfl,(by show 3<=sizeLine;decide),λp1 np1=>?_⟩)))⟩
 have s1':=(aH.refl H').new (o:=.tup [.str "at",.int (n:Nat),.int 0]) np1
 have h1:upd H' p1 (.tup [V.str "at",.int (n:Nat),.int 0]) p1=some (.tup ((tY n 0).map kN)):=ai
 show ∃v,_
 generalize upd H' p1 (.tup [V.str "at",.int (n:Nat),.int 0])=H1 at s1' h1
 have hd1:=s1' _ _ w.hd
 refine⟨_,rfl,d,_,rfl,rV.t hd1 h1,.inr ⟨_,rfl,(by show 3<=sizeLine;decide),λp2 np2=>?_⟩⟩
 have eb:(fB kvs (tY n 0)).isSome=(f n 0).isSome:=by rw[w.sk.at_,gP]
 have et:V.int (if(if false=true then !(fB kvs (tY n 0)).isSome else(fB kvs (tY n 0)).isSome)=true then 1 else 0)=.int ((tt:Nat):Int):=by
  rw[htt,eb]
  cases(f n 0).isSome<;>rfl
 show DA (.ref d) (.ref p2) (.int (outs.length:Nat)) (upd H1 p2 (.tup [.str "at",.int (n:Nat),V.int (if(if false=true then !(fB kvs (tY n 0)).isSome else(fB kvs (tY n 0)).isSome)=true then 1 else 0)])) _
 rw[et]
 have np2':H1 p2=none:=np2
 have s2':=s1'.trans ((aH.refl H1).new (o:=.tup [.str "at",.int (n:Nat),.int (tt:Nat)]) np2')
 have h2:upd H1 p2 (.tup [V.str "at",.int (n:Nat),.int (tt:Nat)]) p2=some (.tup ((tY n tt).map kN)):=ai
 generalize upd H1 p2 (.tup [V.str "at",.int (n:Nat),.int (tt:Nat)])=H2 at s2' h2
 have hd2:=s2' _ _ w.hd
 refine⟨d,_,rfl,zb.t hd2 h2 (bO (by have:=w.kl_;lia)),?_⟩
 rw[hAo.len]
 have B3:eg d H2 (upd H2 d (.dT (gk kvs (tY n tt) (.int ((L.length:Nat):Int))))):=λb o nb e=>by rw[aF nb];exact e
 have hd3:upd H2 d (.dT (gk kvs (tY n tt) (.int ((L.length:Nat):Int)))) d=some (.dT (gk kvs (tY n tt) (.int ((L.length:Nat):Int)))):=ai
 have tp3:Tp H2 (upd H2 d (.dT (gk kvs (tY n tt) (.int ((L.length:Nat):Int))))):=λb ys e=>B3 b _ (by rintro rfl;rw[hd2] at e;cases e) e
 show nA K D _ (upd H2 d (.dT (gk kvs (tY n tt) (.int ((L.length:Nat):Int)))))
 generalize upd H2 d (.dT (gk kvs (tY n tt) (.int ((L.length:Nat):Int))))=H3 at B3 hd3 tp3
 have tp:Tp H' H3:=(Tp.of_same s2').trans tp3
 have nds:st≠d:=by obtain⟨ys,e⟩:=S0;exact ar e nd
 have ndo:ol≠d:=λz=>by rw[z,w.hd] at hol;cases hol
 have S3:gc K H3 st k':=by
  obtain⟨scr,ns',c,e,q',l⟩:=w.s.same s2'
  refine⟨scr,ns',c,B3 _ _ nds e,q'.mono λp o u e=>B3 _ _ ?_ e,l⟩
  rintro rfl;rw[hd2] at e;cases e
 have hol3:=B3 _ _ ndo (s2' _ _ hol)
 have O3:kA H3 ol L:=⟨outs,hol3,hAo.imp λ_ _ z=>z.mono tp⟩
 have ndk:kl≠d:=λz=>by have:=w.hk;rw[z,w.hd] at this;cases this
 have ndi:it≠d:=λz=>by have:=w.it_;rw[z,w.hd] at this;cases this
 have hk3:=B3 _ _ ndk (s2' _ _ w.hk)
 have it3:=B3 _ _ ndi (s2' _ _ w.it_)
 have b3:eg st H H3:=λb o nb e=>B3 _ _ (ar e nd) (s2' _ _ (w.b b o nb e))
 have tk3:aV (j6 H3) refs kss:=w.tk.imp λ_ _ z=>z.mono tp
 have nra:ra≠st:=by obtain⟨ys,e⟩:=S0;rintro rfl;rw[hra] at e;cases e
 have tpH:Tp H H3:=λb ys e=>b3 b _ (by obtain⟨zs,e'⟩:=S0;rintro rfl;rw[e] at e';cases e') e
 have kle:=w.kle
 refine⟨_,rfl,_,rfl,_,rfl,_,rfl,_,rfl,_,rfl,_,rfl,st,ol,ra,kl,n,places,times,N,k',L,rvs,refs,rs,kss,rfl,S3,by lia,O3,by lia,nso,tpH _ _ hra,hrows.imp λ_ _ z=>z.mono tpH,g,rl,sd,hk3,nk1,nk2,tk3,kn,t1,t2,λblk k4 H4 bi O4 S4 k4l B4=>?_⟩
 obtain⟨ba,x0,w0,ks0,e0,e1,e2,e3⟩:=Ii g kn L blk sd bi
 obtain⟨bl1,bl2⟩:=Ij kn bi
 obtain⟨pl1,pl2⟩:=GQ kvs (tY n tt) (.int ((L.length:Nat):Int))
 have nd4:d≠st/\d≠ol:=⟨Ne.symm nds,Ne.symm ndo⟩
 have tp4:Tp H3 H4:=λb ys e=>B4 b _ (λz=>by obtain⟨zs,e'⟩:=S3.lst;rw[z,e'] at e;cases e) (λz=>by rw[z,hol3] at e;cases e) e
 refine q H4 k4 (L++blk) (λn' t'=>if n'=n/\t'=tt then some L.length else f n' t') (gk kvs (tY n tt) (.int ((L.length:Nat):Int))) ⟨S4,by lia,O4,?_,?_,?_,B4 _ _ nd4.1 nd4.2 hd3,?_,λ_=>pl2,w.sk.put n tt L.length,λn' t' a ha=>?_,hsi L.length,B4 _ _ nk1 nk2 hk3,tk3.imp λ_ _ z=>z.mono tp4,B4 _ _ ni1 ni2 it3,λb o nb e=>B4 _ _ nb (ar e nol) (b3 b o nb e)⟩
 ·have:=w.ol_
  rw[aq,Nat.mul_add,Nat.mul_one];lia
 ·rw[aq]
  exact(w.all.more blk).join ba
 ·obtain⟨T,eT⟩:=w.pre
  exact⟨T++blk,by rw[eT,bj]⟩
 ·have:=w.kl_;lia
 ·by_cases c:n'=n/\t'=tt
  ·have ha:(if n'=n/\t'=tt then some L.length else f n' t')=some a:=ha
   rw[if_pos c] at ha
   cases ha
   rw[c.1]
   exact⟨x0,w0,ks0,by rw[aI (ay _),dw];exact e0,e1,e2,e3⟩
  ·have ha:(if n'=n/\t'=tt then some L.length else f n' t')=some a:=ha
   rw[if_neg c] at ha
   exact(w.ok n' t' a ha).more blk
theorem G6(ns:List Nat)(k:Nat):(ax k (bG ns)).flatten=bG (ax k ns).flatten:=by
 unfold bG
 rw[List.map_flatten,jc]
theorem L1{ns:List Nat}{times j n:Nat}(t1:1<=times)(t2:times<=2)(h:(ax times ns).flatten[j]?=some n):(j<ns.length/\ns[j]?=some n)\/(ns.length<=j/\ns[j-ns.length]?=some n):=by
 have e:times=1\/times=2:=by lia
 by_cases c:j<ns.length
 ·refine .inl ⟨c,?_⟩
  rcases e with rfl|rfl
  ·simpa using h
  ·have h:(ns++(ns++[]))[j]?=some n:=h
   rw[aS c] at h;exact h
 ·refine .inr ⟨by lia,?_⟩
  rcases e with rfl|rfl
  ·have h:(ns++[])[j]?=some n:=h
   rw[bU] at h
   exact absurd (ae.mp h).1 c
  ·have h:(ns++(ns++[]))[j]?=some n:=h
   rw[aI (by lia),bU] at h;exact h
theorem qy{ys:List Str}{cs:List Nat}{b:dZ}(ok:kC ys cs b)(c4:∀c∈cs,c<=4):∀r∈b.rows,(bR r).length<=10:=λr hr=>by
 have ro:=ok.rows r hr
 cases r with
 |call x k as=>have:=c4 _ (aD ro.2.1);show as.length<=10;lia
 |_=>simp[bR]
theorem Ao{K:Fg}{vs:List V}{H:Hp}{Q:VK}{E:XK}(h:kW K vs H Q E):rD K {nx:=λ_ H'=>Q .non H',rt:=Q} (cC iF vs) H:=by
 obtain⟨st,nm,v,places,k,us,ys,cs,b,rfl,S,k6,hpart,ok,c4,hnm,nns,und,unamed,room,most,q⟩:=h
 obtain⟨pt,qa,ra,rvs,rfl,hpt,hqa,hra,hrows⟩:=hpart
 have g:=ok.good
 have rl10:=qy ok c4
 have pin:∀y∈b.params,y∈us:=λy hy=>unamed y ⟨b,au.mpr rfl,.inl hy⟩
 have ppl:=oR ok.pnd pin
 have gf:=g.few
 have gp:=g.pos
 refine⟨_,rfl,cE hpt (by decide) rfl ?_⟩
 show mz K _ [some (.ref st),some (.ref pt),some (.ref nm),some (.int (places:Nat)),some (.ref ra),none,none,none,none,none,none,none,none] H
 refine .inl ⟨_,rfl,_,rfl,_,rfl,cE hpt (by decide) rfl ⟨ra,nm,qa,rvs,b.rows,us,b.params,rfl,.inr hra,hrows,gp,by lia,g.inr,hnm,by lia,.inr hqa,by lia,λkl0 refs0 kss H1 nkl0 hkl0 hall0 hlen wit kn jA s1=>⟨kl0,rfl,⟨_,bY.of hkl0⟩,λkl nkl=>?_⟩⟩⟩
 have kok:=MI ok unamed room most hlen wit kn jA
 refine fK (xs:=refs0) (λi σ' H'=>∃o us',σ'=[some (.ref st),some (.ref pt),some (.ref nm),some (.int (places:Nat)),some (.ref ra),none,none,none,none,none,none,none,none,o]/\H' kl=some (.lst us')/\aV (j6 H') us' (kss.take i)/\aH H1 H') ⟨none,[],rfl,ai,.nil,(aH.refl H1).new nkl⟩ ?_ ?_ ?_
 ·rintro i σ' H' _ ⟨_,_,_,_,_,s⟩
  exact bY.of (s _ _ hkl0)
 ·rintro i x σ' H' hx ⟨o,us',rfl,hk,hA,s⟩
  obtain⟨ks,eks,a,rfl,ha⟩:=hall0.of_v hx
  have il:i<kss.length:=(ae.mp eks).1
  refine dz ⟨_,rfl,a,_,rfl,.inl ⟨bY.of (s _ _ ha),λp np=>?_⟩⟩
  have ulen:us'.length=i:=by rw[hA.len,aL];lia
  have s2:=(aH.refl H').new (o:=.tup (ks.map V.str)) np
  have hp:upd H' p (.tup (ks.map V.str)) p=some (.tup (ks.map V.str)):=ai
  have npk:kl≠p:=ar hk np
  have tD:Tp H' (upd (upd H' p (.tup (ks.map V.str))) kl (.lst (us'++[.ref p]))):=Tp.lst (.of_same s2) (s2 _ _ hk)
  refine⟨us',s2 _ _ hk,bO (by lia),_,us'++[.ref p],rfl,ai,?_,λb o hb=>by rw[aF (ar hb nkl)];exact s2 _ _ (s _ _ hb)⟩
  rw[cO eks]
  exact(hA.imp λ_ _ z=>z.mono tD).snoc ⟨p,rfl,by rw[aF (Ne.symm npk)];exact hp⟩
 rintro σ' H2 ⟨o,refs,_,hkl,hAk,s2⟩
 have et:kss.take refs0.length=kss:=aT (by rw[hall0.len];exact ay _)
 rw[et] at hAk
 have s02:=s1.trans s2
 have nkl':H kl=none:=by
  cases e:H kl with
  |none=>rfl
  |some o=>rw[s1 _ _ e] at nkl;cases nkl
 show my K _ [some (.ref st),some (.ref pt),some (.ref nm),some (.int (places:Nat)),some (.ref ra),some (.ref kl),none,none,none,none,none,none,none] H2
 refine⟨_,rfl,cE (s02 _ _ hpt) (by decide) rfl ⟨qa,_,rfl,b4.of (s02 _ _ hqa),λp3 np3=>⟨(by show 1<=sizeLine;decide),λp4 np4=>⟨_,rfl,?_⟩⟩⟩⟩
 have s3:=(aH.refl H2).new (o:=.tup (b.params.map V.str).reverse) np3
 have h3:upd H2 p3 (.tup (b.params.map V.str).reverse) p3=some (.tup (b.params.map V.str).reverse):=ai
 have np4':upd H2 p3 (.tup (b.params.map V.str).reverse) p4=none:=np4
 show fz K (.ref p4) (.int (places:Nat)) (upd (upd H2 p3 (.tup (b.params.map V.str).reverse)) p4 (.tup [.non])) _
 generalize upd H2 p3 (.tup (b.params.map V.str).reverse)=H3 at s3 h3 np4'
 have s4:=(aH.refl H3).new (o:=.tup [.non]) np4'
 have h4:upd H3 p4 (.tup [V.non]) p4=some (.tup [V.non]):=ai
 generalize upd H3 p4 (.tup [V.non])=H4 at s4 h4
 refine Hv h4 (by lia) (by lia) λp5 H5 h5 s5=>?_
 refine Ah ((s4.trans s5) _ _ h3) h5 (λz=>by have:=congrArg ef z;rw[cJ,aU,eS] at this;lia) (by rw[cJ,aU,bJ,aa];lia) λp6 H6 h6 s6=>?_
 refine⟨_,rfl,_,rfl,Hf h6 λp7 H7 h7 s7=>?_⟩
 have h7':H7 p7=some (.tup (dh (dS b.params.reverse places))):=by
  rw[h7]
  unfold dS dh
  rw[cM,aC,de,jZ];rfl
 have s27:aH H2 H7:=(((s3.trans s4).trans s5).trans s6).trans s7
 clear h7 h6 h5 h4 h3
 show mx K _ [some (.ref st),some (.ref pt),some (.ref nm),some (.int (places:Nat)),some (.ref ra),some (.ref kl),some (.ref p7),none,none,none,none,none,none] H7
 refine⟨(by show 0<=sizeLine;decide),λol nol=>?_⟩
 have s8:=(aH.refl H7).new (o:=.lst []) nol
 have h8:upd H7 ol (.lst []) ol=some (.lst []):=ai
 show mw K _ [some (.ref st),some (.ref pt),some (.ref nm),some (.int (places:Nat)),some (.ref ra),some (.ref kl),some (.ref p7),some (.ref ol),none,none,none,none,none] (upd H7 ol (.lst []))
 generalize upd H7 ol (.lst [])=H8 at s8 h8
 refine λd nd=>?_
 have s9:=(aH.refl H8).new (o:=.dT []) nd
 have h9:upd H8 d (.dT []) d=some (.dT []):=ai
 show nJ K _ [some (.ref st),some (.ref pt),some (.ref nm),some (.int (places:Nat)),some (.ref ra),some (.ref kl),some (.ref p7),some (.ref ol),some (.ref d),none,none,none,none] (upd H8 d (.dT []))
 generalize upd H8 d (.dT [])=H9 at s9 h9
 have s29:aH H2 H9:=s27.trans (s8.trans s9)
 have s09:aH H H9:=s02.trans s29
 have nH:∀a,H9 a=none->H a=none:=λa e=>by
  cases z:H a with
  |none=>rfl
  |some o=>rw[s09 _ _ z] at e;cases e
 have noH:H ol=none:=by
  cases z:H ol with
  |none=>rfl
  |some o=>rw[(s02.trans s27) _ _ z] at nol;cases nol
 have ndH:H d=none:=by
  cases z:H d with
  |none=>rfl
  |some o=>rw[(s02.trans (s27.trans s8)) _ _ z] at nd;cases nd
 have hol9:=s9 _ _ h8
 have hkl9:=s29 _ _ hkl
 have hA9:aV (j6 H9) refs kss:=hAk.imp λ_ _ z=>z.mono (.of_same s29)
 have hb9:=(s8.trans s9) _ _ h7'
 have nko:kl≠ol:=λz=>by rw[z] at hkl;rw[s27 _ _ hkl] at nol;cases nol
 obtain⟨sy,hst⟩:=S.lst
 have nso:st≠ol:=ar hst noH
 have nks:kl≠st:=λz=>ar hst nkl' z.symm
 have gp0:(0:Nat)<b.rows.length:=gp
 refine⟨_,rfl,ra,0,rvs,b.rows,rfl,s09 _ _ hra,hrows.imp λ_ _ z=>z.mono (.of_same s09),g,gp0,?_⟩
 have fl:=oZ g b.rows.length gp0
 have sdf:ji b.rows (runJ b.rows b.rows.length 0):=⟨yZ g _ 0 .zero,λr' e=>g.ring 0 gp0 r' e⟩
 obtain⟨km,em⟩:∃km,kss[runJ b.rows b.rows.length 0]?=some km:=⟨_,ag (by rw[hlen];exact fl)⟩
 obtain⟨k0,e0⟩:∃k0,kss[0]?=some k0:=⟨_,ag (by rw[hlen];exact gp0)⟩
 have kml:=kok.few _ _ em
 have bl:=i5 b.params.reverse places
 have bo:sV (dS b.params.reverse places) km.reverse:=xP _ _ us.length (λy hy=>qh (by rw[bJ];exact ppl) (by lia) (j3.mpr (kn.zero k0 e0 y (kok.run g b.rows.length 0 k0 km gp0 e0 em y (j3.mp hy))))) (by rw[bJ,bl];lia)
 have pr:∀(L:List XO) (f:Nat->Nat->Option Nat) (times:Nat),ip b.rows kss places times L 0 L.length->(∀n t,ji b.rows n->t<times->∃a,f n t=some a/\zv kss places L n a)->(∃T,L=cD kss (runJ b.rows b.rows.length 0) 0 (dS b.params.reverse places)++T)->fI places b (L.map λx=>jL f x.1) (L.map (·.2)):=λL f times all hf ⟨T,eT⟩=>by
  obtain⟨x,ex⟩:=mG kss (runJ b.rows b.rows.length 0) 0 (dS b.params.reverse places) T
  exact Cn (x:=x) g all hf (by rw[eT];exact ex)
 have goE:cD kss (runJ b.rows b.rows.length 0) 0 (dS b.params.reverse places)=qi (runJ b.rows b.rows.length 0) (dS b.params.reverse places) km.reverse++[(.jmp (runJ b.rows b.rows.length 0) 0,(runJ b.rows b.rows.length 0,mO (dS b.params.reverse places) km.reverse))]:=by unfold cD;rw[em];rfl
 have goA:∀times,1<=times->ip b.rows kss places times (cD kss (runJ b.rows b.rows.length 0) 0 (dS b.params.reverse places)) 0 (cD kss (runJ b.rows b.rows.length 0) 0 (dS b.params.reverse places)).length:=λtimes ht=>
  (oN (times:=times) (places:=places) (t:=0) [] [] (by lia) sdf g em bl bo).cast (by rw[bU,fF]) rfl (by simp)
 have goL:(cD kss (runJ b.rows b.rows.length 0) 0 (dS b.params.reverse places)).length<=200:=by rw[goE,aq,gW,bJ];simp only[aR];lia
 generalize cD kss (runJ b.rows b.rows.length 0) 0 (dS b.params.reverse places)=L0 at pr goE goA goL
 generalize runJ b.rows b.rows.length 0=fs at em fl sdf goE
 obtain⟨v,km',v1,v2,ak,rfl,hak⟩:=hA9.get (i:=fs) (by rw[hlen];exact fl)
 rw[em] at v2;cases v2
 generalize dS b.params.reverse places=belt at h7' hb9 bl bo goE
 show nI K _ [some (.ref st),some (.ref pt),some (.ref nm),some (.int (places:Nat)),some (.ref ra),some (.ref kl),some (.ref p7),some (.ref ol),some (.ref d),some (.int (fs:Nat)),none,none,none] H9
 refine⟨_,rfl,_,rfl,_,rfl,_,rfl,_,rfl,jP (bY.of hkl9) (aN _) (by rw[aB];exact v1) ⟨ol,p7,ak,fs,[],belt,km,rfl,⟨[],hol9,.nil⟩,hb9,by lia,by lia,hak,by lia,bQ _,bo,λp10 H10 h10 O10 B10=>?_⟩⟩
 have hb9':eg st H H9:=λa o n e=>s09 _ _ e
 have b10:eg st H H10:=λa o n e=>B10 _ _ (ar e noH) (s09 _ _ e)
 have S10:gc K H10 st k:=(S.same s09).mono B10 hol9 nso
 have nod:d≠ol:=λz=>by rw[z,hol9] at h9;cases h9
 have d10:=B10 _ _ nod h9
 have kl10:=B10 _ _ nko hkl9
 have tp10:Tp H9 H10:=.of_but B10 hol9
 have A10:aV (j6 H10) refs kss:=hA9.imp λ_ _ z=>z.mono tp10
 rw[fF] at O10
 obtain⟨outs10,ho10,hAo10⟩:=O10
 show nG K _ [some (.ref st),some (.ref pt),some (.ref nm),some (.int (places:Nat)),some (.ref ra),some (.ref kl),some (.ref p10),some (.ref ol),some (.ref d),some (.int (fs:Nat)),none,none,none] H10
 refine⟨_,rfl,.inl ⟨rfl,_,bY.of ho10⟩,cz (eJ (cz (eJ (xU (cz ⟨_,rfl,(by show 3<=sizeLine;decide),λp11 np11=>⟨(by show 2<=sizeLine;decide),λp12 np12=>?_⟩⟩)))))⟩
 have s11:=(aH.refl H10).new (o:=.tup [.str "at",.int (fs:Nat),.int 0]) np11
 have h11:upd H10 p11 (.tup [V.str "at",.int (fs:Nat),.int 0]) p11=some (.tup [V.str "at",.int (fs:Nat),.int 0]):=ai
 have np12':upd H10 p11 (.tup [V.str "at",.int (fs:Nat),.int 0]) p12=none:=np12
 show ah (b7 (ah (aj 9) (ah (aj 6) aE))) aE _ (upd (upd H10 p11 (.tup [V.str "at",.int (fs:Nat),.int 0])) p12 (.tup [.str "jump",.ref p11])) _
 generalize upd H10 p11 (.tup [V.str "at",.int (fs:Nat),.int 0])=H11 at s11 h11 np12'
 have s12:=s11.trans ((aH.refl H11).new (o:=.tup [.str "jump",.ref p11]) np12')
 have h12:upd H11 p12 (.tup [V.str "jump",.ref p11]) p12=some (.tup [V.str "jump",.ref p11]):=ai
 have h11':=((aH.refl H11).new (o:=.tup [.str "jump",.ref p11]) np12') _ _ h11
 generalize upd H11 p12 (.tup [V.str "jump",.ref p11])=H12 at s12 h12 h11'
 refine jm [.int (fs:Nat),.ref p10] (λR h=>⟨_,rfl,_,rfl,h⟩) (by show 2<=100;decide) λp13 H13 h13 s13=>?_
 have s1013:=s12.trans s13
 refine zy (.jmp fs 0,(fs,mO belt km.reverse)) ⟨p12,p11,rfl,s13 _ _ h12,s13 _ _ h11'⟩ ⟨p13,p10,rfl,h13,s1013 _ _ h10⟩ (kA.same ⟨outs10,ho10,hAo10⟩ s1013) (by rw[gW,bJ];lia) λH14 O14 B14=>?_
 rw[<-goE] at O14
 have ho13:=s1013 _ _ ho10
 have b14:eg st H H14:=λa o n e=>B14 _ _ (ar e noH) (s1013 _ _ (b10 a o n e))
 have S14:gc K H14 st k:=(S10.same s1013).mono B14 ho13 nso
 have d14:=B14 _ _ nod (s1013 _ _ d10)
 have kl14:=B14 _ _ nko (s1013 _ _ kl10)
 have A14:aV (j6 H14) refs kss:=A10.imp λ_ _ z=>z.mono ((Tp.of_same s1013).trans (.of_but B14 ho13))
 have nrs:ra≠st:=λz=>by rw[z,hst] at hra;cases hra
 have npt:pt≠st:=λz=>by rw[z,hst] at hpt;cases hpt
 have nqs:qa≠st:=λz=>by rw[z,hst] at hqa;cases hqa
 have ra14:=b14 _ _ nrs hra
 clear s1013 s12 s11 s13 h13 h12 h11' h11 hAo10 ho10 ho13 b10 d10 kl10 A10 tp10 S10 h10
 have tpS:∀H',eg st H H'->Tp H H':=λH' B=>.of_but B hst
 have go:∀(times k1:Nat) (H15:Hp),1<=times->times<=2->k1<=k+1->gc K H15 st k1->eg st H14 H15->
   nC K {nx:=λ_ H'=>Q .non H',rt:=Q} [some (.ref st),some (.ref pt),some (.ref nm),some (.int (places:Nat)),some (.ref ra),some (.ref kl),some (.ref p10),some (.ref ol),some (.ref d),some (.int (fs:Nat)),some (.int (times:Nat)),none,none] H15:=by
  intro times k1 H15 t1 t2 k1l S15 B15
  have b15:eg st H H15:=Df b14 B15
  have nds:d≠st:=λz=>ar hst ndH z.symm
  have tp15:Tp H14 H15:=by obtain⟨zs,e⟩:=S14.lst;exact .of_but B15 e
  have d15:=B15 _ _ nds d14
  have kl15:=B15 _ _ nks kl14
  have A15:aV (j6 H15) refs kss:=A14.imp λ_ _ z=>z.mono tp15
  have O15:kA H15 ol L0:=by obtain⟨outs,o1,o2⟩:=O14;exact⟨outs,B15 _ _ (Ne.symm nso) o1,o2.imp λ_ _ z=>z.mono tp15⟩
  refine .inl ⟨_,rfl,ra,rvs,b.rows,rfl,b15 _ _ nrs hra,hrows.imp λ_ _ z=>z.mono (tpS _ b15),g,λl ns H16 mem pw hl nl s16=>?_⟩
  have nsl:ns.length<=64:=by
   have:=ke (n:=b.rows.length) (pw.imp λh=>aZ h) (λm hm=>((mem m).mp hm).1.lt g)
   lia
  refine⟨_,rfl,l,times,_,rfl,rfl,hl,by lia,by lia,?_,λit nit=>?_⟩
  ·rw[aB]
   have:(bG ns).length*times<=64*2:=lR (by unfold bG;rw[aa];exact nsl) t2
   exact bS this (by decide)
  rw[aB,G6]
  have s17:=s16.trans ((aH.refl H16).new (o:=.lst (bG (ax times ns).flatten)) nit)
  have h17:upd H16 it (.lst (bG (ax times ns).flatten)) it=some (.lst (bG (ax times ns).flatten)):=ai
  show ∃a,_
  generalize upd H16 it (.lst (bG (ax times ns).flatten))=H17 at s17 h17
  have il:(ax times ns).flatten.length=times*ns.length:=ym ns times
  have il128:(ax times ns).flatten.length<=128:=by
   rw[il];have:times*ns.length<=2*64:=lR t2 nsl;exact this
  have nist:it≠st:=λz=>by
   obtain⟨zs,e⟩:=S15.lst
   have:=s16 _ _ e
   rw[<-z,nit] at this;cases this
  have nio:it≠ol:=λz=>by
   obtain⟨outs,e,_⟩:=O15
   have:=s16 _ _ e
   rw[<-z,nit] at this;cases this
  have w0:vU K H st ol d kl it b.rows kss refs (bG (ax times ns).flatten) us.length places times k1 ns L0 0 H17 k1 L0 (λ_ _=>none) []:=
   ⟨S15.same s17,by lia,O15.same s17,by lia,goA times t1,⟨[],(bU _).symm⟩,s17 _ _ d15,ay _,λz=>absurd z (dq _),⟨λ_ _=>rfl,λk v e=>by cases e⟩,λn t a e=>(by cases e),⟨λi n e h=>absurd h (dE _),λi n e h=>rfl,λi n e h=>absurd h (dE _)⟩,s17 _ _ kl15,A15.imp λ_ _ z=>z.mono (.of_same s17),h17,fY b15 s17⟩
  refine⟨it,rfl,⟨_,bY.of h17⟩,lW (xs:=bG (ax times ns).flatten) (λj σ' H'=>∃k' L f kvs o11,σ'=[some (.ref st),some (.ref pt),some (.ref nm),some (.int (places:Nat)),some (.ref ra),some (.ref kl),some (.ref p10),some (.ref ol),some (.ref d),some (.int (fs:Nat)),some (.int (times:Nat)),o11,none]/\vU K H st ol d kl it b.rows kss refs (bG (ax times ns).flatten) us.length places times k1 ns L0 j H' k' L f kvs) ⟨k1,L0,_,[],none,rfl,w0⟩ ?_ ?_ ?_⟩
  ·rintro j σ' H' _ ⟨k',L,f,kvs,o11,_,w⟩
   exact bY.of w.it_
  ·rintro j x σ' H' hx ⟨k',L,f,kvs,o11,rfl,w⟩
   obtain⟨n,hn,rfl⟩:=ka hx
   have jl:j<(ax times ns).flatten.length:=(ae.mp hn).1
   have fin:∀tt,tt=(if(f n 0).isSome then 1 else 0)->(∀a,oG ns (λn' t'=>if n'=n/\t'=tt then some a else f n' t') (j+1))->n∈ns->_:=λtt h1 h2 hm=>
    EO (pt:=pt) (o11:=o11) (s1:=some (.ref pt)) (s2:=some (.ref nm)) (s6:=some (.ref p10)) (s9:=some (.int (fs:Nat))) (s12:=none) (D:={nx:=λσ' H'=>∃k' L f kvs o11,σ'=[some (.ref st),some (.ref pt),some (.ref nm),some (.int (places:Nat)),some (.ref ra),some (.ref kl),some (.ref p10),some (.ref ol),some (.ref d),some (.int (fs:Nat)),some (.int (times:Nat)),o11,none]/\vU K H st ol d kl it b.rows kss refs (bG (ax times ns).flatten) us.length places times k1 ns L0 (j+1) H' k' L f kvs,rt:=Q,ct:=λσ' H'=>∃k' L f kvs o11,σ'=[some (.ref st),some (.ref pt),some (.ref nm),some (.int (places:Nat)),some (.ref ra),some (.ref kl),some (.ref p10),some (.ref ol),some (.ref d),some (.int (fs:Nat)),some (.int (times:Nat)),o11,none]/\vU K H st ol d kl it b.rows kss refs (bG (ax times ns).flatten) us.length places times k1 ns L0 (j+1) H' k' L f kvs,bk:=jW K {nx:=λ_ H'=>Q .non H',rt:=Q}}) hra hrows g rl10 kok nso nks nko nist nio ⟨sy,hst⟩ noH ndH t1 t2 (by lia) goL (by lia) ((mem n).mp hm) w h1 h2 λH2 k2 L2 f2 kvs2 w2=>⟨k2,L2,f2,kvs2,_,rfl,w2⟩
   rcases L1 t1 t2 hn with⟨jn,en⟩|⟨jn,en⟩
   ·exact fin 0 (by rw[w.si.i2 j n en (ay _)];rfl) (λa=>w.si.lo pw en) (aD en)
   ·exact fin 1 (by obtain⟨a,ea⟩:=w.si.i1 _ n en (by have:=(ae.mp en).1;lia);rw[ea];rfl) (λa=>w.si.hi jn en) (aD en)
  ·rintro σ' H18 ⟨k',L,f,kvs,o11,rfl,w⟩
   have xl:(bG (ax times ns).flatten).length=times*ns.length:=by unfold bG;rw[aa];exact il
   rw[xl] at w
   have hf:∀n t,ji b.rows n->t<times->∃a,f n t=some a/\zv kss places L n a:=λn t sd ht=>by
    obtain⟨i,hi,ei⟩:=bP.mp ((mem n).mpr sd)
    have ei:ns[i]?=some n:=by rw[ag hi,ei]
    have t12:times=1\/times=2:=by lia
    have:∃a,f n t=some a:=by
     rcases t12 with rfl|rfl
     ·have:t=0:=by lia
      subst this
      exact w.si.i1 i n ei (by lia)
     ·have:t=0\/t=1:=by lia
      rcases this with rfl|rfl
      ·exact w.si.i1 i n ei (by lia)
      ·exact w.si.i3 i n ei (by lia)
    obtain⟨a,ea⟩:=this
    exact⟨a,ea,w.ok n t a ea⟩
   have npos:0<ns.length:=gM ((mem fs).mpr sdf)
   have jpos:0<times*ns.length:=Nat.mul_pos (by lia) npos
   have lB:L.length<=20000:=by
    have h1:=w.ol_
    rw[il] at il128
    have h2:(2*us.length+4)*(times*ns.length)<=102*128:=lR (by lia) il128
    lia
   have kB:k'<=k+3000:=by
    have:=w.kle
    rw[il] at il128
    lia
   refine LH (params:=b.params) (L:=L) (w.b _ _ npt hpt) (w.b _ _ nqs hqa) w.o (by lia) w.hd (w.kne jpos) w.sk (λm i q0 e=>?_) (λm n t q0 e=>?_) λp cp pp pvs H19 hp hc hpp hP s19=>?_
   ·exact(w.all m _ _ (bQ _) (ae.mp e).1 e).2
   ·obtain⟨_,_,ht,sd,_⟩:=w.all m _ _ (bQ _) (ae.mp e).1 e
    obtain⟨a,ea,_⟩:=hf n t sd ht
    exact⟨a,ea⟩
   ·exact q p cp pp _ pvs _ k' H19 hp hc hpp hP (pr L f times w.all hf w.pre) (by rw[aa];lia) (w.s.same s19) kB (fY w.b s19)
 show nF K _ [some (.ref st),some (.ref pt),some (.ref nm),some (.int (places:Nat)),some (.ref ra),some (.ref kl),some (.ref p10),some (.ref ol),some (.ref d),some (.int (fs:Nat)),none,none,none] H14
 refine⟨_,rfl,_,_,rfl,.inr ⟨_,b4.of ra14,rfl⟩,_,_,rfl,rfl,_,rfl,dn (λc=>?_) (λc=>?_)⟩
 ·refine⟨_,rfl,st,2,k,rfl,S14,by lia,by decide,by decide,λd2 H15 d0 d1 S15 B15=>.inr (.inl ⟨rfl,.inr ⟨_,rfl,.inr (.inl ⟨_,_,rfl,rfl,?_⟩)⟩⟩)⟩
  by_cases e:V.int d2=V.int 1
  ·rw[decide_eq_true e]
   exact go 2 (k+1) H15 (by decide) (by decide) (ay _) S15 B15
  ·rw[decide_eq_false e]
   exact go 1 (k+1) H15 (by decide) (by decide) (ay _) S15 B15
 ·exact .inr ⟨_,rfl,.inr (.inl ⟨_,_,rfl,rfl,go 1 k H14 (by decide) (by decide) (by lia) S14 λ_ _ _ e=>e⟩)⟩
def gB(b:dZ):List Str:=b.params++b.rows.filterMap fW
theorem nX{b:dZ}{y:Str}:y∈gB b↔(y∈b.params\/∃r∈b.rows,fW r=some y):=by
 unfold gB
 rw[a8,fo]
theorem ER{bs:List dZ}{y:Str}:y∈bs.flatMap gB↔mE bs y:=by
 unfold mE
 rw[List.mem_flatMap]
 constructor
 ·rintro⟨b,hb,h⟩;exact⟨b,hb,nX.mp h⟩
 ·rintro⟨b,hb,h⟩;exact⟨b,hb,nX.mpr h⟩
theorem JR{H:Hp}{p:Addr}{r:bu}{x:Str}(h:c8 H (.ref p) r)(e:fW r=some x):∃xs,H p=some (.tup (.str (dD r)::.str x::xs)):=by
 cases r with
 |num y z=>cases e;obtain⟨p',e',h⟩:=h;cases e';exact⟨_,h⟩
 |op y s a b=>cases e;obtain⟨p',e',h⟩:=h;cases e';exact⟨_,h⟩
 |call y k as=>cases e;obtain⟨p',q,e',h,_⟩:=h;cases e';exact⟨_,h⟩
 |jump to=>cases e
 |say a=>cases e
 |test a to=>cases e
 |give a=>cases e
theorem IC(r:bu):fL (.str (dD r)) [V.str "num",V.str "op",V.str "call"]=(fW r).isSome:=by
 cases r with
 |num _ _=>show fL (.str "num") [V.str "num",V.str "op",V.str "call"]=true;decide +kernel
 |op _ _ _ _=>show fL (.str "op") [V.str "num",V.str "op",V.str "call"]=true;decide +kernel
 |call _ _ _=>show fL (.str "call") [V.str "num",V.str "op",V.str "call"]=true;decide +kernel
 |jump to=>show fL (.str "jump") [V.str "num",V.str "op",V.str "call"]=false;decide +kernel
 |say a=>show fL (.str "say") [V.str "num",V.str "op",V.str "call"]=false;decide +kernel
 |test a to=>show fL (.str "test") [V.str "num",V.str "op",V.str "call"]=false;decide +kernel
 |give a=>show fL (.str "give") [V.str "num",V.str "op",V.str "call"]=false;decide +kernel
theorem Ik{K:Fg}{a b:Addr}{xs ys:List V}{H:Hp}{Q:VK}(ha:H a=some (.lst xs))(hb:H b=some (.lst ys))(hl:xs.length+ys.length<=90000)(q:∀(p:Addr) (H':Hp),H p=none->H' p=some (.lst (xs++ys))->aH H H'->Q (.ref p) H'):cZ K (.ref a) (.ref b) H Q:=
 .inr (.inr (.inl ⟨a,b,xs,ys,rfl,rfl,ha,hb,dg (bO (by lia)),λp np=>q p _ np ai ((aH.refl H).new np)⟩))
theorem Cz{K:Fg}{vs:List V}{H:Hp}{Q:VK}{E:XK}(h:jM K vs H Q E):uX K {nx:=λ_ H'=>Q .non H',rt:=Q} (cC ku vs) H:=by
 obtain⟨pg,pvs,bs,rfl,hpg,hB,b10,bok,q⟩:=h
 refine⟨(by show 0<=sizeLine;decide),λl0 nl0=>?_⟩
 have s0:=(aH.refl H).new (o:=.lst []) nl0
 have h0:upd H l0 (.lst []) l0=some (.lst (([]:List Str).map V.str)):=ai
 show pB K _ [some (.ref pg),some (.ref l0),none,none,none] (upd H l0 (.lst []))
 generalize upd H l0 (.lst [])=H0 at s0 h0
 refine .inr ⟨_,rfl,pg,rfl,⟨_,b4.of (s0 _ _ hpg)⟩,kG (xs:=pvs) (λi σ' H'=>∃l o2 o3 o4,σ'=[some (.ref pg),some (.ref l),o2,o3,o4]/\H' l=some (.lst (((bs.take i).flatMap gB).map V.str))/\((bs.take i).flatMap gB).length<=200*i/\aH H H') ⟨l0,none,none,none,rfl,h0,by simp,s0⟩ ?_ ?_ ?_⟩
 ·rintro i σ' H' _ ⟨_,_,_,_,_,_,_,s⟩
  exact b4.of (s _ _ hpg)
 ·rintro i v σ' H' hv ⟨l,o2,o3,o4,rfl,hl,ll,s⟩
  obtain⟨b,eb,p,qa,ra,rvs,rfl,hp,hqa,hra,hrows⟩:=hB.of_v hv
  have il:i<bs.length:=(ae.mp eb).1
  obtain⟨r100,p100⟩:=bok b (aD eb)
  have ets:(bs.take (i+1)).flatMap gB=(bs.take i).flatMap gB++b.params++b.rows.filterMap fW:=by
   rw[cO eb,List.flatMap_append,bj];simp[gB]
  generalize (bs.take i).flatMap gB=zs at hl ll ets
  refine⟨p,_,rfl,b4.of (s _ _ hp),rfl,_,_,rfl,_,_,rfl,_,_,rfl,rfl,?_⟩
  show pA K _ [some (.ref pg),some (.ref l),some (.str b.name),some (.ref qa),some (.ref ra)] H'
  refine⟨_,rfl,_,rfl,qa,_,rfl,.inr (b4.of (s _ _ hqa)),λa na=>?_⟩
  have s1:=(aH.refl H').new (o:=.lst (b.params.map V.str)) na
  have h1:upd H' a (.lst (b.params.map V.str)) a=some (.lst (b.params.map V.str)):=ai
  have hl1:=s1 _ _ hl
  show cZ K (.ref l) (.ref a) (upd H' a (.lst (b.params.map V.str))) _
  generalize upd H' a (.lst (b.params.map V.str))=H1 at s1 h1 hl1
  refine Ik hl1 h1 (by rw[aa,aa];lia) λl2 H2 _ h2 s2=>?_
  have s02:=s.trans (s1.trans s2)
  rw[<-aC] at h2
  refine .inr ⟨_,rfl,ra,rfl,⟨_,b4.of (s02 _ _ hra)⟩,λD nD=>?_⟩
  refine eX (xs:=rvs) (λj σ' H'=>∃o,σ'=[some (.ref pg),some (.ref l),some (.str b.name),some (.ref qa),some (.ref ra),o]/\H' D=some (.lst (((b.rows.take j).filterMap fW).map V.str))/\aH H2 H') ⟨none,rfl,ai,(aH.refl H2).new nD⟩ ?_ ?_ ?_
  ·rintro j σ' H' _ ⟨_,_,_,s⟩
   exact b4.of (s _ _ (s02 _ _ hra))
  ·rintro j v σ' H3 hv ⟨o,rfl,hD,s3⟩
   obtain⟨r,er,hr⟩:=hrows.of_v hv
   obtain⟨rp,rxs,rfl,hrp⟩:=hr.ref
   have jl:j<b.rows.length:=(ae.mp er).1
   have s03:=s02.trans s3
   refine⟨_,rfl,cE (s03 _ _ hrp) (by decide) rfl ⟨(by show 3<=sizeLine;decide),λt nt=>⟨t,_,rfl,.inr (b4.of ai),rfl,rfl,_,rfl,?_⟩⟩⟩
   have s4:=(aH.refl H3).new (o:=.tup [V.str "num",V.str "op",V.str "call"]) nt
   have ets:(b.rows.take (j+1)).filterMap fW=(b.rows.take j).filterMap fW++(fW r).toList:=by rw[cO er,List.filterMap_append];cases h:fW r<;>simp[gj,h]
   have fl:((b.rows.take j).filterMap fW).length<=100:=bS (gm _ _) (by rw[aL];lia)
   have hD4:=s4 _ _ hD
   have s04:=s03.trans s4
   generalize upd H3 t (.tup [V.str "num",V.str "op",V.str "call"])=H4 at s4 hD4 s04
   show if fL (.str (dD r)) [V.str "num",V.str "op",V.str "call"]=true then _ else _
   rw[IC]
   cases e:fW r with
   |none=>
    refine ij ⟨_,rfl,?_,s3.trans s4⟩
    rw[hD4,ets,e];simp
   |some x=>
    obtain⟨xs',hrp'⟩:=JR hr e
    refine qm ⟨_,rfl,cE (s04 _ _ hrp') (by decide) rfl ⟨_,hD4,bO (by rw[aa];lia),_,rfl,?_,λb' o' hb'=>by rw[aF (ar hb' nD)];exact(s3.trans s4) _ _ hb'⟩⟩
    rw[ai,ets,e,aC];rfl
  ·rintro σ' H3 ⟨o,_,hD,s3⟩
   have et:b.rows.take rvs.length=b.rows:=aT (by rw[hrows.len];exact ay _)
   rw[et] at hD
   have fl:(b.rows.filterMap fW).length<=100:=bS (gm _ _) r100
   refine Ik (s3 _ _ h2) hD (by rw[aa,aa,aq];lia) λl4 H4 _ h4 s4=>?_
   refine⟨l4,_,_,_,rfl,?_,?_,s02.trans (s3.trans s4)⟩
   ·rw[h4,ets,aC (l₁:=zs++b.params)]
   ·rw[ets,aq,aq];lia
 ·rintro σ' H1 ⟨l,o2,o3,o4,rfl,hl,ll,s⟩
  have et:bs.take pvs.length=bs:=aT (by rw[hB.len];exact ay _)
  rw[et,hB.len] at ll
  rw[et] at hl
  have nm:∀y,y∈bs.flatMap gB↔mE bs y:=λy=>ER
  have ll:(bs.flatMap gB).length<=2000:=by lia
  generalize bs.flatMap gB=zs at hl nm ll
  show px K _ [some (.ref pg),some (.ref l),o2,o3,o4] H1
  refine⟨_,rfl,_,_,rfl,.inl ⟨_,bY.of hl,rfl⟩,_,rfl,by lia,by rw[aa];lia,λD nD=>?_⟩
  refine kF (λi σ' H'=>∃o us,σ'=[some (.ref pg),some (.ref l),o2,o3,o4,o]/\H' D=some (.lst (us.map V.str))/\us.Nodup/\(∀y:Str,y∈us↔y∈zs.take i)/\us.length<=i/\aH H1 H') ⟨none,[],rfl,ai,List.nodup_nil,λy=>by simp,ay _,(aH.refl H1).new nD⟩ ?_ ?_
  ·rintro i σ' H' hi ⟨o,us,rfl,hD,nd,um,ul,s'⟩
   rw[aB,aa] at hi
   have e0:(0:Int)+(i:Int)=((i:Nat):Int):=by lia
   have hzi:=ag hi
   have hvi:(zs.map V.str)[((i:Nat):Int).toNat]?=some (.str zs[i]):=by rw[aB,aG,hzi];rfl
   rw[e0]
   refine⟨_,rfl,_,rfl,jP (bY.of (s' _ _ hl)) (aN _) hvi ⟨_,rfl,_,rfl,_,rfl,.inl ⟨l,_,rfl,bY.of (s' _ _ hl),λp np=>?_⟩⟩⟩
   rw[gs]
   have s2:=(aH.refl H').new (o:=.lst ((zs.map V.str).take i)) np
   have h2:upd H' p (.lst ((zs.map V.str).take i)) p=some (.lst ((zs.take i).map V.str)):=by rw[ai,cM]
   have hD2:=s2 _ _ hD
   generalize upd H' p (.lst ((zs.map V.str).take i))=H2 at s2 h2 hD2
   refine⟨p,_,rfl,.inl (bY.of h2),rfl,j9 _,_,rfl,?_⟩
   show if(!fL (.str zs[i]) ((zs.take i).map V.str))=true then _ else _
   rw[oP]
   have ts:zs.take (i+1)=zs.take i++[zs[i]]:=cO hzi
   by_cases c:zs[i]∈zs.take i
   ·rw[decide_eq_true c]
    refine ij ⟨_,us,rfl,hD2,nd,λy=>?_,by lia,s'.trans s2⟩
    rw[um,ts,a8,au]
    exact⟨.inl,λh=>h.elim id λz=>by rw[z];exact c⟩
   ·rw[decide_eq_false c]
    refine qm ⟨_,rfl,_,rfl,jP (bY.of ((s'.trans s2) _ _ hl)) (aN _) hvi ⟨_,hD2,bO (by rw[aa];lia),_,us++[zs[i]],rfl,by rw[ai,aC];rfl,?_,λy=>?_,by rw[aq];simp;exact ul,λb' o' hb'=>by rw[aF (ar hb' nD)];exact(s'.trans s2) _ _ hb'⟩⟩
    ·rw[List.nodup_append]
     refine⟨nd,by simp,λa ha b hb z=>?_⟩
     rw[au] at hb
     subst hb z
     exact c ((um _).mp ha)
    ·rw[a8,au,um,ts,a8,au]
  ·rintro σ' H2 ⟨o,us,_,hD,nd,um,ul,s'⟩
   rw[aB,aa,cf] at um
   refine q D us H2 ?_ hD nd (λy=>(um y).trans (nm y)) (s.trans s')
   cases z:H D with
   |none=>rfl
   |some o=>rw[s _ _ z] at nD;cases nD
def My(H:Hp)(rt:Addr)(rs:List bu)(i:Nat):St->Hp->Prop:=λσ' H'=>∃(l:Addr) (o:Option V) (zs:List Str),σ'=[some (.ref rt),some (.ref l),o]/\H l=none/\H' l=some (.lst (zs.map V.str))/\zs.length<=10*i/\(∀r∈rs.take i,∀y∈bR r,y∈zs)/\aH H H'
theorem yA{K:Fg}{vs:List V}{H:Hp}{Q:VK}{E:XK}(h:jU K vs H Q E):pP K {nx:=λ_ H'=>Q .non H',rt:=Q} (cC oF vs) H:=by
 obtain⟨rt,rvs,rs,rfl,hrt,hA,r100,rl,q⟩:=h
 refine⟨(by show 0<=sizeLine;decide),λl0 nl0=>?_⟩
 have s0:=(aH.refl H).new (o:=.lst []) nl0
 have h0:upd H l0 (.lst []) l0=some (.lst (([]:List Str).map V.str)):=ai
 show mB K _ [some (.ref rt),some (.ref l0),none] (upd H l0 (.lst []))
 generalize upd H l0 (.lst [])=H0 at s0 h0
 refine .inr ⟨_,rfl,rt,rfl,⟨_,b4.of (s0 _ _ hrt)⟩,kG (xs:=rvs) (λi=>My H rt rs i) ⟨l0,none,[],rfl,nl0,h0,by simp,λr hr=>by simp at hr,s0⟩ ?_ ?_ ?_⟩
 ·rintro i σ' H' _ ⟨_,_,_,_,_,_,_,_,s⟩
  exact b4.of (s _ _ hrt)
 ·rintro i v σ' H' hv ⟨l,o,zs,rfl,nl,hl,zl,zin,s⟩
  obtain⟨r,er,hr⟩:=hA.of_v hv
  have il:i<rs.length:=(ae.mp er).1
  have rl':=rl r (aD er)
  have ts:rs.take (i+1)=rs.take i++[r]:=cO er
  have mem:∀zs':List Str,(∀y∈zs,y∈zs')->(∀y∈bR r,y∈zs')->∀r'∈rs.take (i+1),∀y∈bR r',y∈zs':=λzs' h1 h2 r' hr' y hy=>by
   rw[ts,a8,au] at hr'
   rcases hr' with z|z
   ·exact h1 y (zin r' z y hy)
   ·subst z;exact h2 y hy
  have fresh:∀{H1:Hp} {p:Addr},aH H H1->H1 p=none->H p=none:=λ{H1 p} s1 np=>by
   cases z:H p with
   |none=>rfl
   |some o=>rw[s1 _ _ z] at np;cases np
  show ie K _ [some (.ref rt),some (.ref l),some v] H'
  have one:∀(p:Addr) (w a:Str) (xs:List V) (A B:TS),H' p=some (.tup (.str w::.str a::xs))->w≠"op"->w≠"call"->fL (.str w) [V.str "say",V.str "test",V.str "give"]=true->bR r=[a]->v=.ref p->
    ie K {nx:=My H rt rs (i+1),rt:=Q,ct:=My H rt rs (i+1),bk:=jz K {nx:=λ_ H'=>Q .non H',rt:=Q}} [some (.ref rt),some (.ref l),some v] H':=by
   rintro p w a xs _ _ hp n1 n2 hin re rfl
   refine⟨_,rfl,cE hp (by decide) rfl (.inl ⟨rfl,_,rfl,gZ n1 ?_⟩)⟩
   refine⟨_,rfl,cE hp (by decide) rfl (.inl ⟨rfl,_,rfl,gZ n2 ?_⟩)⟩
   refine⟨_,rfl,cE hp (by decide) rfl ⟨(by show 3<=sizeLine;decide),λt nt=>⟨t,_,rfl,.inr (b4.of ai),rfl,rfl,_,rfl,?_⟩⟩⟩
   have s1:=(aH.refl H').new (o:=.tup [V.str "say",V.str "test",V.str "give"]) nt
   have hl1:=s1 _ _ hl
   have hp1:=s1 _ _ hp
   show if fL (.str w) [V.str "say",V.str "test",V.str "give"]=true then _ else _
   rw[hin]
   generalize upd H' t (.tup [V.str "say",V.str "test",V.str "give"])=H1 at s1 hl1 hp1
   refine qm ⟨_,rfl,.inl ⟨rfl,_,bY.of hl1⟩,_,rfl,cE hp1 (by decide) rfl ⟨l,_,_,rfl,rfl,hl1,bO (by rw[aa];lia),l,_,zs++[a],rfl,nl,by rw[ai,aC];rfl,by rw[aq];simp;lia,mem _ (λy hy=>bZ _ hy) (λy hy=>by rw[re] at hy;exact bq _ hy),λb o' hb=>by rw[aF (ar hb nl)];exact s1 _ _ (s _ _ hb)⟩⟩
  have none_:∀(p:Addr) (w:Str) (xs:List V),H' p=some (.tup (.str w::xs))->w≠"op"->w≠"call"->fL (.str w) [V.str "say",V.str "test",V.str "give"]=false->bR r=[]->v=.ref p->
    ie K {nx:=My H rt rs (i+1),rt:=Q,ct:=My H rt rs (i+1),bk:=jz K {nx:=λ_ H'=>Q .non H',rt:=Q}} [some (.ref rt),some (.ref l),some v] H':=by
   rintro p w xs hp n1 n2 hin re rfl
   refine⟨_,rfl,cE hp (by decide) rfl (.inl ⟨rfl,_,rfl,gZ n1 ?_⟩)⟩
   refine⟨_,rfl,cE hp (by decide) rfl (.inl ⟨rfl,_,rfl,gZ n2 ?_⟩)⟩
   refine⟨_,rfl,cE hp (by decide) rfl ⟨(by show 3<=sizeLine;decide),λt nt=>⟨t,_,rfl,.inr (b4.of ai),rfl,rfl,_,rfl,?_⟩⟩⟩
   have s1:=(aH.refl H').new (o:=.tup [V.str "say",V.str "test",V.str "give"]) nt
   show if fL (.str w) [V.str "say",V.str "test",V.str "give"]=true then _ else _
   rw[hin]
   exact ij ⟨l,_,zs,rfl,nl,s1 _ _ hl,by lia,mem _ (λy hy=>hy) (λy hy=>by rw[re] at hy;cases hy),s.trans s1⟩
  cases r with
  |num x z=>obtain⟨p,rfl,h⟩:=hr;exact none_ p _ _ (s _ _ h) (by decide +kernel) (by decide +kernel) (by decide +kernel) rfl rfl
  |jump to=>obtain⟨p,rfl,h⟩:=hr;exact none_ p _ _ (s _ _ h) (by decide +kernel) (by decide +kernel) (by decide +kernel) rfl rfl
  |say a=>obtain⟨p,rfl,h⟩:=hr;exact one p _ _ _ b5 b5 (s _ _ h) (by decide +kernel) (by decide +kernel) (by decide +kernel) rfl rfl
  |test a to=>obtain⟨p,rfl,h⟩:=hr;exact one p _ _ _ b5 b5 (s _ _ h) (by decide +kernel) (by decide +kernel) (by decide +kernel) rfl rfl
  |give a=>obtain⟨p,rfl,h⟩:=hr;exact one p _ _ _ b5 b5 (s _ _ h) (by decide +kernel) (by decide +kernel) (by decide +kernel) rfl rfl
  |op x sg a b=>
   obtain⟨p,rfl,h⟩:=hr
   have hp:=s _ _ h
   refine⟨_,rfl,cE hp (by decide) rfl (.inl ⟨rfl,_,rfl,qk ?_⟩)⟩
   refine⟨_,rfl,_,rfl,_,rfl,.inr ⟨p,_,rfl,b4.of hp,?_,λt nt=>?_⟩⟩
   ·rintro⟨z,_⟩
    have z:(3:Nat)=0:=z
    cases z
   have s1:=(aH.refl H').new (o:=.tup [.str a,.str b]) nt
   have h1:upd H' t (.tup [V.str a,.str b]) t=some (.tup ([a,b].map V.str)):=ai
   have hl1:=s1 _ _ hl
   rw[show jD [V.str "op",V.str x,V.str sg,V.str a,V.str b] (some 3) none=[V.str a,V.str b] from lV _ 3]
   generalize upd H' t (.tup [V.str a,.str b])=H1 at s1 h1 hl1 ⊢
   refine⟨t,_,rfl,.inr (b4.of h1),λt2 nt2=>?_⟩
   have s2:=s1.trans ((aH.refl H1).new (o:=.lst ([a,b].map V.str)) nt2)
   have hl2:=((aH.refl H1).new (o:=.lst ([a,b].map V.str)) nt2) _ _ hl1
   have h2:upd H1 t2 (.lst ([a,b].map V.str)) t2=some (.lst ([a,b].map V.str)):=ai
   show cZ K (.ref l) (.ref t2) (upd H1 t2 (.lst ([a,b].map V.str))) _
   generalize upd H1 t2 (.lst ([a,b].map V.str))=H2 at s2 hl2 h2
   refine Ik hl2 h2 (by rw[aa,aa];simp;lia) λl3 H3 n3 h3 s3=>?_
   exact⟨l3,_,zs++[a,b],rfl,fresh (s.trans s2) n3,by rw[h3,aC],by rw[aq];simp;lia,mem _ (λy hy=>bZ _ hy) (λy hy=>bq _ hy),s.trans (s2.trans s3)⟩
  |call x k as=>
   obtain⟨p,qa,rfl,h,ha⟩:=hr
   have hp:=s _ _ h
   refine⟨_,rfl,cE hp (by decide) rfl (.inl ⟨rfl,_,rfl,gZ (by decide +kernel) ?_⟩)⟩
   refine⟨_,rfl,cE hp (by decide) rfl (.inl ⟨rfl,_,rfl,qk ?_⟩)⟩
   refine⟨_,rfl,_,rfl,cE hp (by decide) rfl ⟨qa,_,rfl,.inr (b4.of (s _ _ ha)),λt2 nt2=>?_⟩⟩
   have s2:=(aH.refl H').new (o:=.lst (as.map V.str)) nt2
   have hl2:=s2 _ _ hl
   have h2:upd H' t2 (.lst (as.map V.str)) t2=some (.lst (as.map V.str)):=ai
   show cZ K (.ref l) (.ref t2) (upd H' t2 (.lst (as.map V.str))) _
   generalize upd H' t2 (.lst (as.map V.str))=H2 at s2 hl2 h2
   have rl'':as.length<=10:=rl'
   refine Ik hl2 h2 (by rw[aa,aa];lia) λl3 H3 n3 h3 s3=>?_
   exact⟨l3,_,zs++as,rfl,fresh (s.trans s2) n3,by rw[h3,aC],by rw[aq];lia,mem _ (λy hy=>bZ _ hy) (λy hy=>bq _ hy),s.trans (s2.trans s3)⟩
 ·rintro σ' H1 ⟨l,o,zs,rfl,nl,hl,zl,zin,s⟩
  have et:rs.take rvs.length=rs:=aT (by rw[hA.len];exact ay _)
  rw[et] at zin
  exact⟨_,rfl,q l zs H1 hl zin s⟩
theorem E8{K:Fg}{vs:List V}{H:Hp}{Q:VK}{E:XK}(h:oi K vs H Q E):xm K {nx:=λ_ H'=>Q .non H',rt:=Q} (cC qd vs) H:=by
 obtain⟨_,ps,x,rfl,⟨pp,pvs,rfl,hpp,hA⟩,pl,ql,q⟩:=h
 refine .inr ⟨_,rfl,pp,rfl,⟨_,b4.of hpp⟩,λD nD=>?_⟩
 refine eX (xs:=pvs) (λi σ' H'=>∃o1 o2 us,σ'=[some (.ref pp),some (.str x),o1,o2]/\H' D=some (.lst us)/\aV (qg H') us ((ps.take i).map (pR x))/\aH H H') ⟨none,none,[],rfl,ai,.nil,(aH.refl H).new nD⟩ ?_ ?_ ?_
 ·rintro i σ' H' _ ⟨_,_,_,_,_,_,s⟩
  exact b4.of (s _ _ hpp)
 ·rintro i v σ' H' hv ⟨o1,o2,us,rfl,hD,hU,s⟩
  obtain⟨⟨n,os⟩,eq,p,a,rfl,hp,ha⟩:=hA.of_v hv
  have il:i<ps.length:=(ae.mp eq).1
  have osl:os.length<=1000:=ql _ (aD eq)
  refine⟨p,_,rfl,b4.of (s _ _ hp),rfl,_,_,rfl,_,_,rfl,rfl,dz (eJ (xV rfl (cz (.inr ⟨_,rfl,a,rfl,⟨_,b4.of (s _ _ ha)⟩,λD2 nD2=>?_⟩))))⟩
  refine eX (xs:=dh os) (λj σ' H2=>∃o,σ'=[some (.ref pp),some (.str x),some (.int (n:Nat)),some (.ref a),o]/\H2 D2=some (.lst (dh ((os.take j).map (cS x))))/\aH H' H2) ⟨none,rfl,ai,(aH.refl H').new nD2⟩ ?_ ?_ ?_
  ·rintro j σ' H2 _ ⟨_,_,_,s2⟩
   exact b4.of (s2 _ _ (s _ _ ha))
  ·rintro j y σ' H2 hy ⟨o,rfl,hD2,s2⟩
   obtain⟨oy,ey,rfl⟩:=qt hy
   have li:(dh ((os.take j).map (cS x))).length<=1000:=by rw[cJ,aa,aL];lia
   refine dz ⟨_,rfl,(by show 2<=sizeLine;decide),λt nt=>⟨_,rfl,_,rfl,.inl ⟨uw oy (some x),.inr ⟨_,rfl,?_⟩⟩⟩⟩
   have s3:=(aH.refl H2).new (o:=.lst [oV oy,.non]) nt
   have h3:upd H2 t (.lst [oV oy,V.non]) t=some (.lst [oV oy,V.non]):=ai
   have hD3:=s3 _ _ hD2
   show cw K (.ref t) (.int (if decide (oV oy=oV (some x))=true then 1 else 0)) (upd H2 t (.lst [oV oy,V.non])) _
   generalize upd H2 t (.lst [oV oy,V.non])=H3 at s3 h3 hD3
   have fin:∀c:V,c=oV (cS x oy)->∃ys,H3 D2=some (.lst ys)/\ys.length<sizeLine/\∃o,[some (.ref pp),some (.str x),some (.int (n:Nat)),some (.ref a),some (oV oy)]=[some (.ref pp),some (.str x),some (.int (n:Nat)),some (.ref a),o]/\upd H3 D2 (.lst (ys++[c])) D2=some (.lst (dh ((os.take (j+1)).map (cS x))))/\aH H' (upd H3 D2 (.lst (ys++[c]))):=by
    rintro c rfl
    refine⟨_,hD3,bO (by lia),_,rfl,?_,λb o hb=>?_⟩
    ·rw[ai,cO ey,aC];unfold dh;rw[aC];rfl
    ·rw[aF (ar hb nD2)];exact s3 _ _ (s2 b o hb)
   by_cases e:oV oy=oV (some x)
   ·rw[decide_eq_true e]
    refine jP (bY.of h3) (by decide) (show([oV oy,V.non]:List V)[1]?=some .non from rfl) (fin _ ?_)
    unfold cS;rw[if_pos (qr e)];rfl
   ·rw[decide_eq_false e]
    refine jP (bY.of h3) (by decide) (show([oV oy,V.non]:List V)[0]?=some (oV oy) from rfl) (fin _ ?_)
    unfold cS;rw[if_neg (λz=>e (by rw[z]))]
  ·rintro σ' H2 ⟨o,_,hD2,s2⟩
   have et:os.take (dh os).length=os:=aT (by rw[cJ];exact ay _)
   rw[et] at hD2
   refine⟨D2,_,rfl,.inl ⟨bY.of hD2,λp3 np3=>⟨(by show 2<=sizeLine;decide),λp4 np4=>?_⟩⟩⟩
   have s3:=s2.trans ((aH.refl H2).new (o:=.tup (dh (os.map (cS x)))) np3)
   have h3:upd H2 p3 (.tup (dh (os.map (cS x)))) p3=some (.tup (dh (os.map (cS x)))):=ai
   have np4':upd H2 p3 (.tup (dh (os.map (cS x)))) p4=none:=np4
   show ∃ys,(upd (upd H2 p3 (.tup (dh (os.map (cS x))))) p4 (.tup [.int (n:Nat),.ref p3])) D=some (.lst ys)/\_
   generalize upd H2 p3 (.tup (dh (os.map (cS x))))=H3 at s3 h3 np4'
   have s4:=s3.trans ((aH.refl H3).new (o:=.tup [.int (n:Nat),.ref p3]) np4')
   have h4:upd H3 p4 (.tup [V.int (n:Nat),.ref p3]) p4=some (.tup [V.int (n:Nat),.ref p3]):=ai
   have h3':=((aH.refl H3).new (o:=.tup [.int (n:Nat),.ref p3]) np4') _ _ h3
   generalize upd H3 p4 (.tup [V.int (n:Nat),.ref p3])=H4 at s4 h4 h3'
   have ulen:us.length=i:=by rw[hU.len,aa,aL];lia
   have n4:p4≠D:=λz=>by rw[z,s4 _ _ hD] at h4;cases h4
   have n3:p3≠D:=λz=>by rw[z,s4 _ _ hD] at h3';cases h3'
   have tD:Tp H' (upd H4 D (.lst (us++[.ref p4]))):=Tp.lst (.of_same s4) (s4 _ _ hD)
   refine⟨us,s4 _ _ hD,bO (by lia),_,_,us++[.ref p4],rfl,ai,?_,λb o hb=>by rw[aF (ar hb nD)];exact s4 _ _ (s _ _ hb)⟩
   rw[cO eq,aC]
   exact(hU.imp λ_ _ z=>z.mono tD).snoc ⟨p4,p3,rfl,by rw[aF n4];exact h4,by rw[aF n3];exact h3'⟩
 ·rintro σ' H1 ⟨o1,o2,us,_,hD,hU,s⟩
  have et:ps.take pvs.length=ps:=aT (by rw[hA.len];exact ay _)
  rw[et] at hU
  exact⟨D,us,rfl,.inl ⟨bY.of hD,λp np=>q _ _ ⟨p,us,rfl,ai,hU.imp λ_ _ z=>z.mono (.of_same ((aH.refl H1).new np))⟩ (s.new np)⟩⟩
abbrev DS(q:List kD)(x:Str):List kD:=q.map (pR x)
theorem A9:∀(xs:List Str) (ps:List kD),(xs.foldl DS ps).length=ps.length
 |[],ps=>rfl
 |x::xs,ps=>by rw[eR,A9 xs];exact aa ..
theorem xt:∀(xs:List Str) (ps:List kD),(∀q∈ps,q.2.length<=1000)->∀q∈xs.foldl DS ps,q.2.length<=1000
 |[],ps,h=>h
 |x::xs,ps,h=>xt xs _ λq hq=>by
  obtain⟨q',hq',rfl⟩:=eV.mp hq
  show(q'.2.map _).length<=1000
  rw[aa];exact h q' hq'
def Oi(H:Hp)(pg pp fl:Addr)(bs:List dZ)(pss:List (List kD))(i:Nat):St->Hp->Prop:=λσ' H'=>∃(o3 o4 o5 o6:Option V) (us:List V) (pss':List (List kD)),σ'=[some (.ref pg),some (.ref pp),some (.ref fl),o3,o4,o5,o6]/\H' fl=some (.lst us)/\aV (iG H') us pss'/\pss'.length=i/\
 (∀(k:Nat) b ps ps',bs[k]?=some b->pss[k]?=some ps->pss'[k]?=some ps'->Ec b ps ps')/\aH H H'
theorem E7{K:Fg}{vs:List V}{H:Hp}{Q:VK}{E:XK}(h:kZ K vs H Q E):xk K {nx:=λ_ H'=>Q .non H',rt:=Q} (cC qc vs) H:=by
 obtain⟨pg,pp,pvs,qvs,bs,pss,rfl,hpg,hB,b10,bok,hpp,hP,pl,pok,q⟩:=h
 refine⟨(by show 0<=sizeLine;decide),λfl nfl=>?_⟩
 have s0:=(aH.refl H).new (o:=.lst []) nfl
 have h0:upd H fl (.lst []) fl=some (.lst []):=ai
 show rR K _ [some (.ref pg),some (.ref pp),some (.ref fl),none,none,none,none] (upd H fl (.lst []))
 generalize upd H fl (.lst [])=H0 at s0 h0
 refine⟨_,rfl,_,rfl,true,true,pg,pp,rfl,⟨_,b4.of (s0 _ _ hpg)⟩,⟨_,b4.of (s0 _ _ hpp)⟩,zR (xs:=pvs) (ys:=qvs) (by rw[hB.len,hP.len,pl];exact ay _) (λi=>Oi H pg pp fl bs pss i) ⟨none,none,none,none,[],[],rfl,h0,.nil,rfl,λk b ps ps' _ _ e=>by simp at e,s0⟩ ?_ ?_ ?_⟩
 ·rintro i σ' H' _ ⟨_,_,_,_,_,_,_,_,_,_,_,s⟩
  exact⟨b4.of (s _ _ hpg),b4.of (s _ _ hpp)⟩
 ·rintro i x y σ' H' p hx hy np ⟨o3,o4,o5,o6,us,pss',rfl,hfl,hU,ul,hth,s⟩
  obtain⟨b,eb,pt,qa,ra,rvs,rfl,hpt,hqa,hra,hrows⟩:=hB.of_v hx
  have hpb:gA H (.ref pt) b:=⟨pt,qa,ra,rvs,rfl,hpt,hqa,hra,hrows⟩
  obtain⟨ps,eps,hps⟩:=hP.of_v hy
  have il:i<bs.length:=(ae.mp eb).1
  obtain⟨r100,p100,rl⟩:=bok b (aD eb)
  obtain⟨psl,psw⟩:=pok ps (aD eps)
  have s1:=s.trans ((aH.refl H').new (o:=.tup [.ref pt,y]) np)
  have hfl1:=((aH.refl H').new (o:=.tup [.ref pt,y]) np) _ _ hfl
  have hU1:aV (iG (upd H' p (.tup [.ref pt,y]))) us pss':=hU.imp λ_ _ z=>z.mono (.of_same ((aH.refl H').new np))
  refine⟨p,_,rfl,b4.of ai,rfl,_,_,rfl,_,_,rfl,rfl,?_⟩
  show rQ K _ [some (.ref pg),some (.ref pp),some (.ref fl),some (.ref pt),some y,o5,o6] (upd H' p (.tup [.ref pt,y]))
  generalize upd H' p (.tup [.ref pt,y])=H1 at s1 hfl1 hU1
  refine .inl ⟨_,rfl,(by show 1<=sizeLine;decide),λt nt=>?_⟩
  have s2:=s1.trans ((aH.refl H1).new (o:=.tup [.ref pt]) nt)
  have hfl2:=((aH.refl H1).new (o:=.tup [.ref pt]) nt) _ _ hfl1
  have h2:upd H1 t (.tup [V.ref pt]) t=some (.tup [V.ref pt]):=ai
  have hU2:aV (iG (upd H1 t (.tup [V.ref pt]))) us pss':=hU1.imp λ_ _ z=>z.mono (.of_same ((aH.refl H1).new nt))
  refine⟨t,[.ref pt],[b],rfl,h2,aV.cons (hpb.mono (.of_same s2)) .nil,by simp,λb' hb'=>by rw[au.mp hb'];exact⟨r100,p100⟩,λl zs H3 nl hl nd zm s3=>?_⟩
  generalize upd H1 t (.tup [V.ref pt])=H2 at s2 hfl2 h2 hU2 nl s3
  have zl:zs.length<=200:=by
   have:=oR nd (zs:=gB b) (λy hy=>by
    obtain⟨b',hb',h⟩:=(zm y).mp hy
    rw[au.mp hb'] at h
    exact nX.mpr h)
   have l2:(gB b).length<=200:=by
    unfold gB
    rw[aq]
    have:=gm fW b.rows
    lia
   lia
  have s03:=s2.trans s3
  refine⟨l,rfl,⟨_,bY.of hl⟩,λD nD=>?_⟩
  refine fK (xs:=zs.map V.str) (λj σ' H'=>∃(o:Option V) (is:List Str),σ'=[some (.ref pg),some (.ref pp),some (.ref fl),some (.ref pt),some y,o5,o]/\H' D=some (.lst (is.map V.str))/\(∀x∈is,∀r∈b.rows,x∉bR r)/\is.length<=j/\aH H3 H') ⟨none,[],rfl,ai,λx hx=>by simp at hx,ay _,(aH.refl H3).new nD⟩ ?_ ?_ ?_
  ·rintro j σ' H' _ ⟨_,_,_,_,_,_,s⟩
   exact bY.of (s _ _ hl)
  ·rintro j v σ' H4 hv ⟨o,is,rfl,hD,iok,isl,s4⟩
   rw[aG] at hv
   obtain⟨z,hz,rfl⟩:∃y,zs[j]?=some y/\V.str y=v:=by
    cases e:zs[j]? with
    |none=>rw[e] at hv;cases hv
    |some y=>rw[e] at hv;exact⟨y,rfl,Option.some.inj hv⟩
   have jl:j<zs.length:=(ae.mp hz).1
   have s04:=s03.trans s4
   refine⟨_,rfl,_,rfl,cE (s04 _ _ hpt) (by decide) rfl ⟨ra,rvs,b.rows,rfl,s04 _ _ hra,hrows.imp λ_ _ z=>z.mono (.of_same s04),r100,rl,λl5 rds H5 h5 rin s5=>⟨l5,_,rfl,.inl (bY.of h5),rfl,j9 _,_,rfl,?_⟩⟩⟩
   show if(!fL (.str z) (rds.map V.str))=true then _ else _
   rw[oP]
   by_cases c:z∈rds
   ·rw[decide_eq_true c]
    exact ij ⟨_,is,rfl,s5 _ _ hD,iok,by lia,s4.trans s5⟩
   ·rw[decide_eq_false c]
    refine qm ⟨_,rfl,_,s5 _ _ hD,bO (by rw[aa];lia),_,is++[z],rfl,by rw[ai,aC];rfl,λx hx r hr hxr=>?_,by rw[aq];simp;exact isl,λb' o' hb'=>by rw[aF (ar hb' nD)];exact(s4.trans s5) _ _ hb'⟩
    rcases a8.mp hx with hx|hx
    ·exact iok x hx r hr hxr
    ·rw[au.mp hx] at hxr
     exact c (rin r hr z hxr)
  ·rintro σ' H4 ⟨o,is,_,hD,iok,isl,s4⟩
   have s04:=s03.trans s4
   have s24:=s3.trans s4
   show rP K _ [some (.ref pg),some (.ref pp),some (.ref fl),some (.ref pt),some y,some (.ref D),o6] H4
   refine .inl ⟨_,rfl,D,rfl,⟨_,bY.of hD⟩,lW (xs:=is.map V.str) (λj σ' H'=>∃(v:V) (o:Option V),σ'=[some (.ref pg),some (.ref pp),some (.ref fl),some (.ref pt),some v,some (.ref D),o]/\iG H' v ((is.take j).foldl DS ps)/\aH H4 H') ⟨y,o6,rfl,hps.mono (.of_same s04),aH.refl H4⟩ ?_ ?_ ?_⟩
   ·rintro j σ' H' _ ⟨_,_,_,_,s⟩
    exact bY.of (s _ _ hD)
   ·rintro j v σ' H5 hv ⟨w,o,rfl,hw,s5⟩
    rw[aG] at hv
    obtain⟨z,hz,rfl⟩:∃y,is[j]?=some y/\V.str y=v:=by
     cases e:is[j]? with
     |none=>rw[e] at hv;cases hv
     |some y=>rw[e] at hv;exact⟨y,rfl,Option.some.inj hv⟩
    refine⟨_,rfl,_,rfl,w,_,z,rfl,hw,by rw[A9];exact psl,xt _ _ psw,λu H6 hu s6=>⟨u,_,rfl,?_,s5.trans s6⟩⟩
    rw[cO hz,List.foldl_append];exact hu
   ·rintro σ' H5 ⟨w,o,rfl,hw,s5⟩
    have et:is.take (is.map V.str).length=is:=aT (by rw[aa];exact ay _)
    rw[et] at hw
    have s05:=s04.trans s5
    have s25:=s24.trans s5
    have hfl5:=s25 _ _ hfl2
    have hU5:aV (iG H5) us pss':=hU2.imp λ_ _ z=>z.mono (.of_same s25)
    show rO K _ [some (.ref pg),some (.ref pp),some (.ref fl),some (.ref pt),some w,some (.ref D),o] H5
    have tD:Tp H5 (upd H5 fl (.lst (us++[w]))):=Tp.lst (.refl H5) hfl5
    refine⟨_,rfl,.inl ⟨rfl,_,bY.of hfl5⟩,_,rfl,fl,us,w,rfl,rfl,hfl5,bO (by rw[hU5.len];lia),_,_,_,_,us++[w],pss'++[is.foldl DS ps],rfl,ai,(hU5.imp λ_ _ z=>z.mono tD).snoc (hw.mono tD),by rw[aq,ul];rfl,λk b' q1 q2 e1 e2 e3=>?_,λb' o' hb'=>by rw[aF (ar hb' nfl)];exact s05 _ _ hb'⟩
    by_cases ck:k<pss'.length
    ·rw[aS ck] at e3;exact hth k b' q1 q2 e1 e2 e3
    ·rw[aI (by lia)] at e3
     obtain⟨z1,rfl⟩:=fZ e3
     have:k=i:=by lia
     subst this
     rw[eb] at e1;cases e1
     rw[eps] at e2;cases e2
     exact⟨is,iok,rfl⟩
 ·rintro σ' H1 ⟨o3,o4,o5,o6,us,pss',rfl,hfl,hU,ul,hth,s⟩
  refine⟨_,rfl,fl,us,rfl,.inl ⟨bY.of hfl,λp np=>q p us pss' _ ai (hU.imp λ_ _ z=>z.mono (.of_same ((aH.refl H1).new np))) (by rw[ul,hB.len,pl]) hth (s.new np)⟩⟩
theorem i6{os:List (Option Str)}{x y:Str}{i:Nat}:(os.map (cS x))[i]?=some (some y)↔os[i]?=some (some y)/\y≠x:=by
 rw[aG]
 cases e:os[i]? with
 |none=>simp
 |some o=>
  rw[bV]
  unfold cS
  by_cases c:o=some x
  ·rw[if_pos c]
   subst c
   constructor
   ·intro h;cases h
   ·rintro⟨h,n⟩;cases h;exact absurd rfl n
  ·rw[if_neg c]
   constructor
   ·intro h
    refine⟨h,?_⟩
    rintro rfl
    exact c (Option.some.inj h)
   ·exact λh=>h.1
theorem GO{os:List (Option Str)}{o:Option Str}{i:Nat}{y:Str}:(dI os o)[i]?=some (some y)↔i<os.length/\(o::os)[i]?=some (some y):=by
 unfold dI
 rw[dJ]
 by_cases c:i<os.length
 ·rw[if_pos c];exact⟨λh=>⟨c,h⟩,λh=>h.2⟩
 ·rw[if_neg c];exact⟨(λh=>by cases h),λh=>absurd h.1 c⟩
theorem zE(c:fU)(os:List (Option Str))(o:Option Str):(Dd c os o).length=os.length:=by
 cases c<;>cases o<;>first|rfl|exact gd ..|(show(rZ os _).length=_;unfold rZ;rw[gd,aa])
theorem ug{os os':List (Option Str)}{o o':Option Str}{x y:Str}{i:Nat}(hl:os'.length=os.length)(h1:o=some y->o'=some y)(h2:∀j:Nat,os[j]?=some (some y)->os'[j]?=some (some y))(h:(dI os o)[i]?=some (some y)):(dI os' o')[i]?=some (some y):=by
 rw[GO] at h ⊢
 refine⟨by rw[hl];exact h.1,?_⟩
 cases i with
 |zero=>have:=Option.some.inj h.2;exact congrArg some (h1 this)
 |succ i=>exact h2 i h.2
theorem Eg{c:fU}{os:List (Option Str)}{o:Option Str}{x y:Str}{i:Nat}(n:y≠x)(h:(Dd c os o)[i]?=some (some y)):(Dd c (os.map (cS x)) o)[i]?=some (some y):=by
 have hb:∀j:Nat,os[j]?=some (some y)->(os.map (cS x))[j]?=some (some y):=λj e=>i6.mpr ⟨e,n⟩
 have an:∀z:Str,(rZ os z)[i]?=some (some y)->(rZ (os.map (cS x)) z)[i]?=some (some y):=λz h=>
  ug (x:=x) (by rw[aa,aa,aa]) id (λj e=>i6.mpr ⟨hb j (i6.mp e).1,(i6.mp e).2⟩) h
 cases c with
 |keep j=>
  refine ug (x:=x) (os:=os) (o:=(os[j.toNat]?).getD none) (by rw[aa]) (λe=>?_) hb h
  cases ej:os[j.toNat]? with
  |none=>rw[ej] at e;cases e
  |some w=>
   rw[ej] at e
   have e:w=some y:=e
   subst e
   rw[hb _ ej];rfl
 |num z=>cases o with|none=>exact hb i h|some w=>exact an w h
 |op s a b=>cases o with|none=>exact hb i h|some w=>exact an w h
 |call k as=>cases o with|none=>exact hb i h|some w=>exact an w h
 |say z=>cases o<;>exact hb i h
 |jump z=>cases o<;>exact hb i h
 |test z w=>cases o<;>exact hb i h
 |give z=>cases o<;>exact hb i h
theorem xr{q:kD}{n:Nat}{told told':List (Option Str)}{x:Str}(h:sZ q n told)(hl:told'.length=told.length)(ht:∀(i:Nat) y,y≠x->told[i]?=some (some y)->told'[i]?=some (some y)):sZ (pR x q) n told':=by
 refine⟨h.1,by show(q.2.map (cS x)).length=_;rw[aa,hl];exact h.2.1,?_⟩
 show Bd (q.2.map (cS x)) told'=true
 refine(i4 (by rw[aa,hl];exact h.2.1)).mpr λi y e=>?_
 obtain⟨e1,e2⟩:=i6.mp e
 exact ht i y e2 ((i4 h.2.1).mp h.2.2 i y e1)
theorem Fm{places:Nat}{b:dZ}{cs:List fU}{ps:List kD}{x:Str}(hx:∀r∈b.rows,x∉bR r)(h:fI places b cs ps):fI places b cs (ps.map (pR x)):=by
 have at_:∀(i:Nat) q,ps[i]?=some q->(ps.map (pR x))[i]?=some (pR x q):=λi q e=>by rw[aG,e];rfl
 refine⟨by rw[aa];exact h.len,λi q e=>?_,?_,λm hm=>?_⟩
 ·rw[aG] at e
  cases eq:ps[i]? with
  |none=>rw[eq] at e;cases e
  |some q'=>
   rw[eq] at e
   have e:=Option.some.inj e
   subst e
   show(q'.2.map (cS x)).length=places
   rw[aa];exact h.wide i q' eq
 ·obtain⟨q,e,f⟩:=h.fst
  exact⟨_,at_ 0 q e,xr f rfl λ_ _ _ e=>e⟩
 ·obtain⟨c,q,r,e1,e2,e3,ql,hk,hs,hr,hl,hn⟩:=(h.row m hm).ex
  refine⟨c,pR x q,r,e1,at_ m q e2,e3,by show(q.2.map (cS x)).length=places;rw[aa];exact ql,hk,λz=>?_,hr,hl,λt to n a1 a2=>?_⟩
  ·have sw:=hs z
   refine⟨sw.wd,sw.arg,sw.len,λt i a f1 f2=>?_⟩
   obtain⟨i0,e⟩:=sw.at_ t i a f1 f2
   refine⟨i0,i6.mpr ⟨e,?_⟩⟩
   rintro rfl
   exact hx r (aD e3) (aD f2)
  ·obtain⟨t0,q',eq',f⟩:=hn t to n a1 a2
   refine⟨t0,_,at_ _ q' eq',xr f ?_ λi y ne e=>Eg ne e⟩
   rw[zE,zE]
   show(q.2.map (cS x)).length=_
   rw[aa]
theorem Ec.right{places:Nat}{b:dZ}{cs:List fU}{ps ps':List kD}(t:Ec b ps ps')(h:fI places b cs ps):fI places b cs ps':=by
 obtain⟨xs,hx,rfl⟩:=t
 induction xs generalizing ps with
 |nil=>exact h
 |cons x xs ih=>exact ih (Fm (hx x bw) h) λy hy=>hx y (bF _ hy)
def Nu(H:Hp)(v:V)(m:j5×List kD):Prop:=∃p cp pp,v=.ref p/\H p=some (.tup [.ref cp,.ref pp])/\gS H (.ref cp) m.1/\iG H (.ref pp) m.2
theorem Nu.mono{H H':Hp}{v:V}{m:j5×List kD}(h:Nu H v m)(t:Tp H H'):Nu H' v m:=let⟨p,cp,pp,e,h1,h2,h3⟩:=h;⟨p,cp,pp,e,t _ _ h1,h2.mono t,h3.mono t⟩
def Og(K:Fg)(H:Hp)(st pg nm D:Addr)(places k1:Nat)(bs:List dZ)(i:Nat):St->Hp->Prop:=λσ' H'=>∃(o:Option V) (us:List V) (ms:List (j5×List kD)) (k':Nat),σ'=[some (.ref st),some (.ref pg),some (.ref nm),some (.int (places:Nat)),none,o]/\H' D=some (.lst us)/\aV (Nu H') us ms/\ms.length=i/\
 (∀(k:Nat) b m,bs[k]?=some b->ms[k]?=some m->m.1.1=((b.params.length:Nat):Int)/\fI places b m.1.2 m.2/\m.1.2.length<=100000)/\gc K H' st k'/\k'<=k1+3000*i/\eg st H H'
theorem JS{ys:List Str}{cs:List Nat}{n:Nat}{r:bu}{y:Str}(h:C6 ys cs n r)(e:fW r=some y):y∈ys:=by
 cases r with
 |num x z=>cases e;exact h.1
 |op x s a b=>cases e;exact h.1
 |call x k as=>cases e;exact h.1
 |_=>cases e
theorem LY{K:Fg}{vs:List V}{H:Hp}{Q:VK}{E:XK}(h:sQ K vs H Q E):Ht K {nx:=λ_ H'=>Q .non H',rt:=Q} (cC tm vs) H:=by
 obtain⟨st,pg,pvs,k,ys,cs,bs,rfl,S,k5,hpg,hB,ok,q⟩:=h
 have bl5:=ok.few
 have bok:∀b∈bs,b.rows.length<=100/\b.params.length<=100:=λb hb=>by
  have po:=ok.part b hb
  have c4:b.params.length<=4:=ok.c4 _ (by rw[<-ok.cnt];exact eV.mpr ⟨b,hb,rfl⟩)
  have:=po.few
  exact⟨by lia,by lia⟩
 refine⟨_,rfl,pg,pvs,bs,rfl,hpg,hB,by lia,bok,λnm us H1 nnm hnm nd um s1=>?_⟩
 have ul:us.length<=6:=by
  have:=oR nd (zs:=ys) λy hy=>by
   obtain⟨b,hb,h⟩:=(um y).mp hy
   have po:=ok.part b hb
   rcases h with h|⟨r,hr,e⟩
   ·exact po.pin y h
   ·exact JS (po.rows r hr) e
  have:=ok.y6
  lia
 obtain⟨sy,hst⟩:=S.lst
 have nns:nm≠st:=Ne.symm (ar hst nnm)
 show AO K _ [some (.ref st),some (.ref pg),some (.ref nm),none,none] H1
 refine⟨_,rfl,_,_,rfl,.inl ⟨_,bY.of hnm,rfl⟩,.inl ⟨_,_,rfl,rfl,(.inl ⟨by decide,by decide⟩),.inl ⟨_,_,rfl,rfl,_,rfl,st,3,k,rfl,S.same s1,by lia,by decide,by decide,λd H2 d0 d1 S2 B2=>.inl ⟨_,_,rfl,rfl,?_⟩⟩⟩⟩
 obtain⟨dd,rfl⟩:=fc d0
 have ep:(2:Int)*((us.map V.str).length:Nat)+2+((dd:Nat):Int)=((2*us.length+2+dd:Nat):Int):=by rw[aa];lia
 show uQ K _ [some (.ref st),some (.ref pg),some (.ref nm),some (.int ((2:Int)*((us.map V.str).length:Nat)+2+((dd:Nat):Int))),none] H2
 rw[ep]
 have pr:2*us.length+2<=2*us.length+2+dd:=by lia
 have pm:2*us.length+2+dd<=100:=by lia
 generalize 2*us.length+2+dd=places at pr pm
 have b2:eg st H H2:=λb o n e=>B2 _ _ n (s1 _ _ e)
 have hnm2:=B2 _ _ nns hnm
 show uQ K _ [some (.ref st),some (.ref pg),some (.ref nm),some (.int (places:Nat)),none] H2
 have npg:pg≠st:=λz=>by rw[z,hst] at hpg;cases hpg
 refine .inr ⟨_,rfl,pg,rfl,⟨_,b4.of (b2 _ _ npg hpg)⟩,λD nD=>?_⟩
 have nst:D≠st:=λz=>by obtain⟨zs,e⟩:=S2.lst;rw[z,e] at nD;cases nD
 have nDH:H D=none:=by
  cases z:H D with
  |none=>rfl
  |some o=>rw[b2 _ _ nst z] at nD;cases nD
 have tpS:∀H',eg st H H'->Tp H H':=λH' B=>.of_but B hst
 refine eX (xs:=pvs) (λi σ' H'=>Og K H st pg nm D places (k+1) bs i σ' H'/\H' nm=some (.lst (us.map V.str))) ⟨⟨none,[],[],k+1,rfl,ai,.nil,rfl,λk b m _ e=>by simp at e,S2.new nD,ay _,fY b2 ((aH.refl H2).new nD)⟩,by rw[aF (λz=>by rw[<-z,hnm2] at nD;cases nD)];exact hnm2⟩ ?_ ?_ ?_
 ·rintro i σ' H' _ ⟨⟨o,us',ms,k',_,_,_,_,_,_,_,B⟩,_⟩
  exact b4.of (B _ _ npg hpg)
 ·rintro i v σ' H' hv ⟨⟨o,us',ms,k',rfl,hD,hU,ml,hm,Si,kl,B⟩,hnm'⟩
  obtain⟨b,eb,hb⟩:=hB.of_v hv
  have il:i<bs.length:=(ae.mp eb).1
  have hbm:=aD eb
  refine dz ⟨_,rfl,_,rfl,_,rfl,_,rfl,st,nm,v,places,k',us,ys,cs,b,rfl,Si,by lia,hb.mono (tpS _ B),ok.part b hbm,ok.c4,hnm',nns,nd,λy ⟨b',hb',h⟩=>(um y).mpr ⟨b,hbm,by rw[au.mp hb'] at h;exact h⟩,pr,pm,λp cp pp code pvs' ps k2 H3 hp hc hpp hP prt cl S3 k2l B3=>?_⟩
  have hD3:=B3 _ _ nst hD
  have nDp:∀{a:Addr} {xs:List V},H3 a=some (.tup xs)->a≠D:=λ{a xs} h z=>by rw[z,hD3] at h;cases h
  have tp3:Tp H' H3:=by obtain⟨zs,e⟩:=Si.lst;exact .of_but B3 e
  have t4:Tp H3 (upd H3 D (.lst (us'++[.ref p]))):=Tp.lst (.refl H3) hD3
  refine⟨us',hD3,bO (by rw[hU.len];lia),⟨_,us'++[.ref p],ms++[((((b.params.length:Nat):Int),code),ps)],k2,rfl,ai,(hU.imp λ_ _ z=>z.mono (tp3.trans t4)).snoc ⟨p,cp,pp,rfl,t4 _ _ hp,hc.mono t4,pp,pvs',rfl,t4 _ _ hpp,hP.imp λ_ _ z=>z.mono t4⟩,by rw[aq,ml];rfl,λk0 b0 m0 e1 e2=>?_,?_,by lia,λb' o' n' e'=>by rw[aF (ar e' nDH)];exact B3 _ _ n' (B _ _ n' e')⟩,?_⟩
  ·by_cases ck:k0<ms.length
   ·rw[aS ck] at e2;exact hm k0 b0 m0 e1 e2
   ·rw[aI (by lia)] at e2
    obtain⟨z1,rfl⟩:=fZ e2
    have:k0=i:=by lia
    subst this
    rw[eb] at e1;cases e1
    exact⟨rfl,prt,cl⟩
  ·exact gc.mono S3 (a:=D) (ys:=us') (λb o n e=>by rw[aF n];exact e) hD3 (Ne.symm nst)
  ·have h3:=B3 _ _ nns hnm'
   have:nm≠D:=λz=>by rw[z] at hnm2;rw[hnm2] at nD;cases nD
   rw[aF this];exact h3
 ·rintro σ' H3 ⟨⟨o,us',ms,k',_,hD,hU,ml,hm,S3,kl,B⟩,_⟩
  rw[hB.len] at ml kl
  have msl:ms.length<=5:=by lia
  show AN K _ [some (.ref st),some (.ref pg),some (.ref nm),some (.int (places:Nat)),some (.ref D)] H3
  refine eJ (cz (eJ (xV rfl (cz (.inl ⟨_,rfl,D,rfl,⟨_,bY.of hD⟩,λD2 nD2=>?_⟩)))))
  refine fK (xs:=us') (λi σ' H'=>∃(o:Option V) (zs:List V),σ'=[some (.ref st),some (.ref pg),some (.ref nm),some (.int (places:Nat)),some (.ref D),o]/\H' D2=some (.lst zs)/\aV (gS H') zs ((ms.take i).map (·.1))/\aH H3 H') ⟨none,[],rfl,ai,.nil,(aH.refl H3).new nD2⟩ ?_ ?_ ?_
  ·rintro i σ' H' _ ⟨_,_,_,_,_,s⟩
   exact bY.of (s _ _ hD)
  ·rintro i v σ' H' hv ⟨o,zs,rfl,hD2,hZ,s⟩
   obtain⟨m,em,p,cp,pp,rfl,hp,hc,hpp⟩:=hU.of_v hv
   have tD:Tp H' (upd H' D2 (.lst (zs++[.ref cp]))):=Tp.lst (.refl H') hD2
   refine dz ⟨_,rfl,cE (s _ _ hp) (by decide) rfl ⟨zs,hD2,bO (by rw[hZ.len,aa,aL];lia),_,zs++[.ref cp],rfl,ai,?_,λb' o' hb'=>by rw[aF (ar hb' nD2)];exact s _ _ hb'⟩⟩
   rw[cO em,aC]
   exact(hZ.imp λ_ _ z=>z.mono tD).snoc ((hc.mono (.of_same s)).mono tD)
  ·rintro σ' H4 ⟨o,zs,_,hD2,hZ,s4⟩
   rw[hU.len,cf] at hZ
   refine⟨D2,zs,rfl,.inl ⟨bY.of hD2,λp5 np5=>⟨(by show 2<=sizeLine;decide),λp6 np6=>?_⟩⟩⟩
   have s5:=s4.trans ((aH.refl H4).new (o:=.tup zs) np5)
   have h5:upd H4 p5 (.tup zs) p5=some (.tup zs):=ai
   have hZ5:aV (gS (upd H4 p5 (.tup zs))) zs (ms.map (·.1)):=hZ.imp λ_ _ z=>z.mono (.of_same ((aH.refl H4).new np5))
   have np6':upd H4 p5 (.tup zs) p6=none:=np6
   show(ah (e8 (cI K) (ah (dC [] 1 (fH K (aj 4)) (aK 5) gw (aX (cw K) (aj 5) (tC (.int 1)))) aE)) aE) _ (upd (upd H4 p5 (.tup zs)) p6 (.tup [.int (places:Nat),.ref p5])) _
   generalize upd H4 p5 (.tup zs)=H5 at s5 h5 hZ5 np6'
   have s6:=s5.trans ((aH.refl H5).new (o:=.tup [.int (places:Nat),.ref p5]) np6')
   have h6:upd H5 p6 (.tup [V.int (places:Nat),.ref p5]) p6=some (.tup [V.int (places:Nat),.ref p5]):=ai
   have h5':=((aH.refl H5).new (o:=.tup [.int (places:Nat),.ref p5]) np6') _ _ h5
   have hZ6:aV (gS (upd H5 p6 (.tup [V.int (places:Nat),.ref p5]))) zs (ms.map (·.1)):=hZ5.imp λ_ _ z=>z.mono (.of_same ((aH.refl H5).new np6'))
   generalize upd H5 p6 (.tup [V.int (places:Nat),.ref p5])=H6 at s6 h6 h5' hZ6
   refine cz (.inl ⟨_,rfl,D,rfl,⟨_,bY.of (s6 _ _ hD)⟩,λD3 nD3=>?_⟩)
   refine fK (xs:=us') (λi σ' H'=>∃(o:Option V) (zs:List V),σ'=[some (.ref st),some (.ref pg),some (.ref nm),some (.int (places:Nat)),some (.ref D),o]/\H' D3=some (.lst zs)/\aV (iG H') zs ((ms.take i).map (·.2))/\aH H6 H') ⟨none,[],rfl,ai,.nil,(aH.refl H6).new nD3⟩ ?_ ?_ ?_
   ·rintro i σ' H' _ ⟨_,_,_,_,_,s⟩
    exact bY.of (s _ _ (s6 _ _ hD))
   ·rintro i v σ' H' hv ⟨o,zs',rfl,hD3,hZ',s⟩
    obtain⟨m,em,p,cp,pp,rfl,hp,hc,hpp⟩:=hU.of_v hv
    have tD:Tp H' (upd H' D3 (.lst (zs'++[.ref pp]))):=Tp.lst (.refl H') hD3
    refine dz ⟨_,rfl,cE ((s6.trans s) _ _ hp) (by decide) rfl ⟨zs',hD3,bO (by rw[hZ'.len,aa,aL];lia),_,zs'++[.ref pp],rfl,ai,?_,λb' o' hb'=>by rw[aF (ar hb' nD3)];exact s _ _ hb'⟩⟩
    rw[cO em,aC]
    exact(hZ'.imp λ_ _ z=>z.mono tD).snoc ((hpp.mono (.of_same (s6.trans s))).mono tD)
   ·rintro σ' H7 ⟨o,qs,_,hD3,hP,s7⟩
    rw[hU.len,cf] at hP
    refine⟨D3,qs,rfl,.inl ⟨bY.of hD3,λp8 np8=>⟨(by show 2<=sizeLine;decide),λp9 np9=>?_⟩⟩⟩
    have s8:=s7.trans ((aH.refl H7).new (o:=.tup qs) np8)
    have h8:upd H7 p8 (.tup qs) p8=some (.tup qs):=ai
    have hP8:aV (iG (upd H7 p8 (.tup qs))) qs (ms.map (·.2)):=hP.imp λ_ _ z=>z.mono (.of_same ((aH.refl H7).new np8))
    have np9':upd H7 p8 (.tup qs) p9=none:=np9
    show Q (.ref p9) (upd (upd H7 p8 (.tup qs)) p9 (.tup [.ref p6,.ref p8]))
    generalize upd H7 p8 (.tup qs)=H8 at s8 h8 hP8 np9'
    have s89:=(aH.refl H8).new (o:=.tup [.ref p6,.ref p8]) np9'
    have s9:=s8.trans s89
    have s39:=s6.trans s9
    have atm:∀(k0:Nat) b m,bs[k0]?=some b->ms[k0]?=some m->_:=hm
    refine q p9 p8 (.ref p6) places (ms.map (·.1)) qs (ms.map (·.2)) k' _ ai ⟨p6,p5,zs,rfl,s9 _ _ h6,s9 _ _ h5',hZ6.imp λ_ _ z=>z.mono (.of_same s9)⟩ (s89 _ _ h8) (hP8.imp λ_ _ z=>z.mono (.of_same s89)) ⟨by rw[aa];exact ml,by rw[aa];exact ml,?_,λk0 b c ps e1 e2 e3=>?_⟩ (by lia) (by lia) (λc hc=>?_) (S3.same s39) (by lia) (fY B s39)
    ·refine List.ext_getElem? λi=>?_
     rw[aG,aG,aG]
     by_cases ci:i<ms.length
     ·have e1:=ag ci
      have e2:=ag (l:=bs) (by rw[<-ml];exact ci)
      rw[e1,e2]
      exact congrArg some (hm i _ _ e2 e1).1
     ·rw[eM (by lia),eM (by lia)];rfl
    ·rw[aG] at e2 e3
     cases em:ms[k0]? with
     |none=>rw[em] at e2;cases e2
     |some m=>
      rw[em] at e2 e3
      cases Option.some.inj e2
      cases Option.some.inj e3
      exact(hm k0 b m e1 em).2.1
    ·obtain⟨m,hmm,rfl⟩:=eV.mp hc
     obtain⟨i,hi,ei⟩:=bP.mp hmm
     exact(hm i _ m (ag (by rw[<-ml];exact hi)) (by rw[ag hi,ei])).2.2
theorem NV{K:Fg}{a:Addr}{xs:List V}{c:Nat}{H:Hp}{Q:VK}(ha:H a=some (.tup xs))(ne:xs≠[])(q:∀(p:Addr) (H':Hp),H' p=some (.tup (xs.drop (c+1)))->aH H H'->Q (.ref p) H'):oY K (.ref a) (some ((c+1:Nat):Int)) none H Q:=by
 refine .inr (.inr ⟨a,xs,rfl,b4.of ha,λw=>?_,λp np=>?_⟩)
 ·have z:=w.1
  rw[HT.sIx_nat] at z
  have:=cu.mpr ne
  lia
 ·rw[lV]
  exact q p _ ai ((aH.refl H).new np)
theorem MY{K:Fg}{a b:Addr}{xs ys:List V}{H:Hp}{Q:VK}(ha:H a=some (.tup xs))(hb:H b=some (.tup ys))(nx:xs≠[])(hl:xs.length+ys.length<=5000)(q:∀(p:Addr) (H':Hp),H' p=some (.tup (xs++ys))->aH H H'->Q (.ref p) H'):gC K (.ref a) (.ref b) H Q:=by
 refine .inr (.inr (.inr (.inr ⟨a,b,xs,ys,rfl,rfl,b4.of ha,b4.of hb,nx,dg (bO (by lia)),λz=>?_,λ_ p np=>q p _ ai ((aH.refl H).new np)⟩)))
 subst z
 exact q a H (by rw[bU];exact ha) (aH.refl H)
theorem fJ.set{places:Nat}{bs:List dZ}{cps:List j5}{pss:List (List kD)}{k:Nat}{b:dZ}{ps ps':List kD}(h:fJ places bs cps pss)(eb:bs[k]?=some b)(ep:pss[k]?=some ps)(t:Ec b ps ps'):fJ places bs cps (pss.set k ps'):=by
 refine⟨h.len,by rw[dc];exact h.ln2,h.cnt,λj b' c q e1 e2 e3=>?_⟩
 by_cases cj:k=j
 ·subst cj
  rw[aY (ae.mp ep).1] at e3
  cases e3
  rw[eb] at e1;cases e1
  exact t.right (h.part k b c ps eb e2 ep)
 ·rw[bz cj] at e3
  exact h.part j b' c q e1 e2 e3
theorem fJ.all{places:Nat}{bs:List dZ}{cps:List j5}{pss pss':List (List kD)}(h:fJ places bs cps pss)(hl:pss'.length=pss.length)(t:∀(k:Nat) b ps ps',bs[k]?=some b->pss[k]?=some ps->pss'[k]?=some ps'->Ec b ps ps'):fJ places bs cps pss':=by
 refine⟨h.len,hl.trans h.ln2,h.cnt,λj b c q e1 e2 e3=>?_⟩
 obtain⟨ps,ep⟩:∃ps,pss[j]?=some ps:=⟨_,ag (by rw[<-hl];exact(ae.mp e3).1)⟩
 exact(t j b ps q e1 ep e3).right (h.part j b c ps e1 e2 ep)
theorem fJ.wide{places:Nat}{bs:List dZ}{cps:List j5}{pss:List (List kD)}(h:fJ places bs cps pss)(hp:places<=1000)(hc:∀c∈cps,c.2.length<=100000):∀ps∈pss,ps.length<=100000/\∀q∈ps,q.2.length<=1000:=λps hps=>by
 obtain⟨k,hk,e⟩:=bP.mp hps
 have ek:pss[k]?=some ps:=by rw[ag hk,e]
 obtain⟨b,eb⟩:∃b,bs[k]?=some b:=⟨_,ag (by rw[<-h.ln2];exact hk)⟩
 obtain⟨c,ec⟩:∃c,cps[k]?=some c:=⟨_,ag (by rw[h.len,<-h.ln2];exact hk)⟩
 have pr:=h.part k b c ps eb ec ek
 refine⟨by rw[pr.len];exact hc c (aD ec),λq hq=>?_⟩
 obtain⟨i,hi,ei⟩:=bP.mp hq
 rw[pr.wide i q (by rw[ag hi,ei])];exact hp
theorem Nk{K:Fg}{vs:List V}{H:Hp}{Q:VK}{E:XK}(h:yN K vs H Q E):Kp K {nx:=λ_ H'=>Q .non H',rt:=Q} (cC J5 vs) H:=by
 obtain⟨scr,ns,rfl,hs,nsl,q⟩:=h
 refine⟨_,rfl,(by show 3<=sizeLine;decide),λst nst=>?_⟩
 have S0:gc K (upd H st (.lst [.ref scr,.int 0,.int 0])) st 0:=⟨scr,ns,0,ai,hs.mono (.of_same ((aH.refl H).new nst)),nsl⟩
 show DP K _ [some (.ref scr),some (.ref st),none,none,none,none,none,none] (upd H st (.lst [.ref scr,.int 0,.int 0]))
 generalize upd H st (.lst [.ref scr,.int 0,.int 0])=H0 at S0
 refine⟨_,rfl,st,6,0,rfl,S0,by decide,by decide,by decide,λpg pvs bs ys cs k1 H1 hpg hB ok bl S1 k1l B1=>?_⟩
 have bl5:=ok.few
 have bok:∀b∈bs,cG b.rows/\b.rows≠[]/\b.params.length<=100/\∀r∈b.rows,(bR r).length<=1000:=λb hb=>by
  have po:=ok.part b hb
  have c4:b.params.length<=4:=ok.c4 _ (by rw[<-ok.cnt];exact eV.mpr ⟨b,hb,rfl⟩)
  exact⟨po.good,po.pos,by lia,λr hr=>by have:=qy po ok.c4 r hr;lia⟩
 have bok2:∀b∈bs,b.rows.length<=100/\b.params.length<=100/\∀r∈b.rows,(bR r).length<=10:=λb hb=>by
  have po:=ok.part b hb
  have:=po.few
  exact⟨by lia,(bok b hb).2.2.1,qy po ok.c4⟩
 show DO K _ [some (.ref scr),some (.ref st),some (.ref pg),none,none,none,none,none] H1
 refine⟨_,rfl,_,rfl,st,pg,pvs,k1,ys,cs,bs,rfl,S1,by lia,hpg,hB,ok,λp2 pp cv places cps qvs pss k2 H2 hp2 hcv hpp hP pr p1 p1000 cl S2 k2l B2=>?_⟩
 refine⟨p2,_,rfl,b4.of hp2,rfl,_,_,rfl,_,_,rfl,rfl,?_⟩
 have npg:pg≠st:=S1.tup_ne hpg
 have tp12:Tp H1 H2:=by obtain⟨zs,e⟩:=S1.lst;exact .of_but B2 e
 have hpg2:=tp12 _ _ hpg
 have hB2:aV (gA H2) pvs bs:=hB.imp λ_ _ z=>z.mono tp12
 have pwd:=pr.wide p1000 cl
 clear hp2 B2 tp12
 show DN K _ [some (.ref scr),some (.ref st),some (.ref pg),some cv,some (.ref pp),none,none,none] H2
 refine⟨_,rfl,_,rfl,_,rfl,⟨pg,pp,cv,places,pvs,qvs,bs,cps,pss,rfl,(Tp.refl H2) _ _ hpg2,hB2.imp (λ_ _ z=>z.mono (Tp.refl H2)),by lia,bok,hcv,cl,hpp,hP,p1,p1000,pr,λH3 s3=>⟨rfl,_,rfl,ij ?_⟩⟩⟩
 show DM K _ [some (.ref scr),some (.ref st),some (.ref pg),some cv,some (.ref pp),none,none,none] H3
 refine⟨_,rfl,_,_,rfl,.inr ⟨_,b4.of (s3 _ _ hpg2),rfl⟩,_,rfl,by lia,by rw[hB2.len];lia,iq (λi σ' H'=>∃o5 o6,σ'=[some (.ref scr),some (.ref st),some (.ref pg),some cv,some (.ref pp),o5,o6,none]/\aH H2 H') ⟨none,none,rfl,s3⟩ ?_ ?_⟩
 ·rintro i σ' H4 hi ⟨o5,o6,rfl,s4⟩
  rw[aB,hB2.len] at hi
  have e0:(0:Int)+(i:Int)=((i:Nat):Int):=by lia
  rw[e0]
  show DL K _ [some (.ref scr),some (.ref st),some (.ref pg),some cv,some (.ref pp),some (.int (i:Nat)),o6,none] H4
  refine⟨_,rfl,_,rfl,pg,pp,pvs,qvs,bs,pss,rfl,s4 _ _ hpg2,hB2.imp λ_ _ z=>z.mono (.of_same s4),by lia,bok2,s4 _ _ hpp,hP.imp λ_ _ z=>z.mono (.of_same s4),pr.ln2,pwd,λtp tvs tss H5 htp hT tl th s5=>?_⟩
  have il:i<tss.length:=by rw[tl,pr.ln2];exact hi
  obtain⟨v,ps',ev,eps',hv⟩:=hT.get il
  have eb:=ag hi
  have ep:=ag (l:=pss) (i:=i) (by rw[<-tl];exact il)
  have s25:=s4.trans s5
  refine⟨_,rfl,cE htp (aN _) (by rw[aB];exact ev) ?_⟩
  show DK K _ [some (.ref scr),some (.ref st),some (.ref pg),some cv,some (.ref pp),some (.int (i:Nat)),some v,none] H5
  have qne:qvs≠[]:=λz=>by have:=hP.len;rw[z,pr.ln2] at this;simp at this;lia
  have ql:qvs.length=bs.length:=hP.len.trans pr.ln2
  refine⟨_,rfl,_,rfl,cz ⟨_,rfl,_,rfl,_,rfl,Hf (s25 _ _ hpp) λp6 H6 h6 s6=>?_⟩⟩
  refine⟨_,rfl,(by show 1<=sizeLine;decide),λp7 np7=>?_⟩
  have s7:=(aH.refl H6).new (o:=.tup [v]) np7
  have h7:upd H6 p7 (.tup [v]) p7=some (.tup [v]):=ai
  show gC K (.ref p6) (.ref p7) (upd H6 p7 (.tup [v])) _
  generalize upd H6 p7 (.tup [v])=H7 at s7 h7
  refine Ah (s7 _ _ h6) h7 (by simp) (by rw[aL];simp;lia) λp8 H8 h8 s8=>?_
  have s58:=s6.trans (s7.trans s8)
  have e1:((i:Nat):Int)+1=((i+1:Nat):Int):=by lia
  refine⟨_,rfl,_,rfl,.inr (.inl ⟨_,_,rfl,rfl,_,rfl,?_⟩)⟩
  show oY K (.ref pp) (some (((i:Nat):Int)+1)) none H8 _
  rw[e1]
  refine NV ((s25.trans s58) _ _ hpp) qne λp9 H9 h9 s9=>?_
  refine MY (s9 _ _ h8) h9 (by simp) (by rw[aq,aL,cV];simp;lia) λp10 H10 h10 s10=>?_
  have s5t:=s58.trans (s9.trans s10)
  have s2t:=s25.trans s5t
  rw[<-nq (by rw[ql];exact hi)] at h10
  refine⟨pg,p10,cv,places,pvs,qvs.set i v,bs,cps,pss.set i ps',rfl,(Tp.of_same s2t) _ _ hpg2,hB2.imp (λ_ _ z=>z.mono (Tp.of_same s2t)),by lia,bok,hcv.mono (.of_same s2t),cl,h10,(aV.set (hP.imp λ_ _ z=>z.mono (.of_same s2t)) (hv.mono (.of_same s5t))),p1,p1000,pr.set eb ep (th i _ _ ps' eb ep eps'),λH11 s11=>⟨rfl,_,rfl,ij ?_⟩⟩
  exact⟨_,_,rfl,s2t.trans s11⟩
 ·rintro σ' H4 ⟨o5,o6,rfl,s4⟩
  show DJ K _ [some (.ref scr),some (.ref st),some (.ref pg),some cv,some (.ref pp),o5,o6,none] H4
  refine⟨_,rfl,_,rfl,cz ⟨_,rfl,_,rfl,pg,pp,pvs,qvs,bs,pss,rfl,s4 _ _ hpg2,hB2.imp λ_ _ z=>z.mono (.of_same s4),by lia,bok2,s4 _ _ hpp,hP.imp λ_ _ z=>z.mono (.of_same s4),pr.ln2,pwd,λtp tvs tss H5 htp hT tl th s5=>?_⟩⟩
  have s25:=s4.trans s5
  refine⟨pg,tp,cv,places,pvs,tvs,bs,cps,tss,rfl,(Tp.of_same s25) _ _ hpg2,hB2.imp (λ_ _ z=>z.mono (Tp.of_same s25)),by lia,bok,hcv.mono (.of_same s25),cl,htp,hT,p1,p1000,pr.all tl th,λH6 s6=>⟨rfl,_,rfl,ij ?_⟩⟩
  have s26:=s25.trans s6
  have S6:=S2.same s26
  show DI K _ [some (.ref scr),some (.ref st),some (.ref pg),some cv,some (.ref pp),o5,o6,none] H6
  refine⟨_,rfl,_,rfl,st,pg,pvs,k2,ys,cs,bs,rfl,S6,by lia,s26 _ _ hpg2,hB2.imp λ_ _ z=>z.mono (.of_same s26),ok,λp7 pp7 cv7 places7 cps7 qvs7 pss7 k7 H7 hp7 hcv7 hpp7 hP7 pr7 p17 p10007 cl7 S7 k7l B7=>?_⟩
  have tp7:Tp H6 H7:=by obtain⟨zs,e⟩:=S6.lst;exact .of_but B7 e
  have tp27:=(Tp.of_same s26).trans tp7
  show DH K _ [some (.ref scr),some (.ref st),some (.ref pg),some cv,some (.ref pp),o5,o6,some (.ref p7)] H7
  refine⟨_,rfl,_,rfl,cE hp7 (by decide) rfl ⟨_,rfl,cE hp7 (by decide) rfl ⟨pg,pp7,cv7,places7,pvs,qvs7,bs,cps7,pss7,rfl,tp27 _ _ hpg2,hB2.imp (λ_ _ z=>z.mono tp27),by lia,bok,hcv7,cl7,hpp7,hP7,p17,p10007,pr7,λH8 s8=>⟨rfl,_,rfl,qm ?_⟩⟩⟩⟩
  have tp28:=tp27.trans (.of_same s8)
  exact⟨_,rfl,_,rfl,_,rfl,⟨pg,pp,cv,places,pvs,qvs,bs,cps,pss,rfl,tp28 _ _ hpg2,hB2.imp (λ_ _ z=>z.mono tp28),by lia,bok,hcv.mono tp28,cl,tp28 _ _ hpp,(hP.imp λ_ _ z=>z.mono tp28),p1,p1000,pr,λH9 s9=>⟨rfl,q H9⟩⟩⟩
end Bg
end
namespace Bg
open PySem PySem.Spec PyProof.Rows L2
section
variable{P:Program}{w:World}{K:Fg}{mg:Str->Option Value}{base:Heap}
theorem yk{vs:List V}{H:Hp}{Q:VK}{E:XK}(h:gK K vs H Q E):vs.length=gH.length:=by
 first|(obtain⟨_,_,_,_,rfl,_⟩:=h;rfl)
theorem Ag{f:Addr}{fd:FuncData}{dV:Value}(F:HP K "walked" "walked" e7 dV f fd)(B:jH mg)(c_p_leads:pW P w K mg base)(c_p_sets:oB P w K mg base):pY P w K mg base C1 nQ f fd gH (gK K):=
 F.ok Ax (λvs H Q E h=>yk h) λcdv A outer s H vs Q E hr h=>⟨_,BO B c_p_leads c_p_sets hr,CF (E:=E) h⟩
end
theorem all_mk{l:PySem.W.OpenLaw}{w:World}{K:Fg}{h:Heap}{mg:Str->Option Value}{fa:Addr}(X:K.In h)(G:h.Ns mainGlobals mg)(hfa:mg "law"=some (.ref fa))
  (l0:c7 K "pushed" uu)
  (l1:c7 K "set_anew" kO)
  (l2:c7 K "behind" ur)
  (l3:c7 K "goal" Av)
  (l4:c7 K "leads" wK)
  (l5:c7 K "weaker" nY)
  (l6:c7 K "fits_behind" lC)
  (l7:c7 K "sets" Au)
  (l8:c7 K "places_read" lD)
  (l9:c7 K "reads" wI)
  (l10:c7 K "same_work" jR)
  (l11:c7 K "stands" uv)
  (l12:c7 K "is_right" iZ)
  (l13:c7 K "begun" wH)
  (l14:c7 K "row_wrong" nh)
  (l15:c7 K "unlike" kP)
  (l16:c7 K "wrong" wJ)
  {od17 an17:Option Addr} {sl17:Array (Option Value)} {oc17 kV17 dc17 pm17 cd17 ct17:Value} {f17:Addr}
  {T17:Addr} {ocT17:Value} {odT17:Option Addr} {nT17:Nat} {slT17:Array (Option Value)}
  (a17:bH K mainGlobals "walked"=some (some (.ref f17)))
  (l17:K.lookup f17=some ⟨oc17,od17,.func (cW "walked" "walked" (gy e7) (e9 e7) (b8 e7) (.ref T17) kV17 dc17 pm17 an17 cd17 ct17),sl17⟩) (c17:eD K cd17 "walked"=true) (k17:dy K (.ref f17)=true)
  (t17:K.lookup T17=some ⟨ocT17,odT17,.seq #[Value.none] nT17,slT17⟩)
  (l18:c7 K "come_to" me)
  (l19:c7 K "_law_draw" Hd)
  (l20:c7 K "_law_in" Nl)
  (l21:c7 K "_law_brought" wG)
  (l22:c7 K "_law_place" yI)
  (l23:c7 K "_law_code_row" kQ)
  (l24:c7 K "_law_forgot" Ar)
  (l25:c7 K "_law_block" yG)
  (l26:c7 K "_law_set_names" iC)
  (l27:c7 K "_law_part_made" iI)
  (l28:c7 K "_law_names_of" kM)
  (l29:c7 K "_law_made" uq)
  (l30:c7 K "_law_without" qC)
  (l31:c7 K "_law_read_names" pf)
  (l32:c7 K "_law_thinned" qB)
  (l33:c7 K "_law_worth" wL)
  (l34:c7 K "_law_rough_row" ni)
  (l35:c7 K "_law_filled" uo)
  (l36:c7 K "_law_mended" As)
  (l37:c7 K "_law_part" CI)
  (l38:c7 K "_law_names" yH)
  (l39:c7 K "_law_program" qA)
  (l40:c7 K "law" Ko)
  (z_len:bH K mainGlobals "len"=some none) (z_range:bH K mainGlobals "range"=some none) (z_divmod:bH K mainGlobals "divmod"=some none) (z_max:bH K mainGlobals "max"=some none) (z_min:bH K mainGlobals "min"=some none) (z_sum:bH K mainGlobals "sum"=some none) (z_all:bH K mainGlobals "all"=some none) (z_isinstance:bH K mainGlobals "isinstance"=some none) (z_int:bH K mainGlobals "int"=some none) (z_bool:bH K mainGlobals "bool"=some none) (z_list:bH K mainGlobals "list"=some none) (z_tuple:bH K mainGlobals "tuple"=some none) (z_enumerate:bH K mainGlobals "enumerate"=some none) (z_zip:bH K mainGlobals "zip"=some none) (z_sorted:bH K mainGlobals "sorted"=some none) (z_set:bH K mainGlobals "set"=some none) (z_dict:bH K mainGlobals "dict"=some none) (z_str:bH K mainGlobals "str"=some none) (z_any:bH K mainGlobals "any"=some none) (z_reversed:bH K mainGlobals "reversed"=some none) (z_abs:bH K mainGlobals "abs"=some none) :
  ∃fd:FuncData,(∀(s:Shared) (v:Value),BindsTo s fd ⟨[v],[]⟩ [("_law_script",v)])/\∀base:Heap,K.In base->base.Ns mainGlobals mg->pY l.prog w K mg base C1 FF fa fd FL (yN K):=by
 have B:jH mg:=⟨a9 X G z_len,a9 X G z_range,a9 X G z_divmod,a9 X G z_max,a9 X G z_min,a9 X G z_sum,a9 X G z_all,a9 X G z_isinstance,a9 X G z_int,a9 X G z_bool,a9 X G z_list,a9 X G z_tuple,a9 X G z_enumerate,a9 X G z_zip,a9 X G z_sorted,a9 X G z_set,a9 X G z_dict,a9 X G z_str,a9 X G z_any,a9 X G z_reversed,a9 X G z_abs⟩
 have F17:=IB (st:=e7) l17 c17 k17
 refine MK (k:=Ka) X G hfa l40 (λbase=>?_) λ_ _ _ _=>Nk
 have c_p_pushed:kr l.prog w K mg base:=jY X G l0 (BL B) λ_ _ _ _=>CB
 have c_p_set_anew:oA l.prog w K mg base:=jY X G l1 (xZ B c_p_pushed) λ_ _ _ _=>yz
 have c_p_behind2:qP l.prog w K mg base:=jY X G l2 (BK B c_p_set_anew c_p_pushed) λ_ _ _ _=>Am
 have c_q_goal:za l.prog w K mg base:=jY X G l3 (zO B) λ_ _ _ _=>Ap
 have c_p_goal:y9 l.prog w K mg base:=jY X G l3 (zO B) λ_ _ _ _=>E3
 have c_q_leads:pX l.prog w K mg base:=jY X G l4 (wj B c_q_goal) λ_ _ _ _=>wF
 have c_p_leads:pW l.prog w K mg base:=jY X G l4 (wj B c_q_goal) λ_ _ _ _=>CA
 have c_p_weaker:sX l.prog w K mg base:=jY X G l5 (BP B) λ_ _ _ _=>CG
 have c_p_fits_behind:iM l.prog w K mg base:=jY X G l6 (r8 B c_p_weaker) λ_ _ _ _=>so
 have c_p_sets:oB l.prog w K mg base:=jY X G l7 (F1 B) λ_ _ _ _=>G3
 have c_p_places_read:lj l.prog w K mg base:=jY X G l8 (se B) λ_ _ _ _=>sr
 have c_p_reads:vN l.prog w K mg base:=jY X G l9 (Ek B) λ_ _ _ _=>E4
 have c_p_same_work:mU l.prog w K mg base:=jY X G l10 (vt B c_p_places_read c_p_reads) λ_ _ _ _=>vF
 have c_p_stands:je l.prog w K mg base:=jY X G l11 (BM B c_p_goal) λ_ _ _ _=>CC
 have c_p_is_right:oz l.prog w K mg base:=jY X G l12 (xY B c_p_behind2 c_q_leads c_p_fits_behind c_p_sets c_p_same_work c_p_stands) λ_ _ _ _=>yy
 have c_p_begun:vM l.prog w K mg base:=jY X G l13 (Ej B c_p_pushed) λ_ _ _ _=>E2
 have c_p_row_wrong:mT l.prog w K mg base:=jY X G l14 (vq B c_p_is_right c_p_stands c_p_begun c_p_fits_behind) λ_ _ _ _=>vE
 have c_p_unlike:sW l.prog w K mg base:=jY X G l15 (BN B) λ_ _ _ _=>CD
 have c_p_wrong:vO l.prog w K mg base:=jY X G l16 (El B c_p_row_wrong c_p_unlike) λ_ _ _ _=>E5
 have b17_1:qO K _ gH [Value.none]:=λs us X hl=>by(obtain⟨_,rfl⟩:=N6 (us:=us) (show us.length=1 from by rw[aq] at hl;exact Nat.succ.inj hl));exact PySem.W.binds_K (fd:=cW "walked" "walked" (gy e7) (e9 e7) (b8 e7) (.ref T17) kV17 dc17 pm17 an17 cd17 ct17) X rfl t17 rfl rfl rfl
 have c_p_walked_d1:sL l.prog w K mg base "walked" gH nQ [.non] (gK K):=⟨⟨_,_,_,mR X G a17,k17,b17_1,.cons rfl .nil,Ag F17 B c_p_leads c_p_sets⟩⟩
 have c_p_come_to:qQ l.prog w K mg base:=jY X G l18 (zM B c_p_walked_d1) λ_ _ _ _=>An
 have c_draw:iL l.prog w K mg base:=jY X G l19 (KB B) λ_ _ _ _=>LX
 have c_in:Kt l.prog w K mg base:=jY X G l20 (KD B) λ_ _ _ _=>NT
 have c_brought:pV l.prog w K mg base:=jY X G l21 (Ei B c_in) λ_ _ _ _=>E1
 have c_place:C4 l.prog w K mg base:=jY X G l22 (@Ir _ _ _ _ _ B c_draw) λ_ _ _ _=>JL
 have c_z_code_row:oD l.prog w K mg base:=jY X G l23 (ya B c_place) λ_ _ _ _=>yB
 have c_forgot:y7 l.prog w K mg base:=jY X G l24 (FZ B c_draw) λ_ _ _ _=>GZ
 have c_block:C2 l.prog w K mg base:=jY X G l25 (Im B c_draw c_brought c_p_stands c_in c_z_code_row c_forgot) λ_ _ _ _=>JJ
 have c_z_set_names:mV l.prog w K mg base:=jY X G l26 (mZ B c_q_leads) λ_ _ _ _=>m8
 have c_set_names:qT l.prog w K mg base:=jY X G l26 (mZ B c_q_leads) λ_ _ _ _=>vG
 have c_part_made:qR l.prog w K mg base:=jY X G l27 (zN B c_p_come_to c_block c_draw c_brought c_p_stands c_z_set_names) λ_ _ _ _=>Ao
 have c_names_of:nN l.prog w K mg base:=jY X G l28 (BJ B) λ_ _ _ _=>Cz
 have c_made:Fx l.prog w K mg base:=jY X G l29 (KF B c_part_made c_draw c_names_of) λ_ _ _ _=>LY
 have c_without:vR l.prog w K mg base:=jY X G l30 (Ep B) λ_ _ _ _=>E8
 have c_read_names:oC l.prog w K mg base:=jY X G l31 (x8 B) λ_ _ _ _=>yA
 have c_thinned:vQ l.prog w K mg base:=jY X G l32 (Eo B c_without c_names_of c_read_names) λ_ _ _ _=>E7
 have c_z_worth:vS l.prog w K mg base:=jY X G l33 (Er B c_draw) λ_ _ _ _=>E9
 have c_rough_row:qS l.prog w K mg base:=jY X G l34 (vv B c_draw c_z_worth) λ_ _ _ _=>vH
 have c_filled:y4 l.prog w K mg base:=jY X G l35 (FY B c_draw) λ_ _ _ _=>GY
 have c_mended:y8 l.prog w K mg base:=jY X G l36 (F0 B) λ_ _ _ _=>G0
 have c_part:Fy l.prog w K mg base:=jY X G l37 (KG B c_set_names c_rough_row c_filled c_mended c_draw) λ_ _ _ _=>LZ
 have c_names:C3 l.prog w K mg base:=jY X G l38 (Ip B c_draw) λ_ _ _ _=>JK
 have c_program:vP l.prog w K mg base:=jY X G l39 (Em B c_part c_draw c_names) λ_ _ _ _=>E6
 intro _ _ _ _ _ _ _ hr;exact MC B c_p_wrong c_made c_thinned c_program hr
theorem L5{K:Fg}{H:Hp}{a:Addr}{ns:List Int}(o:HV H)(h:bY K H a (ns.map V.int)):jJ K H a ns:=by
 rcases h with(h|h)|h
 ·rcases o a with z|⟨ob,xs,z⟩<;>rw[h] at z<;>cases z
 ·exact .inl h
 ·exact .inr h
theorem walk{l:PySem.W.OpenLaw}{q:Program}{loose:List Str}{XP:(Str->Option Value)->Heap->Prop}{YP:World->Heap->Prop}{d:DefRec}{K:Params->Fg}(hn:l.most=some 63)(hdf:d.params.defaults=[])
  (hY:∀(w:World) (h:Heap),YP w h->(K w.params).In h)
  (F:∀(w:World) (mg:Str->Option Value) (fa:Addr) (h:Heap),(K w.params).In h->h.Ns mainGlobals mg->mg d.name=some (.ref fa)->
   ∃fd:FuncData,(∀(s:Shared) (u:Value),BindsTo s fd ⟨[u],[]⟩ [("_law_script",u)])/\∀base:Heap,(K w.params).In base->base.Ns mainGlobals mg->pY l.prog w (K w.params) mg base C1 FF fa fd FL (yN (K w.params))) :
  PySem.W.WalkO q loose XP YP l.row.toRowW d [] (λf vs=>sU f vs):=
 L2.walk_of (n:=63) (k:=FF) (x:="_law_script") (CX:=λ_=>C1) (sp:=λw=>yN (K w.params)) hn (by decide) hdf ⟨rfl,by decide,by decide⟩ hY F (λ_ _ a ns hl hO hS=>⟨a,ns,rfl,L5 hO hS,hl,λ_=>rfl⟩) λ_ _ _ _ _ z=>z
end Bg
open PySem PySem.W PyProof.Rows
def PySem.W.Fast.tw11639690338593451646:Unit:=()
def PySem.W.Fast.tw2732818860325879395:Unit:=()
def PySem.W.Fast.tw5921704896886250561:Unit:=()
def PySem.W.Fast.tw9628864049892990892:Unit:=()
def PySem.W.Fast.tw8075916436586221234:Unit:=()
def PySem.W.Fast.tw2445015520097170615:Unit:=()
def PySem.W.Fast.tw3913760391661538914:Unit:=()
def PySem.W.Fast.tw16136489774632285528:Unit:=()
def PySem.W.Fast.tw12871293306510325048:Unit:=()
def PySem.W.Fast.tw968474510610195754:Unit:=()
def PySem.W.Fast.tw4022292201062603773:Unit:=()
def PySem.W.Fast.tw9913884031669226471:Unit:=()
def PySem.W.Fast.tw12838114849305164909:Unit:=()
def PySem.W.Fast.tw17174669040509131197:Unit:=()
def PySem.W.Fast.tw4908510542417608844:Unit:=()
def PySem.W.Fast.tw9966396725511174622:Unit:=()
def PySem.W.Fast.tw9581444505238368641:Unit:=()
def PySem.W.Fast.tw11288337002967418618:Unit:=()
set_option maxRecDepth 100000 in
set_option maxHeartbeats 0 in
theorem PySem.Challenge.cw_beltgarth_k52_papers_let_by_holds : PySem.Challenge.rw_beltgarth_k52_papers_let_by.Holds := by
 w_on;o_law;k_head;(case hw=>w_witness2)
 k_fill
 refine Bg.walk (l:=PySem.Challenge.rw_beltgarth_k52_papers_let_by) rfl rfl (λw h Y=>PySem.W.kIn_of Y) ?F
 case F=>
  intro w mg fa h KX G hmg
  refine' Bg.all_mk KX G hmg ?l0 ?l1 ?l2 ?l3 ?l4 ?l5 ?l6 ?l7 ?l8 ?l9 ?l10 ?l11 ?l12 ?l13 ?l14 ?l15 ?l16 ?a17 ?l17 ?c17 ?k17 ?t17 ?l18 ?l19 ?l20 ?l21 ?l22 ?l23 ?l24 ?l25 ?l26 ?l27 ?l28 ?l29 ?l30 ?l31 ?l32 ?l33 ?l34 ?l35 ?l36 ?l37 ?l38 ?l39 ?l40 ?z_len ?z_range ?z_divmod ?z_max ?z_min ?z_sum ?z_all ?z_isinstance ?z_int ?z_bool ?z_list ?z_tuple ?z_enumerate ?z_zip ?z_sorted ?z_set ?z_dict ?z_str ?z_any ?z_reversed ?z_abs
  case a17|l17|c17|k17|t17|z_len|z_range|z_divmod|z_max|z_min|z_sum|z_all|z_isinstance|z_int|z_bool|z_list|z_tuple|z_enumerate|z_zip|z_sorted|z_set|z_dict|z_str|z_any|z_reversed|z_abs=>k_is
  all_goals (refine' Bg.defAt ?a ?l ?c ?k;(case a|l|c|k=>k_is))
