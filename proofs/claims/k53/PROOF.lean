import PyProof.Rows.All
import Wide.All
import OpenK.AllK
import Wide.FinOn
import Lean
import PyProof.EqAt
import PyProof.EqKinds
import PyProof.TupleCall
import PyProof.FactsAll.NoneType_1
import KE.KRevIter
import PyProof.TupleOps
import PyProof.FactsAll.subtypes_4
import PyProof.FactsAll.tuple
import PyProof.DictWalks
import PyProof.TupleOfGen
import PyProof.WalkInts
import PyProof.SeqI3
import PyProof.SetKind
import PyProof.Rows.SetFrom
import PyProof.FactsAll.set
import PyProof.DictIter
import PyProof.WalksMore
import PyProof.MakeMany
import KE.KDictSum
import KE.KIntText
import KE.IntTextLaws
import PySem.Challenge.RW_beltgarth_k53_the_first_wrong_row
import PyProof.Rows.Range3
import PyProof.NoPylong
set_option Elab.async false
set_option autoImplicit true
set_option linter.all false
set_option maxHeartbeats 1000000
set_option maxHeartbeats 3200000
set_option maxHeartbeats 4000000
set_option maxRecDepth 100000
set_option relaxedAutoImplicit true
open List renaming getElem?_eq_getElem->cP,getElem?_eq_some_iff->cR,length_map->cT,length_append->c9,mem_singleton->dc,mem_of_getElem?->dg,replicate->dm,size_toArray->dq,map_append->dt,getElem?_map->dw,getElem?_append_right->dA,length_take->dB,mem_cons->dW,getElem?_append_left->dX,length_replicate->d3,length_singleton->d4,getElem?_set_self->d6,mem_append->d9,append_assoc->eu,getElem?_set_ne->eC,mem_cons_self->eG,mem_iff_getElem->eH,take_of_length_le->eK,length_pos_iff->eL,mem_append_right->eW,length_set->eX,length_reverse->e6,mem_cons_of_mem->fc,length_cons->fB,append_nil->fF,length_eq_zero_iff->fG,getElem?_eq_none->fI,take_length->fV,getLast?_eq_getElem?->fY,all_eq_true->gd,getElem_mem->gg,length_drop->gm,not_mem_nil->gq,map_cons->gu,map_take->gv,lookup_cons->gL,replicate_succ->gM,mem_append_left->gX,map_map->gZ,mem_filter->ir,nodup_cons->iu,length_filter_le->iS,getElem?_take->iV,length->i7,mem_of_mem_take->i9,mem_range->ja,length_nil->jo,nil_append->jq,range->jr,find?_cons->jN,flatten_cons->jQ,length_dropLast->jR,mem_map->jS,take_add_one->jT,mem_filterMap->ki,foldl_cons->kx,map_drop->kA,dropLast_eq_take->kE,length_range->kL,mem_or_eq_of_mem_set->ly,filterMap_cons->lz,forIn_cons->lI,head?_eq_getElem?->lY,length_pos_of_mem->lZ,reverse_cons->ma,dropLast_sublist->mI,getElem_map->mM,map_reverse->mN,any_cons->m6,map_eq_nil_iff->oq,take_succ_cons->ot,drop_zero->oT,forIn_nil->oU,map_replicate->oW,mem_replicate->oX,nodup_nil->oY,take_sublist->pK,all_cons->pU,mem_reverse->qp,take_append->qq,foldl->qW,of_mem_zip->rO,take_zero->sg,map_nil->u7,lookup->xO
open PySem renaming wpAny_bind->cS,Value->cV,sizeLine->c6,Addr->c7,Shared->da,wpAny_pure->di,Program->dv,starEach->dH,wpAny->dJ,World->dQ,Builtin->dS,Around->ef,mainGlobals->eB,wpAny_field->eM,NameKind->eQ,wpAny_callSpecial?_slot->e8,wpAny_call_entry->e9,PassesOwn->fS,wpAny_newObj_type->fU,compareOp->gi,wpAny_holding->gj,wpAny_specialOf->gJ,mem_of_lookup->gN,wpAny_seqItems->gU,foldedSetIterable->ia,assignEach->ix,backTo->iy,wpAny_isInstance->iz,binaryOp->iH,wpAny_mono->iI,FuncData->iQ,builtinLookup_eq_fast->iR,wpAny_forIn_list->iU,attributeBase->iY,placesWithHash->i5,wpAny_of_eq->i6,wpAny_truthy_bool->ji,sysModules->jm,wpAny_rule->jC,wpAny_setField_rec->jD,wpAny_passesOwn->jM,bootBuiltins->jP,IsTupleKey->jX,wpAny_attempt->jY,Keyword->j6,wpAny_Call_Name_kw->kg,wpAny_pyIter_tuple->kh,typeLookup_type->ku,wpAny_ite_split->kv,IsPair->kD,call_meets->kQ,carriedByValue->kR,firstArgMember->kS,isSubtype_type->kT,keywordEach->kU,tupleKind->lb,tupleKind_room_in1->lK,sliceBounds->lO,tupleKeyHash->lV,wpAny_pyIter_enum->lW,wpAny_pyIter_list->lX,swapsWith->mK,wpAny_pyIter_zip->mL,codeAny->mZ,plainId_quiet->m5,codeAny_builtin->nK,letOwnedTupleGo->nM,pyNext->nN,wpAny_dictEpoch->nO,wpAny_execs_nil->nP,wpAny_typeOf->oA,backToKw->oO,isSubtype_stop->oP,rawInt->oQ,wpAny_setField->oR,behindInMarks->pS,wpAny_standAt->pT,ZipApart->qo,IsPart->qS,call_meetsIn->qT,entryOfKey->qU,typeIs_int->qV,sizeLine_eq->sf,BindsTo->tw,callerA->tE,eqIsQuiet->tF,getItem->tG,PlainAttrs->uF,isInstance->uG,call->zh
open Int renaming toNat_natCast->c8,natCast_nonneg->dz,eq_ofNat_of_zero_le->fb,emod_lt_of_pos->gW,emod_nonneg->gY,toNat->iA
open PySem.Heap renaming get?_push_of_some->df,lt_size->dD,get?_push_size->dI,get?_update_other->iJ,get?_update_self->jG,size_push->ka
open Nat renaming le_refl->dk,ne_of_lt->eg,lt_of_lt_of_le->eI,zero_le->eV,le_trans->fq,not_lt_zero->fN,le_of_lt->g7,lt_irrefl->ih,sub_self->iv,add_sub_cancel_left->jj,lt_trichotomy->me,min_eq_left->nQ,add_sub_cancel'->ou,ne_of_gt->oB,mul_le_mul->oZ,min_eq_right->qr,mul_comm->u9,sub_zero->va
open PySem.W renaming mg_none_of->eD,nsIn->fz,fnOf->hH,keepIn->iL,codeIn->jE,methodObj->pL,mg_of->tV
open PyProof.Rows renaming callWith_type1->fL,boot_tuple->fZ,slot_tuple_getitem->iP,IsTup->mG,envOfC->mJ,boot_isinstance->nJ,AllBare->pJ,IntsAre->qR,boot_int->se
open Option renaming map_some->fO,getD_some->iB,map_eq_some_iff->iK,isSome_iff_exists->jZ,isSome_map->mf
open Array renaming length_toList->ju,getElem?_eq_getElem->jI,getElem?_toList->mH,toArray_toList->nu,toList_append->oo,forIn_toList->oS,toList->u6
open PySem.F renaming slot_dict_get->kF,args_tuple_add_2->lF,args_dict_get_3->lP,entry_tuple_add->lQ,entry_dict_get->mh,slot_tuple_add->mj
abbrev Fg := PySem.W.Frag
def Zu:0<=PySem.sizeLine:=by decide
def Zv:1<=PySem.sizeLine:=by decide
def Zw:2<=PySem.sizeLine:=by decide
def Zx:3<=PySem.sizeLine:=by decide
def Zy:4<=PySem.sizeLine:=by decide
abbrev Zz:=PySem.Value->PySem.Shared->Prop
namespace Bg
def XI{b:Type}{P:List b->Prop}{us:List b}(h:us.length=0)(k:P []):P us:=by cases us with|nil=>exact k|cons a r=>cases h
def Xm{b:Type}{P:List b->Prop}{us:List b}(h:us.length=1)(k:∀c,P [c]):P us:=by cases us with|nil=>cases h|cons a r=>exact XI (P:=λr=>P (a::r)) (Nat.succ.inj h) (k a)
def Xn{b:Type}{P:List b->Prop}{us:List b}(h:us.length=2)(k:∀c d,P [c,d]):P us:=by cases us with|nil=>cases h|cons a r=>exact Xm (P:=λr=>P (a::r)) (Nat.succ.inj h) (k a)
def Xo{b:Type}{P:List b->Prop}{us:List b}(h:us.length=3)(k:∀c d e,P [c,d,e]):P us:=by cases us with|nil=>cases h|cons a r=>exact Xn (P:=λr=>P (a::r)) (Nat.succ.inj h) (k a)
def Xp{b:Type}{P:List b->Prop}{us:List b}(h:us.length=4)(k:∀c d e f,P [c,d,e,f]):P us:=by cases us with|nil=>cases h|cons a r=>exact Xo (P:=λr=>P (a::r)) (Nat.succ.inj h) (k a)
def XJ{b:Type}{P:List b->Prop}{us:List b}(h:us.length=5)(k:∀c d e f g,P [c,d,e,f,g]):P us:=by cases us with|nil=>cases h|cons a r=>exact Xp (P:=λr=>P (a::r)) (Nat.succ.inj h) (k a)
def Xq{b:Type}{P:List b->Prop}{us:List b}(h:us.length=6)(k:∀c d e f g i,P [c,d,e,f,g,i]):P us:=by cases us with|nil=>cases h|cons a r=>exact XJ (P:=λr=>P (a::r)) (Nat.succ.inj h) (k a)
def XM{b:Type}{P:List b->Prop}{us:List b}(h:us.length=7)(k:∀c d e f g i j,P [c,d,e,f,g,i,j]):P us:=by cases us with|nil=>cases h|cons a r=>exact Xq (P:=λr=>P (a::r)) (Nat.succ.inj h) (k a)
def Xl{b:Type}{us:List b}(h:us.length=1):∃a,us=[a]:=Xm (P:=λus=>∃a,us=[a]) h λa=>⟨a,rfl⟩
def XB{c:Type}{us:List c}(h:us.length=2):∃a b,us=[a,b]:=Xn (P:=λus=>∃a b,us=[a,b]) h λa b=>⟨a,b,rfl⟩
def XC{d:Type}{us:List d}(h:us.length=3):∃a b c,us=[a,b,c]:=Xo (P:=λus=>∃a b c,us=[a,b,c]) h λa b c=>⟨a,b,c,rfl⟩
def XE{e:Type}{us:List e}(h:us.length=4):∃a b c d,us=[a,b,c,d]:=Xp (P:=λus=>∃a b c d,us=[a,b,c,d]) h λa b c d=>⟨a,b,c,d,rfl⟩
def XG{g:Type}{us:List g}(h:us.length=6):∃a b c d e f,us=[a,b,c,d,e,f]:=Xq (P:=λus=>∃a b c d e f,us=[a,b,c,d,e,f]) h λa b c d e f=>⟨a,b,c,d,e,f,rfl⟩
def XH{i:Type}{us:List i}(h:us.length=7):∃a b c d e f g,us=[a,b,c,d,e,f,g]:=XM (P:=λus=>∃a b c d e f g,us=[a,b,c,d,e,f,g]) h λa b c d e f g=>⟨a,b,c,d,e,f,g,rfl⟩
end Bg
namespace L2
open PySem PySem.Spec PyProof.Rows
abbrev pI:=Sum Int Str
def uh:pI->cV->Bool
 |.inl k,v=>cV.isInt k v
 |.inr x,v=>cV.isStrOf x v
def VZ(w:dQ):pI->Int
 |.inl k=>hashInt k
 |.inr x=>hashStr w x
theorem jf:∀{k:pI} {v:cV},uh k v=true->(∃i t,k=Sum.inl i/\v=cV.int i t)\/(∃x t,k=Sum.inr x/\v=cV.str x t)
 |.inl i,v,h=>by
  obtain⟨t,e⟩:=cV.isInt_shape (k:=i) (v:=v) h;exact .inl ⟨i,t,rfl,e⟩
 |.inr x,v,h=>by
  obtain⟨t,e⟩:=cV.isStrOf_shape (x:=x) (v:=v) h;exact .inr ⟨x,t,rfl,e⟩
def LQ(i:Int)(t:Tok):uh (.inl i) (.int i t)=true:=by simp[uh,cV.isInt]
def LR(x:Str)(t:Tok):uh (.inr x) (.str x t)=true:=by simp[uh,cV.isStrOf]
def Uj(a b:Int):decide ((Sum.inl a:pI)=Sum.inl b)=(a==b):=by
 by_cases e:a=b
 ·subst e;simp
 ·have h:¬(Sum.inl a:pI)=Sum.inl b:=λq=>e (Sum.inl.inj q);rw[decide_eq_false h];exact(beq_eq_false_iff_ne.mpr e).symm
def Uo(a b:Str):decide ((Sum.inr a:pI)=Sum.inr b)=decide (a=b):=by
 by_cases e:a=b
 ·subst e;simp
 ·have h:¬(Sum.inr a:pI)=Sum.inr b:=λq=>e (Sum.inr.inj q);rw[decide_eq_false h,decide_eq_false e]
def Uk(a:Int)(b:Str):decide ((Sum.inl a:pI)=Sum.inr b)=false:=decide_eq_false (λq=>nomatch q)
def Um(a:Str)(b:Int):decide ((Sum.inr a:pI)=Sum.inl b)=false:=decide_eq_false (λq=>nomatch q)
def jk(prog:dv)(w:dQ):PySem.KeyKind prog w pI where
 is:=uh
 hash:=VZ w
 inj:=λv a b f d=>by
  rcases jf f with⟨i,t,rfl,rfl⟩|⟨x,t,rfl,rfl⟩
  ·rcases jf d with⟨j,u,rfl,e⟩|⟨y,u,rfl,e⟩
   ·injection e with e1 _;rw[e1]
   ·exact nomatch e
  ·rcases jf d with⟨j,u,rfl,e⟩|⟨y,u,rfl,e⟩
   ·exact nomatch e
   ·injection e with e1 _;rw[e1]
 byValue:=λk v h=>by
  rcases jf h with⟨i,t,rfl,rfl⟩|⟨x,t,rfl,rfl⟩<;>rfl
 pyHash:=λc h=>by
  rcases jf c with⟨i,t,rfl,rfl⟩|⟨x,t,rfl,rfl⟩
  ·exact wpAny_pyHash_int h
  ·exact wpAny_pyHash_str h
 eqBool:=λg c h=>by
  rcases jf g with⟨i,t,rfl,rfl⟩|⟨x,t,rfl,rfl⟩
  ·rcases jf c with⟨j,u,rfl,rfl⟩|⟨y,u,rfl,rfl⟩
   ·rw[Uj] at h;exact wpAny_eqBool_int h
   ·rw[Uk] at h;exact SeqAt.EqAt.int_str i t y u _ _ _ _ h
  ·rcases jf c with⟨j,u,rfl,rfl⟩|⟨y,u,rfl,rfl⟩
   ·rw[Um] at h;exact SeqAt.EqAt.str_int x t j u _ _ _ _ h
   ·rw[Uo] at h;exact wpAny_eqBool_str h
 «strs»:=λk x t v h=>by
  rcases jf h with⟨i,u,rfl,e⟩|⟨y,u,rfl,e⟩
  ·exact nomatch e
  ·injection e with e1 _;subst e1;cases v<;>rfl
def Gx(prog:dv)(w:dQ)(i:Int)(t:Tok):(jk prog w).is (.inl i) (.int i t)=true:=LQ i t
def Gy(prog:dv)(w:dQ)(x:Str)(t:Tok):(jk prog w).is (.inr x) (.str x t)=true:=LR x t
section
variable{prog:dv}{w:dQ}{A:ef}{E:Zz}{s:da}
def vx(n:String):(some (cV.builtin n)==some cV.none)=false:=by rfl
def NV{Q:Int->da->Prop}(h:Q 0xFCA86420 {s with toks:=s.toks+1}):dJ (model prog w) A (pyHash .none) Q E s:=by
 unfold pyHash;have a:s.TypeIs .none "NoneType":=rfl;refine cS ?_;have b:[cV.none].any cV.onHeap=false:=rfl;rw[cRoomFor,if_neg (by rw[b];exact Bool.false_ne_true)];refine di ?_;refine cS (gJ a F.slot_NoneType_hash.lookup ?_);show dJ _ _ (if(some (cV.builtin "NoneType.__hash__")==some cV.none)=true then _ else _) Q E s;rw[if_neg (by rw[vx];exact Bool.false_ne_true)];refine cS (gJ a F.slot_NoneType_hash.lookup ?_);show dJ _ _ (callSpecialIfBoundUnlessNone? .none "__hash__" _ >>= _) Q E s;refine cS (wpAny_callSpecialIfBoundUnlessNone?_slot a F.slot_NoneType_hash
  (e9 F.slot_NoneType_hash a F.entry_NoneType_hash
   (show dJ _ _ (do ret (<-mkInt 0xFCA86420)) _ _ s from wpAny_ret_mkInt ?_) (F.args_NoneType_hash_1 _)))
 show dJ _ _ (if(decide (-(2:Int) ^ 63<=0xFCA86420)&&decide ((0xFCA86420:Int)<2 ^ 63))=true then _ else _) Q E _;rw[if_pos (by decide)];exact di h
end
abbrev iC:=Option pI
def SW:iC->cV->Bool
 |none,.none=>true
 |none,_=>false
 |some k,v=>uh k v
def W5(w:dQ):iC->Int
 |none=>0xFCA86420
 |some k=>VZ w k
theorem jV:∀{k:iC} {v:cV},SW k v=true->(k=none/\v=cV.none)\/∃a,k=some a/\uh a v=true
 |some a,v,h=>.inr ⟨a,rfl,h⟩
 |none,.none,_=>.inl ⟨rfl,rfl⟩
def Up(a:pI):decide ((some a:iC)=none)=false:=decide_eq_false (λq=>nomatch q)
def Ul(a:pI):decide ((none:iC)=some a)=false:=decide_eq_false (λq=>nomatch q)
def Uq(a b:pI):decide ((some a:iC)=some b)=decide (a=b):=by
 by_cases e:a=b
 ·subst e;simp
 ·rw[decide_eq_false e,decide_eq_false (λq=>e (Option.some.inj q))]
def C8{k:pI}:uh k .none=false:=by cases k<;>rfl
def m9(prog:dv)(w:dQ):PySem.KeyKind prog w iC where
 is:=SW
 hash:=W5 w
 inj:=λv a b d c=>by
  rcases jV d with⟨rfl,rfl⟩|⟨l,rfl,d⟩
  ·rcases jV c with⟨rfl,_⟩|⟨f,rfl,g⟩
   ·rfl
   ·rw[C8] at g;cases g
  ·rcases jV c with⟨rfl,rfl⟩|⟨f,rfl,c⟩
   ·exact absurd (show uh l .none=true from d) (by rw[C8];decide)
   ·rw[(jk prog w).inj v l f d c]
 byValue:=λk v h=>by
  rcases jV h with⟨rfl,rfl⟩|⟨i,rfl,h⟩
  ·rfl
  ·exact(jk prog w).byValue i v h
 pyHash:=λm h=>by
  rcases jV m with⟨rfl,rfl⟩|⟨i,rfl,n⟩
  ·exact NV h
  ·exact(jk prog w).pyHash (k:=i) n h
 eqBool:=λo m h=>by
  rcases jV o with⟨rfl,rfl⟩|⟨l,rfl,d⟩
  ·rcases jV m with⟨rfl,rfl⟩|⟨f,rfl,c⟩
   ·exact SeqAt.EqAt.same _ _ _ _ _ (by simpa using h)
   ·rw[Ul] at h;rcases jf c with⟨j,u,rfl,rfl⟩|⟨y,u,rfl,rfl⟩
    ·exact SeqAt.EqAt.none_int j u _ _ _ _ h
    ·exact SeqAt.EqAt.none_str y u _ _ _ _ h
  ·rcases jV m with⟨rfl,rfl⟩|⟨f,rfl,c⟩
   ·rw[Up] at h;rcases jf d with⟨j,u,rfl,rfl⟩|⟨y,u,rfl,rfl⟩
    ·exact SeqAt.EqAt.int_none j u _ _ _ _ h
    ·exact SeqAt.EqAt.str_none y u _ _ _ _ h
   ·rw[Uq] at h;exact(jk prog w).eqBool (a:=l) (b:=f) d c h
 «strs»:=λk x t v h=>by
  rcases jV h with⟨rfl,e⟩|⟨i,rfl,h⟩
  ·exact nomatch e
  ·exact(jk prog w).strs i x t v h
section
variable{prog:dv}{w:dQ}{K:Type}[DecidableEq K](knd:KeyKind prog w K)
def iW(h:Heap)(k:K×List K)(a:c7):Prop:=∃o v b n,h.get? a=some o/\o.cls=.type "tuple"/\o.data=.seq #[v,.ref b] n/\knd.is k.1 v=true/\jX knd h k.2 b
variable{knd}
def iW.typeIs{s:da}{k:K×List K}{a:c7}(x:iW knd s.heap k a):s.TypeIs (.ref a) "tuple":=let⟨o,_,_,_,c,b,_⟩:=x;⟨o,c,b⟩
def iW.inj{h:Heap}{a:c7}{x y:K×List K}(p:iW knd h x a)(q:iW knd h y a):x=y:=by
 obtain⟨o,v,b,n,m,_,l,j,k⟩:=p;obtain⟨r,s,i,t,g,_,c,d,f⟩:=q;obtain rfl:o=r:=Option.some.inj (m.symm.trans g);rw[l] at c;injection c with e _;have e:[v,cV.ref b]=[s,cV.ref i]:=congrArg u6 e;injection e with e1 e2;injection e2 with e2 _;injection e2 with e2;subst e1 e2;exact Prod.ext (knd.inj _ _ _ j d) (k.inj f)
def iW.keeps{h h':Heap}{k:K×List K}{a d:c7}{o:Obj}{es ep}(x:iW knd h k a)(i:h.get? d=some o)(g:o.data=.dict es ep)(j:Heap.SameBut d h h'):iW knd h' k a:=by
 obtain⟨l,v,b,n,e,q,c,m,p⟩:=x;have f:a≠d:=by
  rintro rfl;obtain rfl:l=o:=Option.some.inj (e.symm.trans i);rw[g] at c;exact nomatch c
 exact⟨l,v,b,n,(j.2 a f).trans e,q,c,m,p.keeps i g j⟩
def Aj(knd:KeyKind prog w K)(k:K×List K):Int:=reduceHash (dS.Tuple.tupleHashOf [knd.hash k.1,lV knd k.2])
variable{A:ef}{E:Zz}{s:da}
def wC{k:K×List K}{a:c7}{Q:Int->da->Prop}(t:A.units+1<cLine)(j:iW knd s.heap k a)(h:Q (Aj knd k) {s with toks:=s.toks+(k.2.length+3)}) :
  dJ (model prog w) A (pyHash (.ref a)) Q E s:=by
 have g:=j.typeIs;obtain⟨o,v,b,n,r,_,q,m,p⟩:=j;unfold pyHash
 first|unfold pyHashByItsType|skip
 first|refine cS (wpAny_cRoomFor_or (.inr (by lia)) ?_)|skip
 refine cS (gJ g F.slot_tuple_hash.lookup ?_);show dJ _ _ (if(some (cV.builtin "tuple.__hash__")==some cV.none)=true then _ else _) Q E s;rw[if_neg (by rw[beq_builtin_none];exact Bool.false_ne_true)];refine cS (gJ g F.slot_tuple_hash.lookup ?_);show dJ _ _ (callSpecialIfBoundUnlessNone? (.ref a) "__hash__" _ >>= _) Q E s;refine cS (wpAny_callSpecialIfBoundUnlessNone?_slot g F.slot_tuple_hash (e9 F.slot_tuple_hash g F.entry_tuple_hash ?_ (F.args_tuple_hash_1 _)));show dJ _ _ (dS.Tuple.tupleItemsOf (.ref a) >>= _) _ _ s;refine cS (wpAny_tupleItemsOf r q ?_);refine cS ?_;rw[<-oS];refine iU _
  (λrest (d:Array Int) f=>(rest=[v,.ref b]/\d.toList=[]/\f=s)\/(rest=[.ref b]/\d.toList=[knd.hash k.1]/\f={s with toks:=s.toks+1})\/(rest=[]/\d.toList=[knd.hash k.1,lV knd k.2]/\f={s with toks:=s.toks+1+(k.2.length+1)}))
  _ ?_ ?_ _ _ (.inl ⟨rfl,rfl,rfl⟩)
 ·rintro x rest d f (⟨e,c,rfl⟩|⟨e,c,rfl⟩|⟨e,_⟩)
  ·injection e with e1 e2;subst e1 e2;refine cS (knd.pyHash m ?_)
   first
    |exact di (.inr (.inl ⟨rfl,by simp[c],rfl⟩))
    |exact cS (di (di (.inr (.inl ⟨rfl,by simp[c],rfl⟩))))
  ·injection e with e1 e2;subst e1 e2;refine cS (wpAny_pyHash_tuple (ks:=k.2) (by show A.units+1<cLine;lia) p ?_)
   first
    |exact di (.inr (.inr ⟨rfl,by simp[c],rfl⟩))
    |exact cS (di (di (.inr (.inr ⟨rfl,by simp[c],rfl⟩))))
  ·cases e
 ·rintro d f (⟨e,_⟩|⟨e,_⟩|⟨_,c,rfl⟩)
  ·cases e
  ·cases e
  ·show dJ _ _ (retInt (dS.Tuple.tupleHashOf d.toList)) _ _ _;rw[c];refine wpAny_ret_mkInt ?_;show dJ _ _ (if(decide (-(2:Int) ^ 63<=dS.Tuple.tupleHashOf [knd.hash k.1,lV knd k.2])&&decide (dS.Tuple.tupleHashOf [knd.hash k.1,lV knd k.2]<2 ^ 63))=true then _ else _) Q E _;unfold Aj reduceHash at h;have l:s.toks+(k.2.length+3)=s.toks+1+(k.2.length+1)+1:=by lia
   rw[l] at h;by_cases i:(decide (-(2:Int) ^ 63<=dS.Tuple.tupleHashOf [knd.hash k.1,lV knd k.2])&&decide (dS.Tuple.tupleHashOf [knd.hash k.1,lV knd k.2]<2 ^ 63))=true
   ·rw[if_pos i];rw[if_pos i] at h;exact di h
   ·rw[if_neg i];rw[if_neg i] at h;exact cS (jC (di h))
def EC{x y:K×List K}{a b:c7}{P:Fin->da->Prop}(I:A.units<cLine)(J:iW knd s.heap x a)(H:iW knd s.heap y b)(h:P (.done (.ret (.bool (decide (x=y))))) s) :
  dJ (model prog w) A (dS.«tuple.__eq__» ⟨[.ref a,.ref b],[]⟩) P E s:=by
 have i:=H.typeIs;obtain⟨R,L,C,O,p,_,n,j,k⟩:=J;obtain⟨S,M,D,Q,q,_,o,l,m⟩:=H;show dJ _ _ (uG (.ref b) (.type "tuple") >>= _) _ _ s;refine cS (iz i isSubtype_tuple_tuple ?_);simp only[Bool.not_true,Bool.false_eq_true,if_false];refine cS (wpAny_tupleItemsOf p n ?_);refine cS (wpAny_tupleItemsOf q o ?_);refine cS ?_;have G:decide (x=y)=(decide (x.1=y.1)&&decide (x.2=y.2)):=by
  by_cases d:x.1=y.1
  ·by_cases f:x.2=y.2
   ·rw[decide_eq_true d,decide_eq_true f,decide_eq_true (Prod.ext d f)];rfl
   ·rw[decide_eq_true d,decide_eq_false f,decide_eq_false λz=>f (congrArg Prod.snd z)];rfl
  ·rw[decide_eq_false d,decide_eq_false λz=>d (congrArg Prod.fst z)];rfl
 refine iU _
  (λrest r B=>r.1=none/\B=s/\(rest=[(L,M),(.ref C,.ref D)]\/(rest=[(.ref C,.ref D)]/\x.1=y.1)\/(rest=[]/\x=y)))
  _ ?_ ?_ _ _ ⟨rfl,rfl,.inl rfl⟩
 ·rintro⟨u,v⟩ rest r B ⟨t,rfl,e|⟨e,g⟩|⟨e,_⟩⟩
  ·injection e with g e2;injection g with e3 e4;subst e3 e4 e2;refine cS (knd.eqBool (a:=x.1) (b:=y.1) j l ?_);by_cases c:x.1=y.1
   ·rw[decide_eq_true c];simp only[Bool.not_true,Bool.false_eq_true,if_false];exact di ⟨rfl,rfl,.inr (.inl ⟨trivial,c⟩)⟩
   ·rw[decide_eq_false c];simp only[Bool.not_false,if_true];rw[G,decide_eq_false c] at h;exact cS (di (di (di h)))
  ·injection e with e2 e3;injection e2 with e4 e5;subst e4 e5 e3;refine cS (wpAny_eqBool_tuple (x:=x.2) (y:=y.2) I k m ?_);by_cases c:x.2=y.2
   ·rw[decide_eq_true c];simp only[Bool.not_true,Bool.false_eq_true,if_false];exact di ⟨rfl,rfl,.inr (.inr ⟨trivial,Prod.ext g c⟩)⟩
   ·rw[decide_eq_false c];simp only[Bool.not_false,if_true];rw[G,decide_eq_false c,Bool.and_false] at h;exact cS (di (di (di h)))
  ·cases e
 ·rintro⟨T,U⟩ B ⟨t,rfl,e|⟨e,_⟩|⟨_,e⟩⟩
  ·cases e
  ·cases e
  ·simp only at t;subst t;refine di ?_;rw[decide_eq_true e] at h;exact h
def wB{x y:K×List K}{a b:c7}{Q:Bool->da->Prop}(g:A.units+1<cLine)(d:iW knd s.heap x a)(f:iW knd s.heap y b)(h:Q (decide (x=y)) s) :
  dJ (model prog w) A (eqBool (.ref a) (.ref b)) Q E s:=by
 unfold eqBool
 try with_reducible refine gj ?_
 show dJ _ _ (if(cV.ref a==cV.ref b)=true then _ else _) Q E s;by_cases c:(cV.ref a==cV.ref b)=true
 ·rw[if_pos c];have e:a=b:=by have:=eq_of_beq c;injection this
  subst e;obtain rfl:=d.inj f;exact cS (jC (di (by simpa using h)))
 ·rw[if_neg c];exact cS (wpAny_richCompare_same_room (op:=.Eq) d.typeIs f.typeIs F.slot_tuple_eq
   (e9 F.slot_tuple_eq d.typeIs F.entry_tuple_eq (EC (by show A.units+1<cLine;lia) d f ⟨_,rfl,(λe=>nomatch e),ji h⟩) (F.args_tuple_eq_2 _ _)) (by lia))
def GH{n:Nat}{ks:List K}{a:c7}{Q:Bool->da->Prop}(g:jX knd s.heap ks a)(h:Q true s):dJ (model prog w) A (tF (n+1) (.ref a)) Q E s:=by
 have f:=g.typeIs;obtain⟨o,items,n,k,_,i,j⟩:=g;unfold tF;refine cS (gJ f F.slot_tuple_eq.lookup ?_);show dJ _ _ (uG (.ref a) (.type "tuple") >>= _) _ _ s;refine cS (iz f isSubtype_tuple_tuple ?_);simp only[Bool.not_true,Bool.false_eq_true,if_false];refine cS (gU k i ?_);refine cS ?_;show dJ _ _ (forIn items _ _) _ _ s;rw[<-oS];refine iU _ (λrest r e=>r.1=none/\e=s/\∀v∈rest,kR v=true) _ ?_ ?_ _ _ ⟨rfl,rfl,j.byValue⟩
 ·rintro v rest r e ⟨c,rfl,b⟩;rw[eqIsQuiet_byValue _ (b v eG)];refine cS (di ?_);simp only[Bool.not_true,Bool.false_eq_true,if_false];exact di ⟨rfl,rfl,λu d=>b u (fc _ d)⟩
 ·rintro⟨l,m⟩ e ⟨c,rfl,_⟩;simp only at c;subst c;exact di h
def Jh{k:K×List K}{a:c7}{Q:Bool->da->Prop}(m:iW knd s.heap k a)(h:Q true s):dJ (model prog w) A (tF 8 (.ref a)) Q E s:=by
 have l:=m.typeIs;obtain⟨o,v,b,n,B,_,y,q,t⟩:=m;unfold tF;refine cS (gJ l F.slot_tuple_eq.lookup ?_);show dJ _ _ (uG (.ref a) (.type "tuple") >>= _) _ _ s;refine cS (iz l isSubtype_tuple_tuple ?_);simp only[Bool.not_true,Bool.false_eq_true,if_false];refine cS (gU B y ?_);refine cS ?_;show dJ _ _ (forIn #[v,cV.ref b] _ _) _ _ s;rw[<-oS];refine iU _ (λrest r f=>r.1=none/\f=s/\∀v∈rest,kR v=true\/v=.ref b) _ ?_ ?_ _ _ ⟨rfl,rfl,λu e=>?_⟩
 ·rintro v rest r f ⟨i,rfl,d⟩;have g:dJ (model prog w) A (tF 7 v) (λx p=>x=true/\p=f) E f:=by
   rcases d v eG with c|c
   ·rw[eqIsQuiet_byValue _ c];exact di ⟨rfl,rfl⟩
   ·subst c;exact GH t ⟨rfl,rfl⟩
  refine cS (iI g (λx p C=>?_) λ_ _ z=>z);obtain⟨rfl,rfl⟩:=C;simp only[Bool.not_true,Bool.false_eq_true,if_false];exact di ⟨rfl,rfl,λu j=>d u (fc _ j)⟩
 ·rintro⟨D,G⟩ f ⟨i,rfl,_⟩;simp only at i;subst i;exact di h
 ·have e:u∈[v,cV.ref b]:=e;rcases dW.mp e with rfl|e
  ·exact .inl (knd.byValue _ _ q)
  ·exact .inr (dc.mp e)
end
def Os{prog:dv}{w:dQ}{K:Type}[DecidableEq K](knd:KeyKind prog w K):HeapKind prog w (K×List K) where
 is:=iW knd
 hash:=Aj knd
 draws:=λk=>k.2.length+3
 room:=λA=>A.units+1<cLine
 inj:=λc d=>c.inj d
 keeps:=λx f e g=>x.keeps f e g
 pyHash:=λb a h=>wC b a h
 eqBool:=λb c d h=>wB b c d h
 quiet:=λa h=>Jh a h
inductive V where
 |non|bl (b:Bool)|int (i:Int)|str (x:Str)|byt (b:Array UInt8)|flt (b:UInt64)|ref (a:c7)|ty (n:String)
 deriving DecidableEq
abbrev XU(p:c7):Option V:=some (.ref p)
abbrev XW(n:Nat):Option V:=some (.int (n:Nat))
abbrev XX(n:Int):Option V:=some (.int n)
def hV:V->cV->Prop
 |.non,u=>u=cV.none
 |.bl b,u=>u=cV.bool b
 |.int i,u=>∃t,u=cV.int i t
 |.str x,u=>∃t,u=cV.str x t
 |.byt b,u=>∃t,u=cV.bytes b t
 |.flt b,u=>∃t,u=cV.float b t
 |.ref a,u=>u=cV.ref a
 |.ty n,u=>u=cV.type n
abbrev gy:List V->List cV->Prop:=Paired hV
def gy.length{xs:List V}{us:List cV}(r:gy xs us):xs.length=us.length:=Paired.length r
theorem gy.get:∀{xs:List V} {us:List cV} {i:Nat} {x:V},gy xs us->xs[i]?=some x->∃u,us[i]?=some u/\hV x u
 |_,_,_,_,.nil,e=>by simp at e
 |_,_,0,_,.cons r _,e=>by simp at e;subst e;exact⟨_,rfl,r⟩
 |_,_,i+1,x,.cons _ t,e=>by
  obtain⟨u,a,b⟩:=gy.get (i:=i) (x:=x) t (by simpa using e);exact⟨u,by simpa using a,b⟩
theorem gy.set{x:V}{u:cV}(r:hV x u):∀{xs:List V} {us:List cV} (i:Nat),gy xs us->gy (xs.set i x) (us.set i u)
 |_,_,_,.nil=>.nil
 |_,_,0,.cons _ t=>.cons r t
 |_,_,i+1,.cons q t=>.cons q (gy.set r i t)
theorem gy.append:∀{xs ys:List V} {us a:List cV},gy xs us->gy ys a->gy (xs++ys) (us++a)
 |_,_,_,_,.nil,s=>s
 |_,_,_,_,.cons r t,s=>.cons r (gy.append t s)
theorem gy.take:∀{xs:List V} {us:List cV} (n:Nat),gy xs us->gy (xs.take n) (us.take n)
 |_,_,0,_=>.nil
 |_,_,_+1,.nil=>.nil
 |_,_,n+1,.cons r t=>.cons r (gy.take n t)
theorem gy.drop:∀{xs:List V} {us:List cV} (n:Nat),gy xs us->gy (xs.drop n) (us.drop n)
 |_,_,0,r=>r
 |_,_,_+1,.nil=>.nil
 |_,_,n+1,.cons _ t=>gy.drop n t
def FS:Option V->Option cV->Prop
 |some v,some u=>hV v u
 |none,none=>True
 |_,_=>False
def KV{a:Type}:List (a×V)->List (a×cV)->Prop:=Paired λ(p:a×V) (q:a×cV)=>p.1=q.1/\hV p.2 q.2
def kV:pI->V
 |.inl i=>.int i
 |.inr x=>.str x
def kN:iC->V
 |none=>.non
 |some k=>kV k
inductive HO where
  |lst (xs:List V)
  |tup (xs:List V)
  |dK (kvs:List (pI×V))|dT (kvs:List (List iC×V))|dP (kvs:List ((iC×List iC)×V))
  |set (S:Int->Bool) (n:Nat)
  |ins (C dx:c7) (fs:List (Str×V))
  |own (x:c7)
  |xd (fs:List (Str×V))
  |met (f x:c7)
  |rng (lo hi:Int)
  |frz (o:Obj) (u:HO)
  |tbl (ps:Array cV)
  |ext (φ:Heap->Prop)
abbrev Hp:=c7->Option HO
def upd(H:Hp)(a:c7)(o:HO):Hp:=λb=>if b=a then some o else H b
def cW{H:Hp}{a:c7}{o:HO}:upd H a o a=some o:=by unfold upd;rw[if_pos rfl]
def dC{H:Hp}{a b:c7}{o:HO}(h:b≠a):upd H a o b=H b:=by unfold upd;rw[if_neg h]
def Ft{H:Hp}{a:c7}{o u:HO}:upd (upd H a o) a u=upd H a u:=by
 funext b;unfold upd;split<;>rfl
def SV{H:Hp}{a b:c7}{o u:HO}(h:H a=some o)(h':H b=some u)(d:o≠u):a≠b:=by
 intro e;subst e;rw[h] at h';exact d (Option.some.inj h')
def de{H:Hp}{a b:c7}{o:HO}(h:H a=some o)(h':H b=none):a≠b:=by
 intro e;subst e;rw[h] at h';cases h'
def pe(h:Heap)(a:c7)(items:Array cV):Prop:=∃o,h.get? a=some o/\(o.cls=.type "tuple"/\o.dict=none)/\∃n,o.data=.seq items n
def pe.tup{h:Heap}{a:c7}{items:Array cV}(x:pe h a items):mG h a items:=let⟨o,e,c,n⟩:=x;⟨o,e,c.1,n⟩
def pe.lt{h:Heap}{a:c7}{items:Array cV}(x:pe h a items):a<h.objs.size:=let⟨_,e,_⟩:=x;dD e
def pe.new(h:Heap)(items:Array cV):pe (h.push {cls:=.type "tuple",data:=.seq items}) h.objs.size items:=⟨_,dI _ rfl,⟨rfl,rfl⟩,_,rfl⟩
section
variable(P:dv)(w:dQ)
def kb(H:Hp)(h:Heap)(a:c7):HO->Prop
 |.lst d=>d.length<=c6/\∃(e:List cV) (n:Nat),gy d e/\h.get? a=some {cls:=.type "list",data:=.seq e.toArray n}
 |.tup d=>d.length<=c6/\∃e:List cV,gy d e/\pe h a e.toArray
 |.dK c=>c.length<=c6/\(a==jm)=false/\∃y,KV c y/\h.DictOf (jk P w) a y
 |.dT c=>c.length<=c6/\(a==jm)=false/\∃d:List (List iC×c7×cV),
   Paired (λ(p:List iC×V) (q:List iC×c7×cV)=>p.1=q.1/\H q.2.1=some (.tup (p.1.map kN))/\hV p.2 q.2.2) c d/\
   ∃o i l,h.get? a=some o/\o.ExactDict/\o.data=.dict i l/\i.toList=d.map (qU (lb (m9 P w)))/\(d.map (·.1)).Nodup
 |.dP c=>c.length<=c6/\(a==jm)=false/\∃d:List ((iC×List iC)×c7×cV),
   Paired (λ(p:(iC×List iC)×V) (q:(iC×List iC)×c7×cV)=>p.1=q.1/\(∃b,H q.2.1=some (.tup [kN p.1.1,.ref b])/\H b=some (.tup (p.1.2.map kN)))/\hV p.2 q.2.2) c d/\
   ∃o i l,h.get? a=some o/\o.ExactDict/\o.data=.dict i l/\i.toList=d.map (qU (Os (m9 P w)))/\(d.map (·.1)).Nodup
 |.set S n=>h.SetOf (intKind P w) a S n
 |.ins C k j=>H k=some (.own a)/\j.length<=1000/\k≠a/\h.get? a=some (PySem.W.instObj C k)/\
   ∃g,h.Ns1 k g/\(∀f,FS (j.lookup f) (g f))/\PySem.Within g (j.map (·.1))
 |.own _=>∃o,h.get? a=some o
 |.xd j=>∃g,h.Ns1 a g/\∀f,FS (j.lookup f) (g f)
 |.rng B z=>∃t u v,h.get? a=some {cls:=.type "range",data:=.fields #[.int B t,.int z u,.int 1 v]}
 |.frz o u=>h.get? a=some o/\kb H h a u
 |.tbl D=>h.get? a=some {cls:=.none,data:=.fields D}
 |.met f x=>h.get? a=some (pL (.ref f) (.ref x))
 |.ext m=>m h/\(∃o,h.get? a=some o)/\∀r s:Heap,m r->(∀o,r.get? a=some o->s.get? a=some o)->m s
def vj(H:Hp)(h:Heap):Prop:=∀a o,H a=some o->kb P w H h a o
end
section
variable{P:dv}{w:dQ}{H H':Hp}{h h':Heap}{a:c7}{o:HO}
def kb.lt(x:kb P w H h a o):a<h.objs.size:=by
 cases o with
 |lst c=>obtain⟨_,_,_,_,e⟩:=x;exact dD e
 |tup c=>obtain⟨_,_,_,p⟩:=x;exact p.lt
 |set S n=>obtain⟨o,_,_,_,e,_⟩:=x;exact dD e
 |ins C d b=>obtain⟨_,_,_,e,_⟩:=x;exact dD e
 |own y=>obtain⟨_,e⟩:=x;exact dD e
 |xd b=>obtain⟨_,⟨_,_,_,e,_⟩,_⟩:=x;exact dD e
 |rng i g=>obtain⟨_,_,_,e⟩:=x;exact dD e
 |frz j u=>obtain⟨e,_⟩:=x;exact dD e
 |tbl k=>exact dD (show h.get? a=some _ from x)
 |met f y=>exact dD (show h.get? a=some _ from x)
 |ext l=>obtain⟨_,⟨_,e⟩,_⟩:=x;exact dD e
 |_=>obtain⟨_,_,_,_,o,_,_,e,_⟩:=x;exact dD e
theorem Paired.mapP{d e:Type}{F G:d->e->Prop}:∀{l₁:List d} {c:List e},Paired F l₁ c->(∀a b,F a b->G a b)->Paired G l₁ c
 |_,_,.nil,_=>.nil
 |_,_,.cons r t,f=>.cons (f _ _ r) (Paired.mapP t f)
def kb.stay(x:kb P w H h a o)(k:∀b u,(b=a\/H b=some (.own a))->h.get? b=some u->h'.get? b=some u)
  (M:∀b,H b=some (.own a)->H' b=some (.own a)) (s:∀b xs,H b=some (.tup xs)->H' b=some (.tup xs)):kb P w H' h' a o:=by
 induction o with
 |lst xs=>obtain⟨z,l,n,r,e⟩:=x;exact⟨z,l,n,r,k _ _ (.inl rfl) e⟩
 |tup xs=>obtain⟨z,l,r,g,e,c⟩:=x;exact⟨z,l,r,g,k _ _ (.inl rfl) e,c⟩
 |dK m=>obtain⟨z,y,R,r,g,j,i,e,c⟩:=x;exact⟨z,y,R,r,g,j,i,k _ _ (.inl rfl) e,c⟩
 |dT m=>
  obtain⟨z,y,xs,r,g,j,i,e,c⟩:=x;exact⟨z,y,xs,Paired.mapP r λp q z=>⟨z.1,s _ _ z.2.1,z.2.2⟩,g,j,i,k _ _ (.inl rfl) e,c⟩
 |dP m=>
  obtain⟨z,y,xs,r,g,j,i,e,c⟩:=x;exact⟨z,y,xs,Paired.mapP r λp q z=>⟨z.1,let⟨b,K,L⟩:=z.2.1;⟨b,s _ _ K,s _ _ L⟩,z.2.2⟩,g,j,i,k _ _ (.inl rfl) e,c⟩
 |set S n=>obtain⟨g,j,i,t,e,c⟩:=x;exact⟨g,j,i,t,k _ _ (.inl rfl) e,c⟩
 |ins C T J=>
  obtain⟨d,z,Q,e,B,⟨D,j,i,I,c⟩,r⟩:=x;exact⟨M _ d,z,Q,k _ _ (.inl rfl) e,B,⟨D,j,i,k _ _ (.inr d) I,c⟩,r⟩
 |own y=>obtain⟨g,e⟩:=x;exact⟨g,k _ _ (.inl rfl) e⟩
 |xd J=>obtain⟨B,⟨D,j,i,e,c⟩,r⟩:=x;exact⟨B,⟨D,j,i,k _ _ (.inl rfl) e,c⟩,r⟩
 |rng X U=>obtain⟨t,u,v,e⟩:=x;exact⟨t,u,v,k _ _ (.inl rfl) e⟩
 |frz g u O=>obtain⟨e,q⟩:=x;exact⟨k _ _ (.inl rfl) e,O q⟩
 |tbl E=>
  have e:h.get? a=some {cls:=.none,data:=.fields E}:=x;show h'.get? a=some {cls:=.none,data:=.fields E};exact k a _ (.inl rfl) e
 |met f y=>
  have e:h.get? a=some (pL (.ref f) (.ref y)):=x;show h'.get? a=some (pL (.ref f) (.ref y));exact k a _ (.inl rfl) e
 |ext Y=>obtain⟨p,⟨o,e⟩,G⟩:=x;exact⟨G _ _ p λo q=>k _ _ (.inl rfl) q,⟨o,k _ _ (.inl rfl) e⟩,G⟩
def vj.lt(x:vj P w H h)(e:H a=some o):a<h.objs.size:=(x a o e).lt
def vj.fresh(x:vj P w H h)(e:h.objs.size<=a):H a=none:=by
 cases q:H a with
 |none=>rfl
 |some u=>exact absurd (eI (x.lt q) e) (ih _)
def vj.kept(x:vj P w H h)(k:∀b u,h.get? b=some u->h'.get? b=some u):vj P w H h':=λa o e=>
 (x a o e).stay (λb u _ q=>k b u q) (λ_ q=>q) λ_ _ q=>q
def vj.laid(x:vj P w H h)(k:∀b u,h.get? b=some u->h'.get? b=some u)(i:h.objs.size<=a)(d:kb P w (upd H a o) h' a o):vj P w (upd H a o) h':=λb u e=>by
 have g:=x.fresh i;by_cases f:b=a
 ·subst f;rw[cW] at e;cases e;exact d
 ·rw[dC f] at e;exact(x b u e).stay (λc v _ q=>k c v q) (λc q=>by rw[dC (de q g)];exact q) λc j q=>by rw[dC (de q g)];exact q
end
def Rd(H:Hp)(a:c7)(u:HO):Prop:=H a=some u\/∃o,H a=some (.frz o u)
def Rd.ok{P:dv}{w:dQ}{H:Hp}{h:Heap}{a:c7}{u:HO}(r:Rd H a u)(x:vj P w H h):kb P w H h a u:=by
 rcases r with r|⟨o,r⟩
 ·exact x a u r
 ·obtain⟨_,q⟩:=x a _ r;exact q
def VE:Option HO->Prop
 |some (.lst _)=>True
 |some (.dK _)=>True
 |some (.dT _)=>True
 |some (.dP _)=>True
 |some (.set _ _)=>True
 |some (.ins _ _ _)=>True
 |some (.ext _)=>True
 |_=>False
section
variable{P:dv}{w:dQ}{H:Hp}{h h':Heap}{x e:c7}{o':HO}
def vj.write(t:vj P w H h)(j:VE (H x))(o:e=x\/H e=some (.own x))(k:∀b u,b≠e->h.get? b=some u->h'.get? b=some u)(m:∃u,h'.get? e=some u)
  (n:kb P w (upd H x o') h' x o'):vj P w (upd H x o') h':=λb u q=>by
 have d:∀c y,H c=some (.own y)->c≠x:=λc y r z=>by subst z;rw[r] at j;exact j
 have f:∀c l,H c=some (.tup l)->c≠x:=λc l r z=>by subst z;rw[r] at j;exact j
 by_cases g:b=x
 ·subst g;rw[cW] at q;cases q;exact n
 ·rw[dC g] at q;by_cases a:b=e
  ·have p:H b=some (.own x):=by
    rcases o with z|z
    ·exact absurd (a.trans z) g
    ·rw[a];exact z
   rw[q] at p;cases p;obtain⟨v,s⟩:=m;exact⟨v,by rw[a];exact s⟩
  ·refine(t b u q).stay (λc v i r=>k c v ?_ r) (λc r=>by rw[dC (d c b r)];exact r) λc l r=>by rw[dC (f c l r)];exact r
   rcases i with rfl|i
   ·exact a
   ·rintro rfl;rcases o with z|z
    ·exact d c b i z
    ·rw[i] at z;cases z;exact g rfl
end
structure Un(fs ex:List c7)(H H':Hp)(h h':Heap):Prop where
 keep:∀b o,h.get? b=some o->H b=none->b∉fs->b∉ex->h'.get? b=some o
 slot:∀b o,h.get? b=some o->H b=none->b∈fs->b∉ex->∃sl,h'.get? b=some {o with slots:=sl}
 free:∀b o,h.get? b=some o->H b=none->b∉ex->H' b=none
 there:∀b o,h.get? b=some o->b∉ex->∃o',h'.get? b=some o'
 tups:∀b xs,H b=some (.tup xs)->H' b=some (.tup xs)
 frzs:∀b o u,H b=some (.frz o u)->H' b=some (.frz o u)
 tbls:∀b ps,H b=some (.tbl ps)->∃more,H' b=some (.tbl (ps++more))
section
variable{fs fs' ex ex':List c7}{H H1 H2:Hp}{h h1 h2 h':Heap}{a x e:c7}{o:HO}
def Un.any(u:Un fs ex H H1 h h1){b:c7}{ob:Obj}(q:h.get? b=some ob)(n:H b=none)(c:b∉ex):∃sl,h1.get? b=some {ob with slots:=sl}:=by
 by_cases a:b∈fs
 ·exact u.slot b ob q n a c
 ·exact⟨ob.slots,u.keep b ob q n a c⟩
def Un.kept(k:∀b u,h.get? b=some u->h'.get? b=some u):Un fs ex H H h h':=
 ⟨λb a q _ _ _=>k b a q,λb a q _ _ _=>⟨a.slots,k b a q⟩,λ_ _ _ n _=>n,λb a q _=>⟨a,k b a q⟩,λ_ _ q=>q,λ_ _ _ q=>q,λ_ c q=>⟨#[],by rw[q];simp⟩⟩
def Un.refl:Un fs ex H H h h:=Un.kept λ_ _ q=>q
def Un.laid(k:∀b u,h.get? b=some u->h'.get? b=some u)(d:h.objs.size<=a)(c:H a=none):Un fs ex H (upd H a o) h h' where
 keep:=λb u q _ _ _=>k b u q
 slot:=λb u q _ _ _=>⟨u.slots,k b u q⟩
 free:=λb u q n _=>by rw[dC (eg (eI (dD q) d))];exact n
 there:=λb u q _=>⟨u,k b u q⟩
 tups:=λb e q=>by rw[dC (de q c)];exact q
 frzs:=λb u e q=>by rw[dC (de q c)];exact q
 tbls:=λb f q=>⟨#[],by rw[dC (de q c),q];simp⟩
def Un.write(c:VE (H x))(j:e=x\/H e=some (.own x))(k:∀b u,b≠e->h.get? b=some u->h'.get? b=some u)(d:∃u,h'.get? e=some u):Un fs ex H (upd H x o) h h':=by
 have i:∀b,H b=none->b≠x:=λb n z=>by subst z;rw[n] at c;exact c
 have g:∀b,H b=none->b≠e:=λb n z=>by
  subst z;rcases j with r|r
  ·exact i b n r
  ·rw[n] at r;cases r
 have f:∀b u,H b=some u->¬VE (some u)->b≠x:=λb u q l z=>by subst z;rw[q] at c;exact l c
 refine⟨λb u q n _ _=>k b u (g b n) q,λb u q n _ _=>⟨u.slots,k b u (g b n) q⟩,λb u q n _=>by rw[dC (i b n)];exact n,λb u q _=>?_,
  λb m q=>by rw[dC (f b _ q λz=>z)];exact q,λb u m q=>by rw[dC (f b _ q λz=>z)];exact q,λb p q=>⟨#[],by rw[dC (f b _ q λz=>z),q];simp⟩⟩
 by_cases a:b=e
 ·subst a;exact d
 ·exact⟨u,k b u a q⟩
end
def WR(h:Heap)(H:Hp):List c7:=(jr h.objs.size).filter λa=>(H a).isSome
def El(h:Heap)(H:Hp):Heap:=PySem.W.hideAll h (WR h H)
def LF(h:Heap)(H:Hp):(El h H).objs.size=h.objs.size:=PySem.W.hideAll_size _ _
def NW{h:Heap}{H:Hp}{b:c7}{o:Obj}(e:h.get? b=some o)(n:H b=none):(El h H).get? b=some o:=
 PySem.W.hideAll_get _ e λa=>by
  have q:(H b).isSome=true:=(ir.mp a).2;rw[n] at q;simp at q
def Ra{h:Heap}{H:Hp}{b:c7}{o:Obj}(e:(El h H).get? b=some o):h.get? b=some o/\H b=none:=by
 have a:h.get? b=some o:=PySem.W.of_hideAll (WR h H) e;refine⟨a,?_⟩;cases q:H b with
 |none=>rfl
 |some x=>
  have c:b∈WR h H:=ir.mpr ⟨ja.mpr (dD a),by simp[q]⟩;have z:(El h H).get? b=none:=PySem.W.hideAll_none (WR h H) c;rw[z] at e;cases e
structure Mod(K:Fg)(mg:Str->Option cV)(base:Heap):Prop where
 kin:K.In base
 glob:base.Ns eB mg
 blt:∃mb,base.Ns builtinsNs mb/\∀x:Str,x≠"__name__"->mb x=jP x
 nolimit:base.NoLimit
structure Cx where
 prog:dv
 w:dQ
 K:Fg
 mg:Str->Option cV
 base:Heap
 A:ef
 N:List Str
 s₀:da
 H₀:Hp
 env:Env
 outer:List Env
 stack:List Env
 ex:List c7
 fn:Str->Bool
 calm:Bool
 pn:List (c7×Obj)
 xe:cV->da->Prop
def NR(l:List Env):List c7:=l.filterMap (·.frame)
abbrev Cx.fs(X:Cx):List c7:=NR X.outer
def WK(a:Scope)(x:Str):Prop:=a.names.lookup x=some .local\/a.names.lookup x=some .cell\/a.names.lookup x=some .free
def Nd(a:Scope)(x:Str):Prop:=a.names.lookup x=some .local\/a.names.lookup x=some .cell
def WV(env:Env)(h:Heap)(m:Str->Option cV)(x:Str)(u:cV):Prop:=
 (env.kindOf x=some .local/\m x=some u)\/((env.kindOf x=some .cell\/env.kindOf x=some .free)/\∃c,env.cells.lookup x=some c/\h.IsCell c (some u))
structure Cx.Ok(X:Cx):Prop where
 mod:Mod X.K X.mg X.base
 kind:X.env.scope.kind=.function
 glob:X.env.globals=eB
 blt:X.env.builtins=builtinsNs
 above:X.s₀.heap.objs.size<=X.env.locals
 inj:∀x y c,X.env.cells.lookup x=some c->X.env.cells.lookup y=some c->x=y
 has:∀x,(X.env.kindOf x=some .cell\/X.env.kindOf x=some .free)->∃c,X.env.cells.lookup x=some c
 cab:∀x c,X.fn x=true->X.env.cells.lookup x=some c->X.s₀.heap.objs.size<=c
 hd:X.calm=true->X.A.handled=none
 frames:X.A.frames=some X.stack
 stk:X.stack=X.outer\/(X.stack=X.env::X.outer/\X.env.frame=some X.env.locals)
 exf:∀b∈X.ex,b≠X.env.locals/\∀x c,X.env.cells.lookup x=some c->c≠b
 bs:∀b o,X.base.get? b=some o->X.s₀.heap.get? b=some o/\X.H₀ b=none
 bsz:X.base.objs.size<=X.s₀.heap.objs.size
 noex:∀b o,X.base.get? b=some o->b∉X.ex
 exfs:∀b∈X.ex,b∉X.fs
 funs:X.s₀.heap.FunFrames X.base X.outer
 frf:∀b∈X.fs,X.H₀ b=none
structure fW(X:Cx)(pins:List (c7×Obj))(σ:List (Option V))(H:Hp)(s:da):Prop where
 ok:X.Ok
 os:s.os=X.s₀.os
 bare:pJ s.gens
 base:Un X.fs X.ex X.H₀ H X.s₀.heap s.heap
 loc:∃m,s.heap.Ns X.env.locals m/\∀(i:Nat) (x:Str) (v:V),X.N[i]?=some x->σ[i]?=some (some v)->WK X.env.scope x->∃u,hV v u/\WV X.env s.heap m x u
 cell:∀x c,X.env.cells.lookup x=some c->∃v,s.heap.IsCell c v
 free:H X.env.locals=none
 freeC:∀x c,X.env.cells.lookup x=some c->H c=none
 pin:∀p∈X.pn++pins,s.heap.get? p.1=some p.2/\H p.1=none/\p.1≠X.env.locals/\p.1∉X.fs/\∀v,p.2.data≠.cell v
 hok:vj X.prog X.w H s.heap
 len:σ.length=X.N.length
section
variable{X:Cx}{pins:List (c7×Obj)}{σ:List (Option V)}{H H':Hp}{s:da}{h':Heap}
def Cx.Ok.nofr(c:X.Ok){b:c7}{o:Obj}(e:X.base.get? b=some o):b∉X.fs:=λa=>by
 have:=(c.funs.mem a).1;rw[e] at this;cases this
def fW.bs(I:fW X pins σ H s):∀b o,X.base.get? b=some o->s.heap.get? b=some o/\H b=none:=λb o e=>
 ⟨I.base.keep b o (I.ok.bs b o e).1 (I.ok.bs b o e).2 (I.ok.nofr e) (I.ok.noex b o e),I.base.free b o (I.ok.bs b o e).1 (I.ok.bs b o e).2 (I.ok.noex b o e)⟩
def fW.bk(I:fW X pins σ H s):∀b o,X.base.get? b=some o->s.heap.get? b=some o:=λb o e=>(I.bs b o e).1
def fW.mod(I:fW X pins σ H s):Mod X.K X.mg X.base:=I.ok.mod
def fW.kIn(I:fW X pins σ H s):X.K.In s.heap:=I.ok.mod.kin.keeps I.bk
def fW.lt(I:fW X pins σ H s):X.env.locals<s.heap.objs.size:=let⟨_,a,_⟩:=I.loc;a.lt
def fW.sz(I:fW X pins σ H s):X.s₀.heap.objs.size<=s.heap.objs.size:=fq I.ok.above (g7 I.lt)
def fW.nofs(I:fW X pins σ H s){a:c7}(h:s.heap.objs.size<=a):a∉X.fs:=λb=>by
 obtain⟨_,o,c,_⟩:=I.ok.funs.mem b;exact absurd (eI (dD c) (fq I.sz h)) (ih _)
def fW.cne(I:fW X pins σ H s):∀x c,X.env.cells.lookup x=some c->c≠X.env.locals:=λx c e z=>by
 obtain⟨v,o,f,d⟩:=I.cell x c e;obtain⟨m,⟨i,h,g,b,a,_⟩,_⟩:=I.loc;rw[z,b] at f;cases f;rw[a] at d;cases d
def fW.funs(I:fW X pins σ H s):s.heap.FunFrames X.base X.outer:=by
 have all:∀(l:List Env),(∀b∈NR l,b∈X.fs)->X.s₀.heap.FunFrames X.base l->s.heap.FunFrames X.base l:=by
  intro l
  induction l with
  |nil=>intro _ _;trivial
  |cons env r n=>
   intro f i;obtain⟨h,⟨L,o,d,j,k,g⟩,m⟩:=i;have a:L∈X.fs:=f L (by unfold NR;rw[lz,d];exact eG);obtain⟨p,e⟩:=I.base.slot L o k (I.ok.frf L a) a λz=>I.ok.exfs L z a;exact⟨h,⟨L,_,d,j,e,g⟩,n (λb c=>f b (by unfold NR;rw[lz,d];exact fc _ c)) m⟩
 exact all X.outer (λ_ c=>c) I.ok.funs
def fW.stack(I:fW X pins σ H s):s.heap.FunFrames X.base X.stack:=by
 rcases I.ok.stk with e|⟨e,a⟩
 ·rw[e];exact I.funs
 ·rw[e];obtain⟨m,b,_⟩:=I.loc;refine .cons (by rw[I.ok.kind];decide) a b ?_ I.funs;exact Heap.get?_none_of_le (fq I.ok.bsz I.ok.above)
def fW.stkSub(I:fW X pins σ H s):∀b∈NR X.stack,b∈X.env.locals::X.fs:=λb a=>by
 rcases I.ok.stk with e|⟨e,c⟩
 ·rw[e] at a;exact fc _ a
 ·rw[e] at a;unfold NR at a;rw[lz,c] at a;exact a
def fW.stkFree(I:fW X pins σ H s):∀b∈NR X.stack,H b=none:=λb a=>by
 rcases dW.mp (I.stkSub b a) with e|a
 ·rw[e];exact I.free
 ·obtain⟨_,o,c,_⟩:=I.ok.funs.mem a;exact I.base.free b o c (I.ok.frf b a) λz=>I.ok.exfs b z a
def fW.step{g':Array GenState}{t':Nat}{d':Drawn}{ch:List c7}(I:fW X pins σ H s)
  (h:∀b∈ch,(b∈X.ex\/X.s₀.heap.objs.size<=b)/\b≠X.env.locals/\(∀x c,X.env.cells.lookup x=some c->c≠b)/\∀p∈X.pn++pins,p.1≠b)
  (j:∀b o,b≠X.env.locals->b∉X.fs->b∉ch->s.heap.get? b=some o->H b=none->h'.get? b=some o)
  (C:∀b o,b≠X.env.locals->b∈X.fs->b∉ch->s.heap.get? b=some o->H b=none->∃sl,h'.get? b=some {o with slots:=sl}) (f:∀b o,b∉ch->s.heap.get? b=some o->H b=none->H' b=none)
  (E:∀b o,b∉ch->s.heap.get? b=some o->∃M,h'.get? b=some M)
  (P:∀b xs,H b=some (.tup xs)->H' b=some (.tup xs)) (K:∀b o u,H b=some (.frz o u)->H' b=some (.frz o u)) (O:∀b ps,H b=some (.tbl ps)->∃more,H' b=some (.tbl (ps++more)))
  (ns:∀m,s.heap.Ns X.env.locals m->h'.Ns X.env.locals m) (R:vj X.prog X.w H' h') (hg:pJ g') :
  fW X pins σ H' {s with heap:=h',gens:=g',drawn:=d',toks:=t'}:=by
 have L:∀b o,X.s₀.heap.get? b=some o->b≠X.env.locals:=λb o e=>eg (eI (dD e) I.ok.above);have B:∀b o,X.s₀.heap.get? b=some o->b∉X.ex->b∉ch:=λb o e a D=>by
  rcases(h b D).1 with z|z
  ·exact a z
  ·exact absurd (eI (dD e) z) (ih _)
 have g:∀x c,X.env.cells.lookup x=some c->∀v,s.heap.IsCell c v->h'.IsCell c v:=λx c e v ⟨o,G,Q⟩=>by
  have t:c∉ch:=λz=>(h c z).2.2.1 x c e rfl;by_cases T:c∈X.fs
  ·obtain⟨sl,q⟩:=C c o (I.cne x c e) T t G (I.freeC x c e);exact⟨_,q,Q⟩
  ·exact⟨o,j c o (I.cne x c e) T t G (I.freeC x c e),Q⟩
 refine⟨I.ok,I.os,hg,⟨λb o e n D a=>?_,λb o e n D a=>?_,λb o e n a=>?_,λb o e a=>?_,λb xs e=>P b xs (I.base.tups b xs e),λb o xs e=>K b o xs (I.base.frzs b o xs e),λb ps e=>?_⟩,?_,λx c e=>?_,?_,λx c e=>?_,λp U=>?_,R,I.len⟩
 ·exact j b o (L b o e) D (B b o e a) (I.base.keep b o e n D a) (I.base.free b o e n a)
 ·obtain⟨sl,y⟩:=I.base.slot b o e n D a;obtain⟨S,J⟩:=C b _ (L b o e) D (B b o e a) y (I.base.free b o e n a);exact⟨S,J⟩
 ·obtain⟨M,y⟩:=I.base.there b o e a;exact f b M (B b o e a) y (I.base.free b o e n a)
 ·obtain⟨M,y⟩:=I.base.there b o e a;exact E b M (B b o e a) y
 ·obtain⟨m1,y⟩:=I.base.tbls b ps e;obtain⟨m2,J⟩:=O b _ y;exact⟨m1++m2,by rw[J,Array.append_assoc]⟩
 ·obtain⟨m,hn,hl⟩:=I.loc;refine⟨m,ns m hn,λi x v y J Z=>?_⟩;obtain⟨u,r,l⟩:=hl i x v y J Z;refine⟨u,r,?_⟩;rcases l with l|⟨k,c,e,z⟩
  ·exact .inl l
  ·exact .inr ⟨k,c,e,g x c e _ z⟩
 ·obtain⟨v,z⟩:=I.cell x c e;exact⟨v,g x c e v z⟩
 ·obtain⟨m,⟨o,_,_,G,_⟩,_⟩:=I.loc;exact f _ o (λz=>(h _ z).2.1 rfl) G I.free
 ·obtain⟨v,o,G,Q⟩:=I.cell x c e;exact f c o (λz=>(h c z).2.2.1 x c e rfl) G (I.freeC x c e)
 ·obtain⟨e,n,W,Y,d⟩:=I.pin p U;have t:p.1∉ch:=λz=>(h p.1 z).2.2.2 p U rfl;exact⟨j p.1 p.2 W Y t e n,f p.1 p.2 t e n,W,Y,d⟩
def fW.un{t':Nat}(I:fW X pins σ H s)(u:Un X.fs [] H H' s.heap h')(g:vj X.prog X.w H' h'):fW X pins σ H' {s with heap:=h',toks:=t'}:=by
 obtain⟨m,⟨o,p,l,h,r⟩,_⟩:=id I.loc;obtain⟨v,i⟩:=u.any h I.free (by simp);exact I.step (g':=s.gens) (d':=s.drawn) (ch:=[]) (λ_ z=>nomatch z) (λb o _ f _ e n=>u.keep b o e n f (by simp)) (λb o _ f _ e n=>u.slot b o e n f (by simp)) (λb o _ e n=>u.free b o e n (by simp)) (λb o _ e=>u.there b o e (by simp)) u.tups u.frzs u.tbls (λq j=>by
  obtain⟨t,d,c,a,k⟩:=j;rw[h] at a;cases a;exact⟨_,d,c,i,k⟩) g I.bare
def fW.call{g':Array GenState}{t':Nat}{d':Drawn}{ch:List c7}(I:fW X pins σ H s)(u:Un (NR X.stack) ch H H' s.heap h')(j:vj X.prog X.w H' h')(q:pJ g')
  (d:∀b∈ch,(b∈X.ex\/X.s₀.heap.objs.size<=b)/\b≠X.env.locals/\(∀x c,X.env.cells.lookup x=some c->c≠b)/\∀p∈X.pn++pins,p.1≠b) :
  fW X pins σ H' {s with heap:=h',gens:=g',drawn:=d',toks:=t'}:=by
 obtain⟨m,⟨o,B,y,k,r⟩,_⟩:=id I.loc;obtain⟨E,i⟩:=u.any k I.free λz=>(d _ z).2.1 rfl;exact I.step (ch:=ch) d (λb o i l a e n=>u.keep b o e n (λz=>(dW.mp (I.stkSub b z)).elim i l) a) (λb o _ _ a e n=>u.any e n a) (λb o a e n=>u.free b o e n a) (λb o a e=>u.there b o e a) u.tups u.frzs u.tbls (λC t=>by
  obtain⟨D,h,g,f,v⟩:=t;rw[k] at f;cases f;exact⟨_,h,g,i,v⟩) j q
def fW.turned{t':Nat}{it:c7}(I:fW X pins σ H s)(k:∀b o,b≠it->s.heap.get? b=some o->h'.get? b=some o)(w:H it=none)(f:it≠X.env.locals)
  (i:it∈X.ex\/X.s₀.heap.objs.size<=it) (h2:∀x c,X.env.cells.lookup x=some c->c≠it) (j:∀p∈X.pn++pins,p.1≠it):fW X pins σ H {s with heap:=h',toks:=t'}:=by
 have d:∀b u,H b=some u->b≠it:=λb u e z=>by rw[z,w] at e;cases e
 refine I.step (g':=s.gens) (d':=s.drawn) (ch:=[it]) (λb l=>?_) (λb o _ _ a e _=>k b o (λz=>a (by simp[z])) e) (λb o _ _ a e _=>⟨o.slots,k b o (λz=>a (by simp[z])) e⟩) (λ_ _ _ _ n=>n)
  (λb o a e=>⟨o,k b o (λz=>a (by simp[z])) e⟩) (λ_ _ e=>e) (λ_ _ _ e=>e) (λb B e=>⟨#[],by rw[e];simp⟩) (λm t=>?_) (λb u e=>?_) I.bare
 ·have e:b=it:=by simpa using l
  subst e;exact⟨i,f,h2,j⟩
 ·obtain⟨o,h,g,y,r⟩:=t;exact⟨o,h,g,k _ o (Ne.symm f) y,r⟩
 ·refine(I.hok b u e).stay (λc v a q=>k c v ?_ q) (λ_ q=>q) λ_ _ q=>q;rcases a with z|z
  ·rw[z];exact d b u e
  ·exact d c _ z
def fW.tok(I:fW X pins σ H s)(t:Nat):fW X pins σ H {s with toks:=t}:=I.un (h':=s.heap) (t':=t) Un.refl I.hok
def fW.kept{t':Nat}(I:fW X pins σ H s)(k:∀b u,s.heap.get? b=some u->h'.get? b=some u):fW X pins σ H {s with heap:=h',toks:=t'}:=I.un (Un.kept k) (I.hok.kept k)
def fW.laid{a:c7}{o:HO}{t':Nat}(I:fW X pins σ H s)(k:∀b u,s.heap.get? b=some u->h'.get? b=some u)(c:s.heap.objs.size<=a)(d:kb X.prog X.w (upd H a o) h' a o) :
  fW X pins σ (upd H a o) {s with heap:=h',toks:=t'}:=I.un (Un.laid k c (I.hok.fresh c)) (I.hok.laid k c d)
def fW.write{x e:c7}{o:HO}{t':Nat}(I:fW X pins σ H s)(f:VE (H x))(d:e=x\/H e=some (.own x))(k:∀b u,b≠e->s.heap.get? b=some u->h'.get? b=some u)(a:∃u,h'.get? e=some u)
  (c:kb X.prog X.w (upd H x o) h' x o):fW X pins σ (upd H x o) {s with heap:=h',toks:=t'}:=I.un (Un.write f d k a) (I.hok.write f d k a c)
def fW.pins_of{a:List (c7×Obj)}(I:fW X pins σ H s)(h:∀p∈a,s.heap.get? p.1=some p.2/\H p.1=none/\p.1≠X.env.locals/\p.1∉X.fs/\∀v,p.2.data≠.cell v):fW X a σ H s:=
 ⟨I.ok,I.os,I.bare,I.base,I.loc,I.cell,I.free,I.freeC,λp b=>(d9.mp b).elim (λz=>I.pin p (gX _ z)) (h p),I.hok,I.len⟩
def GA{N:List Str}(e:N.Nodup){i j:Nat}{x:Str}(a:N[i]?=some x)(b:N[j]?=some x):i=j:=by
 obtain⟨f,c⟩:=cR.mp a;obtain⟨g,d⟩:=cR.mp b;exact(List.getElem_inj e).mp (c.trans d.symm)
def Dr{M:Model}{A:ef}{E:Zz}{i:Nat}{x:Str}{v:V}{u:cV}{Q:Unit->da->Prop}(I:fW X pins σ H s)(hN:X.N.Nodup)(T:X.N[i]?=some x)(B:Nd X.env.scope x)(r:hV v u)
  (h:∀s',fW X pins (σ.set i (some v)) H s'->(∃a,Heap.SameBut a s.heap s'.heap/\(a=X.env.locals\/X.env.cells.lookup x=some a))->Q () s') (hf:X.fn x=true\/X.env.scope.names.lookup x=some .local:=by first|exact .inl rfl|exact .inr rfl|assumption):dJ M A (storeName X.env x u) Q E s:=by
 obtain⟨m,hn,hl⟩:=id I.loc;have S:(X.env.scope.kind==.class || (X.env.scope.kind==.module&&X.env.locals != X.env.globals))=false:=by rw[I.ok.kind];rfl
 have G:i<σ.length:=by rw[I.len];exact(cR.mp T).1
 have J:=I.cne;have l:∀{a:c7} {h':Heap},(∃o,s.heap.get? a=some o/\H a=none)->Heap.SameBut a s.heap h'->vj X.prog X.w H h':=λ{a h'} ha f b ob e=>by
  obtain⟨_,_,C⟩:=ha;refine(I.hok b ob e).stay (λc w' t q=>(f.2 c ?_).trans q) (λ_ q=>q) λ_ _ q=>q;rintro rfl;rcases t with rfl|t
  ·rw[C] at e;cases e
  ·rw[C] at t;cases t
 rcases B with hk|hk
 ·refine wpAny_storeName_local hk hn (λh' aa f=>?_) S;obtain⟨oL,_,_,ab,_⟩:=id hn;refine h _ ⟨I.ok,I.os,I.bare,⟨λb o e n K B=>?_,λb o e n K B=>?_,I.base.free,λb o e B=>?_,I.base.tups,I.base.frzs,I.base.tbls⟩,⟨_,aa,λj y v' g D e3=>?_⟩,λy c e=>?_,I.free,I.freeC,λp hp=>?_,l ⟨oL,ab,I.free⟩ f,by simpa using I.len⟩ ⟨_,f,.inl rfl⟩
  ·exact(f.2 b (eg (eI (dD e) I.ok.above))).trans (I.base.keep b o e n K B)
  ·obtain⟨sl,g⟩:=I.base.slot b o e n K B;exact⟨sl,(f.2 b (eg (eI (dD e) I.ok.above))).trans g⟩
  ·obtain⟨o',g⟩:=I.base.there b o e B;exact⟨o',(f.2 b (eg (eI (dD e) I.ok.above))).trans g⟩
  ·by_cases O:j=i
   ·subst O;rw[T] at g;cases g;rw[d6 G] at D;cases D;exact⟨u,r,.inl ⟨hk,by simp⟩⟩
   ·rw[eC (Ne.symm O)] at D;obtain⟨u',r',q⟩:=hl j y v' g D e3;refine⟨u',r',?_⟩;rcases q with⟨k,e⟩|⟨k,c,e,z⟩
    ·refine .inl ⟨k,?_⟩;have:y≠x:=λe=>O (GA hN g (e ▸ T));simp[this,e]
    ·exact .inr ⟨k,c,e,z.sameBut f (J y c e)⟩
  ·obtain⟨w',z⟩:=I.cell y c e;exact⟨w',z.sameBut f (J y c e)⟩
  ·obtain⟨e,n,Z,nf,d⟩:=I.pin p hp;exact⟨(f.2 p.1 Z).trans e,n,Z,nf,d⟩
 ·have L:X.fn x=true:=by
   rcases hf with z|z
   ·exact z
   ·rw[z] at hk;cases hk
  obtain⟨c,t⟩:=I.ok.has x (.inl hk);obtain⟨w',z⟩:=I.cell x c t;refine wpAny_storeName_cell I.ok.kind hk t z (λh' P f=>?_);obtain⟨oc,U,W⟩:=id z;refine h {s with heap:=h'} ⟨I.ok,I.os,I.bare,⟨λb o e n K B=>?_,λb o e n K B=>?_,I.base.free,λb o e B=>?_,I.base.tups,I.base.frzs,I.base.tbls⟩,⟨m,hn.sameBut f (Ne.symm (J x c t)),λj y v' g D e3=>?_⟩,λy Y e=>?_,I.free,I.freeC,λp hp=>?_,l ⟨oc,U,I.freeC x c t⟩ f,by simpa using I.len⟩ ⟨c,f,.inr t⟩
  ·exact(f.2 b (eg (eI (dD e) (I.ok.cab x c L t)))).trans (I.base.keep b o e n K B)
  ·obtain⟨sl,g⟩:=I.base.slot b o e n K B;exact⟨sl,(f.2 b (eg (eI (dD e) (I.ok.cab x c L t)))).trans g⟩
  ·obtain⟨o',g⟩:=I.base.there b o e B;exact⟨o',(f.2 b (eg (eI (dD e) (I.ok.cab x c L t)))).trans g⟩
  ·by_cases O:j=i
   ·subst O;rw[T] at g;cases g;rw[d6 G] at D;cases D;exact⟨u,r,.inr ⟨.inl hk,c,t,P⟩⟩
   ·rw[eC (Ne.symm O)] at D;obtain⟨u',r',q⟩:=hl j y v' g D e3;refine⟨u',r',?_⟩;rcases q with q|⟨k,Y,e,z'⟩
    ·exact .inl q
    ·refine .inr ⟨k,Y,e,z'.sameBut f ?_⟩;rintro rfl;exact O (GA hN g (I.ok.inj _ _ _ e t ▸ T))
  ·by_cases R:Y=c
   ·subst R;exact⟨_,P⟩
   ·obtain⟨w2,z2⟩:=I.cell y Y e;exact⟨w2,z2.sameBut f R⟩
  ·obtain⟨e,n,Z,nf,d⟩:=I.pin p hp;refine⟨(f.2 p.1 ?_).trans e,n,Z,nf,d⟩;intro q;rw[q,U] at e;have q':oc=p.2:=Option.some.inj e;exact d w' (by rw[<-q'];exact W)
def GU{M:Model}{A:ef}{E:Zz}{i:Nat}{x:Str}{v:V}{u:cV}{Q:Unit->da->Prop}(I:fW X pins σ H s)(b:X.N.Nodup)(d:X.N[i]?=some x)(e:Nd X.env.scope x)(r:hV v u)
  (h:∀s',fW X pins (σ.set i (some v)) H s'->Q () s') (c:X.fn x=true\/X.env.scope.names.lookup x=some .local:=by first|exact .inl rfl|exact .inr rfl|assumption):dJ M A (storeName X.env x u) Q E s:=
 Dr I b d e r (λs' a _=>h s' a) c
def fW.call'{s':da}{ch:List c7}(I:fW X pins σ H s)(g:s'.os=s.os)(u:Un (NR X.stack) ch H H' s.heap s'.heap)(d:vj X.prog X.w H' s'.heap)(f:pJ s'.gens)
  (a:∀b∈ch,(b∈X.ex\/X.s₀.heap.objs.size<=b)/\b≠X.env.locals/\(∀x c,X.env.cells.lookup x=some c->c≠b)/\∀p∈X.pn++pins,p.1≠b):fW X pins σ H' s':=by
 obtain⟨h',g',d',t',h⟩:=s';have e:h=s.os:=g;subst e;exact I.call (g':=g') (t':=t') (d':=d') u d f a
end
abbrev XK:=cV->Option c7->Hp->Prop
abbrev St:=List (Option V)
abbrev VK:=V->Hp->Prop
abbrev TE:=St->Hp->VK->Prop
abbrev TT:=St->Hp->(Bool->Hp->Prop)->Prop
abbrev TA:=St->Hp->(List V->Hp->Prop)->Prop
structure pd where
 nx:St->Hp->Prop
 rt:VK
 bk:St->Hp->Prop:=λ_ _=>False
 ct:St->Hp->Prop:=λ_ _=>False
abbrev TS:=pd->St->Hp->Prop
def EP(X:Cx)(a:List (c7×Obj))(c:St)(Q:VK)(u:cV)(s':da):Prop:=∃v b,fW X a c b s'/\hV v u/\Q v b
def TP(X:Cx)(a:List (c7×Obj))(d:St)(Q:Bool->Hp->Prop)(b:Bool)(s':da):Prop:=∃c,fW X a d c s'/\Q b c
def AP(X:Cx)(a:List (c7×Obj))(d:St)(Q:List V->Hp->Prop)(us:List cV)(s':da):Prop:=∃c b,fW X a d b s'/\gy c us/\Q c b
def SP(X:Cx)(b:List (c7×Obj))(D:pd)(f:Flow)(s':da):Prop:=
 match f with
 |.next=>∃a c,fW X b a c s'/\D.nx a c
 |.brk=>∃a c,fW X b a c s'/\D.bk a c
 |.cont=>∃a c,fW X b a c s'/\D.ct a c
 |.ret u=>∃v a c,fW X b a c s'/\hV v u/\D.rt v c
def PE(X:Cx)(e:Expr)(t:TE):Prop:=
 ∀(a:List (c7×Obj)) (s:da) (b:St) (H:Hp) (Q:VK),fW X a b H s->t b H Q->dJ (model X.prog X.w) X.A (eval e X.env) (EP X a b Q) X.xe s
def PT(X:Cx)(e:Expr)(t:TT):Prop:=
 ∀(a:List (c7×Obj)) (s:da) (b:St) (H:Hp) (Q:Bool->Hp->Prop),fW X a b H s->t b H Q->dJ (model X.prog X.w) X.A (isTrue e X.env (eval e X.env)) (TP X a b Q) X.xe s
def PW(X:Cx)(e:Expr)(t:TT):Prop:=
 ∀(b:Sem cV) (a:List (c7×Obj)) (s:da) (c:St) (H:Hp) (Q:Bool->Hp->Prop),fW X a c H s->t c H Q->dJ (model X.prog X.w) X.A (isTrue e X.env b) (TP X a c Q) X.xe s
def PW.pt{X:Cx}{e:Expr}{t:TT}(h:PW X e t):PT X e t:=h _
def PA(X:Cx)(es:List Expr)(t:TA):Prop:=
 ∀(b:Pos) (a:List (c7×Obj)) (s:da) (c:St) (H:Hp) (Q:List V->Hp->Prop),fW X a c H s->t c H Q->dJ (model X.prog X.w) X.A (spliced (iy b (dH es X.env))) (AP X a c Q) X.xe s
def PS(X:Cx)(st:Stmt)(t:TS):Prop:=
 ∀(a:List (c7×Obj)) (s:da) (b:St) (H:Hp) (D:pd),fW X a b H s->t D b H->dJ (model X.prog X.w) X.A (exec st X.env) (SP X a D) X.xe s
def HP(X:Cx)(st:List Stmt)(t:TS):Prop:=
 ∀(a:List (c7×Obj)) (s:da) (b:St) (H:Hp) (D:pd),fW X a b H s->t D b H->dJ (model X.prog X.w) X.A (execs st X.env) (SP X a D) X.xe s
def kf{c:Type}{t:Sem c}{Q b:c->da->Prop}{M:Model}{A:ef}{E:Zz}{s:da}(h:dJ M A t Q E s)(d:∀a s,Q a s->b a s):dJ M A t b E s:=iI h d λ_ _ x=>x
section
variable{X:Cx}
inductive WY(i:Nat)(σ:St)(H:Hp)(Q:VK):Prop where
 |mk (v:V) (e:σ[i]?=some (some v)) (h:Q v H)
def cU(i:Nat):TE:=λa H Q=>WY i a H Q
def tC(v:V):TE:=λ_ H Q=>Q v H
abbrev Za:=tC (.int 0)
abbrev Zb:=tC (.int 1)
abbrev Zc:=tC (.int 2)
abbrev Zd:=tC (.int 3)
abbrev Ze:=tC (.str "call")
abbrev Zf:=tC (.str "jump")
abbrev Zg:=tC (.str "op")
abbrev Zh:=tC (.str "num")
abbrev Zi:=tC (.int 5)
abbrev Zj:=tC (.str "test")
abbrev Zk:=tC (.str "give")
abbrev Zl:=tC (.str "")
abbrev Zm:=tC (.int 4)
abbrev Zn:=tC (.str "keep")
abbrev Zo:=tC (.str "say")
abbrev Zp:=tC (.str "at")
abbrev Zq:=tC (.int 12)
abbrev Zr:=tC (.int 8)
def UO{i:Nat}{x:Str}{pos:Pos}(k:X.N[i]?=some x)(q:WK X.env.scope x)(g:(x==("__debug__":Str))=false:=by decide)(f:(x==("__classdict__":Str))=false:=by decide):PE X (.Name x pos) (cU i):=by
 intro d s t H Q I h;obtain⟨v,e,h⟩:=h;obtain⟨m,p,n⟩:=I.loc;obtain⟨u,r,l⟩:=n i x v k e q;have b:EP X d t Q u s:=⟨v,H,I,r,h⟩;rcases l with⟨hk,o⟩|⟨hk,c,j,a⟩
 ·exact wpAny_Name (wpAny_loadName_local I.ok.kind hk p o b) g
 ·rcases hk with hk|hk
  ·exact wpAny_Name (wpAny_loadName_cell I.ok.kind hk j a b) g
  ·exact wpAny_Name (wpAny_loadName_free I.ok.kind hk j a b f) g
def UH{i j pos}:PE X (.Constant (.int i) j pos) (tC (.int i)):=λ_ _ _ H _ I h=>wpAny_Constant_int ⟨.int i,H,I.tok _,⟨_,rfl⟩,h⟩
def V6{b j pos}:PE X (.Constant (.bool b) j pos) (tC (.bl b)):=λ_ _ _ H _ I h=>Constant_bool ⟨.bl b,H,I,rfl,h⟩
def UJ{j pos}:PE X (.Constant .none j pos) (tC .non):=λ_ _ _ H _ I h=>Constant_none ⟨.non,H,I,rfl,h⟩
def UM{x j pos}:PE X (.Constant (.str x) j pos) (tC (.str x)):=λ_ _ _ H _ I h=>Calls.Constant_str ⟨.str x,H,I.tok _,⟨_,rfl⟩,h⟩
def Gl(X:Cx)(x:Str):Prop:=X.env.kindOf x=some .globalImplicit
def Q5{E:Zz}{a:List (c7×Obj)}{s:da}{e:St}{H:Hp}{x:Str}{u:cV}{pos:Pos}{Q:Zz}(I:fW X a e H s)(c:Gl X x)(d:X.mg x=some u)(h:Q u s)
  (b:(x==("__debug__":Str))=false:=by decide):dJ (model X.prog X.w) X.A (eval (.Name x pos) X.env) Q E s:=
 Calls.Name_function_global I.ok.kind c (Calls.loadGlobal_global (by rw[I.ok.glob];exact I.mod.glob.keeps I.bk) d h) b
def pk{E:Zz}{a:List (c7×Obj)}{s:da}{j:St}{H:Hp}{x:Str}{u:cV}{pos:Pos}{Q:Zz}(I:fW X a j H s)(e:Gl X x)(f:X.mg x=none)(i:jP x=some u)(h:Q u s)
  (g:x≠"__name__":=by decide) (d:(x==("__debug__":Str))=false:=by decide):dJ (model X.prog X.w) X.A (eval (.Name x pos) X.env) Q E s:=by
 obtain⟨k,b,c⟩:=I.mod.blt;exact Calls.Name_function_global I.ok.kind e (Calls.loadGlobal_builtin (by rw[I.ok.glob];exact I.mod.glob.keeps I.bk) f (by rw[I.ok.blt];exact b.keeps I.bk) ((c x g).trans i) h) d
def Rh{x:Str}{v:V}{u:cV}{pos:Pos}(b:Gl X x)(c:X.mg x=none)(e:jP x=some u)(r:hV v u)(d:x≠"__name__":=by decide)(a:(x==("__debug__":Str))=false:=by decide):PE X (.Name x pos) (tC v):=
 λ_ _ _ H _ I h=>pk I b c e ⟨v,H,I,r,h⟩ d a
variable{a b:Expr}{ta tb:TE}{pos:Pos}
inductive Xi(x:V)(P:Bool->Prop):Prop where
 |mk (c:Bool) (e:x=.bl c) (h:P c)
def tB(t:TE):TT:=λb H Q=>t b H λx a=>Xi x λc=>Q c a
def U0{e:Expr}{t:TE}(h:PE X e t)(g:∀a,isTrue e X.env a=(do let v <-a;standAt e.pos;holding [v] (truthy v)):=by intro _;rfl):PT X e (tB t):=by
 intro b s l H Q I i;refine isTrue_plain (kf (h b s l H _ I i) λv m ⟨x,c,f,k,j⟩=>?_) (g _);obtain⟨d,rfl,q⟩:=j;cases k;exact ji ⟨c,f,q⟩
variable{tA tB':TT}{rest:List Expr}
def u1(t u:TT):TT:=λb H Q=>t b H λc a=>if c=true then u b a Q else Q false a
def Pn(t u:TT):TT:=λb H Q=>t b H λc a=>if c=true then Q true a else u b a Q
def u2(t:TT):TT:=λb H Q=>t b H λc a=>Q (!c) a
def RH(d:PT X a tA):PW X (.BoolOp .And [a] pos) tA:=by
 intro i b s f H Q I h;refine isTrue_and (kf (d b s f H Q I h) λc g e=>?_);cases c with
 |true=>exact isTrue_and_nil e
 |false=>exact e
def U4(d:PT X a tA):PW X (.BoolOp .Or [a] pos) tA:=by
 intro i b s f H Q I h;refine isTrue_or (kf (d b s f H Q I h) λc g e=>?_);cases c with
 |false=>exact isTrue_or_nil e
 |true=>exact e
def U2(j:PT X a tA)(k:PW X (.BoolOp .And (b::rest) pos) tB'):PW X (.BoolOp .And (a::b::rest) pos) (u1 tA tB'):=by
 intro m d s i H Q I h;refine isTrue_and (kf (j d s i H _ I h) λc l ⟨e,f,g⟩=>?_);cases c with
 |true=>exact k m d l i e Q f g
 |false=>exact⟨e,f,g⟩
def We(j:PT X a tA)(k:PW X (.BoolOp .Or (b::rest) pos) tB'):PW X (.BoolOp .Or (a::b::rest) pos) (Pn tA tB'):=by
 intro m d s i H Q I h;refine isTrue_or (kf (j d s i H _ I h) λc l ⟨e,f,g⟩=>?_);cases c with
 |true=>exact⟨e,f,g⟩
 |false=>exact k m d l i e Q f g
def UZ(e:PT X a tA):PT X (.UnaryOp .Not a pos) (u2 tA):=by
 intro b s f H Q I h;exact isTrue_not (e b s f H (λc d=>Q (!c) d) I h)
def ya(ta tb:TE):TE:=λb H Q=>ta b H λx a=>∃c,x=.bl c/\if c=true then tb b a Q else Q (.bl false) a
def Po(ta tb:TE):TE:=λb H Q=>ta b H λx a=>∃c,x=.bl c/\if c=true then Q (.bl true) a else tb b a Q
def G0(ta:TE):TE:=λb H Q=>ta b H λx a=>∃c,x=.bl c/\Q (.bl (!c)) a
def UL{op}{t:TE}(h:PE X a t):PE X (.BoolOp op [a] pos) t:=λb s d H Q I c=>BoolOp_one (h b s d H Q I c)
def UE(j:PE X a ta)(k:PE X (.BoolOp .And (b::rest) pos) tb):PE X (.BoolOp .And (a::b::rest) pos) (ya ta tb):=by
 intro d s i H Q I h;refine BoolOp_and (kf (j d s i H _ I h) λv m ⟨x,f,g,l,e⟩=>?_);obtain⟨c,rfl,e⟩:=e;cases l;refine ji ?_;cases c with
 |true=>exact k d m i f Q g e
 |false=>exact⟨.bl false,f,g,rfl,e⟩
def Wb(j:PE X a ta)(k:PE X (.BoolOp .Or (b::rest) pos) tb):PE X (.BoolOp .Or (a::b::rest) pos) (Po ta tb):=by
 intro d s i H Q I h;refine BoolOp_or (kf (j d s i H _ I h) λv m ⟨x,f,g,l,e⟩=>?_);obtain⟨c,rfl,e⟩:=e;cases l;refine ji ?_;cases c with
 |false=>exact k d m i f Q g e
 |true=>exact⟨.bl true,f,g,rfl,e⟩
def UK(g:PE X a ta):PE X (.UnaryOp .Not a pos) (G0 ta):=by
 intro b s j H Q I h;refine UnaryOp_ (kf (g b s j H _ I h) λv k ⟨x,e,f,i,d⟩=>?_);obtain⟨c,rfl,d⟩:=d;cases i;exact not_of (ji ⟨.bl (!c),e,f,rfl,d⟩)
def WQ(t:TT)(ta tb:TE):TE:=λa H Q=>t a H λc b=>if c=true then ta a b Q else tb a b Q
def Ow{c:Expr}(n:PT X c tA)(l:PE X a ta)(m:PE X b tb):PE X (.IfExp c a b pos) (WQ tA ta tb):=by
 intro e s f H Q I h;refine wpAny_IfExp (kf (n e s f H _ I h) λd k ⟨g,i,j⟩=>?_);cases d with
 |true=>exact l e k f g Q i j
 |false=>exact m e k f g Q i j
end
def fR(K:Fg)(H:Hp)(a:c7)(xs:List V):Prop:=
 Rd H a (.lst xs)\/
  ∃(o:Obj) (b:Array cV) (n:Nat),K.lookup a=some o/\o.cls=.type "list"/\o.dict=none/\o.data=.seq b n/\b.size<=c6/\gy xs b.toList
def fA(K:Fg)(H:Hp)(a:c7)(xs:List V):Prop:=
 Rd H a (.tup xs)\/
  ∃(o:Obj) (b:Array cV) (n:Nat),K.lookup a=some o/\o.cls=.type "tuple"/\o.data=.seq b n/\b.size<=c6/\gy xs b.toList
def W1:cV->Option V
 |.none=>some .non
 |.bool b=>some (.bl b)
 |.int i _=>some (.int i)
 |.str x _=>some (.str x)
 |.bytes b _=>some (.byt b)
 |.float b _=>some (.flt b)
 |.ref a=>some (.ref a)
 |.type n=>some (.ty n)
 |_=>none
def hV.abs{x:V}{u:cV}(r:hV x u):W1 u=some x:=by
 cases x with
 |non=>cases r;rfl
 |bl _=>cases r;rfl
 |ref _=>cases r;rfl
 |ty _=>cases r;rfl
 |_=>obtain⟨t,rfl⟩:=r;rfl
def hV.inj{x y:V}{u:cV}(r:hV x u)(q:hV y u):x=y:=Option.some.inj (r.abs.symm.trans q.abs)
theorem gy.inj:∀{xs ys:List V} {us:List cV},gy xs us->gy ys us->xs=ys
 |_,_,_,.nil,.nil=>rfl
 |_,_,_,.cons r t,.cons a b=>by rw[r.inj a,gy.inj t b]
section
variable{X:Cx}{pins:List (c7×Obj)}{σ:St}{H:Hp}{s:da}{a:c7}{xs ys:List V}
def fR.of{K:Fg}(h:H a=some (.lst xs)):fR K H a xs:=.inl (.inl h)
def fA.of{K:Fg}(h:H a=some (.tup xs)):fA K H a xs:=.inl (.inl h)
def fW.list(I:fW X pins σ H s)(h:fR X.K H a xs):∃b:List cV,gy xs b/\PlainL s.heap a b.toArray/\xs.length<=c6:=by
 rcases h with h|⟨o,b,n,f,c,d,g,i,r⟩
 ·obtain⟨z,b,n,r,e⟩:=h.ok I.hok;exact⟨b,r,⟨_,n,e,rfl,rfl,rfl⟩,z⟩
 ·refine⟨b.toList,r,⟨o,n,I.kIn a o f,c,d,by simpa using g⟩,?_⟩;have e:=r.length;simp only[ju] at e;lia
def fW.tuple(I:fW X pins σ H s)(h:fA X.K H a xs):∃b:List cV,gy xs b/\mG s.heap a b.toArray/\xs.length<=c6:=by
 rcases h with h|⟨o,b,n,d,c,f,g,r⟩
 ·obtain⟨z,b,r,p⟩:=h.ok I.hok;exact⟨b,r,p.tup,z⟩
 ·refine⟨b.toList,r,⟨o,I.kIn a o d,c,n,by simpa using f⟩,?_⟩;have e:=r.length;simp only[ju] at e;lia
def fW.list_inj(I:fW X pins σ H s)(h:fR X.K H a xs)(h':fR X.K H a ys):xs=ys:=by
 obtain⟨c,r,⟨o,n,e,_,_,d⟩,_⟩:=I.list h;obtain⟨b,i,⟨k,j,g,_,_,f⟩,_⟩:=I.list h';rw[e] at g;cases g;rw[d] at f;injection f with d1 _;have:c=b:=by simpa using congrArg u6 d1
 subst this;exact r.inj i
def fW.tuple_inj(I:fW X pins σ H s)(h:fA X.K H a xs)(h':fA X.K H a ys):xs=ys:=by
 obtain⟨c,r,⟨o,e,_,n,d⟩,_⟩:=I.tuple h;obtain⟨b,i,⟨k,g,_,j,f⟩,_⟩:=I.tuple h';rw[e] at g;cases g;rw[d] at f;injection f with d1 _;have:c=b:=by simpa using congrArg u6 d1
 subst this;exact r.inj i
end
abbrev Cx.wish(X:Cx)(E:Zz):Cx:={X with xe:=E}
abbrev Cx.nox(X:Cx):Cx:=X.wish λ_ _=>False
def Cx.Ok.wish{X:Cx}(a:X.Ok)(E:Zz):(X.wish E).Ok:=
 ⟨a.mod,a.kind,a.glob,a.blt,a.above,a.inj,a.has,a.cab,a.hd,a.frames,a.stk,a.exf,a.bs,a.bsz,a.noex,a.exfs,a.funs,a.frf⟩
def Cx.Ok.unwish{X:Cx}{E:Zz}(a:(X.wish E).Ok):X.Ok:=
 ⟨a.mod,a.kind,a.glob,a.blt,a.above,a.inj,a.has,a.cab,a.hd,a.frames,a.stk,a.exf,a.bs,a.bsz,a.noex,a.exfs,a.funs,a.frf⟩
section
variable{X:Cx}{pins:List (c7×Obj)}{σ:St}{H:Hp}{s:da}{E:Zz}
def fW.wish(I:fW X pins σ H s)(E:Zz):fW (X.wish E) pins σ H s:=⟨I.ok.wish E,I.os,I.bare,I.base,I.loc,I.cell,I.free,I.freeC,I.pin,I.hok,I.len⟩
def fW.unwish(I:fW (X.wish E) pins σ H s):fW X pins σ H s:=⟨I.ok.unwish,I.os,I.bare,I.base,I.loc,I.cell,I.free,I.freeC,I.pin,I.hok,I.len⟩
def SP.unwish{D:pd}{f:Flow}{s':da}(h:SP (X.wish E) pins D f s'):SP X pins D f s':=by
 cases f with
 |ret u=>obtain⟨v,a,b,I,r,q⟩:=h;exact⟨v,a,b,I.unwish,r,q⟩
 |_=>obtain⟨a,b,I,q⟩:=h;exact⟨a,b,I.unwish,q⟩
def HP.nox{st:List Stmt}{t:TS}(h:HP X.nox st t):HP X st t:=λpins s σ H D I a=>
 iI (h pins s σ H D (I.wish _) a) (λ_ _ q=>q.unwish) λ_ _ z=>False.elim z
end
section
variable{X:Cx}{st:Stmt}{rest:List Stmt}{t u:TS}{e:Expr}{te:TE}{pos:Pos}
def eO:TS:=λD a H=>D.nx a H
def dU(t u:TS):TS:=λD a H=>t {D with nx:=u D} a H
def RE:HP X [] eO:=λ_ _ a H _ I h=>nP ⟨a,H,I,h⟩
def OE(e:PS X st t)(h2:HP X rest u):HP X (st::rest) (dU t u):=by
 intro a s i H D I h;refine wpAny_execs_cons (kf (e a s i H {D with nx:=u D} I h) λf g q=>?_);cases f with
 |next=>
  obtain⟨b,c,d,q⟩:=q;exact h2 a g b c D d q
 |_=>exact q
def RF(b:PS X st t):HP X [st] t:=by
 intro a s c H D I h;refine wpAny_execs_cons (kf (b a s c H D I h) λf d q=>?_);cases f with
 |next=>exact nP q
 |_=>exact q
def fW.quiet{a:List (c7×Obj)}{b:St}{H:Hp}{s:da}(I:fW X a b H s):interactive X.env=false:=by simp[interactive,I.ok.kind]
def ow(te:TE):TS:=λD a H=>te a H λ_ b=>D.nx a b
def RC(f:PE X e te)(g:mK e none pos.line X.env=pure false:=by rfl):PS X (.Expr e pos) (ow te):=by
 intro a s b H D I h;exact wpAny_Expr_any (kf (f a s b H _ I h) λv k ⟨x,c,d,j,i⟩=>⟨b,c,d,i⟩) I.quiet g
def eY(te:TE):TS:=λD a H=>te a H D.rt
def UX(f:PE X e te):PS X (.Return (some e) pos) (eY te):=by
 intro a s b H D I h;exact wpAny_Return_some (kf (f a s b H _ I h) λv j ⟨x,c,d,i,g⟩=>⟨x,b,c,d,i,g⟩)
def Pp:TS:=λD _ H=>D.rt .non H
def RD:PS X (.Return none pos) Pp:=λ_ _ a H _ I h=>wpAny_Return_none ⟨.non,a,H,I,rfl,h⟩
def gc(c:TT)(t u:TS):TS:=λD a H=>c a H λb d=>if b=true then t D a d else u D a d
def Wd{c:Expr}{a b:List Stmt}{l:TT}(o:PT X c l)(m:HP X a t)(n:HP X b u):PS X (.If c a b pos) (gc l t u):=by
 intro e s f H D I h;refine wpAny_If (kf (o e s f H _ I h) λd k ⟨g,i,j⟩=>?_);cases d with
 |true=>exact m e k f g D i j
 |false=>exact n e k f g D i j
end
abbrev TG:=V->St->Hp->(St->Hp->Prop)->Prop
abbrev Lj:=List V->St->Hp->(St->Hp->Prop)->Prop
def PG(X:Cx)(a:Expr)(t:TG):Prop:=
 ∀(b:List (c7×Obj)) (s:da) (e:St) (H:Hp) (v:V) (u:cV) (Q:St->Hp->Prop),fW X b e H s->hV v u->t v e H Q->
  dJ (model X.prog X.w) X.A (assign a X.env u) (λ_ f=>∃c d,fW X b c d f/\Q c d) X.xe s
def Vq(X:Cx)(h:List Expr)(t:Lj):Prop:=
 ∀(a:List (c7×Obj)) (s:da) (f:St) (H:Hp) (e:List V) (d:List cV) (Q:St->Hp->Prop),fW X a f H s->gy e d->t e f H Q->
  dJ (model X.prog X.w) X.A (assignInOrder ((ix h X.env).map (·.2)) d) (λ_ g=>∃b c,fW X a b c g/\Q b c) X.xe s
abbrev Qs:=V->V->V->Hp->(Hp->Prop)->Prop
def Qq(X:Cx)(t:Qs):Prop:=
 ∀(a:List (c7×Obj)) (s:da) (e:St) (H:Hp) (o i v:V) (d c u:cV) (Q:Hp->Prop),fW X a e H s->hV o d->hV i c->hV v u->t o i v H Q->
  dJ (model X.prog X.w) X.A (setItem d c u) (λ_ f=>∃b,fW X a e b f/\Q b) X.xe s
section
variable{X:Cx}{pos:Pos}
def dy(i:Nat):TG:=λv a H Q=>Q (a.set i (some v)) H
def Rn{i:Nat}{x:Str}(c:X.N.Nodup)(e:X.N[i]?=some x)(f:Nd X.env.scope x)(d:X.fn x=true\/X.env.scope.names.lookup x=some .local:=by first|exact .inl rfl|exact .inr rfl|assumption):PG X (.Name x pos) (dy i):=by
 intro a s j H v u Q I r h;exact wpAny_assign_Name (GU I c e f r (λg b=>⟨_,H,b,h⟩) d)
def sF:Lj:=λa b H Q=>a=[]/\Q b H
def jw(t:TG)(u:Lj):Lj:=λc d H Q=>∃v r,c=v::r/\t v d H λa b=>u r a b Q
def Rp:Vq X [] sF:=by
 intro a s b H d c Q I r h;obtain⟨e,h⟩:=h;subst e;cases r;exact assignInOrder_nil ⟨b,H,I,h⟩
def Oy{e:Expr}{es:List Expr}{t:TG}{u:Lj}(g:PG X e t)(h2:Vq X es u)
  (i:(ix (e::es) X.env).map (·.2)=assign e X.env::(ix es X.env).map (·.2):=by rfl):Vq X (e::es) (jw t u):=by
 intro a s m H p n Q I r h;obtain⟨v,o,f,h⟩:=h;subst f;cases r with
 |cons r k=>
  rw[i];refine assignInOrder_cons (kf (g a s m H _ _ _ I r h) λ_ l ⟨b,c,d,j⟩=>?_);exact h2 a l b c _ _ Q d k j
def tU(K:Fg)(n:Nat)(t:Lj):TG:=λv c H Q=>∃a b,v=.ref a/\fA K H a b/\b.length=n/\t b c H Q
def UQ{es:List Expr}{k:Nat}{t:Lj}{n:Nat}(p:X.calm=true)(h:Vq X es t)
  (w:(ix es X.env).length=n:=by rfl) (d:(ix es X.env).findIdx? (·.1)=none:=by rfl):PG X (.Tuple es k pos) (tU X.K n t):=by
 intro c s i H v u Q I r f;obtain⟨a,C,l,x,q,f⟩:=f;subst l;cases r;obtain⟨B,g,y,D⟩:=I.tuple x;refine assign_Tuple_tuple (I.ok.hd p) y (by simp[w,<-q,g.length]) d λm z=>?_;have j:fW X c i H {s with heap:=m}:=I.kept (t':=s.toks) λb o e=>z b o (eg (dD e)) e;exact h c _ i H C _ Q j (by simpa using g) f
def sG(f e:TE)(t:Qs):TG:=λv a H Q=>f a H λo b=>e a b λi c=>t o i v c λd=>Q a d
def UP{o i:Expr}{f e:TE}{t:Qs}(w:PE X o f)(q:PE X i e)(z:Qq X t)
  (p:∀v,assign (.Subscript o i pos) X.env v=(do
   let b <-holding [v] (eval o X.env);let c <-holding [v,b] (eval i X.env)
   standAt pos
   holding [v,b,c] (setItem b c v)
   release [v,b,c] []):=by intro _;rfl):PG X (.Subscript o i pos) (sG f e t):=by
 intro a s d H v u Q I r h;rw[p];refine cS (gj (kf (w a s d H _ I h) λb J ⟨x,g,l,E,B⟩=>?_));refine cS (gj (kf (q a J d g _ l B) λc K ⟨y,j,m,G,C⟩=>?_));refine cS (pT (cS (gj (kf (z a K d j x y v b c u _ m E G r C) λ_ L ⟨k,n,D⟩=>?_))));exact wpAny_release ⟨d,k,n,D⟩
def eF(c:TE)(g:TG):TS:=λD a H=>c a H λx b=>g x a b D.nx
def UV{b e:Expr}{c:TE}{g:TG}(k:PE X e c)(l:PG X b g)(m:swapsWithSole [b] e pos.line X.env=pure false:=by rfl)(n:swappedStores [b] e X.env=pure none:=by rfl)
  (j:(ix [b] X.env).map (·.2)=[assign b X.env]:=by rfl):PS X (.Assign [b] e pos) (eF c g):=by
 intro a s d H D I h;refine wpAny_Assign_stores (kf (k a s d H _ I h) λv r ⟨x,f,i,p,o⟩=>?_) m n;rw[j];exact kf (l a r d f x v _ i p o) λ_ t q=>q
def UY{i:Nat}{x:Str}{e:Expr}{c:TE}{a:Pos}(j:X.N.Nodup)(m:X.N[i]?=some x)(o:Nd X.env.scope x)(k:PE X e c)(n:mK e (some (.Name x a)) pos.line X.env=pure false:=by rfl)(l:X.fn x=true\/X.env.scope.names.lookup x=some .local:=by first|exact .inl rfl|exact .inr rfl|assumption) :
  PS X (.Assign [.Name x a] e pos) (eF c (dy i)):=by
 intro b s r H D I h;refine wpAny_Assign_Name (kf (k b s r H _ I h) λv t ⟨y,d,f,q,p⟩=>?_) n;exact GU f j m o q (λu g=>⟨_,d,g,p⟩) l
def xE(c:TT)(h:TS):TS:=λD a H=>∃W:Nat->St->Hp->Prop,(∃m,W m a H)/\∀m a H,W m a H->
 c a H λb f=>if b=true then ∃N:St->Hp->Prop,(∀d e,N d e->∃g,g<m/\W g d e)/\h {D with nx:=N,ct:=N,bk:=D.nx} a f else D.nx a f
def OD{c:Expr}{g:List Stmt}{E:TT}{C:TS}(B:fS (model X.prog X.w) X.A X.env X.xe)(K:PT X c E)(J:HP X g C):PS X (.While c g [] pos) (xE E C):=by
 intro a s S H D I h;obtain⟨W,⟨L,Q⟩,turn⟩:=h;refine wpAny_While (codeAny_whileLoop (λn M=>∃j t,fW X a j t M/\W n j t) ?_ L ⟨S,H,I,Q⟩);rintro n O ⟨e,u,G,R⟩;refine jM B (kf (K a O e u _ G (turn n e u R)) λb P ⟨x,y,k⟩=>?_);cases b with
 |true=>
  obtain⟨N,z,k⟩:=k;rw[if_pos rfl];refine jM B (kf (J a P e x _ y k) λf T l=>?_);cases f with
  |next=>
   obtain⟨d,i,m,q⟩:=l;obtain⟨p,o,r⟩:=z d i q;exact⟨p,o,d,i,m,r⟩
  |cont=>
   obtain⟨d,i,m,q⟩:=l;obtain⟨p,o,r⟩:=z d i q;exact⟨p,o,d,i,m,r⟩
  |brk=>exact l
  |ret v=>exact l
 |false=>
  rw[if_neg Bool.false_ne_true];exact nP ⟨e,x,y,k⟩
end
structure It where
 go:Nat->Hp->Prop
 yld:Nat->Hp->V->Hp->Prop
 stop:Nat->Hp->Prop
def uI(X:Cx)(a:List (c7×Obj))(H:Hp)(b:c7):Prop:=
 H b=none/\b≠X.env.locals/\b∉X.fs/\(b∈X.ex\/X.s₀.heap.objs.size<=b)/\(∀x c,X.env.cells.lookup x=some c->c≠b)/\∀p∈X.pn++a,p.1≠b
def fW.fpOk{X:Cx}{a:List (c7×Obj)}{h:St}{H H':Hp}{s:da}{b:c7}(I:fW X a h H s)(d:s.heap.objs.size<=b)(f:H' b=none):uI X a H' b:=by
 refine⟨f,oB (eI I.lt d),I.nofs d,.inr (fq I.sz d),λx c e z=>?_,λp g z=>?_⟩
 ·obtain⟨v,q⟩:=I.cell x c e;exact absurd (eI q.lt (by rw[z];exact d)) (ih _)
 ·exact absurd (eI (dD (I.pin p g).1) (by rw[z];exact d)) (ih _)
structure BU(P:dv)(w:dQ)(K:Fg)(tg:Expr)(J:It)(fp:List c7)(it:c7)(tn:Nat->Heap->Prop):Prop where
 mem:it∈fp
 obj:∀i h,tn i h->∀b∈fp,∃o,h.get? b=some o/\∀v,o.data≠.cell v
 keep:∀i h h',tn i h->(∀b∈fp,∀o,h.get? b=some o->h'.get? b=some o)->tn i h'
 item:∀(X:Cx),X.prog=P->X.w=w->X.K=K->X.calm=true->∀(i:Nat) (pins:List (c7×Obj)) (s:da) (σ:St) (H:Hp) (E:Zz),fW X pins σ H s->(∀b∈fp,uI X pins H b)->tn i s.heap->J.go i H->
  dJ (model P w) X.A (nN (.ref it)) (λr s1=>∃u,r=some u/\
   dJ (model P w) X.A (nM tg (.ref it) u) (λ_ s2=>∃x H',fW X pins σ H' s2/\hV x u/\J.yld i H x H'/\tn (i+1) s2.heap/\∀b∈fp,H' b=none) E s1) E s
 done:∀(X:Cx),X.prog=P->X.w=w->X.K=K->X.calm=true->∀(i:Nat) (pins:List (c7×Obj)) (s:da) (σ:St) (H:Hp) (E:Zz),fW X pins σ H s->(∀b∈fp,uI X pins H b)->tn i s.heap->J.stop i H->
  dJ (model P w) X.A (nN (.ref it)) (λr s1=>r=none/\fW X pins σ H s1) E s
 self:∀(A:ef) (i:Nat) (s:da) (Q:Zz) (E:Zz),tn i s.heap->Q (.ref it) s->dJ (model P w) A (pyIter (.ref it)) Q E s
abbrev TI:=St->Hp->(It->Hp->Prop)->Prop
def Xg(X:Cx)(a:List (c7×Obj))(i:St)(h:Expr)(R:It->Hp->Prop)(d:cV)(s2:da):Prop:=
 ∃(f:c7) (e:List c7) (g:Nat->Heap->Prop) (J:It) (c:Hp),d=.ref f/\fW X a i c s2/\BU X.prog X.w X.K h J e f g/\g 0 s2.heap/\(∀b∈e,uI X a c b)/\R J c
def PI(X:Cx)(e b:Expr)(f:TI):Prop:=
 ∀(a:List (c7×Obj)) (s:da) (c:St) (H:Hp) (R:It->Hp->Prop),fW X a c H s->f c H R->
  dJ (model X.prog X.w) X.A (eval b X.env) (λv d=>dJ (model X.prog X.w) X.A (pyIter v) (Xg X a c e R) X.xe d) X.xe s
def Kp{M:Model}{A:ef}{E:Zz}{s:da}{b:Expr}{it:c7}{u:cV}{o:Obj}{n:String}{vs:Array cV}{Q:Unit->da->Prop}(f:s.heap.get? it=some o)(c:o.cls=.type n)(d:o.data=.fields vs)
  (e:["enumerate","zip","dict_itemiterator","dict_reverseitemiterator","odict_iterator","itertools.zip_longest","itertools.pairwise"].contains n=false) (a:Q () s):dJ M A (nM b (.ref it) u) Q E s:=by
 unfold nM;cases b<;>first
  |exact di a
  |(cases u<;>first
    |exact di a
    |(refine cS (wpAny_load f ?_)
      rw[c,d];show dJ M A (if(["enumerate","zip","dict_itemiterator","dict_reverseitemiterator","odict_iterator","itertools.zip_longest","itertools.pairwise"].contains n&&vs[0]?==some (oQ _))=true then _ else _) Q E s;rw[if_neg (by intro h;rw[e,Bool.false_and] at h;cases h)];exact di a))
def SJ(K:Fg)(a:c7):It:=
 ⟨λi H=>∃b x,fR K H a b/\b[i]?=some x,λi H x c=>c=H/\∀b,fR K H a b->b[i]?=some x,λi H=>∃b,fR K H a b/\b.length<=i⟩
def SK(K:Fg)(a:c7):It:=
 ⟨λi H=>∃b x,fA K H a b/\b[i]?=some x,λi H x c=>c=H/\∀b,fA K H a b->b[i]?=some x,λi H=>∃b,fA K H a b/\b.length<=i⟩
def Qi(b:Int)(n:Nat):It:=⟨λi _=>i<n,λi H x a=>a=H/\x=.int (b+i),λi _=>n<=i⟩
def MN{P:dv}{w:dQ}{K:Fg}{tg:Expr}(a it:c7):BU P w K tg (SJ K a) [it] it (λi h=>h.IsListIter it a i) where
 mem:=by simp
 obj:=λi h f b j=>by
  have e:b=it:=by simpa using j
  subst e;obtain⟨o,e,c,d⟩:=f;exact⟨o,e,λv z=>by rw[d] at z;cases z⟩
 keep:=λi h m f k=>f.at λo e=>k it (by simp) o e
 item:=by
  intro X G L D R i g s S H E I n f J;subst G L D;obtain⟨xs,x,q,M⟩:=J;obtain⟨O,Q,p,hz⟩:=I.list q;obtain⟨u,Z,ru⟩:=Q.get M;obtain⟨r,t,Y,y,B,C⟩:=n it (by simp);refine wpAny_pyNext_list_item f p.isList (x:=u) (by simpa using Z) λm l sb=>?_;have T:fW X g S H {s with heap:=m}:=I.turned (t':=s.toks) (λb o j e=>(sb.2 b j).trans e) r t y B C;obtain⟨o,e,c,d⟩:=id l;exact⟨u,rfl,Kp (s:={s with heap:=m}) e c d (by decide) ⟨x,H,T,ru,⟨rfl,λys hy=>by rw[I.list_inj hy q];exact M⟩,l,λb j=>(n b j).1⟩⟩
 done:=by
  intro X G L D R i g s S H E I n f J;subst G L D;obtain⟨xs,q,M⟩:=J;obtain⟨O,Q,p,hz⟩:=I.list q;obtain⟨r,t,Y,y,B,C⟩:=n it (by simp);have hl:=Q.length;exact wpAny_pyNext_list_end (I.ok.hd R) f p.isList (by simp;lia) λm U=>⟨rfl,I.turned (t':=s.toks) (λb o j e=>U b o j e) r t y B C⟩
 self:=λ_ _ _ _ _ f h=>wpAny_pyIter_listiter f h
def J3{P:dv}{w:dQ}{K:Fg}{tg:Expr}(a it:c7):BU P w K tg (SK K a) [it] it (λi h=>h.IsTupleIter it a i) where
 mem:=by simp
 obj:=λi h f b j=>by
  have e:b=it:=by simpa using j
  subst e;obtain⟨o,e,c,d⟩:=f;exact⟨o,e,λv z=>by rw[d] at z;cases z⟩
 keep:=λi h n f k=>f.at λo e=>k it (by simp) o e
 item:=by
  intro X J M G R i g s S H E I q f L;subst J M G;obtain⟨xs,x,r,O⟩:=L;obtain⟨l,Q,p,hz⟩:=I.tuple r;obtain⟨u,Z,ru⟩:=Q.get O;obtain⟨t,y,Y,B,C,D⟩:=q it (by simp);refine wpAny_pyNext_tuple_item f (show s.heap.IsTuple a l.toArray from p) (x:=u) (by simpa using Z) λn m sb=>?_;have T:fW X g S H {s with heap:=n}:=I.turned (t':=s.toks) (λb o j e=>(sb.2 b j).trans e) t y B C D;obtain⟨o,e,c,d⟩:=id m;exact⟨u,rfl,Kp (s:={s with heap:=n}) e c d (by decide) ⟨x,H,T,ru,⟨rfl,λys hy=>by rw[I.tuple_inj hy r];exact O⟩,m,λb j=>(q b j).1⟩⟩
 done:=by
  intro X J M G R i g s S H E I q f L;subst J M G;obtain⟨xs,r,O⟩:=L;obtain⟨l,Q,p,hz⟩:=I.tuple r;obtain⟨t,y,Y,B,C,D⟩:=q it (by simp);have hl:=Q.length;exact wpAny_pyNext_tuple_end (I.ok.hd R) f (show s.heap.IsTuple a l.toArray from p) (by simp;lia) λn U=>⟨rfl,I.turned (t':=s.toks) (λb o j e=>U b o j e) t y B C D⟩
 self:=λ_ _ _ _ _ f h=>wpAny_pyIter_tupleiter f h
def J2{P:dv}{w:dQ}{K:Fg}{S:Expr}(it:c7)(l:Int)(n:Nat):BU P w K S (Qi l n) [it] it (λi h=>IsRangeIter h it (l+(i:Nat)*1) ((n:Int)-(i:Nat)) 1) where
 mem:=by simp
 obj:=λi h a b d=>by
  have e:b=it:=by simpa using d
  subst e;exact⟨_,a,λv z=>by
   have T:Data.fields _=Data.cell v:=z;cases T⟩
 keep:=λi h g a k=>k it (by simp) _ a
 item:=by
  intro X y D x B i c s J H E I j a C;subst y D x;obtain⟨m,p,O,q,r,u⟩:=j it (by simp);have W:=Walks.range (prog:=X.prog) (w:=X.w) (I.ok.hd B) it l 1 n;refine W.item i s _ _ C a λv g G Q f R=>?_;obtain⟨t,rfl⟩:=Q;have L:fW X c J H {s with heap:=g,toks:=G}:=I.turned (λb o d e=>R b o (by simpa using d) e) m p q r u;refine⟨_,rfl,Kp (s:={s with heap:=g,toks:=G}) (n:="range_iterator") f rfl rfl (by decide) ⟨.int (l+i),H,L,⟨t,?_⟩,⟨rfl,rfl⟩,f,λb d=>(j b d).1⟩⟩;rw[Int.mul_one]
 done:=by
  intro X y D x B i c s J H E I j a C;subst y D x;obtain⟨m,p,O,q,r,u⟩:=j it (by simp);exact wpAny_pyNext_range_end (I.ok.hd B) a (by have:n<=i:=C;lia) λg M=>⟨rfl,I.turned (t':=s.toks) (λb o d e=>M b o d e) m p q r u⟩
 self:=λ_ _ _ _ _ a h=>wpAny_pyIter_rangeiter a h
section
variable{X:Cx}{tg:Expr}
def SS(K:Fg)(c:TE):TI:=λe H R=>c e H λx b=>∃a,x=.ref a/\(∃d,fR K b a d)/\R (SJ K a) b
def VT(K:Fg)(c:TE):TI:=λe H R=>c e H λx b=>∃a,x=.ref a/\(∃d,fA K b a d)/\R (SK K a) b
def Rr{l:Expr}{g:TE}(k:PE X l g):PI X tg l (SS X.K g):=by
 intro c s u H R I h;refine kf (k c s u H _ I h) λv f ⟨x,i,d,t,r⟩=>?_;obtain⟨a,e,⟨z,m⟩,q⟩:=r;subst e;cases t;obtain⟨n,y,p,w⟩:=d.list m;refine lX p.isList ?_;refine⟨f.heap.objs.size,[f.heap.objs.size],_,_,i,rfl,d.kept (t':=f.toks) λb o e=>df _ e,MN a _,⟨_,dI _ rfl,rfl,rfl⟩,λb j=>?_,q⟩;have e:b=f.heap.objs.size:=by simpa using j
 subst e;exact d.fpOk (dk _) (d.hok.fresh (dk _))
def US{l:Expr}{i:TE}(m:PE X l i):PI X tg l (VT X.K i):=by
 intro c s u H R I h;refine kf (m c s u H _ I h) λv d ⟨x,j,f,t,r⟩=>?_;obtain⟨a,e,⟨z,n⟩,q⟩:=r;subst e;cases t;obtain⟨g,y,p,w⟩:=f.tuple n;refine kh (show d.heap.IsTuple a g.toArray from p) ?_;refine⟨d.heap.objs.size,[d.heap.objs.size],_,_,j,rfl,f.kept (t':=d.toks) λb o e=>df _ e,J3 a _,⟨_,dI _ rfl,rfl,rfl⟩,λb k=>?_,q⟩;have e:b=d.heap.objs.size:=by simpa using k
 subst e;exact f.fpOk (dk _) (f.hok.fresh (dk _))
def O0{d:List (c7×Obj)}{h:St}{H:Hp}{s:da}{R:It->Hp->Prop}{E:Zz}{a c:Int}{t u v:Tok}{g:Nat}(I:fW X d h H s)(k:-(2 ^ 62)<=a)(h2:a<2 ^ 62)(l:-(2 ^ 62)<=c)(m:c<2 ^ 62)
  (q:R (Qi a (c-a).toNat) H):dJ (model X.prog X.w) X.A (pyIter (.ref s.heap.objs.size)) (Xg X d h tg R) E {s with heap:=s.heap.push {cls:=.type "range",data:=.fields #[.int a t,.int c u,.int 1 v]},toks:=g}:=by
 refine wpAny_pyIter_range (IsRange.new ..) (small_one k h2 l m) ?_;have f:fW X d h H {s with heap:=s.heap.push {cls:=.type "range",data:=.fields #[.int a t,.int c u,.int 1 v]},toks:=g}:=I.kept λb o e=>df _ e;refine⟨(s.heap.push {cls:=.type "range",data:=.fields #[.int a t,.int c u,.int 1 v]}).objs.size,[(s.heap.push {cls:=.type "range",data:=.fields #[.int a t,.int c u,.int 1 v]}).objs.size],_,_,H,rfl,
  f.kept (t':=g) λb o e=>df _ e,J2 _ a (c-a).toNat,?_,λb n=>?_,q⟩
 ·have i:a+((0:Nat):Int)*1=a:=by simp
  have j:(((c-a).toNat:Nat):Int)-((0:Nat):Int)=dS.Range.rangeSize a c 1:=by rw[rangeSize_one];split<;>lia
  show IsRangeIter _ _ (a+((0:Nat):Int)*1) ((((c-a).toNat:Nat):Int)-((0:Nat):Int)) 1;rw[i,j];exact dI _ rfl
 ·have e:b=(s.heap.push {cls:=.type "range",data:=.fields #[.int a t,.int c u,.int 1 v]}).objs.size:=by simpa using n
  subst e;exact f.fpOk (dk _) (f.hok.fresh (dk _))
def mu(b:TA):TI:=λd H R=>b d H λc a=>∃j:Int,c=[.int j]/\-(2 ^ 62)<=j/\j<2 ^ 62/\R (Qi 0 j.toNat) a
def L4{a:Expr}{d:TA}{p pos:Pos}(i:Gl X "range")(k:X.mg "range"=none)(g:PA X [a] d)(l:dH [a] X.env=[(false,eval a X.env)]:=by rfl):PI X tg (.Call (.Name "range" p) [a] [] pos) (mu d):=by
 intro b s u H R I h;refine Call_ (pk I i k boot_range (fL (kf (g pos b s u H _ I h) λx w ⟨y,v,f,n,c⟩=>?_) l rfl));obtain⟨j,e,c,m,q⟩:=c;subst e;cases n with
 |cons r o=>
  cases o;obtain⟨t,rfl⟩:=r;exact call_range_1 (O0 f (by lia) (by lia) c m (by simpa using q))
def oj(k:TI)(g:TG)(j:TS):TS:=λD a H=>k a H λJ f=>∃W:Nat->Nat->St->Hp->Prop,(∃m,W 0 m a f)/\∀i m a H,W i m a H->
 (J.stop i H/\D.nx a H)\/(J.go i H/\∃N:St->Hp->Prop,(∀c b,N c b->∃e,e<m/\W (i+1) e c b)/\∀x b,J.yld i H x b->g x a b λd h=>j {D with nx:=N,ct:=N,bk:=D.nx} d h)
def Ak(a:List c7)(h:Heap):List (c7×Obj):=a.filterMap λb=>(h.get? b).map λo=>(b,o)
def rk{a:List c7}{h:Heap}{b:c7}{o:Obj}(c:b∈a)(e:h.get? b=some o):(b,o)∈Ak a h:=ki.mpr ⟨b,c,by rw[e];rfl⟩
def LZ{a:List c7}{h:Heap}{p:c7×Obj}(f:p∈Ak a h):p.1∈a/\h.get? p.1=some p.2:=by
 obtain⟨b,d,e⟩:=ki.mp f;cases q:h.get? b with
 |none=>rw[q] at e;cases e
 |some o=>
  rw[q] at e;have c:(b,o)=p:=Option.some.inj e;subst c;exact⟨d,q⟩
def fW.pinned{a:List (c7×Obj)}{h:St}{H:Hp}{s:da}{c:List c7}(I:fW X a h H s)(l:∀b∈c,uI X a H b)(m:∀b∈c,∃o,s.heap.get? b=some o/\∀v,o.data≠.cell v):fW X (a++Ak c s.heap) h H s:=
 I.pins_of λp n=>(d9.mp n).elim (λz=>I.pin p (eW _ z)) λz=>by
  obtain⟨g,e⟩:=LZ z;obtain⟨i,j,k,_⟩:=l p.1 g;obtain⟨o,f,d⟩:=m p.1 g;rw[e] at f;cases f;exact⟨e,i,j,k,d⟩
def fW.unpinned{a pl:List (c7×Obj)}{b:St}{H:Hp}{s:da}(I:fW X (a++pl) b H s):fW X a b H s:=I.pins_of λp c=>I.pin p (eW _ (gX _ c))
def UW{k:Expr}{B:List Stmt}{wi:TI}{g:TG}{tb:TS}{pos:Pos}(M:fS (model X.prog X.w) X.A X.env X.xe)(hc:X.calm=true)(hi:PI X tg k wi)(hg:PG X tg g)(j:HP X B tb)
  (hs:∀x,ia k X.env x=pure x:=by intro _;rfl):PS X (.For tg k B [] pos) (oj wi g tb):=by
 intro a s σ H D I h;refine wpAny_For (kf (hi a s σ H _ I h) λv s1 h1=>kf h1 λab s2 h2=>?_) hs;obtain⟨it,K,tn,J,H2,e,I2,T,Z,f2,W,⟨m0,w0⟩,turn⟩:=h2;subst e;have l:∀{t:Hp},(∀b∈K,t b=none)->∀b∈K,uI X a t b:=λhn b j=>⟨hn b j,(f2 b j).2⟩;refine codeAny_forLoop_any (λn s'=>∃i p t,fW X a p t s'/\tn i s'.heap/\(∀b∈K,t b=none)/\W i n p t) ?_ m0 ⟨0,σ,H2,I2,Z,λb j=>(f2 b j).1,w0⟩;rintro n s3 ⟨i,q,P,I3,O,L,w3⟩;rcases turn i n q P w3 with⟨stop,qn⟩|⟨go,N,hN,step⟩
 ·refine jM M (kf (T.done X rfl rfl rfl hc i a s3 q P X.xe I3 (l L) O stop) λr s4 ⟨S,I4⟩=>?_);subst S;exact nP ⟨q,P,I4,qn⟩
 ·refine jM M (kf (T.item X rfl rfl rfl hc i a s3 q P X.xe I3 (l L) O go) λr s4 ⟨u,S,h4⟩=>?_);subst S;refine jM M (kf h4 λ_ s5 ⟨x,H5,I5,r5,y5,G,R⟩=>?_);have Q:=I5.pinned (l R) (T.obj _ _ G);refine jM M (kf (hg _ s5 q H5 x u _ Q r5 (step x H5 y5)) λ_ s6 ⟨aa,H6,I6,q6⟩=>?_);refine jM M (kf (j _ s6 aa H6 _ I6 q6) λf Y E=>?_);have C:∀{c:St} {y:Hp},fW X (a++Ak K s5.heap) c y Y->N c y->∃m,m<n/\∃i p t,fW X a p t Y/\tn i Y.heap/\(∀b∈K,t b=none)/\W i m p t:=λ{c y} z U=>by
   obtain⟨m',hm,w7⟩:=hN c y U;refine⟨m',hm,i+1,c,y,z.unpinned,T.keep _ _ _ G λb j o e=>(z.pin (b,o) (eW _ (eW _ (rk j e)))).1,λb j=>?_,w7⟩;obtain⟨o,e,d⟩:=T.obj _ _ G b j;exact(z.pin (b,o) (eW _ (eW _ (rk j e)))).2.1
  cases f with
  |brk=>obtain⟨c,y,z,E⟩:=E;exact⟨c,y,z.unpinned,E⟩
  |ret v=>obtain⟨x7,c,y,z,r7,E⟩:=E;exact⟨x7,c,y,z.unpinned,r7,E⟩
  |_=>obtain⟨c,y,z,U⟩:=E;exact C z U
end
def vB{K:Fg}{a:c7}{xs:List V}{g:TG}{k:TS}{D:pd}{b:St}{H:Hp}(c:Nat->St->Hp->Prop)(l:c 0 b H)(r:∀i b H,i<=xs.length->c i b H->fR K H a xs)
  (s:∀i x b H,xs[i]?=some x->c i b H->g x b H λf H2=>k {D with nx:=c (i+1),ct:=c (i+1),bk:=D.nx} f H2) (n:∀b H,c xs.length b H->D.nx b H) :
  ∃W:Nat->Nat->St->Hp->Prop,(∃m,W 0 m b H)/\∀i m b H,W i m b H->
   ((SJ K a).stop i H/\D.nx b H)\/((SJ K a).go i H/\∃N:St->Hp->Prop,(∀d H',N d H'->∃j,j<m/\W (i+1) j d H')/\∀x H',(SJ K a).yld i H x H'->g x b H' λf H2=>k {D with nx:=N,ct:=N,bk:=D.nx} f H2):=by
 refine⟨λi m b H=>m=xs.length-i/\i<=xs.length/\c i b H,⟨xs.length,by simp,eV _,l⟩,?_⟩;rintro i m b H ⟨rfl,o,p⟩;have q:=r i b H o p;by_cases h:i<xs.length
 ·refine .inr ⟨⟨xs,xs[i],q,by simp[h]⟩,c (i+1),λd H' t=>⟨xs.length-(i+1),by lia,rfl,h,t⟩,λx H' y=>?_⟩;obtain⟨e,y⟩:=y;subst e;exact s i x b _ (y xs q) p
 ·have e:i=xs.length:=by lia
  subst e;exact .inl ⟨⟨xs,q,dk _⟩,n b H p⟩
def tM{K:Fg}{a:c7}{xs:List V}{g:TG}{k:TS}{D:pd}{b:St}{H:Hp}(c:Nat->St->Hp->Prop)(l:c 0 b H)(r:∀i b H,i<=xs.length->c i b H->fA K H a xs)
  (s:∀i x b H,xs[i]?=some x->c i b H->g x b H λf H2=>k {D with nx:=c (i+1),ct:=c (i+1),bk:=D.nx} f H2) (n:∀b H,c xs.length b H->D.nx b H) :
  ∃W:Nat->Nat->St->Hp->Prop,(∃m,W 0 m b H)/\∀i m b H,W i m b H->
   ((SK K a).stop i H/\D.nx b H)\/((SK K a).go i H/\∃N:St->Hp->Prop,(∀d H',N d H'->∃j,j<m/\W (i+1) j d H')/\∀x H',(SK K a).yld i H x H'->g x b H' λf H2=>k {D with nx:=N,ct:=N,bk:=D.nx} f H2):=by
 refine⟨λi m b H=>m=xs.length-i/\i<=xs.length/\c i b H,⟨xs.length,by simp,eV _,l⟩,?_⟩;rintro i m b H ⟨rfl,o,p⟩;have q:=r i b H o p;by_cases h:i<xs.length
 ·refine .inr ⟨⟨xs,xs[i],q,by simp[h]⟩,c (i+1),λd H' t=>⟨xs.length-(i+1),by lia,rfl,h,t⟩,λx H' y=>?_⟩;obtain⟨e,y⟩:=y;subst e;exact s i x b _ (y xs q) p
 ·have e:i=xs.length:=by lia
  subst e;exact .inl ⟨⟨xs,q,dk _⟩,n b H p⟩
def jO{h:Int}{n:Nat}{g:TG}{k:TS}{D:pd}{a:St}{H:Hp}(b:Nat->St->Hp->Prop)(l:b 0 a H)
  (q:∀i a H,i<n->b i a H->g (.int (h+i)) a H λf H2=>k {D with nx:=b (i+1),ct:=b (i+1),bk:=D.nx} f H2) (o:∀a H,b n a H->D.nx a H) :
  ∃W:Nat->Nat->St->Hp->Prop,(∃m,W 0 m a H)/\∀i m a H,W i m a H->
   ((Qi h n).stop i H/\D.nx a H)\/((Qi h n).go i H/\∃N:St->Hp->Prop,(∀d H',N d H'->∃j,j<m/\W (i+1) j d H')/\∀x H',(Qi h n).yld i H x H'->g x a H' λf H2=>k {D with nx:=N,ct:=N,bk:=D.nx} f H2):=by
 refine⟨λi m a H=>m=n-i/\i<=n/\b i a H,⟨n,by simp,eV _,l⟩,?_⟩;rintro i m a H ⟨rfl,s,p⟩;by_cases c:i<n
 ·refine .inr ⟨c,b (i+1),λd H' r=>⟨n-(i+1),by lia,rfl,c,r⟩,λx H' y=>?_⟩;obtain⟨e,y⟩:=y;subst e y;exact q i a _ c p
 ·have e:i=n:=by lia
  subst e;exact .inl ⟨dk _,o a H p⟩
abbrev R2:=V->V->Hp->VK->Prop
def oD(X:Cx)(f:cV->cV->Sem cV)(r:R2):Prop:=
 ∀(a:List (c7×Obj)) (s:da) (b:St) (H:Hp) (x y:V) (v u:cV) (Q:VK),fW X a b H s->hV x v->hV y u->r x y H Q->
  dJ (model X.prog X.w) X.A (f v u) (EP X a b Q) X.xe s
def WJ(X:Cx)(f:cV->Sem cV)(r:V->Hp->VK->Prop):Prop:=
 ∀(a:List (c7×Obj)) (s:da) (b:St) (H:Hp) (x:V) (v:cV) (Q:VK),fW X a b H s->hV x v->r x H Q->
  dJ (model X.prog X.w) X.A (f v) (EP X a b Q) X.xe s
def pb(X:Cx)(f:cV)(r:List V->Hp->VK->Prop):Prop:=
 ∀(a:List (c7×Obj)) (s:da) (d:St) (H:Hp) (c:List V) (b:List cV) (Q:VK),fW X a d H s->gy c b->r c H Q->
  dJ (model X.prog X.w) X.A (call f b) (EP X a d Q) X.xe s
def dF(r:R2)(d e:TE):TE:=λa H Q=>d a H λx b=>e a b λy c=>r x y c Q
def Sf(r:V->Hp->VK->Prop)(b:TE):TE:=λc H Q=>b c H λx a=>r x a Q
def rI(C:Int->Int->Prop)(g:Int->Int->V):R2:=λx y H Q=>∃i j,x=.int i/\y=.int j/\C i j/\Q (g i j) H
def MU(g:Int->Int->V):R2:=λx y H Q=>∃i j,x=.int i/\y=.int j/\Q (g i j) H
def rU(g:Int->V):V->Hp->VK->Prop:=λx H Q=>∃i,x=.int i/\Q (g i) H
section
variable{X:Cx}{a b c:Expr}{ta tb tc:TE}{pos:Pos}
def TM(l:PE X a ta)(m:PE X b tb){c:List (c7×Obj)}{s:da}{d:St}{H:Hp}{R:V->V->Hp->Prop}(I:fW X c d H s)
  (h:ta d H λx i=>tb d i λy H2=>R x y H2) {Q:Zz} {f:cV->cV->Sem cV}
  (n:∀v u s2 x y H2,fW X c d H2 s2->hV x v->hV y u->R x y H2->dJ (model X.prog X.w) X.A (f v u) Q X.xe s2) :
  dJ (model X.prog X.w) X.A (eval a X.env) (λv e=>dJ (model X.prog X.w) X.A (eval b X.env) (λu g=>dJ (model X.prog X.w) X.A (f v u) Q X.xe g) X.xe e) X.xe s:=by
 refine kf (l c s d H _ I h) λv t ⟨x,i,j,q,o⟩=>?_;refine kf (m c t d i _ j o) λu s2 ⟨y,H2,k,r,p⟩=>?_;exact n v u s2 x y H2 k q r p
def Wa{op:Operator}{r:R2}(i:oD X (iH op) r)(f:PE X a ta)(g:PE X b tb):PE X (.BinOp a op b pos) (dF r ta tb):=by
 intro c s m H Q I h;exact wpAny_BinOp (TM f g I h λv u l x y d e j k q=>i c l m d x y v u Q e j k q)
def Wc{op:UnaryOp}{r:V->Hp->VK->Prop}(g:WJ X (unaryOp op) r)(f:PE X a ta):PE X (.UnaryOp op a pos) (Sf r ta):=by
 intro b s c H Q I h;exact UnaryOp_ (kf (f b s c H _ I h) λv k ⟨x,d,e,j,i⟩=>g b k c d x v Q e j i)
def WO{f:cV->cV->Sem cV}{C:Int->Int->Prop}{g:Int->Int->Int}
  (a:∀(i j:Int) (t u:Tok) (s:da) (Q:Zz) (E:Zz),C i j->Q (.int (g i j) s.toks) {s with toks:=s.toks+1}->dJ (model X.prog X.w) X.A (f (.int i t) (.int j u)) Q E s) :
  oD X f (rI C λi j=>.int (g i j)):=by
 intro b s l H x y v u Q I d e h;obtain⟨i,j,rfl,rfl,c,q⟩:=h;obtain⟨t,rfl⟩:=d;obtain⟨k,rfl⟩:=e;exact a i j t k s _ _ c ⟨.int (g i j),H,I.tok _,⟨_,rfl⟩,q⟩
def V3{f:cV->cV->Sem cV}{g:Int->Int->Int}
  (a:∀(i j:Int) (t u:Tok) (s:da) (Q:Zz) (E:Zz),Q (.int (g i j) s.toks) {s with toks:=s.toks+1}->dJ (model X.prog X.w) X.A (f (.int i t) (.int j u)) Q E s) :
  oD X f (MU λi j=>.int (g i j)):=by
 intro b s k H x y v u Q I c d h;obtain⟨i,j,rfl,rfl,q⟩:=h;obtain⟨t,rfl⟩:=c;obtain⟨e,rfl⟩:=d;exact a i j t e s _ _ ⟨.int (g i j),H,I.tok _,⟨_,rfl⟩,q⟩
def Ut{f:cV->cV->Sem cV}{g:Int->Int->Bool}
  (a:∀(i j:Int) (t u:Tok) (s:da) (Q:Zz) (E:Zz),Q (.bool (g i j)) s->dJ (model X.prog X.w) X.A (f (.int i t) (.int j u)) Q E s) :
  oD X f (MU λi j=>.bl (g i j)):=by
 intro b s k H x y v u Q I c d h;obtain⟨i,j,rfl,rfl,q⟩:=h;obtain⟨t,rfl⟩:=c;obtain⟨e,rfl⟩:=d;exact a i j t e s _ _ ⟨.bl (g i j),H,I,rfl,q⟩
def Vu(i j:Int):Prop:=0<j/\j<1073741824
def Vv(i j:Int):Prop:=0<=j/\j<=1000000/\i.natAbs<2 ^ 64
def Qb(i j:Int):Prop:=(-(2 ^ 64)<i/\i<2 ^ 64)\/(-(2 ^ 64)<j/\j<2 ^ 64)
def Qb.ok{i j:Int}(h:Qb i j):IntMulOk i j:=by
 rcases h with⟨a,b⟩|⟨a,b⟩
 ·exact .of_left (intBits_le_64 a b)
 ·exact .of_right (intBits_le_64 a b)
def Uu:oD X (iH .Add) (MU λi j=>.int (i+j)):=V3 λ_ _ _ _ _ _ _ q=>add_int q
def EB:oD X (iH .Sub) (MU λi j=>.int (i-j)):=V3 λ_ _ _ _ _ _ _ q=>sub_int q
def Uy:oD X (iH .Mult) (rI Qb λi j=>.int (i*j)):=WO λ_ _ _ _ _ _ _ a q=>mul_int q a.ok
def Ez:oD X (iH .FloorDiv) (rI Vu λi j=>.int (i / j)):=WO λi j _ _ _ _ _ a q=>by
 have b:(0:Int)<j:=a.1;have c:j<1073741824:=a.2;exact floordiv_int (by lia) (by rw[Int.fdiv_eq_ediv_of_nonneg i (by lia)];exact q) (.inl (PyProof.noPylong_small (by lia)))
def lD:oD X (iH .Mod) (rI (λ_ j=>0<j) λi j=>.int (i % j)):=WO λi j _ _ _ _ _ a q=>by
 have b:(0:Int)<j:=a;exact mod_int' (by lia) (by rw[Int.fmod_eq_emod_of_nonneg i (by lia)];exact q)
def Ai:oD X (iH .Pow) (rI Vv λi j=>.int (i ^ j.toNat)):=WO λ_ _ _ _ _ _ _ a q=>pow_int_small a.1 a.2.1 a.2.2 q
def XR{f:cV->Sem cV}{g:Int->Int}
  (a:∀(i:Int) (t:Tok) (s:da) (Q:Zz) (E:Zz),Q (.int (g i) s.toks) {s with toks:=s.toks+1}->dJ (model X.prog X.w) X.A (f (.int i t)) Q E s) :
  WJ X f (rU λi=>.int (g i)):=by
 intro b s d H x v Q I c h;obtain⟨i,rfl,q⟩:=h;obtain⟨t,rfl⟩:=c;exact a i t s _ _ ⟨.int (g i),H,I.tok _,⟨_,rfl⟩,q⟩
def xM:WJ X (unaryOp .USub) (rU λi=>.int (-i)):=XR λ_ _ _ _ _ q=>neg_int q
end
def Pf:V->V->Bool
 |.non,.non=>true|.non,.int _=>true|.int _,.non=>true|.non,.bl _=>true|.bl _,.non=>true|.non,.str _=>true|.str _,.non=>true
 |.int _,.int _=>true|.bl _,.bl _=>true|.str _,.str _=>true|.byt _,.byt _=>true
 |.int _,.str _=>true|.str _,.int _=>true|.bl _,.str _=>true|.str _,.bl _=>true
 |_,_=>false
def Xs:R2:=λx y H Q=>Pf x y=true/\Q (.bl (decide (x=y))) H
def Xt:R2:=λx y H Q=>Pf x y=true/\Q (.bl (!decide (x=y))) H
def Kk{i j:Int}:decide (V.int i=V.int j)=(i==j):=by
 rw[Bool.eq_iff_iff];simp
def NI{i j:Bool}:decide (V.bl i=V.bl j)=(i==j):=by
 rw[Bool.eq_iff_iff];simp
def Kl{i j:Str}:decide (V.str i=V.str j)=(i==j):=by
 rw[Bool.eq_iff_iff];simp
def Kj{i j:Array UInt8}:decide (V.byt i=V.byt j)=(i.toList==j.toList):=by
 rw[Bool.eq_iff_iff];cases i;cases j;simp
section
variable{X:Cx}{a b c:Expr}{ta tb tc:TE}{pos:Pos}
def ik{a:List (c7×Obj)}{c:St}{H:Hp}{s:da}{Q:VK}{k b:Bool}(I:fW X a c H s)(q:Q (.bl k) H)(e:k=b):EP X a c Q (.bool b) s:=by
 subst e;exact⟨.bl k,H,I,rfl,q⟩
def V4:oD X (gi .Eq) Xs:=by
 intro e s f H x y v u Q I d a h;obtain⟨c,q⟩:=h;cases x with
 |non=>
  cases d;cases y with
  |non=>cases a;exact PySem.EqNone.eq_none_none (ik I q (by simp))
  |bl j=>cases a;exact PySem.EqNone.eq_none_bool (ik I q (by simp))
  |int j=>obtain⟨b,rfl⟩:=a;exact PySem.EqNone.eq_none_int (ik I q (by simp))
  |str j=>obtain⟨b,rfl⟩:=a;exact PySem.EqNone.eq_none_str (ik I q (by simp))
  |_=>exact absurd (show false=true from c) Bool.false_ne_true
 |bl i=>
  cases d;cases y with
  |non=>cases a;exact PySem.EqNone.eq_bool_none (ik I q (by simp))
  |bl j=>cases a;exact eq_bool (ik I q NI)
  |str j=>obtain⟨b,rfl⟩:=a;exact PySem.EqMixed.eq_bool_str (ik I q (by simp))
  |_=>exact absurd (show false=true from c) Bool.false_ne_true
 |int i=>
  obtain⟨t,rfl⟩:=d;cases y with
  |non=>cases a;exact PySem.EqNone.eq_int_none (ik I q (by simp))
  |int j=>obtain⟨b,rfl⟩:=a;exact eq_int (ik I q Kk)
  |str j=>obtain⟨b,rfl⟩:=a;exact PySem.EqMixed.eq_int_str (ik I q (by simp))
  |_=>exact absurd (show false=true from c) Bool.false_ne_true
 |str i=>
  obtain⟨t,rfl⟩:=d;cases y with
  |non=>cases a;exact PySem.EqNone.eq_str_none (ik I q (by simp))
  |bl j=>cases a;exact PySem.EqMixed.eq_str_bool (ik I q (by simp))
  |int j=>obtain⟨b,rfl⟩:=a;exact PySem.EqMixed.eq_str_int (ik I q (by simp))
  |str j=>obtain⟨b,rfl⟩:=a;exact eq_str (ik I q Kl)
  |_=>exact absurd (show false=true from c) Bool.false_ne_true
 |byt i=>
  obtain⟨t,rfl⟩:=d;cases y with
  |byt j=>obtain⟨b,rfl⟩:=a;exact PySem.W.eq_bytes (ik I q Kj)
  |_=>exact absurd (show false=true from c) Bool.false_ne_true
 |_=>cases y<;>exact absurd (show false=true from c) Bool.false_ne_true
def V5:oD X (gi .NotEq) Xt:=by
 intro e s f H x y v u Q I d a h;obtain⟨c,q⟩:=h;cases x with
 |non=>
  cases d;cases y with
  |non=>cases a;exact PySem.EqNone.ne_none_none (ik I q (by simp))
  |bl j=>cases a;exact PySem.EqNone.ne_none_bool (ik I q (by simp))
  |int j=>obtain⟨b,rfl⟩:=a;exact PySem.EqNone.ne_none_int (ik I q (by simp))
  |str j=>obtain⟨b,rfl⟩:=a;exact PySem.EqNone.ne_none_str (ik I q (by simp))
  |_=>exact absurd (show false=true from c) Bool.false_ne_true
 |bl i=>
  cases d;cases y with
  |non=>cases a;exact PySem.EqNone.ne_bool_none (ik I q (by simp))
  |bl j=>cases a;exact ne_bool (ik I q (congrArg not NI))
  |str j=>obtain⟨b,rfl⟩:=a;exact PySem.EqMixed.ne_bool_str (ik I q (by simp))
  |_=>exact absurd (show false=true from c) Bool.false_ne_true
 |int i=>
  obtain⟨t,rfl⟩:=d;cases y with
  |non=>cases a;exact PySem.EqNone.ne_int_none (ik I q (by simp))
  |int j=>obtain⟨b,rfl⟩:=a;exact ne_int (ik I q (congrArg not Kk))
  |str j=>obtain⟨b,rfl⟩:=a;exact PySem.EqMixed.ne_int_str (ik I q (by simp))
  |_=>exact absurd (show false=true from c) Bool.false_ne_true
 |str i=>
  obtain⟨t,rfl⟩:=d;cases y with
  |non=>cases a;exact PySem.EqNone.ne_str_none (ik I q (by simp))
  |bl j=>cases a;exact PySem.EqMixed.ne_str_bool (ik I q (by simp))
  |int j=>obtain⟨b,rfl⟩:=a;exact PySem.EqMixed.ne_str_int (ik I q (by simp))
  |str j=>obtain⟨b,rfl⟩:=a;exact ne_str (ik I q (congrArg not Kl))
  |_=>exact absurd (show false=true from c) Bool.false_ne_true
 |byt i=>
  obtain⟨t,rfl⟩:=d;cases y with
  |byt j=>obtain⟨b,rfl⟩:=a;exact PySem.W.ne_bytes (ik I q (congrArg not Kj))
  |_=>exact absurd (show false=true from c) Bool.false_ne_true
 |_=>cases y<;>exact absurd (show false=true from c) Bool.false_ne_true
def pO:oD X (gi .Lt) (MU λi j=>.bl (decide (i<j))):=Ut λ_ _ _ _ _ _ _ q=>lt_int q
def Dd:oD X (gi .Gt) (MU λi j=>.bl (decide (j<i))):=Ut λ_ _ _ _ _ _ _ q=>gt_int q
def Oo:oD X (gi .GtE) (MU λi j=>.bl (decide (j<=i))):=Ut λ_ _ _ _ _ _ _ q=>ge_int q
def Ag:oD X (gi .Is) (λx y H Q=>y=.non/\Q (.bl (decide (x=.non))) H):=by
 intro a s d H x y v u Q I b c h;obtain⟨rfl,q⟩:=h;cases c;refine is_none_gen (ik I q ?_);cases x<;>first
  |(cases b;rfl)
  |(obtain⟨t,rfl⟩:=b;rfl)
def EA:oD X (gi .IsNot) (λx y H Q=>y=.non/\Q (.bl (!decide (x=.non))) H):=by
 intro a s d H x y v u Q I b c h;obtain⟨rfl,q⟩:=h;cases c;refine isnot_none_gen (ik I q ?_);cases x<;>first
  |(cases b;rfl)
  |(obtain⟨t,rfl⟩:=b;rfl)
def oD.or{f:cV->cV->Sem cV}{r b:R2}(h:oD X f r)(h':oD X f b):oD X f (λx y H Q=>r x y H Q\/b x y H Q):=by
 intro a s e H x y v u Q I c d q;rcases q with q|q
 ·exact h a s e H x y v u Q I c d q
 ·exact h' a s e H x y v u Q I c d q
def Ri{op:CmpOp}{r:R2}(j:oD X (gi op) r)(f:PE X a ta)(g:PE X b tb)(i:pS op b=false):PE X (.Compare a [op] [b] pos) (dF r ta tb):=by
 intro c s n H Q I h;exact wpAny_Compare1 (TM f g I h λv u m x y d e k l q=>j c m n d x y v u Q e k l q) i
def eA(t:TE):TT:=λb H Q=>t b H λx a=>Xi x λk=>Q k a
def RG{op:CmpOp}{r:R2}(t:oD X (gi op) r)(o:PE X a ta)(p:PE X b tb)(q:pS op b=false):PT X (.Compare a [op] [b] pos) (eA (dF r ta tb)):=by
 intro d s f H Q I h;refine wpAny_isTrue_Compare1 (kf (o d s f H _ I h) λv J ⟨x,g,l,D,w⟩=>kf (p d J f g _ l w) λu K ⟨y,i,m,E,B⟩=>
  kf (t d K f i x y v u _ m D E B) λc L ⟨z,j,n,G,k,e,C⟩=>?_) q
 subst e;cases G;exact ji ⟨j,n,C⟩
def Aa:(c6:Nat)<2 ^ 63:=by rw[sf];decide
def Jb:oD X (iH .Add) (λx y H Q=>∃i j,x=.str i/\y=.str j/\i.length+j.length<=c6/\Q (.str (i++j)) H):=by
 intro a s g H x y v u Q I c d h;obtain⟨i,j,rfl,rfl,b,q⟩:=h;obtain⟨t,rfl⟩:=c;obtain⟨e,rfl⟩:=d;exact add_str (λe f=>⟨.str (i++j),H,I.tok _,⟨_,rfl⟩,q⟩) b
def uE{x:V}{us:List cV}(r:gy [x] us):∃u,us=[u]/\hV x u:=by
 cases r with
 |cons a b=>cases b;exact⟨_,rfl,a⟩
def KW{x y:V}{us:List cV}(r:gy [x,y] us):∃u a,us=[u,a]/\hV x u/\hV y a:=by
 cases r with
 |cons b c=>
  cases c with
  |cons d e=>cases e;exact⟨_,_,rfl,b,d⟩
def w5(c:X.calm=true):pb X (.builtin "max") (λxs H Q=>∃i j,xs=[.int i,.int j]/\Q (.int (if j>i then j else i)) H):=by
 intro b s m H xs g Q I r h;obtain⟨i,j,rfl,q⟩:=h;obtain⟨u,l,rfl,⟨t,rfl⟩,⟨e,rfl⟩⟩:=KW r;refine max_two_ints (I.ok.hd c) λd f k=>⟨_,H,I.kept k,?_,q⟩;by_cases a:j>i
 ·rw[if_pos a,if_pos a];exact⟨_,rfl⟩
 ·rw[if_neg a,if_neg a];exact⟨_,rfl⟩
def Lq(c:X.calm=true):pb X (.builtin "min") (λxs H Q=>∃i j,xs=[.int i,.int j]/\Q (.int (if j<i then j else i)) H):=by
 intro b s m H xs g Q I r h;obtain⟨i,j,rfl,q⟩:=h;obtain⟨u,l,rfl,⟨t,rfl⟩,⟨e,rfl⟩⟩:=KW r;refine min_two_ints (I.ok.hd c) λd f k=>⟨_,H,I.kept k,?_,q⟩;by_cases a:j<i
 ·rw[if_pos a,if_pos a];exact⟨_,rfl⟩
 ·rw[if_neg a,if_neg a];exact⟨_,rfl⟩
def oM:pb X (.type "int") (λxs H Q=>(∃i,xs=[.int i]/\Q (.int i) H)\/∃k,xs=[.bl k]/\Q (.int (if k then 1 else 0)) H):=by
 intro a s d H xs c Q I r h;rcases h with⟨i,rfl,q⟩|⟨k,rfl,q⟩
 ·obtain⟨u,rfl,t,rfl⟩:=uE r;exact call_int_int ⟨.int i,H,I,⟨_,rfl⟩,q⟩
 ·obtain⟨u,rfl,b⟩:=uE r;cases b;exact call_int_bool ⟨.int (if k then 1 else 0),H,I.tok _,⟨_,rfl⟩,q⟩
def VC(K:Fg)(x:V)(H:Hp)(n:Nat):Prop:=
 match x with
 |.str y=>y.length<=c6/\n=y.length
 |.byt y=>y.size<=c6/\n=y.size
 |.ref p=>(∃a,fR K H p a/\n=a.length)\/∃a,fA K H p a/\n=a.length
 |_=>False
def Ny:pb X (.builtin "len") (λxs H Q=>∃x n,xs=[x]/\VC X.K x H n/\Q (.int n) H):=by
 intro j s w H xs v Q I r h;obtain⟨x,n,rfl,e,q⟩:=h;obtain⟨u,rfl,i⟩:=uE r;have m:=Aa;have o:c6=16777216:=sf;cases x with
 |str y=>
  obtain⟨t,rfl⟩:=i;obtain⟨k,b⟩:y.length<=c6/\n=y.length:=e;subst b;exact len_str (by lia) ⟨.int _,H,I.tok _,⟨_,rfl⟩,q⟩
 |byt y=>
  obtain⟨t,rfl⟩:=i;obtain⟨k,b⟩:y.size<=c6/\n=y.size:=e;subst b;exact PySem.W.len_bytes (by lia) ⟨.int _,H,I.tok _,⟨_,rfl⟩,q⟩
 |ref p=>
  cases i;have b:(∃xs,fR X.K H p xs/\n=xs.length)\/∃xs,fA X.K H p xs/\n=xs.length:=e;rcases b with⟨xs,c,b⟩|⟨xs,c,b⟩
  ·subst b;obtain⟨d,g,f,l⟩:=I.list c;have a:=g.length;exact Calls.call_len_list f.isList (by simp only[dq];lia) ⟨.int xs.length,H,I.tok _,⟨_,by simp only[dq];rw[a]⟩,q⟩
  ·subst b;obtain⟨d,g,f,l⟩:=I.tuple c;have a:=g.length;exact len_tuple f (by simp only[dq];lia) ⟨.int xs.length,H,I.tok _,⟨_,by simp only[dq];rw[a]⟩,q⟩
 |_=>exact(show False from e).elim
end
section
variable{prog:dv}{w:dQ}{A:ef}{E:Zz}{s:da}{K:Fg}{x dx C f:c7}{mA:Str->Option cV}{name:Str}{v:cV}
end
section
variable{P:dv}{w:dQ}{H H':Hp}{h h':Heap}{a C dx:c7}{fs fs':List (Str×V)}
end
section
variable{X:Cx}{pins:List (c7×Obj)}{σ:St}{H:Hp}{s:da}{a C dx:c7}{fs:List (Str×V)}{f:Str}{v:V}{A:ef}{E:Zz}
end
section
variable{X:Cx}{o e value:Expr}{f:Str}{pos pos' tpos:Pos}{ta tv:TE}
end
section
variable{X:Cx}{pins:List (c7×Obj)}{σ:St}{H:Hp}{s:da}{A:ef}{E:Zz}{Q:Zz}{c:cV}{b:Bool}
end
structure mn(k:Nat)(A:ef):Prop where
 hd:A.handled=none
 dp:A.depth+3*k+5<recursionLimit
 un:A.units+16*k+200<cLine
def mn.mono{j k:Nat}{A:ef}(r:mn k A)(h:j<=k):mn j A:=⟨r.hd,by have:=r.dp;lia,by have:=r.un;lia⟩
def mn.deeper{k:Nat}{A:ef}(r:mn (k+1) A)(env:Env):mn k (A.deeper env):=
 ⟨r.hd,by have:=r.dp;show A.depth+1+3*k+5<_;lia,by have:=r.un;show A.units+3+16*k+200<_;lia⟩
def mn.depth{k:Nat}{A:ef}(r:mn k A):A.depth<recursionLimit:=by have:=r.dp;lia
def mn.units{k:Nat}{A:ef}(r:mn k A):A.units+64<cLine:=by have:=r.un;lia
def mn.units0{k:Nat}{A:ef}(r:mn k A):A.units<cLine:=by have:=r.un;lia
def dh:TA:=λ_ H Q=>Q [] H
def cQ(d:TE)(e:TA):TA:=λa H Q=>d a H λx b=>e a b λf c=>Q (x::f) c
section
variable{X:Cx}{e:Expr}{es:List Expr}{te:TE}{t:TA}{pos:Pos}
def UD:PA X [] dh:=λ_ _ _ _ H Q I h=>Calls.spliced_nil ⟨[],H,I,.nil,h⟩
def Rg(i:PE X e te)(j:PA X es t)(k:dH (e::es) X.env=(false,eval e X.env)::dH es X.env:=by rfl):PA X (e::es) (cQ te t):=by
 intro pos a s b H Q I h;rw[k];show dJ _ _ (spliced ((false,eval e X.env)::iy pos (dH es X.env))) _ _ s;refine Calls.spliced_cons (kf (i a s b H _ I h) λu p ⟨x,c,f,n,l⟩=>?_);exact kf (j pos a p b c _ f l) λv r ⟨q,d,g,o,m⟩=>⟨x::q,d,g,.cons n o,m⟩
def eR(t:TA):TE:=λc H Q=>t c H λb a=>b.length<=c6/\∀p,a p=none->Q (.ref p) (upd a p (.tup b))
def oH(t:TA):TE:=λc H Q=>t c H λb a=>b.length<=c6/\∀p,a p=none->Q (.ref p) (upd a p (.lst b))
def UN{x1}(h:PA X es t):PE X (.Tuple es x1 pos) (eR t):=by
 intro a s l H Q I i;refine wpAny_Tuple_spliced (kf (h pos a s l H _ I i) λj c ⟨k,d,f,r,z,q⟩=>⟨by rw[<-r.length];exact z,?_⟩);have g:d c.heap.objs.size=none:=f.hok.fresh (dk _);refine⟨.ref c.heap.objs.size,upd d c.heap.objs.size (.tup k),f.laid (t':=c.toks) (λb u e=>df _ e) (dk _) ?_,rfl,q _ g⟩;exact⟨z,j,r,⟨_,dI _ rfl,⟨rfl,rfl⟩,_,rfl⟩⟩
def UI(h:PA X es t):PE X (.List es pos) (oH t):=by
 intro a s l H Q I i;refine wpAny_List_spliced (kf (h pos a s l H _ I i) λj c ⟨k,d,f,r,z,q⟩=>⟨by rw[<-r.length];exact z,?_⟩);have g:d c.heap.objs.size=none:=f.hok.fresh (dk _);refine⟨.ref c.heap.objs.size,upd d c.heap.objs.size (.lst k),f.laid (t':=c.toks) (λb u e=>df _ e) (dk _) ?_,rfl,q _ g⟩;exact⟨z,j,0,r,dI _ rfl⟩
end
abbrev Sp:=List V->Hp->VK->XK->Prop
abbrev MW:=List Env->Hp->da->XK->cV->da->Prop
structure Qe(P:dv)(w:dQ)(K:Fg)(mg:Str->Option cV)(base:Heap)(A:ef)(outer:List Env)(s:da)(H:Hp):Prop where
 frames:A.frames=some outer
 mod:Mod K mg base
 bs:∀b o,base.get? b=some o->s.heap.get? b=some o/\H b=none
 bsz:base.objs.size<=s.heap.objs.size
 funs:s.heap.FunFrames base outer
 frf:∀b∈NR outer,H b=none
 hok:vj P w H s.heap
 bare:pJ s.gens
def CE(outer:List Env)(P:dv)(w:dQ)(H:Hp)(s:da)(Q:VK)(u:cV)(s':da):Prop:=
 ∃v a,s'.os=s.os/\pJ s'.gens/\Un (NR outer) [] H a s.heap s'.heap/\vj P w a s'.heap/\hV v u/\Q v a
def CR(CX:MW)(outer:List Env)(P:dv)(w:dQ)(H:Hp)(s:da)(Q:VK)(E:XK)(r:Result)(s':da):Prop:=
 match r with
 |.ok (.ret u)=>CE outer P w H s Q u s'
 |.ok _=>False
 |.error e=>CX outer H s E e s'
structure wK(P:dv)(w:dQ)(K:Fg)(mg:Str->Option cV)(base:Heap)(CX:MW)(k:Nat)(f:c7)(fd:iQ)(ps:List Str)(sp:Sp):Prop where
 len:∀vs H Q E,sp vs H Q E->vs.length=ps.length
 run:∀(A:ef) (outer:List Env) (s:da) (H:Hp) (args:Args) (us:List cV) (vs:List V) (Q:VK) (E:XK),mn k A->Qe P w K mg base A outer s H->tw s fd args (ps.zip us)->gy vs us->sp vs H Q E->
  mZ (model P w) A (.call (.ref f) args) (CR CX outer P w H s Q E) s
section
variable{X:Cx}{pins:List (c7×Obj)}{σ:St}{H:Hp}{s s':da}
def fW.env0(I:fW X pins σ H s):Qe X.prog X.w X.K X.mg X.base X.A X.stack s H:=
 ⟨I.ok.frames,I.ok.mod,I.bs,fq I.ok.bsz I.sz,I.stack,I.stkFree,I.hok,I.bare⟩
def fW.after{Q:VK}{u:cV}(I:fW X pins σ H s)(h:CE X.stack X.prog X.w H s Q u s'):EP X pins σ Q u s':=by
 obtain⟨v,c,f,bare,i,hok,r,q⟩:=h;obtain⟨e,g,d,t,a⟩:=s';obtain rfl:a=s.os:=f;exact⟨v,c,I.call (h':=e) (g':=g) (d':=d) (t':=t) (ch:=[]) i hok bare (λb z=>absurd z (by simp)),r,q⟩
end
def dR(sp:Sp)(a:List V)(E:XK)(t:TA):TE:=λd H Q=>t d H λc b=>sp (c++a) b Q E
def xP(K:Fg)(fd:iQ)(ps:List Str)(b:List cV):Prop:=
 ∀(s:da) (a:List cV),K.In s.heap->(a++b).length=ps.length->tw s fd ⟨a,[]⟩ (ps.zip (a++b))
def xP.all{K:Fg}{fd:iQ}{ps:List Str}(h:∀us:List cV,us.length=ps.length->bindArgs fd ⟨us,[]⟩=pure (ps.zip us)):xP K fd ps []:=λs us _ a=>by
 rw[fF] at a ⊢;exact .of_eq (h us a)
def Ik(CX:MW)(X:Cx)(E:XK):Prop:=∀(a:List (c7×Obj)) (c:St) (H:Hp) (s:da) (e:cV) (b:da),fW X a c H s->CX X.stack H s E e b->X.xe e b
section
variable{X:Cx}{CX:MW}{k:Nat}{f C:c7}{fd:iQ}{ps:List Str}{sp:Sp}{dvs:List V}{ds:List cV}{E:XK}{x m:Str}{p pos apos:Pos}{e o:Expr}{es:List Expr}{ta:TE}{t:TA}
def Ve{a:List (c7×Obj)}{c:St}{H:Hp}{s:da}{Q:VK}{us:List cV}{vs:List V}(F:wK X.prog X.w X.K X.mg X.base CX k f fd ps sp)(m:mn k X.A)(i:xP X.K fd ps ds)(j:gy dvs ds)(n:Ik CX X E)
  (I:fW X a c H s) (r:gy vs us) (h:sp (vs++dvs) H Q E):dJ (model X.prog X.w) X.A (call (.ref f) us) (EP X a c Q) X.xe s:=by
 have d:gy (vs++dvs) (us++ds):=r.append j;have l:(us++ds).length=ps.length:=by rw[<-d.length];exact F.len _ _ _ _ h
 refine wpAny_call (codeAny_mono (F.run X.A X.stack s H ⟨us,[]⟩ (us++ds) (vs++dvs) Q E m I.env0 (i s us I.kIn l) d h) λr o b=>?_);cases r with
 |error e=>exact n a c H s e o I b
 |ok g=>
  cases g with
  |ret u=>exact I.after b
  |next=>exact False.elim b
  |brk=>exact False.elim b
  |cont=>exact False.elim b
def KB(F:wK X.prog X.w X.K X.mg X.base CX k f fd ps sp)(u:mn k X.A)(m:Gl X x)(o:X.mg x=some (.ref f))(n:iL X.K (.ref f)=true)(i:xP X.K fd ps ds)(j:gy dvs ds)(v:Ik CX X E)
  (g:PA X (e::es) t) (b:(x==("__debug__":Str))=false:=by decide) (l:dH (e::es) X.env=(false,eval e X.env)::dH es X.env:=by rfl) (c:(iy pos (dH es X.env)).any (·.1)=false:=by rfl) :
  PE X (.Call (.Name x p) (e::es) [] pos) (dR sp dvs E t):=by
 intro a s y H Q I h;refine kg (Q5 I m o ?_ b);refine PySem.W.callWith_K (h₀:=X.base) I.ok.mod.kin n (kf (g pos a s y H _ I h) λC B ⟨D,z,d,r,q⟩=>⟨d.kIn,?_⟩) l c;exact Ve F u i j v d r q
end
section
variable{X:Cx}{CX:MW}{k:Nat}{f C:c7}{fd:iQ}{ps ks:List Str}{sp:Sp}{E:XK}{x m:Str}{p pos apos kpos:Pos}{e o:Expr}{es:List Expr}{kws:List j6}{te ta:TE}{t tk:TA}{nm:Option Str}
variable{g:List cV->List cV->List cV}{gV:List V->List V->List V}
end
structure tH(N P:List Str)(sc:Scope):Prop where
 kind:sc.kind=.function
 co:sc.isCoroutine=false
 gen:sc.isGenerator=false
 nd:N.Nodup
 pre:N.take P.length=P
 par:∀x∈P,sc.names.lookup x=some .local\/sc.names.lookup x=some .cell
 nofree:∀y∈sc.names,y.2≠.free
theorem CZ{b:Str->Option eQ}{x:Str}:∀{a:List (Str×cV)} {m:Str->Option cV},(∀v,(x,v)∉a)->bindL b a m x=m x
 |[],_,_=>rfl
 |(n,v)::r,m,h=>by
  unfold bindL;rw[CZ λw c=>h w (fc _ c)];split
  ·have:x≠n:=by rintro rfl;exact h v eG
   simp[this]
  ·rfl
theorem CW{b:Str->Option eQ}{x:Str}:∀{a:List (Str×cV)} {m:Str->Option cV},(∀v,(x,v)∉a)->bindC b a m x=m x
 |[],_,_=>rfl
 |(n,v)::r,m,h=>by
  unfold bindC;rw[CW λw c=>h w (fc _ c)];split
  ·rfl
  ·have:x≠n:=by rintro rfl;exact h v eG
   simp[this]
theorem CY{a:Str->Option eQ}{x:Str}{v:cV}:∀{P:List Str} {vs:List cV} {i:Nat} {m:Str->Option cV},P.Nodup->P[i]?=some x->vs[i]?=some v->a x=some .local->
  bindL a (P.zip vs) m x=some v
 |[],_,_,_,_,h,_,_=>by simp at h
 |_::_,[],_,_,_,_,h,_=>by simp at h
 |p::P,w::vs,0,m,e,b,c,d=>by
  simp at b c;subst b;subst c;show bindL a ((p,w)::P.zip vs) m p=_;unfold bindL;rw[CZ λv f=>(iu.mp e).1 (rO f).1,if_pos d];simp
 |p::P,w::vs,i+1,m,e,b,c,d=>by
  show bindL a ((p,w)::P.zip vs) m x=_;unfold bindL;exact CY (i:=i) (iu.mp e).2 (by simpa using b) (by simpa using c) d
theorem CV{a:Str->Option eQ}{x:Str}{v:cV}:∀{P:List Str} {vs:List cV} {i:Nat} {m:Str->Option cV},P.Nodup->P[i]?=some x->vs[i]?=some v->a x≠some .local->
  bindC a (P.zip vs) m x=some v
 |[],_,_,_,_,h,_,_=>by simp at h
 |_::_,[],_,_,_,_,h,_=>by simp at h
 |p::P,w::vs,0,m,e,b,c,d=>by
  simp at b c;subst b;subst c;show bindC a ((p,w)::P.zip vs) m p=_;unfold bindC;rw[CW λv f=>(iu.mp e).1 (rO f).1,if_neg d];simp
 |p::P,w::vs,i+1,m,e,b,c,d=>by
  show bindC a ((p,w)::P.zip vs) m x=_;unfold bindC;exact CV (i:=i) (iu.mp e).2 (by simpa using b) (by simpa using c) d
def fQ(N:List Str)(vs:List V):St:=vs.map some++dm (N.length-vs.length) none
def Eb(CX:MW)(P:dv)(w:dQ)(K:Fg)(mg:Str->Option cV)(base:Heap)(N:List Str)(a:Str)(scope:Scope)(f:c7)(c:cV)(A:ef)(outer:List Env)(s:da)(H:Hp)(E:XK):Cx where
 prog:=P
 w:=w
 K:=K
 mg:=mg
 base:=base
 A:=A.deeper (mJ a scope s.heap.objs.size f c)
 N:=N
 s₀:=s
 H₀:=H
 env:=mJ a scope s.heap.objs.size f c
 outer:=outer
 stack:=mJ a scope s.heap.objs.size f c::outer
 ex:=[]
 calm:=true
 fn:=λ_=>true
 pn:=[]
 xe:=λe g=>dJ (model P w) (A.deeper (mJ a scope s.heap.objs.size f c)) (leaving (mJ a scope s.heap.objs.size f c) e) (λ_ b=>CX outer H s E e b) (λd b=>CX outer H s E d b) g
def F3{a:Scope}{n:Nat}{x:Str}(h:a.names.lookup x=some .cell):∃c,(cellsFrom n a.names []).lookup x=some c:=by
 have q:=PySem.W.cellsFrom_some a.names n [] (.inl h);exact jZ.mp q
def LH{CX:MW}{P:dv}{w:dQ}{K:Fg}{I:Str->Option cV}{j:Heap}{N ps:List Str}{d:Str}{scope:Scope}{f:c7}{C:cV}{A:ef}{outer:List Env}{s s1:da}{H:Hp}{E:XK}{us:List cV}{vs:List V}
  (S:tH N ps scope) (O:A.handled=none) (l:Qe P w K I j A outer s H) (U:vs.length=ps.length) (r:gy vs us)
  (x:InCallC s s.heap.objs.size (bindL (mJ d scope s.heap.objs.size f C).kindOf (ps.zip us) λ_=>none) (cellsFrom (s.heap.objs.size+1) scope.names []) (bindC (mJ d scope s.heap.objs.size f C).kindOf (ps.zip us) λ_=>none) s1) :
  fW (Eb CX P w K I j N d scope f C A outer s H E) [] (fQ N vs) H s1:=by
 have Q:ps.length<=N.length:=by have:=congrArg i7 S.pre;rw[dB] at this;lia
 obtain⟨D,X,rfl,J⟩:=x.done;have o:∀b:c7,b∉(Eb CX P w K I j N d scope f C A outer s H E).ex:=λb z=>absurd (show b∈([]:List c7) from z) (by simp);refine⟨⟨l.mod,S.kind,rfl,rfl,dk _,λy z c D g=>?_,λy m=>?_,λy c _ h=>?_,λ_=>O,ef.frames_deeper l.frames,.inr ⟨rfl,rfl⟩,λb z=>absurd z (o b),l.bs,l.bsz,λb _ _=>o b,λb z=>absurd z (o b),l.funs,l.frf⟩,
  rfl,l.bare,Un.kept J,⟨_,x.toInCall.ns,λi y v D g T=>?_⟩,λy c h=>⟨_,x.cell y c h⟩,l.hok.fresh (dk _),λy c h=>?_,λp t=>absurd (show p∈([]:List (c7×Obj)) from t) (by simp),l.hok.kept J,?_⟩
 ·exact name_of_addr x.apart (gN D) (gN g)
 ·have m:scope.names.lookup y=some .cell\/scope.names.lookup y=some .free:=m;rcases m with m|m
  ·exact F3 m
  ·exact absurd rfl (S.nofree _ (gN m))
 ·exact g7 (x.above y c (gN h))
 ·have G:i<vs.length:=by
   unfold fQ at g;by_cases G:i<vs.length
   ·exact G
   ·rw[dA (by simpa using G)] at g;rw[List.getElem?_replicate] at g;split at g<;>cases g
  have M:vs[i]?=some v:=by
   unfold fQ at g;rw[dX (by simpa using G),dw] at g;cases e:vs[i]? with
   |none=>rw[e] at g;cases g
   |some a=>rw[e] at g;cases g;rfl
  obtain⟨u,L,R⟩:=r.get M;have t:ps[i]?=some y:=by
   rw[<-S.pre,List.getElem?_take_of_lt (by lia)];exact D
  have B:ps.Nodup:=by rw[<-S.pre];exact S.nd.sublist (pK _ _)
  refine⟨u,R,?_⟩;rcases S.par y (dg t) with k|k
  ·exact .inl ⟨k,CY B t L k⟩
  ·obtain⟨c,e⟩:=F3 (n:=s.heap.objs.size+1) k;refine .inr ⟨.inl k,c,e,?_⟩;have q:=x.cell y c e;rw[CV B t L (by show scope.names.lookup y≠_;rw[k];decide)] at q;exact q
 ·exact l.hok.fresh (g7 (x.above y c (gN h)))
 ·unfold fQ;show _=N.length;rw[c9,cT,d3];lia
def SR{CX:MW}{P:dv}{w:dQ}{K:Fg}{C:Str->Option cV}{d:Heap}{k:Nat}{f:c7}{name a:Str}{params:Arguments}{g:List Stmt}{scope:Scope}{X kV m Y c ct oc:cV}{U od:Option c7}
  {M:Array (Option cV)} {N ps:List Str} {sp:Sp} (lk:K.lookup f=some ⟨oc,od,.func (hH name a params g scope X kV m Y U c ct),M⟩) (D:jE K c a=true) (S:tH N ps scope)
  (len:∀vs H Q E,sp vs H Q E->vs.length=ps.length)
  (i:∀(A:ef) (outer:List Env) (s:da) (H:Hp) (vs:List V) (Q:VK) (E:XK),mn k (A.deeper (mJ a scope s.heap.objs.size f c))->sp vs H Q E->
   ∃t,HP (Eb CX P w K C d N a scope f c A outer s H E) g t/\t {nx:=λ_ H'=>Q .non H',rt:=Q} (fQ N vs) H) :
  wK P w K C d CX (k+1) f (hH name a params g scope X kV m Y U c ct) ps sp:=by
 refine⟨len,λA outer s H args us vs Q E G p hb r B=>?_⟩;have hl:=len _ _ _ _ B;have T:K.In s.heap:=p.mod.kin.keeps λb o e=>(p.bs b o e).1;have L:s.heap.NoLimit:=p.mod.nolimit.keeps λb o e=>(p.bs b o e).1;have j:∀y∈ps.zip us,scope.names.lookup y.1=some .local\/(scope.names.lookup y.1=some .cell/\((cellsFrom (s.heap.objs.size+1) scope.names []).lookup y.1).isSome=true):=λ⟨n,v⟩ hy=>by
  rcases S.par n (rO hy).1 with q|q
  ·exact .inl q
  ·exact .inr ⟨q,PySem.W.cellsFrom_some _ _ _ (.inl q)⟩
 refine codeAny_call_function G.depth (T _ _ lk) rfl S.co S.gen rfl (PySem.W.codeRec_of T D) (hb _ _ _ _ ?_);refine wpAny_newFunctionEnv_cells S.kind j λenv he Z x=>?_;subst he;refine⟨L.keeps x.toInCall.keep,codeAny_func ?_⟩;obtain⟨t,ht,hq⟩:=i A outer s H vs Q E (G.deeper _) B;have I:fW (Eb CX P w K C d N a scope f c A outer s H E) [] (fQ N vs) H Z:=LH S G.hd p hl r x;refine iI (ht [] Z (fQ N vs) H _ I hq) (λfl R l=>?_) λe R l=>l;have z:∀{h:St} {H':Hp} {v:V} {u:cV},fW (Eb CX P w K C d N a scope f c A outer s H E) [] h H' R->hV v u->Q v H'->CE outer P w H s Q u R:=
  λ{h H' v u} J O q=>⟨v,H',J.os,J.bare,J.base,J.hok,O,q⟩
 cases fl with
 |ret u=>
  obtain⟨v,h,H',J,O,q⟩:=l;exact z J O q
 |next=>
  obtain⟨h,H',J,q⟩:=l;exact z (v:=V.non) (u:=cV.none) J rfl q
 |brk=>
  obtain⟨_,_,_,q⟩:=l;exact False.elim q
 |cont=>
  obtain⟨_,_,_,q⟩:=l;exact False.elim q
section
variable{X:Cx}{x:Str}{p pos:Pos}{e:Expr}{es:List Expr}{t:TA}{id T:String}{r:List V->Hp->VK->Prop}
def iN(r:List V->Hp->VK->Prop)(t:TA):TE:=λc H Q=>t c H λb a=>r b a Q
def Ot(j:pb X (.builtin id) r)(l:Gl X x)(m:X.mg x=none)(o:jP x=some (.builtin id))(i:PA X (e::es) t)(n:x≠"__name__":=by decide)(b:(x==("__debug__":Str))=false:=by decide)
  (k:dH (e::es) X.env=(false,eval e X.env)::dH es X.env:=by rfl) (c:(iy pos (dH es X.env)).any (·.1)=false:=by rfl):PE X (.Call (.Name x p) (e::es) [] pos) (iN r t):=by
 intro a s d H Q I h;refine kg (pk I l m o ?_ n b);exact PyProof.Rows.callWith_builtin1 (kf (i pos a s d H _ I h) λw v ⟨y,f,g,u,q⟩=>j a v d f y w Q g u q) k c
def L1(j:pb X (.type T) r)(l:Gl X x)(m:X.mg x=none)(o:jP x=some (.type T))(i:PA X (e::es) t)(n:x≠"__name__":=by decide)(b:(x==("__debug__":Str))=false:=by decide)
  (k:dH (e::es) X.env=(false,eval e X.env)::dH es X.env:=by rfl) (c:(iy pos (dH es X.env)).any (·.1)=false:=by rfl):PE X (.Call (.Name x p) (e::es) [] pos) (iN r t):=by
 intro a s d H Q I h;refine kg (pk I l m o ?_ n b);exact fL (kf (i pos a s d H _ I h) λw v ⟨y,f,g,u,q⟩=>j a v d f y w Q g u q) k c
end
end L2
namespace HT
open PySem PyProof.Rows
section
open PySem.SeqAt
open PySem.AutoSeq1 (wpAny_loadPart')
open PySem.MeetsSeq PySem.MeetsSeq2 PySem.MeetsSeq3
end
section
variable{prog:dv}{w:dQ}{A:ef}{E:Zz}{s:da}
def cat_tup{t b:c7}{vs a:List cV}{Q:Zz}(v:mG s.heap t vs.toArray)(u:mG s.heap b a.toArray)(o:vs≠[])
  (r:a=[]->Q (.ref t) s) (h2:a≠[]->Q (.ref s.heap.objs.size) {s with heap:=s.heap.push {cls:=.type "tuple",data:=.seq (vs++a).toArray}})
  (hsz:vs.length+a.length<=c6):dJ (model prog w) A (iH .Add (.ref t) (.ref b)) Q E s:=by
 obtain⟨⟨cls,k,data,q⟩,h,l,n,m⟩:=id v;obtain⟨⟨j,d,data2,g⟩,c,f,p,hd2⟩:=id u;simp only at l m f hd2;subst l m f hd2;have e:vs.toArray++a.toArray=(vs++a).toArray:=by simp
 by_cases i:a=[]
 ·exact concat_meets ⟨_,h,rfl⟩ ⟨_,c,rfl⟩ noFill_tuple_add seq_tuple_add mj lQ (lF _ _)
   (tuple_addW1 t b vs.toArray a.toArray n p k d q g (by simpa using o) (by simp[i])) ⟨h,c,r i⟩
 ·refine concat_meets ⟨_,h,rfl⟩ ⟨_,c,rfl⟩ noFill_tuple_add seq_tuple_add mj lQ (lF _ _)
   (tuple_addW2 t b vs.toArray a.toArray n p k d q g (by simpa using o) (by simpa using i) (by rw[dq,dq];exact hsz)) ⟨h,c,?_⟩
  rw[e];exact h2 i
def sIx(n d:Nat):Option Int->Nat
 |none=>d
 |some v=>if v<0 then(v+(n:Int)).toNat else min v.toNat n
def sIx_none(n d:Nat):sIx n d none=d:=rfl
def sIx_nat(n d k:Nat):sIx n d (some (k:Int))=min k n:=by
 show(if(k:Int)<0 then((k:Int)+(n:Int)).toNat else min (k:Int).toNat n)=min k n;rw[if_neg (by lia),c8]
def Vf(n d:Nat)(b:d<=n)(o:Option Int):sIx n d o<=n:=by
 cases o with
 |none=>exact b
 |some v=>
  show(if v<0 then(v+(n:Int)).toNat else min v.toNat n)<=n;by_cases a:v<0
  ·rw[if_pos a];lia
  ·rw[if_neg a];exact Nat.min_le_right _ _
def Kg(v:Int)(n d:Nat):(if v<0 then max (v+(n:Int)) 0 else min v (n:Int))=((sIx n d (some v):Nat):Int):=by
 show(if v<0 then max (v+(n:Int)) 0 else min v (n:Int))=(((if v<0 then(v+(n:Int)).toNat else min v.toNat n):Nat):Int);by_cases a:v<0
 ·simp only[if_pos a];lia
 ·simp only[if_neg a];lia
def Ip(b a:Option Int)(n:Nat):dS.Slice.sliceAdjust b a 1 (n:Int)=(((sIx n 0 b:Nat):Int),((sIx n n a:Nat):Int)):=by
 have c:¬((1:Int)<0):=by lia
 unfold dS.Slice.sliceAdjust;simp only[c,if_false];refine Prod.ext ?_ ?_
 ·cases b with
  |none=>rfl
  |some v=>exact Kg v n 0
 ·cases a with
  |none=>rfl
  |some v=>exact Kg v n n
def Je(i j:Nat):dS.Slice.slicePlaces (i:Int) (j:Int) 1=j-i:=by
 unfold dS.Slice.slicePlaces;have a:(1:Int)>0:=by lia
 simp only[a,if_true,Int.ediv_one];split<;>lia
def AG{v:cV}{o:Option Int}{Q:Option Int->da->Prop}(p:qS v o)(h:Q o s):dJ (model prog w) A (dS.Slice.slicePartIndex v) Q E s:=by
 cases p with
 |none=>exact slicePart_none h
 |int i t=>exact slicePart_int h
def qG{sl:c7}{e f:cV}{a c:Option Int}{n:Nat}{Q:Int×Int×Nat->da->Prop}(i:s.heap.IsSliceOf sl e f .none)(pl:qS e a)(j:qS f c)
  (h:Q (((sIx n 0 a:Nat):Int),1,sIx n n c-sIx n 0 a) s):dJ (model prog w) A (dS.Slice.sliceApplied (.ref sl) (pure (n:Int))) Q E s:=by
 obtain⟨k,d,g,b⟩:=id i;unfold dS.Slice.sliceApplied dS.Slice.sliceFields;refine cS (cS (eM d b (x:=e) rfl (cS (eM d b (x:=f) rfl (cS (eM d b (x:=.none) rfl (di ?_)))))));refine cS (slicePart_none ?_);show dJ _ _ (if((1:Int)==0)=true then _ else _) _ _ s;rw[if_neg (by decide)];refine cS (AG pl (cS (AG j (cS (di ?_)))));show dJ _ _ (match dS.Slice.sliceAdjust a c 1 (n:Int) with|(a,c)=>pure (a,(1:Int),dS.Slice.slicePlaces a c 1)) _ _ s
 rw[Ip a c n];show dJ _ _ (pure (((sIx n 0 a:Nat):Int),(1:Int),dS.Slice.slicePlaces ((sIx n 0 a:Nat):Int) ((sIx n n c:Nat):Int) 1)) _ _ s;rw[Je];exact di h
def OA(xs:Array cV)(i k:Nat):((jr k).filterMap λ(m:Nat)=>xs[((i:Int)+(m:Int)*1).toNat]?).toArray=((xs.toList.drop i).take k).toArray:=by
 have e:(λ(m:Nat)=>xs[((i:Int)+(m:Int)*1).toNat]?)=λm=>xs[i+m]?:=by
  funext m;have:((i:Int)+(m:Int)*1).toNat=i+m:=by lia
  rw[this]
 rw[e];have:=pick_run xs i k;rw[List.filterMap_map] at this;have a:((λx=>xs[x]?) ∘ λx=>i+x)=λm=>xs[i+m]?:=rfl;rw[a] at this;rw[this]
def getItem_tuple_cut{t sl:c7}{items:Array cV}{k l:cV}{b c:Option Int}{Q:Zz}(d:mG s.heap t items)(j:s.heap.IsSliceOf sl k l .none)(pl:qS k b)(r:qS l c)
  (o:¬(sIx items.size 0 b=0/\sIx items.size items.size c=items.size))
  (h:Q (.ref s.heap.objs.size) {s with heap:=s.heap.push {cls:=.type "tuple",data:=.seq ((items.toList.drop (sIx items.size 0 b)).take (sIx items.size items.size c-sIx items.size 0 b)).toArray}})
  (hsz:items.size<=c6):dJ (model prog w) A (tG (.ref t) (.ref sl)) Q E s:=by
 have a:sizeOk (.seq ((items.toList.drop (sIx items.size 0 b)).take (sIx items.size items.size c-sIx items.size 0 b)).toArray):=by
  show((items.toList.drop (sIx items.size 0 b)).take (sIx items.size items.size c-sIx items.size 0 b)).toArray.size<=c6;rw[dq,dB,gm,ju];lia
 have u:sIx items.size items.size c<=items.size:=Vf _ _ (dk _) c;obtain⟨p,i,f,n⟩:=id j;have e:s.TypeIs (.ref sl) "slice":=⟨p,i,f⟩;unfold tG
 try with_reducible refine gj ?_
 first|refine cS (di ?_)|skip
 refine cS (wpAny_sequenceKey d.typeIs (by decide) ?_);refine cS (e8 (name:=Str.ofString "__getitem__") d.typeIs iP
  (e9 iP d.typeIs entry_tuple_getitem ?_ (args_tuple_getitem _ _)))
 show dJ _ _ (dS.Tuple.tupleItemsOf (.ref t) >>= _) _ _ s;refine cS (tupleItemsOf_ d ?_);refine cS (oA e ?_);rw[if_pos (by decide)];refine cS (qG j pl r ?_);have g:¬((((sIx items.size 0 b:Nat):Int)==0&&(1:Int)==1&&(sIx items.size items.size c-sIx items.size 0 b)==items.size)=true):=by
  intro q;rw[Bool.and_eq_true,Bool.and_eq_true] at q;have v:((sIx items.size 0 b:Nat):Int)=0:=eq_of_beq q.1.1;have x:sIx items.size items.size c-sIx items.size 0 b=items.size:=eq_of_beq q.2;exact o ⟨by lia,by lia⟩
 show dJ _ _ (if(((sIx items.size 0 b:Nat):Int)==0&&(1:Int)==1&&(sIx items.size items.size c-sIx items.size 0 b)==items.size)=true then _ else _) _ _ s;rw[if_neg g,OA]
 first
  |exact cS (m:=dS.Tuple.tupleExact _) (fU (di ⟨_,rfl,di h⟩) a)
  |exact cS (m:=dS.Tuple.tupleExact _) (fU (cS (di (di ⟨_,rfl,di h⟩))) a)
  |exact cS (cS (m:=dS.Tuple.tupleExact _) (fU (di (di ⟨_,rfl,di h⟩)) a))
  |exact cS (cS (m:=dS.Tuple.tupleExact _) (fU (di ⟨_,rfl,di h⟩) a))
end
end HT
namespace L2
open PySem PySem.Spec PyProof.Rows
abbrev TO:=St->Hp->(Option Int->Hp->Prop)->Prop
def PO(X:Cx)(e:Option Expr)(t:TO):Prop:=
 ∀(a:List (c7×Obj)) (s:da) (b:St) (H:Hp) (Q:Option Int->Hp->Prop),fW X a b H s->t b H Q->
  dJ (model X.prog X.w) X.A (evalPart e X.env) (λu d=>∃o c,fW X a b c d/\qS u o/\Q o c) X.xe s
def fo:TO:=λ_ H Q=>Q none H
def gH(t:TE):TO:=λb H Q=>t b H λx a=>∃i,x=.int i/\Q (some i) a
section
variable{X:Cx}{e:Expr}{te:TE}{lo hi:Option Expr}{tl th:TO}{pos p2:Pos}
def Ry:PO X none fo:=by
 intro a s b H Q I h;rw[evalPart_none];exact di ⟨none,H,I,.none,h⟩
def Rz(h:PE X e te):PO X (some e) (gH te):=by
 intro a s j H Q I d;rw[evalPart_some];refine kf (h a s j H _ I d) λu k ⟨x,b,c,g,f⟩=>?_;obtain⟨i,rfl,q⟩:=f;obtain⟨t,rfl⟩:=g;exact⟨some i,b,c,.int i t,q⟩
def Np(X:Cx)(r:V->Option Int->Option Int->Hp->VK->Prop):Prop:=
 ∀(a:List (c7×Obj)) (s:da) (e:St) (H:Hp) (x:V) (v c d:cV) (lo hi:Option Int) (b:c7) (Q:VK),fW X a e H s->hV x v->s.heap.IsSliceOf b c d .none->qS c lo->qS d hi->r x lo hi H Q->
  ∃T f,typeLookup (.type T) "__getitem__"=pure (some (.builtin f))/\s.TypeIs v T/\dJ (model X.prog X.w) X.A (tG v (.ref b)) (EP X a e Q) X.xe s
def Np.or{r e:V->Option Int->Option Int->Hp->VK->Prop}(h:Np X r)(h':Np X e):Np X (λx lo hi H Q=>r x lo hi H Q\/e x lo hi H Q):=by
 intro a s k H x v i j lo hi g Q I f b c d q;rcases q with q|q
 ·exact h a s k H x v i j lo hi g Q I f b c d q
 ·exact h' a s k H x v i j lo hi g Q I f b c d q
def oz(r:V->Option Int->Option Int->Hp->VK->Prop)(te:TE)(tl th:TO):TE:=λa H Q=>te a H λx b=>tl a b λl c=>th a c λu d=>r x l u d Q
def Ox{r:V->Option Int->Option Int->Hp->VK->Prop}(C:Np X r)(y:PE X e te)(B:PO X lo tl)(E:PO X hi th):PE X (.Subscript e (.Slice lo hi none p2) pos) (oz r te tl th):=by
 intro a s d H Q I h;refine Subscript_ (kf (y a s d H _ I h) λv P ⟨x,j,m,O,K⟩=>?_);refine wpAny_Slice (kf (B a P d j _ m K) λf R ⟨l,k,n,G,L⟩=>kf (E a R d k _ n L) λg c ⟨u,i,o,J,M⟩=>?_);rw[evalPart_none];refine di ?_;have p:fW X a d i {c with heap:=c.heap.push {cls:=.type "slice",data:=.fields #[f,g,.none]}}:=o.kept (t':=c.toks) λb U q=>df _ q;obtain⟨T,S,t,D,z⟩:=C a {c with heap:=c.heap.push {cls:=.type "slice",data:=.fields #[f,g,.none]}} d i x v f g l u c.heap.objs.size Q p O (Heap.IsSliceOf.new ..) G J M;show dJ (model X.prog X.w) X.A (subscriptTail e (.Slice lo hi none p2) v (.ref c.heap.objs.size)) (EP X a d Q) X.xe {c with heap:=c.heap.push {cls:=.type "slice",data:=.fields #[f,g,.none]}};exact tail_any (ops:=[.ref c.heap.objs.size,v]) D t z (by with_unfolding_all rfl)
def ph(xs:List V)(lo hi:Option Int):List V:=(xs.drop (HT.sIx xs.length 0 lo)).take (HT.sIx xs.length xs.length hi-HT.sIx xs.length 0 lo)
def xY(xs:List V)(lo hi:Option Int):(ph xs lo hi).length<=xs.length:=by
 unfold ph;rw[dB,gm];lia
def Wr(K:Fg):V->Option Int->Option Int->Hp->VK->Prop:=λx lo hi H Q=>∃a b,x=.ref a/\fA K H a b/\
 ¬(HT.sIx b.length 0 lo=0/\HT.sIx b.length b.length hi=b.length)/\∀p,H p=none->Q (.ref p) (upd H p (.tup (ph b lo hi)))
def Vl:Np X (Wr X.K):=by
 intro i s z H x v w y lo hi u Q I p j m n h;obtain⟨a,d,rfl,l,k,q⟩:=h;cases p;obtain⟨e,r,f,g⟩:=I.tuple l;have c:e.toArray.size=d.length:=by rw[dq];exact r.length.symm
 refine⟨"tuple",_,iP.lookup,f.typeIs,?_⟩;refine HT.getItem_tuple_cut f j m n (by rw[c];exact k) ?_ (by rw[c];exact g);rw[c];refine⟨.ref s.heap.objs.size,_,I.laid (t':=s.toks) (o:=.tup (ph d lo hi)) (λb t q=>df _ q) (dk _) ?_,rfl,q _ (I.hok.fresh (dk _))⟩;exact⟨fq (xY d lo hi) g,_,(r.drop (HT.sIx d.length 0 lo)).take (HT.sIx d.length d.length hi-HT.sIx d.length 0 lo),pe.new _ _⟩
def Ta(K:Fg):R2:=λx y H Q=>∃a b d c,x=.ref a/\y=.ref b/\fA K H a d/\fA K H b c/\d≠[]/\d.length+c.length<=c6/\
 (c=[]->Q (.ref a) H)/\(c≠[]->∀p,H p=none->Q (.ref p) (upd H p (.tup (d++c))))
def gy.nil_iff{xs:List V}{us:List cV}(r:gy xs us):us=[]↔xs=[]:=by
 cases r with
 |_=>simp
def Rb:oD X (iH .Add) (Ta X.K):=by
 intro g s E H x y v u Q I r t h;obtain⟨a,b,B,C,rfl,rfl,i,j,k,e,n,p⟩:=h;cases r;cases t;obtain⟨l,d,m,_⟩:=I.tuple i;obtain⟨f,c,p2,_⟩:=I.tuple j;refine HT.cat_tup m p2 (λz=>k (d.nil_iff.mp z)) (λz=>⟨.ref a,H,I,rfl,n (c.nil_iff.mp z)⟩) (λz=>?_) (by rw[<-d.length,<-c.length];exact e);refine⟨.ref s.heap.objs.size,_,I.laid (t':=s.toks) (o:=.tup (B++C)) (λb D q=>df _ q) (dk _) ?_,rfl,p (λw=>z (c.nil_iff.mpr w)) _ (I.hok.fresh (dk _))⟩;exact⟨by rw[c9];exact e,_,d.append c,pe.new _ _⟩
end
def P9(n:Nat)(i:Int):Option Nat:=if 0<=i then(if i<n then some i.toNat else none) else if -(n:Int)<=i then some (i+n).toNat else none
def P7{a:Type}(xs:List a)(i:Int):Option a:=(P9 xs.length i).bind λj=>xs[j]?
def Kv{n:Nat}{i:Int}{j:Nat}(h:P9 n i=some j):seqIndex? i n=some j/\j<n/\-(n:Int)<=i/\i<n:=by
 unfold P9 at h;by_cases b:0<=i
 ·rw[if_pos b] at h;by_cases a:i<n
  ·rw[if_pos a] at h;have e:i.toNat=j:=Option.some.inj h;exact⟨by rw[seqIndex_of b a,e],by lia,by lia,a⟩
  ·rw[if_neg a] at h;cases h
 ·rw[if_neg b] at h;by_cases a:-(n:Int)<=i
  ·rw[if_pos a] at h;have e:(i+n).toNat=j:=Option.some.inj h;exact⟨by rw[seqIndex_neg (by lia) a,e],by lia,a,by lia⟩
  ·rw[if_neg a] at h;cases h
def D0{a:Type}{xs:List a}{i:Int}{v:a}(h:P7 xs i=some v):∃j,seqIndex? i xs.length=some j/\xs[j]?=some v/\j<xs.length/\-(xs.length:Int)<=i/\i<xs.length:=by
 unfold P7 at h;cases e:P9 xs.length i with
 |none=>rw[e] at h;cases h
 |some j=>
  rw[e] at h;obtain⟨b,c,d,f⟩:=Kv e;exact⟨j,b,h,c,d,f⟩
def DT(b:Expr):Prop:=∀o i,subscripted b false o i=operate [o,i] (tG o i)
def P6(X:Cx)(r:R2):Prop:=
 ∀(c a:Expr) (b:List (c7×Obj)) (s:da) (d:St) (H:Hp) (x y:V) (v u:cV) (Q:VK),fW X b d H s->hV x v->hV y u->r x y H Q->
  subscripted a false v u=operate [v,u] (tG v u)->dJ (model X.prog X.w) X.A (subscriptTail c a v u) (EP X b d Q) X.xe s
def VD(X:Cx)(id:String)(r:V->List V->Hp->VK->Prop):Prop:=
 ∀(a:List (c7×Obj)) (s:da) (d:St) (H:Hp) (x:V) (c:List V) (v:cV) (b:List cV) (Q:VK),fW X a d H s->hV x v->gy c b->r x c H Q->
  dJ (model X.prog X.w) X.A (call (.builtin id) (v::b)) (EP X a d Q) X.xe s
section
variable{X:Cx}{a b:Expr}{ta tb:TE}{pos:Pos}
def P6.or{r e:R2}(h:P6 X r)(h':P6 X e):P6 X (λx y H Q=>r x y H Q\/e x y H Q):=by
 intro b a c s i H x y v u Q I f g q d;rcases q with q|q
 ·exact h b a c s i H x y v u Q I f g q d
 ·exact h' b a c s i H x y v u Q I f g q d
def V9{r:R2}(i:P6 X r)(f:PE X a ta)(g:PE X b tb)(j:DT b):PE X (.Subscript a b pos) (dF r ta tb):=by
 intro c s n H Q I h;exact Subscript_ (TM f g I h λv u m x y d e k l q=>i a b c m n d x y v u Q e k l q (j _ _))
def Wi(K:Fg):R2:=λx y H Q=>∃p a i v,x=.ref p/\y=.int i/\fR K H p a/\P7 a i=some v/\Q v H
def Wl(K:Fg):R2:=λx y H Q=>∃p a i v,x=.ref p/\y=.int i/\fA K H p a/\P7 a i=some v/\Q v H
def Wj:R2:=λx y H Q=>∃z i c,x=.str z/\y=.int i/\z.length<=c6/\P7 z.cps.toList i=some c/\Q (.str ⟨#[c]⟩) H
def QY:P6 X (Wi X.K):=by
 intro l k a s B H x y v u Q I M O h o;obtain⟨p,U,i,z,rfl,rfl,L,G,q⟩:=h;cases M;obtain⟨t,rfl⟩:=O;obtain⟨e,r,f,T⟩:=I.list L;obtain⟨j,c,C,R,D,E⟩:=D0 G;obtain⟨w,m,g⟩:=r.get C;have J:=r.length;have S:=Aa;have b:EP X a B Q w s:=⟨z,H,I,g,q⟩;by_cases n:0<=i
 ·have d:i.toNat=j:=by
   rw[seqIndex_of n E] at c;exact Option.some.inj c
  exact item_listR f.isList n (by lia) (by rw[d];simpa using m) b o
 ·have d:(i+(e.toArray.size:Int)).toNat=j:=by
   rw[seqIndex_neg (by lia) D] at c;rw[dq,<-J];exact Option.some.inj c
  exact subscriptTail_builtinR (x:=w) f.isList.typeIs slot_list_getitem.lookup
   (wpAny_getItem_list_neg (Q:=λr P=>r=w/\EP X a B Q r P) f.isList (by lia) (by rw[dq]<;>lia) (by lia) (by rw[d];simpa using m) ⟨rfl,b⟩) o
def Ue:P6 X (Wl X.K):=by
 intro e d a s g H x y v u Q I E G h C;obtain⟨p,S,i,z,rfl,rfl,B,n,q⟩:=h;cases E;obtain⟨t,rfl⟩:=G;obtain⟨D,r,f,R⟩:=I.tuple B;obtain⟨j,l,m,L,M,O⟩:=D0 n;obtain⟨w,k,c⟩:=r.get m;have o:=r.length;have P:=Aa;have b:EP X a g Q w s:=⟨z,H,I,c,q⟩;exact subscriptTail_builtinR (x:=w) f.typeIs slot_tuple_getitem.lookup
  (getItem_tuple (j:=j) (Q:=λr J=>r=w/\EP X a g Q r J) f (by lia) (by lia) (by rw[dq,<-o];exact l) (by simpa using k) ⟨rfl,b⟩) C
def Ud:P6 X Wj:=by
 intro b a e s G H x y v u Q I r w h p;obtain⟨z,i,c,rfl,rfl,D,n,q⟩:=h;obtain⟨t,rfl⟩:=r;obtain⟨E,rfl⟩:=w;obtain⟨j,d,k,B,l,m⟩:=D0 n;have o:z.cps.toList.length=z.length:=by simp[Str.length]
 rw[o] at d l m;have C:=Aa;exact tail_any (typeIs_str s z t) slot_str_getitem.lookup (getItem_str (c:=c) (by
  have f:decide (i < -(2 ^ 63:Int))=false:=decide_eq_false (by lia);have g:decide (i >= 2 ^ 63)=false:=decide_eq_false (by lia);rw[f,g,Bool.or_false]) (by rw[d];simpa using k) ⟨.str ⟨#[c]⟩,H,I.tok _,⟨_,rfl⟩,q⟩) p
def eJ(K:Fg):R2:=λx y H Q=>Wi K x y H Q\/Wl K x y H Q\/Wj x y H Q
def Uc:P6 X (eJ X.K):=QY.or (Ue.or Ud)
def I0(a:List cV)(n j:Nat)(u:cV):Obj.mapSeq (·.setIfInBounds j u) {cls:=.type "list",data:=.seq a.toArray n}={cls:=.type "list",data:=.seq (a.set j u).toArray n}:=by
 simp[Obj.mapSeq]
def fW.lst{b:List (c7×Obj)}{c:St}{H:Hp}{s:da}{p:c7}{xs:List V}(I:fW X b c H s)(h:H p=some (.lst xs)) :
  ∃(a:List cV) (n:Nat),gy xs a/\s.heap.get? p=some {cls:=.type "list",data:=.seq a.toArray n}/\xs.length<=c6:=by
 obtain⟨z,a,n,r,e⟩:=I.hok p _ h;exact⟨a,n,r,e,z⟩
def fW.lstUpd{a:List (c7×Obj)}{i:St}{H:Hp}{s:da}{p:c7}{xs ys:List V}{c its':List cV}{n d:Nat}{f:Obj->Obj}(I:fW X a i H s)(h:H p=some (.lst xs))
  (k:s.heap.get? p=some {cls:=.type "list",data:=.seq c.toArray n}) (g:f {cls:=.type "list",data:=.seq c.toArray n}={cls:=.type "list",data:=.seq its'.toArray d}) (r:gy ys its') (hz:ys.length<=c6) (t:Nat) :
  fW X a i (upd H p (.lst ys)) {s with heap:=s.heap.update p f,toks:=t}:=by
 have e:(s.heap.update p f).get? p=some {cls:=.type "list",data:=.seq its'.toArray d}:=by
  rw[jG f k (by rw[g]<;>rfl),g]
 refine I.write (x:=p) (e:=p) (by rw[h];trivial) (.inl rfl) (λb u j q=>(iJ _ _ (Ne.symm j)).trans q) ⟨_,e⟩ ?_;exact⟨hz,its',d,r,e⟩
def pP:V->V->V->Hp->(Hp->Prop)->Prop:=λo i v H Q=>∃p a k j,o=.ref p/\i=.int k/\H p=some (.lst a)/\P9 a.length k=some j/\Q (upd H p (.lst (a.set j v)))
def kW:Qq X pP:=by
 intro b s G H o i v M L u Q I C B D h;obtain⟨p,E,k,j,rfl,rfl,x,y,q⟩:=h;cases C;obtain⟨t,rfl⟩:=B;obtain⟨a,n,r,f,z⟩:=I.lst x;obtain⟨c,J,m,w⟩:=Kv y;have e:=r.length;have K:=Aa;have g:fW X b G (upd H p (.lst (E.set j v))) {s with heap:=s.heap.update p (Obj.mapSeq (·.setIfInBounds j u))}:=
  I.lstUpd x f (I0 a n j u) (r.set D j) (by rw[eX];exact z) s.toks
 by_cases l:0<=k
 ·have d:k.toNat=j:=by
   rw[seqIndex_of l w] at c;exact Option.some.inj c
  exact PySem.W.ki_setAt f l (by lia) (by rw[dq,<-e];exact w) (by rw[d];exact⟨_,g,q⟩)
 ·have d:(k+(a.toArray.size:Int)).toNat=j:=by
   rw[seqIndex_neg (by lia) m] at c;rw[dq,<-e];exact Option.some.inj c
  exact PySem.W.ki_setBack f (by lia) (by rw[dq,<-e];exact m) (by lia) (by rw[d];exact⟨_,g,q⟩)
def ET(b a:Option Int)(n:Nat):(lO b a none n).1=((HT.sIx n 0 b:Nat):Int)/\(lO b a none n).2.1=((HT.sIx n n a:Nat):Int)/\(lO b a none n).2.2=1:=by
 refine⟨?_,?_,rfl⟩
 ·cases b with
  |none=>simp[lO,HT.sIx]
  |some i=>
   simp only[lO,HT.sIx,Option.getD_none,show(1:Int)>0 by decide,if_true];by_cases h:i<0
   ·simp only[h,if_true]<;>lia
   ·simp only[h,if_false]<;>lia
 ·cases a with
  |none=>simp[lO,HT.sIx]
  |some i=>
   simp only[lO,HT.sIx,Option.getD_none,show(1:Int)>0 by decide,if_true];by_cases h:i<0
   ·simp only[h,if_true]<;>lia
   ·simp only[h,if_false]<;>lia
def Ct(a:List cV)(b c:Option Int):slicePick a.toArray b c none=((a.drop (HT.sIx a.length 0 b)).take (HT.sIx a.length a.length c-HT.sIx a.length 0 b)).toArray:=by
 obtain⟨d,e,f⟩:=ET b c a.toArray.size;unfold slicePick;rw[d,e,f];simp only[sliceRange_one,pick_run,dq]<;>rfl
def Wq(K:Fg):V->Option Int->Option Int->Hp->VK->Prop:=λx d c H Q=>∃a b,x=.ref a/\fR K H a b/\∀p,H p=none->Q (.ref p) (upd H p (.lst (ph b d c)))
def Sa:Np X (Wq X.K):=by
 intro i s B H x v y z e f w Q I t j n p h;obtain⟨a,c,rfl,k,q⟩:=h;cases t;obtain⟨m,r,g,l⟩:=I.list k;have d:=r.length;refine⟨"list",_,slot_list_getitem.lookup,g.isList.typeIs,?_⟩;refine wpAny_getItem_list_slice g.isList j n p .none (by simp) ?_ (by rw[dq]<;>lia);rw[Ct,<-d];refine⟨.ref s.heap.objs.size,_,I.laid (t':=s.toks) (o:=.lst (ph c e f)) (λb u q=>df _ q) (dk _) ?_,rfl,q _ (I.hok.fresh (dk _))⟩;exact⟨fq (xY c e f) l,_,0,(r.drop (HT.sIx c.length 0 e)).take (HT.sIx c.length c.length f-HT.sIx c.length 0 e),dI _ rfl⟩
def iT:V->Bool
 |.non=>true
 |.bl _=>true
 |.int _=>true
 |.str _=>true
 |_=>false
def qx:V->V->Bool
 |.non,.non=>true
 |.bl a,.bl b=>a==b
 |.bl a,.int b=>(if a then 1 else 0)==b
 |.int a,.bl b=>a==(if b then 1 else 0)
 |.int a,.int b=>a==b
 |.str a,.str b=>a==b
 |_,_=>false
def Ei{A:ef}{s:da}{y x:V}{u v:cV}(f:hV y u)(c:hV x v)(g:iT y=true)(e:iT x=true):SeqAt.EqAt A s u v (qx y x):=by
 cases y with
 |non=>
  cases f;cases x with
  |non=>cases c;exact SeqAt.EqAt.same _
  |bl b=>cases c;exact SeqAt.EqAt.none_bool b
  |int b=>obtain⟨t,rfl⟩:=c;exact SeqAt.EqAt.none_int b t
  |str b=>obtain⟨t,rfl⟩:=c;exact SeqAt.EqAt.none_str b t
  |_=>exact absurd (show false=true from e) Bool.false_ne_true
 |bl a=>
  cases f;cases x with
  |non=>cases c;exact SeqAt.EqAt.bool_none a
  |bl b=>cases c;exact SeqAt.EqAt.bool_bool a b
  |int b=>obtain⟨t,rfl⟩:=c;exact SeqAt.EqAt.bool_int a b t
  |str b=>obtain⟨t,rfl⟩:=c;exact SeqAt.EqAt.bool_str a b t
  |_=>exact absurd (show false=true from e) Bool.false_ne_true
 |int a=>
  obtain⟨d,rfl⟩:=f;cases x with
  |non=>cases c;exact SeqAt.EqAt.int_none a d
  |bl b=>cases c;exact SeqAt.EqAt.int_bool a d b
  |int b=>obtain⟨t,rfl⟩:=c;exact SeqAt.EqAt.int_int a d b t
  |str b=>obtain⟨t,rfl⟩:=c;exact SeqAt.EqAt.int_str a d b t
  |_=>exact absurd (show false=true from e) Bool.false_ne_true
 |str a=>
  obtain⟨d,rfl⟩:=f;cases x with
  |non=>cases c;exact SeqAt.EqAt.str_none a d
  |bl b=>cases c;exact SeqAt.EqAt.str_bool a d b
  |int b=>obtain⟨t,rfl⟩:=c;exact SeqAt.EqAt.str_int a d b t
  |str b=>obtain⟨t,rfl⟩:=c;exact SeqAt.EqAt.str_str a d b t
  |_=>exact absurd (show false=true from e) Bool.false_ne_true
 |_=>exact absurd (show false=true from g) Bool.false_ne_true
def IG(x:V)(u:cV):Bool:=match u with
 |.none=>qx .non x
 |.bool b=>qx (.bl b) x
 |.int i _=>qx (.int i) x
 |.str z _=>qx (.str z) x
 |_=>false
def NK{x y:V}{u:cV}(r:hV y u)(f:iT y=true):IG x u=qx y x:=by
 cases y with
 |non=>cases r;rfl
 |bl b=>cases r;rfl
 |int i=>obtain⟨t,rfl⟩:=r;rfl
 |str z=>obtain⟨t,rfl⟩:=r;rfl
 |_=>exact absurd (show false=true from f) Bool.false_ne_true
theorem vv{x:V}:∀{xs:List V} {us:List cV},gy xs us->xs.all iT=true->us.any (IG x)=xs.any λy=>qx y x
 |_,_,.nil,_=>rfl
 |y::xs,u::us,.cons r t,f=>by
  rw[pU,Bool.and_eq_true] at f;rw[m6,m6,NK r f.1,vv t f.2]
theorem sL{A:ef}{s:da}{x:V}{v:cV}(c:hV x v)(b:iT x=true):∀{xs:List V} {us:List cV},gy xs us->xs.all iT=true->∀u∈us,SeqAt.EqAt A s u v (IG x u)
 |_,_,.nil,_=>λu a=>by cases a
 |y::xs,u::us,.cons r t,f=>λd a=>by
  rw[pU,Bool.and_eq_true] at f;rcases dW.mp a with rfl|a
  ·rw[NK r f.1];exact Ei r c f.1 b
  ·exact sL c b t f.2 d a
def kM(x:V)(xs:List V):Bool:=xs.any λy=>qx y x
def Ap(K:Fg)(b:Bool):R2:=λx y H Q=>∃p a,y=.ref p/\(fR K H p a\/fA K H p a)/\iT x=true/\a.all iT=true/\Q (.bl (if b then !kM x a else kM x a)) H
def iX:oD X (gi .In) (Ap X.K false):=by
 intro g s m H x y v u Q I i k h;obtain⟨p,l,rfl,b,f,c,q⟩:=h;cases k;rcases b with b|b
 ·obtain⟨a,r,e,j⟩:=I.list b;refine SeqAt.in_listAt (IG x) e.isList (λw d=>sL i f r c w (by simpa using d)) ⟨.bl _,H,I,rfl,?_⟩;rw[show a.toArray.any (IG x)=a.any (IG x) by simp,vv r c];exact q
 ·obtain⟨a,r,e,j⟩:=I.tuple b;refine SeqAt.in_tupleAt (IG x) e (λw d=>sL i f r c w (by simpa using d)) ⟨.bl _,H,I,rfl,?_⟩;rw[show a.toArray.any (IG x)=a.any (IG x) by simp,vv r c];exact q
def my:oD X (gi .NotIn) (Ap X.K true):=by
 intro g s m H x y v u Q I i k h;obtain⟨p,l,rfl,b,f,c,q⟩:=h;cases k;rcases b with b|b
 ·obtain⟨a,r,e,j⟩:=I.list b;refine SeqAt.notIn_listAt (IG x) e.isList (λw d=>sL i f r c w (by simpa using d)) ⟨.bl _,H,I,rfl,?_⟩;rw[show a.toArray.any (IG x)=a.any (IG x) by simp,vv r c];exact q
 ·obtain⟨a,r,e,j⟩:=I.tuple b;refine SeqAt.notIn_tupleAt (IG x) e (λw d=>sL i f r c w (by simpa using d)) ⟨.bl _,H,I,rfl,?_⟩;rw[show a.toArray.any (IG x)=a.any (IG x) by simp,vv r c];exact q
def oE:pb X (.type "list") (λxs H Q=>∃p ys,xs=[.ref p]/\(fR X.K H p ys\/fA X.K H p ys)/\∀l,H l=none->Q (.ref l) (upd H l (.lst ys))):=by
 intro t s D H xs E Q I r h;obtain⟨p,ys,rfl,j,q⟩:=h;obtain⟨u,rfl,C⟩:=uE r;cases C;have g:∀(a:List cV),gy ys a->ys.length<=c6->∀(c:Heap) (d:Nat),(∀b B,s.heap.get? b=some B->c.get? b=some B)->
   c.get? s.heap.objs.size=some {cls:=.type "list",dict:=none,data:=.seq a.toArray d,slots:=#[]}->EP X t D Q (.ref s.heap.objs.size) {s with heap:=c}:=λa f k c d m e=>
  ⟨.ref s.heap.objs.size,_,I.laid (t':=s.toks) m (dk _) (show kb X.prog X.w _ c _ (.lst ys) from⟨k,a,d,f,e⟩),rfl,q _ (I.hok.fresh (dk _))⟩
 rcases j with j|j
 ·obtain⟨a,f,z,k⟩:=I.list j;have i:=f.length;obtain⟨o,y,v,n,x⟩:=z.isList;exact call_list_seq p (.inl rfl) y v x (λc d m e=>g a f k c d m e) (by simp only[dq]<;>lia)
 ·obtain⟨a,f,z,k⟩:=I.tuple j;have i:=f.length;obtain⟨o,y,v,n,x⟩:=z;exact call_list_seq p (.inr rfl) y v x (λc d m e=>g a f k c d m e) (by simp only[dq]<;>lia)
def e7:pb X (.type "tuple") (λxs H Q=>∃p ys,xs=[.ref p]/\((fR X.K H p ys/\∀l,H l=none->Q (.ref l) (upd H l (.tup ys)))\/(fA X.K H p ys/\Q (.ref p) H))):=by
 intro a s n H xs y Q I r h;obtain⟨p,ys,rfl,h⟩:=h;obtain⟨u,rfl,x⟩:=uE r;cases x;rcases h with⟨f,q⟩|⟨f,q⟩
 ·obtain⟨c,i,g,m⟩:=I.list f;have k:=i.length;refine call_tuple_list g.isList (λd v=>?_) (by simp only[dq]<;>lia);have j:fW X a n H {s with heap:=d}:=I.kept (t':=s.toks) v;have t:fW X a n (upd H d.objs.size (.tup ys)) {s with heap:=d.push {cls:=.type "tuple",data:=.seq c.toArray}}:=
   j.laid (t':=s.toks) (λb o e=>df _ e) (dk _) (show kb X.prog X.w _ _ _ (.tup ys) from⟨m,c,i,pe.new _ _⟩)
  exact⟨.ref d.objs.size,_,t,rfl,q _ (j.hok.fresh (dk _))⟩
 ·obtain⟨c,i,g,m⟩:=I.tuple f;exact call_tuple_same g ⟨.ref p,H,I,rfl,q⟩
def W9(K:Fg)(T:String)(x:V)(H:Hp):Prop:=match x with
 |.str _=>T="str"
 |.int _=>T="int"
 |.ref p=>(T="list"/\∃b,fR K H p b)\/(T="tuple"/\∃o,K.lookup p=some o/\o.cls=.type "tuple"/\o.dict=none)\/
   (T="dict"/\((∃a,H p=some (.dK a))\/∃a,H p=some (.dT a)))\/(T="set"/\∃S n,H p=some (.set S n))
 |_=>False
def PR{d:List (c7×Obj)}{u:St}{H:Hp}{s:da}{T:String}{x:V}{v:cV}(I:fW X d u H s)(r:hV x v)(f:W9 X.K T x H) :
  s.TypeIs v T/\∀a,v=.ref a->∃ob,s.heap.get? a=some ob/\ob.dict=none:=by
 cases x with
 |str z=>
  obtain⟨t,rfl⟩:=r;cases(show T="str" from f);exact⟨typeIs_str s z t,λ_ e=>nomatch e⟩
 |int i=>
  obtain⟨t,rfl⟩:=r;cases(show T="int" from f);exact⟨qV s i t,λ_ e=>nomatch e⟩
 |ref p=>
  cases r;rcases f with⟨rfl,w,m⟩|⟨rfl,o,b,l,h⟩|⟨rfl,b⟩|⟨rfl,S,n,b⟩
  ·obtain⟨q,_,k,_⟩:=I.list m;refine⟨k.isList.typeIs,λa e=>?_⟩;cases e;obtain⟨o,n,e,c,h,_⟩:=k;exact⟨o,e,h⟩
  ·refine⟨⟨o,I.kIn p o b,l⟩,λa e=>?_⟩;cases e;exact⟨o,I.kIn _ o b,h⟩
  ·have z:∃o,s.heap.get? p=some o/\o.ExactDict:=by
    rcases b with⟨j,b⟩|⟨j,b⟩
    ·obtain⟨_,_,_,_,o,_,_,e,ex,_⟩:=I.hok p _ b;exact⟨o,e,ex⟩
    ·obtain⟨_,_,_,_,o,_,_,e,ex,_⟩:=I.hok p _ b;exact⟨o,e,ex⟩
   obtain⟨o,e,ex⟩:=z;refine⟨⟨o,e,ex.1⟩,λa g=>?_⟩;cases g;exact⟨o,e,ex.2.1⟩
  ·obtain⟨o,_,_,_,e,ex,_⟩:=I.hok p _ b;refine⟨⟨o,e,ex.1⟩,λa g=>?_⟩;cases g;exact⟨o,e,ex.2.1⟩
 |_=>exact False.elim f
def Vo(K:Fg)(T:String)(r:V->List V->Hp->VK->Prop)(b:TE):TE:=λc H Q=>b c H λx a=>W9 K T x a/\r x [] a Q
def GZ(K:Fg)(T:String)(r:V->List V->Hp->VK->Prop)(d:TE)(t:TA):TE:=λb H Q=>d b H λx a=>W9 K T x a/\t b a λe c=>r x e c Q
variable{o e:Expr}{es:List Expr}{to:TE}{t:TA}{name:Str}{apos cpos:Pos}{T id:String}{r:V->List V->Hp->VK->Prop}
def UF(p:uF T)(d:Slot T name id)(e:typeOf (.builtin id)=pure (.type "method_descriptor"))(m:VD X id r)(n:PE X o to)
  (b:iY o name X.env (eval o X.env)=eval o X.env:=by rfl) (c:(apos.endLine==cpos.line)=true:=by rfl):PE X (.Call (.Attribute o name apos) [] [] cpos) (Vo X.K T r to):=by
 intro a s i H Q I h;refine wpAny_Call_method0_late b c (kf (n a s i H _ I h) λv t ⟨x,j,f,g,u,q⟩=>?_);obtain⟨k,l⟩:=PR f g u;exact⟨T,id,p,d,e,k,l,Calls.callWith_builtin rfl (PySem.evalArgs_none (m a t i j x [] v [] Q f g .nil q))⟩
def V7(D:uF T)(g:Slot T name id)(i:typeOf (.builtin id)=pure (.type "method_descriptor"))(z:VD X id r)(B:PE X o to)(y:PA X (e::es) t)
  (c:iY o name X.env (eval o X.env)=eval o X.env:=by rfl)
  (f:((iy cpos (dH (e::es) X.env)).all (λx=>!x.1)&&(oO cpos (kU [] X.env)).all (λx=>x.1.isSome)
   && decide ((e::es).length+([]:List j6).length+(if([]:List j6).isEmpty then 0 else 1)<30))=true:=by rfl)
  (d:(apos.endLine==cpos.line)=true:=by rfl) (C:dH (e::es) X.env=(false,eval e X.env)::dH es X.env:=by rfl) (b:(iy cpos (dH es X.env)).any (·.1)=false:=by rfl) :
  PE X (.Call (.Attribute o name apos) (e::es) [] cpos) (GZ X.K T r to t):=by
 intro a s j H Q I h;refine wpAny_Call_method_late c f d rfl (kf (B a s j H _ I h) λv L ⟨x,n,k,m,O,E⟩=>?_);obtain⟨u,w⟩:=PR k m O;refine⟨T,id,D,g,i,u,w,?_⟩;have l:=y cpos a L j n _ k E;rw[C] at l ⊢;refine Calls.callWith_builtin (by show(false || (iy cpos (dH es X.env)).any (·.1))=false;rw[b]<;>rfl) (Calls.evalArgs_plain ?_);exact kf l λP M ⟨R,p,q,J,G⟩=>z a M j p x R v P Q q m J G
end
def Xf(X:Cx)(id:String)(r:V->List V->Hp->VK->Prop):Prop:=
 ∀(a:List (c7×Obj)) (s:da) (d:St) (H:Hp) (x:V) (c:List V) (v:cV) (b:List cV) (Q:VK),fW X a d H s->hV x v->gy c b->r x c H Q->
  dJ (model X.prog X.w) X.A (call (.builtin id) (v::b)) (EP X a d Q) X.xe s
theorem gy.one:∀{x:V} {us:List cV},gy [x] us->∃u,us=[u]/\hV x u
 |_,_,.cons r .nil=>⟨_,rfl,r⟩
theorem gy.zero:∀{us:List cV},gy [] us->us=[]
 |_,.nil=>rfl
def gy.dropLast{xs:List V}{us:List cV}(h:gy xs us):gy xs.dropLast us.dropLast:=by
 induction h with
 |nil=>exact .nil
 |cons r t a=>
  cases t with
  |nil=>exact .nil
  |cons q b=>exact .cons r a
def gy.reverse{xs:List V}{us:List cV}(h:gy xs us):gy xs.reverse us.reverse:=by
 induction h with
 |nil=>exact .nil
 |cons r t a=>rw[ma,ma];exact gy.append a (.cons r .nil)
theorem gy.rep{xs:List V}{us:List cV}(h:gy xs us):∀k:Nat,gy (dm k xs).flatten (dm k us).flatten
 |0=>.nil
 |k+1=>by
  rw[gM,gM,jQ,jQ];exact gy.append h (gy.rep h k)
def IH{d:Type}(l:List d):l.eraseIdx (l.length-1)=l.dropLast:=by
 induction l with
 |nil=>rfl
 |cons a r c=>
  cases r with
  |nil=>rfl
  |cons b r=>
   have e:(a::b::r).length-1=((b::r).length-1)+1:=by
    have f:(a::b::r).length=r.length+2:=rfl;have g:(b::r).length=r.length+1:=rfl;lia
   rw[e,List.eraseIdx_cons_succ,c]
   all_goals rfl
theorem xc(b:List cV):∀(k:Nat) (a:List cV),
  qW (λd f=>d++f) a.toArray (dm k b.toArray)=(a++(dm k b).flatten).toArray
 |0,a=>by simp
 |k+1,a=>by
  have e:a.toArray++b.toArray=(a++b).toArray:=by simp
  have c:(a++b)++(dm k b).flatten=a++(dm (k+1) b).flatten:=by
   rw[gM,jQ,eu]
  rw[<-c,<-xc b k (a++b),<-e,gM,kx]
section
variable{X:Cx}{pins:List (c7×Obj)}{σ:St}{H:Hp}{s:da}{l b:c7}{xs ys zs:List V}
def fW.lset{a its':List cV}{n:Nat}{f:Array cV->Array cV}{t':Nat}(I:fW X pins σ H s)(b:H l=some (.lst xs))
  (e:s.heap.get? l=some {cls:=.type "list",data:=.seq a.toArray n}) (d:f a.toArray=its'.toArray) (h:gy ys its') (hz:ys.length<=c6) :
  fW X pins σ (upd H l (.lst ys)) {s with heap:=s.heap.update l (Obj.mapSeq f),toks:=t'}:=by
 have q:=PySem.IsL.update e f;rw[d] at q;refine I.write (x:=l) (e:=l) (by rw[b];exact trivial) (.inl rfl) (λi u c g=>(iJ s.heap (Obj.mapSeq f) (Ne.symm c)).trans g) ⟨_,q⟩ ?_;exact⟨hz,its',_,h,q⟩
def fW.lnew{a:List cV}{t':Nat}(I:fW X pins σ H s)(b:gy ys a)(hz:ys.length<=c6) :
  fW X pins σ (upd H s.heap.objs.size (.lst ys)) {s with heap:=s.heap.push {cls:=.type "list",data:=.seq a.toArray},toks:=t'}:=
 I.laid (λ_ _ q=>df _ q) (dk _) ⟨hz,a,0,b,dI _ rfl⟩
def fW.fresh(I:fW X pins σ H s):H s.heap.objs.size=none:=I.hok.fresh (dk _)
def fW.lstM(I:fW X pins σ H s)(b:H l=some (.lst xs)):xs.length<=c6/\∃(a:List cV) (n:Nat),gy xs a/\xs.length=a.length/\s.heap.get? l=some {cls:=.type "list",data:=.seq a.toArray n}:=by
 obtain⟨z,a,n,r,e⟩:=I.hok l _ b;exact⟨z,a,n,r,r.length,e⟩
def Ol{n:Nat}(h:n<=c6):dS.List.listTooLong n=false:=by
 unfold dS.List.listTooLong;exact decide_eq_false (by lia)
end
section
variable{X:Cx}
def j9:V->List V->Hp->VK->Prop:=λx b H Q=>∃l a y,x=.ref l/\b=[y]/\H l=some (.lst a)/\a.length<c6/\Q .non (upd H l (.lst (a++[y])))
def Da:Xf X "list.append" j9:=by
 intro c s p H x m v k Q I g f h;obtain⟨l,o,y,rfl,rfl,b,j,q⟩:=h;cases g;obtain⟨u,rfl,d⟩:=f.one;obtain⟨z,a,n,r,i,e⟩:=I.lstM b;refine kQ F.slot_list_append ⟨_,e,rfl⟩ F.entry_list_append (F.args_list_append_2 _ _) (PySem.list_append l a.toArray n u (by rw[dq];lia)) ⟨e,?_⟩;refine⟨.non,_,I.lset (its':=a++[u]) b e (by simp) (r.append (.cons d .nil)) ?_,rfl,q⟩;rw[c9,d4];lia
def Wo:V->List V->Hp->VK->Prop:=λx b H Q=>∃l a y,x=.ref l/\b=[]/\H l=some (.lst a)/\a[a.length-1]?=some y/\Q y (upd H l (.lst a.dropLast))
def Ur:Xf X "list.pop" Wo:=by
 intro f s B H x t v p Q I o m h;obtain⟨l,w,y,rfl,rfl,d,j,q⟩:=h;cases o;have b:=m.zero;subst b;obtain⟨z,a,n,r,g,e⟩:=I.lstM d;obtain⟨u,i,k⟩:=r.get j;have c:a.toArray[a.toArray.size-1]?=some u:=by
  show a.toArray[a.length-1]?=some u;rw[<-mH,<-g];exact i
 refine kQ F.slot_list_pop ⟨_,e,rfl⟩ F.entry_list_pop (F.args_list_pop_1 _) (MeetsSeq.list_pop_last l a.toArray n u c (by rw[dq];lia)) ⟨e,?_⟩;refine⟨y,_,I.lset (its':=a.dropLast) d e ?_ r.dropLast ?_,k,q⟩
 ·show a.toArray.eraseIdxIfInBounds (a.toArray.size-1)=a.dropLast.toArray;rw[dq,List.eraseIdxIfInBounds_toArray,IH]
 ·rw[jR];lia
def Wh:R2:=λx y H Q=>∃l b a c,x=.ref l/\y=.ref b/\H l=some (.lst a)/\H b=some (.lst c)/\a.length+c.length<=c6/\∀p,H p=none->Q (.ref p) (upd H p (.lst (a++c)))
def Uv:oD X (iH .Add) Wh:=by
 intro d s G H x y v u Q I o p h;obtain⟨l,b,C,E,rfl,rfl,j,i,w,q⟩:=h;cases o;cases p;obtain⟨z,c,n,r,t,e⟩:=I.lstM j;obtain⟨D,a,B,m,k,f⟩:=I.lstM i;refine PySem.P.add_list e f ?_ (by rw[dq,dq];lia);have g:c.toArray++a.toArray=(c++a).toArray:=by simp
 rw[g];exact⟨.ref _,_,I.lnew (t':=s.toks) (r.append m) (by rw[c9];lia),rfl,q _ I.fresh⟩
def Wp:R2:=λx y H Q=>∃l k a,x=.ref l/\y=.int k/\H l=some (.lst a)/\-(2 ^ 63)<=k/\k<2 ^ 63/\a.length*k.toNat<=c6/\
 ∀p,H p=none->Q (.ref p) (upd H p (.lst (dm k.toNat a).flatten))
def Ey{b:Type}(xs:List b)(k:Nat):(dm k xs).flatten.length=k*xs.length:=by
 induction k with
 |zero=>simp
 |succ k a=>rw[gM,jQ,c9,a,Nat.succ_mul,Nat.add_comm]
def UC:oD X (iH .Mult) Wp:=by
 intro w s P H x y v u Q I J K h;obtain⟨l,k,O,rfl,rfl,E,C,D,p,q⟩:=h;cases J;obtain⟨t,rfl⟩:=K;obtain⟨z,b,n,r,G,e⟩:=I.lstM E;have g:b.toArray.size*k.toNat<=c6:=by rw[dq,<-G];exact p
 have d:¬b.toArray.size*k.toNat>(2 ^ 63-1) / 8:=by
  have:(c6:Nat)<=(2 ^ 63-1) / 8:=by decide
  lia
 have f:¬(!dS.List.listFitsIndex k)=true:=by
  rw[fitsIndex_both C D];exact Bool.false_ne_true
 have c:¬dS.List.listTooLong (b.toArray.size*k.toNat)=true:=by
  rw[Ol g];exact Bool.false_ne_true
 have i:qW (λj o=>j++o) #[] (dm (if b.toArray.isEmpty=true then 0 else k.toNat) b.toArray)=(dm k.toNat b).flatten.toArray:=by
  have B:∀m:Nat,qW (λj o=>j++o) #[] (dm m b.toArray)=(dm m b).flatten.toArray:=λm=>by
   have:=xc b m [];rw[jq] at this;exact this
  rw[B];cases b with
  |nil=>simp
  |cons a M=>rw[if_neg (by simp)]
 refine wpAny_binaryOp_repeat_ref (T:="list") (U:="int") (by decide) ⟨_,e,rfl⟩ (λL=>qV L k t) noFill_list_mul F.fills_int_mul F.slot_int_rmul repeat_list F.slot_int_index.lookup
  (kQ F.slot_int_rmul (qV s k t) F.entry_int_rmul (F.args_int_rmul_2 _ _) (int___rmul___int_list k t l b.toArray n)
   ⟨e,rfl,⟨_,e,rfl⟩,kQ F.slot_list_mul ⟨_,e,rfl⟩ F.entry_list_mul (F.args_list_mul_2 _ _) (AutoListH.list___mul___list_int_3 l b.toArray n k t f d c) ⟨e,?_⟩⟩)
 rw[i];exact⟨.ref _,_,I.lnew (t':=s.toks) (r.rep k.toNat) (by rw[Ey,u9];exact p),rfl,q _ I.fresh⟩
end
section
variable{prog:dv}{w:dQ}{A:ef}{E:Zz}{s:da}
set_option maxRecDepth 100000 in
end
section
variable{X:Cx}
end
end L2
namespace Att
open PySem PySem.W PySem.Calls PyProof.Rows
def yv{P:Params}{h:Heap}:∀(ns:List Int) (vs:List cV),WellAll P h vs (ns.map WData.int)->qR vs ns:=by
 intro ns
 induction ns with
 |nil=>
  intro vs w;rw[u7] at w;cases w;exact .nil
 |cons n ns c=>
  intro vs w;rw[gu] at w;cases w with
  |cons a b=>
   cases a;exact .cons _ _ (c _ b)
def Mp{l:OpenLaw}{n:Nat}(t:l.most=some n){P:Params}{h:Heap}{args:List WData}{c:List cV}
  (b:l.row.toRowW.claim.pre args=true) (k:WellAll P h c args) :
  ∃a vs ns,c=[cV.ref a]/\args=[WData.list (ns.map WData.int)]/\h.get? a=some {cls:=.type "list",data:=.seq vs.toArray}/\qR vs ns/\ns.length<=n:=by
 have j:WShape.hasAll [] args [.list .int]=true:=(pre_splitW b).1;have m:l.pre.holds [] {args:=args}=true:=(pre_splitW b).2;obtain⟨d,r,rfl,o,p⟩:=hasAllW_cons j;obtain rfl:=hasAllW_nil p;obtain⟨y,rfl,s⟩:=hasW_list o;obtain⟨ns,rfl⟩:=items_int s;have f:ns.length<=n:=by
  unfold OpenLaw.pre at m;have g:(WTm.not (.lt (.lit (.int (n:Int))) (.len (.arg 0)))).holds [] {args:=[.list (ns.map .int)]}=true:=by
   have g:=(holds_andW m).1;rw[t] at g;exact g
  have i:=condW_of g (w_not (w_lt w_lit (w_len_list (w_arg rfl))));rw[cT] at i;refine Nat.le_of_not_lt λq=>?_;have v:(n:Int)<((ns.length:Nat):Int):=by lia
  first
   |(rw[decide_eq_true v] at i;exact absurd i (by decide))
   |(simp at i;lia)
 cases k with
 |cons w x=>
  cases x;cases w with
  |list u e=>exact⟨_,_,ns,rfl,rfl,u,yv ns _ e,f⟩
def L6(l:OpenLaw)(args:List WData):l.row.toRowW.claim.post args (.bool true) args=true:=
 postW_of (r:=l.row.toRowW) (X:=(true==true))
  (show WShape.has [] (.bool true) .bool=true by first|rfl|decide|simp[WShape.has,WShape.arms,WShape.armsAll])
  (show(WTm.eq .res (.lit (.bool true))).value [] {args:=args,res:=some (.bool true),after:=args}=some (.bool (true==true)) from w_eq_bool (w_res rfl) w_lit) rfl
def attach_call{l:OpenLaw}{n:Nat}{q:dv}{c:List Str}{y:(Str->Option cV)->Heap->Prop}{z:dQ->Heap->Prop}{d:DefRec}
  (P:l.most=some n) (s:d.params.defaults=[])
  (g:∀(w:dQ) (s₀ b:da) (m v:Str->Option cV) (h:c7) (o:Obj) (x k e:cV) (a:c7) (vs:List cV) (ns:List Int),
   Ground q c [] y w s₀ m v b.heap->z w b.heap->
   b.heap.get? h=some o->o.data=.func (docDef d.name d.params d.body d.scope x k e)->b.heap.CodeRec k d.name->m d.name=some (.ref h)->
   b.heap.get? a=some {cls:=.type "list",data:=.seq vs.toArray}->qR vs ns->ns.length<=n->b.gens=#[]->
   mZ (model l.prog w) tE (.call (.ref h) ⟨[.ref a],[]⟩) (λr s'=>r=.ok (.ret (.bool true))/\OldK b.heap s'.heap/\s'.os=b.os/\pJ s'.gens) b) :
  WalkO q c y z l.row.toRowW d [] (λf vs=>zh f vs):=by
 intro w s₀ b m v G Y h o x k e E kV Q K p B t L args D T j C S u M;obtain rfl:E=.none:=Dflts.none B s;obtain rfl:kV=.none:=Dflts.noKw B;obtain⟨a,vs,ns,rfl,rfl,i,hints,hlen⟩:=Mp P j u;refine enter_call (codeAny_mono (g w s₀ b m v h o x k e a vs ns G Y Q (fd_plain K) p t i hints hlen L) λr s' R=>?_);obtain⟨rfl,H,I,J⟩:=R;exact⟨.inl ⟨.bool true,.bool true,[],rfl,λ_=>rfl,.bool true,L6 l _,λ_=>⟨List.Pairwise.nil,λ_ O=>(nomatch O)⟩⟩,H,I,J⟩
section
variable{prog:dv}{w:dQ}{A:ef}{E:Zz}{s:da}{K:Frag}
end
end Att
namespace L2
open PySem PySem.Spec PyProof.Rows
theorem DE:∀{vs:List cV} {ns:List Int},qR vs ns->gy (ns.map V.int) vs
 |_,_,.nil=>.nil
 |_,_,.cons n t h=>.cons ⟨t,rfl⟩ (DE h)
def Qm(H:Hp):Prop:=∀b,H b=none\/∃o a,H b=some (.frz o (.lst a))
def Oe{P:dv}{w:dQ}{K:Fg}{J X:Str->Option cV}{CX:MW}{k:Nat}{Q a:c7}{fd:iQ}{x:Str}{sp:Sp}{c:da}{vs:List cV}{ns:List Int}
  (Z:K.In c.heap) (D:c.heap.Ns eB J) (g:c.heap.Ns builtinsNs X) (S:∀x:Str,x≠"__name__"->X x=jP x) (C:c.heap.NoLimit) (hg:c.gens=#[])
  (M:c.heap.get? a=some {cls:=.type "list",data:=.seq vs.toArray}) (hi:qR vs ns) (hl:ns.length<=c6) (hr:mn k tE)
  (F:∀i:Heap,K.In i->i.Ns eB J->wK P w K J i CX k Q fd [x] sp) (p:∀(s:da) (u:cV),tw s fd ⟨[u],[]⟩ [(x,u)])
  (U:∀H:Hp,Qm H->fR K H a (ns.map V.int)->sp [.ref a] H (λv _=>v=.bl true) λ_ _ _=>False)
  (R:∀H e s',CX [] H c (λ_ _ _=>False) e s'->False) :
  mZ (model P w) tE (.call (.ref Q) ⟨[.ref a],[]⟩) (λr s'=>r=.ok (.ret (.bool true))/\OldK c.heap s'.heap/\s'.os=c.os/\pJ s'.gens) c:=by
 have rv:=DE hi;have I:=hi.length;have l:∀H:Hp,Qm H->fR K H a (ns.map V.int)->vj P w H c.heap->(∀b,H b≠none->b=a)->(H a≠none->K.lookup a=none)->
   mZ (model P w) tE (.call (.ref Q) ⟨[.ref a],[]⟩) (λr s'=>r=.ok (.ret (.bool true))/\OldK c.heap s'.heap/\s'.os=c.os/\pJ s'.gens) c:=by
  intro H hO hS E hA hK;have f:∀{b:c7} {o:Obj},c.heap.get? b=some o->H b=none->(El c.heap H).get? b=some o:=λe n=>NW e n;have Y:∀{b:c7} {o:Obj} {y:Array DictEntry} {t:Nat},c.heap.get? b=some o->o.data=.dict y t->H b=none:=λ{b o y t} e d=>by
   cases q:H b with
   |none=>rfl
   |some u=>
    have O:b=a:=hA b (by rw[q];simp);subst O;rw[M] at e;cases e;have d':Data.seq vs.toArray _=Data.dict y t:=d;cases d'
  have j:∀{b:c7} {m:Str->Option cV},c.heap.Ns b m->(El c.heap H).Ns b m:=λ{b m} ⟨o,y,t,e,d,r⟩=>⟨o,y,t,f e (Y e d),d,r⟩;have B:K.In (El c.heap H):=λb o e=>f (Z b o e) (by
   cases q:H b with
   |none=>rfl
   |some u=>
    have O:b=a:=hA b (by rw[q];simp);subst O;rw[hK (by rw[q];simp)] at e;cases e)
  have hM:Mod K J (El c.heap H):=⟨B,j D,⟨X,j g,S⟩,let⟨mc,h1,h2⟩:=C;⟨mc,j h1,h2⟩⟩;have e0:Qe P w K J (El c.heap H) tE [] c H:=⟨rfl,hM,λb o e=>Ra e,Nat.le_of_eq (LF _ _),trivial,λb g=>absurd (show b∈([]:List c7) from g) (by simp),E,.of_eq hg⟩;refine codeAny_mono ((F _ B (j D)).run tE [] c H ⟨[.ref a],[]⟩ [.ref a] [.ref a] _ _ hr e0 (p c (.ref a)) (.cons rfl .nil) (U H hO hS)) λr s' h=>?_;cases r with
  |error e=>exact(R H e s' h).elim
  |ok fl=>
   cases fl with
   |next=>exact False.elim h
   |brk=>exact False.elim h
   |cont=>exact False.elim h
   |ret u=>
    obtain⟨v,H',os,bare,un,G,r',q⟩:=h;have q':v=.bl true:=q;subst q';obtain rfl:u=cV.bool true:=r';refine⟨rfl,OldK.of_keep λb o e=>?_,os,bare⟩;cases q:H b with
    |none=>exact un.keep b o e q (by intro z;exact absurd (show b∈([]:List c7) from z) (by simp)) (by simp)
    |some u=>
     rcases hO b with z|⟨ob,xs,z⟩
     ·rw[q] at z;cases z
     ·have z2:=un.frzs b ob _ z;obtain⟨e1,_⟩:=E b _ z;obtain⟨e2,_⟩:=G b _ z2;rw[e] at e1;cases e1;exact e2
 cases T:K.lookup a with
 |some o=>
  have e:=Z a o T;rw[M] at e;cases e;refine l (λ_=>none) (λ_=>.inl rfl) (.inr ⟨_,vs.toArray,_,T,rfl,rfl,rfl,by rw[dq,I];exact hl,by simpa using rv⟩) (λb u z=>by have L:(none:Option HO)=some u:=z;cases L) (λb z=>absurd rfl z) λz=>absurd rfl z
 |none=>
  refine l (λb=>if b=a then some (.frz {cls:=.type "list",data:=.seq vs.toArray} (.lst (ns.map V.int))) else none) (λb=>?_) (.inl (.inr ⟨{cls:=.type "list",data:=.seq vs.toArray},if_pos rfl⟩)) (λb u z=>?_) (λb z=>?_) λ_=>T
  ·by_cases g:b=a
   ·exact .inr ⟨_,_,if_pos g⟩
   ·exact .inl (if_neg g)
  ·by_cases g:b=a
   ·have L:=(if_pos g).symm.trans z;cases L;subst g;exact⟨M,by rw[cT];exact hl,vs,_,rv,M⟩
   ·have L:=(if_neg g).symm.trans z;cases L
  ·by_cases g:b=a
   ·exact g
   ·exact absurd (if_neg g) z
def walk_of{l:PySem.W.OpenLaw}{n k:Nat}{q:dv}{m:List Str}{L:(Str->Option cV)->Heap->Prop}{J:dQ->Heap->Prop}{d:DefRec}{K:Params->Fg}{CX:dQ->MW}{sp:dQ->Sp}{x:Str}
  (Z:l.most=some n) (D:n<=c6) (B:d.params.defaults=[]) (hr:mn k tE)
  (R:∀(w:dQ) (h:Heap),J w h->(K w.params).In h)
  (F:∀(w:dQ) (p:Str->Option cV) (y:c7) (h:Heap),(K w.params).In h->h.Ns eB p->p d.name=some (.ref y)->
   ∃fd:iQ,(∀(s:da) (u:cV),tw s fd ⟨[u],[]⟩ [(x,u)])/\
    ∀c:Heap,(K w.params).In c->c.Ns eB p->wK l.prog w (K w.params) p c (CX w) k y fd [x] (sp w))
  (E:∀(w:dQ) (H:Hp) (a:c7) (ns:List Int),ns.length<=n->Qm H->fR (K w.params) H a (ns.map V.int)->sp w [.ref a] H (λv _=>v=.bl true) λ_ _ _=>False)
  (z:∀(w:dQ) (H:Hp) (s:da) (e:cV) (s':da),CX w [] H s (λ_ _ _=>False) e s'->False) :
  PySem.W.WalkO q m L J l.row.toRowW d [] (λf vs=>zh f vs):=by
 refine Att.attach_call Z B λw s₀ t p mb y o pm cd M a vs ns G Y ho hd U C r j i X=>?_;have I:=R w _ Y;obtain⟨fd,S,O⟩:=F w p y _ I G.T.g C;exact Oe I G.T.g G.T.b G.T.builtins G.T.nolimit X r j (fq i D) hr O S (λH P Q=>E w H a ns i P Q) λH e s'=>z w H t e s'
def lJ(s:Stmt):Arguments:=match s with
 |.FunctionDef _ a _ _ _ _ _ _ _ _=>a
 |_=>{posonlyargs:=[],args:=[],vararg:=none,kwonlyargs:=[],kw_defaults:=[],kwarg:=none,defaults:=[]}
def j8(s:Stmt):List Stmt:=match s with
 |.FunctionDef _ _ b _ _ _ _ _ _ _=>b
 |_=>[]
def gk(s:Stmt):Scope:=match s with
 |.FunctionDef _ _ _ _ _ _ a _ _ _=>a
 |_=>{kind:=.function,names:=[],isGenerator:=false,isCoroutine:=false}
abbrev J5:MW:=λ_ _ _ _ _ _=>False
abbrev E0:XK:=λ_ _ _=>False
def SX{X:Cx}:Ik J5 X E0:=λ_ _ _ _ _ _ _ h=>h.elim
structure Vx(K:Fg)(x qual:Str)(st:Stmt)(f:c7)(fd:iQ):Prop where
 ex:∃(oc:cV) (od:Option c7) (kV doc pm:cV) (an:Option c7) (cdv ct:cV) (osl:Array (Option cV)),
  fd=hH x qual (lJ st) (j8 st) (gk st) .none kV doc pm an cdv ct/\K.lookup f=some ⟨oc,od,.func fd,osl⟩/\jE K cdv qual=true
 kp:iL K (.ref f)=true
section
variable{P:dv}{w:dQ}{K:Fg}{mg:Str->Option cV}{base:Heap}
def Vx.ok{x a:Str}{st:Stmt}{f:c7}{fd:iQ}{N ps:List Str}{k:Nat}{sp:Sp}(F:Vx K x a st f fd)(S:tH N ps (gk st))(len:∀vs H Q E,sp vs H Q E->vs.length=ps.length)
  (c:∀(b:cV) (A:ef) (outer:List Env) (s:da) (H:Hp) (vs:List V) (Q:VK) (E:XK),mn k (A.deeper (mJ a (gk st) s.heap.objs.size f b))->sp vs H Q E->
   ∃t,HP (Eb J5 P w K mg base N a (gk st) f b A outer s H E).nox (j8 st) t/\t {nx:=λ_ H'=>Q .non H',rt:=Q} (fQ N vs) H):wK P w K mg base J5 (k+1) f fd ps sp:=by
 obtain⟨m,n,kV,doc,o,l,b,ct,j,rfl,i,d⟩:=F.ex;refine SR i d S len λA outer s H vs Q E g e=>?_;obtain⟨t,h,q⟩:=c b A outer s H vs Q E g e;exact⟨t,h.nox,q⟩
def Vx.binds{x a:Str}{st:Stmt}{f:c7}{fd:iQ}{ps:List Str}(F:Vx K x a st f fd)
  (h:∀(kV c e:cV) (d:Option c7) (b ct:cV) (us:List cV),us.length=ps.length->bindArgs (hH x a (lJ st) (j8 st) (gk st) .none kV c e d b ct) ⟨us,[]⟩=pure (ps.zip us)):xP K fd ps []:=by
 obtain⟨k,l,kV,c,e,d,b,ct,i,rfl,j,g⟩:=F.ex;exact .all (h kV c e d b ct)
def NS{x a:Str}{st:Stmt}{f:c7}{i:cV}{od g:Option c7}{e:Array (Option cV)}{kV d h b ct:cV}(l:K.lookup f=some ⟨i,od,.func (hH x a (lJ st) (j8 st) (gk st) .none kV d h g b ct),e⟩)
  (c:jE K b a=true) (k:iL K (.ref f)=true):Vx K x a st f (hH x a (lJ st) (j8 st) (gk st) .none kV d h g b ct):=⟨⟨i,od,kV,d,h,g,b,ct,e,rfl,l,c⟩,k⟩
end
def VS{A:ef}{k:Nat}(a:mn k A):A.units+1<cLine:=Nat.lt_of_le_of_lt (Nat.add_le_add_left (by decide:1<=64) _) a.units
section
variable{X:Cx}
def pv(i:Nat){x:Str}{pos:Pos}(b:X.N[i]?=some x:=by rfl)(d:WK X.env.scope x:=by first|exact Or.inl rfl|exact Or.inr (Or.inl rfl)|exact Or.inr (Or.inr rfl))(c:(x==("__debug__":Str))=false:=by decide)
  (a:(x==("__classdict__":Str))=false:=by decide):PE X (.Name x pos) (cU i):=UO b d c a
end
def lT{A B:Prop}(h:B):if false=true then A else B:=by
 rw[if_neg Bool.false_ne_true];exact h
def sH{A B:Prop}(h:A):if true=true then A else B:=by
 rw[if_pos rfl];exact h
def du(H H':Hp):Prop:=∀b o,H b=some o->H' b=some o
def du.refl(H:Hp):du H H:=λ_ _ h=>h
def du.trans{H d H2:Hp}(a:du H d)(b:du d H2):du H H2:=λc o h=>b c o (a c o h)
def du.free{H H':Hp}(e:du H H'){l:c7}(h:H' l=Option.none):H l=Option.none:=by
 cases q:H l with
 |none=>rfl
 |some o=>
  rw[e l o q] at h;cases h
section
variable{prog:dv}{w:dQ}{A:ef}{R:Result->da->Prop}{s:da}
theorem D9{p a i:Expr}{t:List Expr}{scope:Scope}{pos:Pos}{it o:cV}{env:Env}(I:Nat->da->Prop)
  (C:∀n s,I n s->dJ (model prog w) A (nN it) (λr b=>match r with
   |none=>R (.ok .next) b
   |some v=>dJ (model prog w) A (nM a it v) (λ_ b=>dJ (model prog w) A (assign a env v) (λ_ j=>
     dJ (model prog w) A (forIn t true λc r=>if r=true then do let B <-isTrue c env (eval c env);pure (ForInStep.yield B) else pure (ForInStep.yield r)) (λB e=>
      if B=true then dJ (model prog w) A (eval p env) (λx k=>
       dJ (model prog w) A (call (.builtin "list.append") [o,x]) (λ_ l=>∃m,m<n/\I m l) (λ_ _=>False) k) (λ_ _=>False) e
      else ∃m,m<n/\I m e) (λ_ _=>False) j) (λ_ _=>False) b) (λ_ _=>False) b) (λ_ _=>False) s)
  (n:Nat) (h:I n s) :
  mZ (model prog w) A (.compLoop (.ListComp p [⟨a,i,t,0⟩] scope pos) 0 it o env) R s:=by
 refine codeAny_loop rfl I (λn s E=>?_) n h;show dJ _ A ((compTurn (.ListComp p [⟨a,i,t,0⟩] scope pos) 0 it o env).onRaise (λx=>do noteFrame x env;theTreesLotGoes x)) _ _ s;refine wpAny_noted ?_;rw[compTurn_list];refine cS (pT (cS (iI (C n s E) (λr b f=>?_) λ_ _ d=>d.elim)));cases r with
 |none=>exact di f
 |some v=>
  refine cS (iI f (λ_ D q=>?_) λ_ _ d=>d.elim);refine cS (iI q (λ_ j u=>cS (iI u (λB e g=>?_) λ_ _ d=>d.elim)) λ_ _ d=>d.elim);cases B with
  |false=>exact di ⟨rfl,g⟩
  |true=>
   exact cS (cS (iI g (λx k y=>cS (iI y (λ_ l z=>di (di ⟨rfl,z⟩)) λ_ _ d=>d.elim)) λ_ _ d=>d.elim))
end
theorem uQ{env:Env}{f:Str×eQ->List (Str×c7)->Sem (ForInStep (List (Str×c7)))}
  (w:∀n k a,f (n,k) a=if(k==eQ.free)=true then(do let c <-cellOf env n;pure (.yield ((n,c)::a))) else pure (.yield a)) :
  ∀(names:List (Str×eQ)) (a:List (Str×c7)),(∀x∈names,x.2=eQ.free->∃c,env.cells.lookup x.1=some c)->(∀n c,a.lookup n=some c->env.cells.lookup n=some c)->
   ∃g,(forIn names a f:Sem (List (Str×c7)))=pure g/\(∀n c,g.lookup n=some c->env.cells.lookup n=some c)/\(∀n,(a.lookup n).isSome=true->(g.lookup n).isSome=true)/\∀x∈names,x.2=eQ.free->(g.lookup x.1).isSome=true
 |[],a,_,q=>⟨a,rfl,q,λ_ h=>h,λ_ h=>nomatch h⟩
 |(n,k)::r,a,y,q=>by
  have i:∀x∈r,x.2=eQ.free->∃c,env.cells.lookup x.1=some c:=λx b=>y x (fc _ b);rw[lI,w];by_cases l:k=eQ.free
  ·subst l;obtain⟨c,z⟩:=y (n,eQ.free) eG rfl;have v:∀m d,((n,c)::a).lookup m=some d->env.cells.lookup m=some d:=λm d j=>by
    rw[gL] at j;cases e:(m==n) with
    |true=>
     rw[e] at j;have:m=n:=by simpa using e
     rw[this];cases j;exact z
    |false=>rw[e] at j;exact q m d j
   obtain⟨g,s,t,p,u⟩:=uQ w r ((n,c)::a) i v;refine⟨g,?_,t,λm D=>p m ?_,λx b l=>?_⟩
   ·rw[<-s];have B:cellOf env n=pure c:=by unfold cellOf;rw[z]
    rw[B];rfl
   ·rw[gL];cases e:(m==n) with
    |true=>rfl
    |false=>exact D
   ·rcases dW.mp b with rfl|b
    ·exact p n (by rw[gL,beq_self_eq_true];rfl)
    ·exact u x b l
  ·have C:(k==eQ.free)=false:=by simpa using l
   obtain⟨g,s,t,p,u⟩:=uQ w r a i q;refine⟨g,?_,t,p,λx b o=>?_⟩
   ·rw[<-s,C];rfl
   ·rcases dW.mp b with rfl|b
    ·exact absurd o l
    ·exact u x b o
def zM{scope:Scope}{env:Env}(i:∀x∈scope.names,x.2=eQ.free->∃c,env.cells.lookup x.1=some c) :
  ∃b,closureFor scope env=pure b/\(∀n c,b.lookup n=some c->env.cells.lookup n=some c)/\∀x∈scope.names,x.2=eQ.free->(b.lookup x.1).isSome=true:=by
 obtain⟨b,d,e,_,g⟩:=uQ (env:=env) (f:=λ(x:Str×eQ) a=>if(x.2==eQ.free)=true then(do let c <-cellOf env x.1;pure (.yield ((x.1,c)::a))) else pure (.yield a)) (λ_ _ _=>rfl) scope.names [] i (λ_ _ h=>nomatch h);refine⟨b,Eq.trans (show closureFor scope env=((forIn scope.names ([]:List (Str×c7)) λ(x:Str×eQ) a=>if(x.2==eQ.free)=true then(do let c <-cellOf env x.1;pure (.yield ((x.1,c)::a))) else pure (.yield a)) >>= λa=>pure a) from rfl) ?_,e,g⟩;rw[d]
 all_goals rfl
theorem mv{env:Env}{x:Str}:∀(names:List (Str×eQ)),
  (names.map λ(n,k)=>if(k==eQ.free&&env.scope.kind==.function&&env.kindOf n==some .cell) then(n,eQ.cell) else(n,k)).lookup x =
   (names.lookup x).map λk=>if(k==eQ.free&&env.scope.kind==.function&&env.kindOf x==some .cell) then eQ.cell else k
 |[]=>rfl
 |(n,k)::r=>by
  have c:=mv (env:=env) (x:=x) r;show xO x ((if(k==eQ.free&&env.scope.kind==.function&&env.kindOf n==some .cell)=true then(n,eQ.cell) else(n,k))::_)=_;cases b:x==n with
  |true=>
   have e:x=n:=by simpa using b
   subst e;by_cases a:(k==eQ.free&&env.scope.kind==.function&&env.kindOf x==some .cell)=true
   ·rw[if_pos a];simp only[gL,b,fO,if_pos a]
   ·rw[if_neg a];simp only[gL,b,fO,if_neg a]
  |false=>
   by_cases a:(k==eQ.free&&env.scope.kind==.function&&env.kindOf n==some .cell)=true
   ·rw[if_pos a];simp only[gL,b];exact c
   ·rw[if_neg a];simp only[gL,b];exact c
def O1{scope:Scope}{env:Env}{x:Str}(a:∀y∈scope.names,y.2≠eQ.cell)(h:(relabel scope env).names.lookup x=some .cell\/(relabel scope env).names.lookup x=some .free):scope.names.lookup x=some .free:=by
 have e:(relabel scope env).names.lookup x=_:=mv (env:=env) (x:=x) scope.names;rw[e] at h;cases q:scope.names.lookup x with
 |none=>rw[q] at h;rcases h with h|h<;>cases h
 |some k=>
  rw[q] at h;by_cases b:k=eQ.free
  ·rw[b]
  ·have c:(k==eQ.free)=false:=by simpa using b
   simp only[fO,c,Bool.false_and,Bool.false_eq_true,if_false] at h;rcases h with h|h
   ·cases h;exact absurd rfl (a _ (gN q))
   ·exact h
def R1{scope:Scope}{env:Env}{x:Str}(h:(relabel scope env).names.lookup x≠none):scope.names.lookup x≠none:=by
 have e:(relabel scope env).names.lookup x=_:=mv (env:=env) (x:=x) scope.names;intro q;rw[e,q] at h;exact h rfl
structure nU(sc:Scope)(N:List Str)(scope:Scope)(NY:List Str)(js:List Nat):Prop where
 kind:scope.kind=.function
 cell:∀y∈scope.names,y.2≠eQ.cell
 names:∀x∈scope.names,x.2=eQ.local->scope.names.lookup x.1=some .local
 free:∀x∈scope.names,x.2=eQ.free->sc.names.lookup x.1=some .cell\/sc.names.lookup x.1=some .free
 pre:NY.take N.length=N
 cap:∀p∈N.zipIdx,js.contains p.2=true\/scope.names.lookup p.1=none\/scope.names.lookup p.1=some .free
def HQ(a:List Nat)(k:Nat)(b:St):St:=a.foldl (λs j=>s.set j none) b++dm k none
theorem tK:∀(b:List Nat) (a:St),(b.foldl (λs j=>s.set j none) a).length=a.length
 |[],_=>rfl
 |j::r,a=>by rw[kx,tK r,eX]
theorem C1:∀(c:List Nat) (b:St) (i:Nat) (v:V),(c.foldl (λs j=>s.set j none) b)[i]?=some (some v)->b[i]?=some (some v)/\c.contains i=false
 |[],b,i,v,h=>⟨h,rfl⟩
 |j::r,b,i,v,h=>by
  rw[kx] at h;obtain⟨a,d⟩:=C1 r _ i v h;by_cases e:j=i
  ·subst e;by_cases f:j<b.length
   ·rw[d6 f] at a;cases a
   ·rw[fI (by rw[eX];lia)] at a;cases a
  ·rw[eC e] at a;refine⟨a,?_⟩;rw[List.contains_cons,d];have:(i==j)=false:=by simpa using λz=>e z.symm
   rw[this];rfl
def QK{b:List Nat}{k:Nat}{a:St}{i:Nat}{v:V}(h:(HQ b k a)[i]?=some (some v)):a[i]?=some (some v)/\b.contains i=false:=by
 unfold HQ at h;by_cases c:i<a.length
 ·rw[dX (by rw[tK];exact c)] at h;exact C1 b a i v h
 ·rw[dA (by rw[tK];lia),List.getElem?_replicate] at h;split at h<;>cases h
def QL{b:List Nat}{k:Nat}{a:St}:(HQ b k a).length=a.length+k:=by
 unfold HQ;rw[c9,tK,d3]
def gA(X:Cx)(a:List Str)(scope:Scope)(b:List (Str×c7))(C:c7)(s₀:da)(H₀:Hp)(c:List c7):Cx:=
 {X with N:=a,s₀:=s₀,H₀:=H₀,env:=compEnvC scope b C X.env,outer:=X.stack,ex:=c,fn:=λ_=>false,pn:=[],xe:=λ_ _=>False}
def Lc(X:Cx)(b:List Expr)(t:TT):Prop:=
 ∀(a:List (c7×Obj)) (s:da) (d:St) (H:Hp) (Q:Bool->Hp->Prop),fW X a d H s->t d H Q->
  dJ (model X.prog X.w) X.A (forIn b true λc r=>if r=true then do let e <-isTrue c X.env (eval c X.env);pure (ForInStep.yield e) else pure (ForInStep.yield r)) (TP X a d Q) X.xe s
def kX:TT:=λ_ H Q=>Q true H
def Rv{X:Cx}:Lc X [] kX:=λ_ _ _ H _ I h=>wpAny_tests_nil ⟨H,I,h⟩
def Rw{X:Cx}{c:Expr}{t:TT}(h:PT X c t):Lc X [c] t:=λa s b H Q I q=>wpAny_tests_one (h a s b H Q I q)
def vP(D:c7)(f:TT)(g:TE):TS:=λE a H=>f a H λb d=>if b=true then g a d λy e=>∃c,e D=some (.lst c)/\c.length<c6/\E.nx a (upd e D (.lst (c++[y]))) else E.nx a d
def iq(j:List Nat)(k:Nat)(o:TI)(g:TG)(l:TT)(n:TE):TE:=λb H Q=>o b H λJ e=>∀D,e D=none->
 ∃W:Nat->Nat->St->Hp->Prop,(∃m,W 0 m (HQ j k b) (upd e D (.lst [])))/\∀i m b H,W i m b H->
  (J.stop i H/\Q (.ref D) H)\/(J.go i H/\∃N:St->Hp->Prop,(∀c a,N c a->∃f,f<m/\W (i+1) f c a)/\∀x a,J.yld i H x a->g x b a λd h=>vP D l n {nx:=N,rt:=λ_ _=>False,ct:=N,bk:=λ_ a=>Q (.ref D) a} d h)
section
variable{X:Cx}{pins:List (c7×Obj)}{σ:St}{H2:Hp}{s₂:da}{N NY:List Str}{sc scope:Scope}{cl:List (Str×c7)}{C:c7}{fp:List c7}{js:List Nat}{k:Nat}
def QB(a:fW X pins σ H2 s₂)(k:∀b∈fp,uI X pins H2 b)(l:∀b∈fp,∃o,s₂.heap.get? b=some o)(i:scope.kind=.function)(g:∀y∈scope.names,y.2≠eQ.cell)
  (d:∀n c,cl.lookup n=some c->X.env.cells.lookup n=some c) (j:∀x∈scope.names,x.2=eQ.free->(cl.lookup x.1).isSome=true) (m:s₂.heap.objs.size<=C) :
  (gA X NY scope cl C s₂ H2 fp).Ok where
 mod:=a.ok.mod
 kind:=i
 glob:=a.ok.glob
 blt:=a.ok.blt
 above:=m
 inj:=λx y c p q=>a.ok.inj x y c (d x c p) (d y c q)
 has:=λx s=>by
  have e:scope.names.lookup x=some .free:=O1 (env:=X.env) g s;exact jZ.mp (j (x,.free) (gN e) rfl)
 cab:=λ_ _ h _=>nomatch h
 hd:=a.ok.hd
 frames:=a.ok.frames
 stk:=.inl rfl
 exf:=λb f=>by
  obtain⟨o,r⟩:=l b f;exact⟨eg (eI (dD r) m),λx c h=>(k b f).2.2.2.2.1 x c (d x c h)⟩
 bs:=a.bs
 bsz:=fq a.ok.bsz a.sz
 noex:=λb o e f=>by
  rcases(k b f).2.2.2.1 with z|z
  ·exact a.ok.noex b o e z
  ·exact absurd (eI (dD e) (fq a.ok.bsz z)) (ih _)
 exfs:=λb f z=>by
  rcases dW.mp (a.stkSub b z) with e|e
  ·exact(k b f).2.1 e
  ·exact(k b f).2.2.1 e
 funs:=a.stack
 frf:=a.stkFree
variable{elt iter target:Expr}{ifs:List Expr}{pos:Pos}{it:c7}{tn:Nat->Heap->Prop}{J:It}{g:TG}{tc:TT}{te:TE}{Q:VK}{RR:cV->c7->Result->da->Prop}{E:Zz}
def zO(Z:nU sc N scope NY js)(aF:X.env.scope=sc)(hN:X.N=N)(hk:NY.length=N.length+k)(hc:X.calm=true)(B:fW X pins σ H2 s₂)(T:BU X.prog X.w X.K target J fp it tn)(au:tn 0 s₂.heap)(U:∀b∈fp,uI X pins H2 b)
  (l:∀n c,cl.lookup n=some c->X.env.cells.lookup n=some c) (ae:∀x∈scope.names,x.2=eQ.free->(cl.lookup x.1).isSome=true)
  (hg:∀cl C s₀ H₀ fp,PG (gA X NY scope cl C s₀ H₀ fp) target g) (hi:∀cl C s₀ H₀ fp,Lc (gA X NY scope cl C s₀ H₀ fp) ifs tc) (he:∀cl C s₀ H₀ fp,PE (gA X NY scope cl C s₀ H₀ fp) elt te)
  (ar:∀D,H2 D=none->
   ∃W:Nat->Nat->St->Hp->Prop,(∃m,W 0 m (HQ js k σ) (upd H2 D (.lst [])))/\∀i m σ H,W i m σ H->
    (J.stop i H/\Q (.ref D) H)\/(J.go i H/\∃N:St->Hp->Prop,(∀M H',N M H'->∃m',m'<m/\W (i+1) m' M H')/\∀x H',J.yld i H x H'->g x σ H' λaH H2=>vP D tc te {nx:=N,rt:=λ_ _=>False,ct:=N,bk:=λ_ H'=>Q (.ref D) H'} aH H2))
  (aC:∀D C H' s' m,s'.heap.Ns C m->fW X pins σ H' s'->H' C=none->C≠X.env.locals->X.s₀.heap.objs.size<=C->(∀x c,X.env.cells.lookup x=some c->c≠C)->(∀p∈X.pn++pins,p.1≠C)->D≠C->Q (.ref D) H'->RR (.ref D) C (.ok .next) s') :
  dJ (model X.prog X.w) X.A (newList []) (λaj ax=>dJ (model X.prog X.w) X.A (newFunctionEnv scope X.env.globals cl [] X.env.qual none .none (some X.env)) (λab L=>
   mZ (model X.prog X.w) X.A (.compStart (.ListComp elt [⟨target,iter,ifs,0⟩] scope pos) 0 (.ref it) aj {ab with scope:=relabel scope X.env}) (RR aj ab.locals) L) E ax) E s₂:=by
 refine fU (wpAny_newFunctionEnv Z.cell (by intro y hy;simp at hy) (λI s a=>?_) Z.kind);dsimp only at s a ⊢;generalize hG:s₂.heap.push {cls:=.type "list",dict:=none,data:=.seq ([]:List cV).toArray}=G at s a ⊢;have hC:G.objs.size=s₂.heap.objs.size+1:=by rw[<-hG,ka]
 have af:s₂.heap.objs.size≠G.objs.size:=by rw[hC];exact eg (Nat.lt_succ_self _)
 have j:s₂.heap.objs.size<=G.objs.size:=by rw[hC];exact Nat.le_succ _
 have P:∀b,b<s₂.heap.objs.size->b≠G.objs.size:=λb f=>by rw[hC];exact eg (Nat.lt_succ_of_lt f)
 have R:∀b o,s₂.heap.get? b=some o->I.get? b=some o:=λb o e=>a.extBut b o (P b (dD e)) (df _ (hG ▸ df _ e));have ao:I.get? s₂.heap.objs.size=some {cls:=.type "list",dict:=none,data:=.seq ([]:List cV).toArray}:=a.extBut _ _ af (df _ (hG ▸ dI _ rfl));have ag:∀b∈fp,∃o,s₂.heap.get? b=some o:=λb f=>let⟨o,Y,_⟩:=T.obj 0 _ au b f;⟨o,Y⟩;have fD:H2 s₂.heap.objs.size=none:=B.hok.fresh (dk _);have fC:H2 G.objs.size=none:=B.hok.fresh j;have I4:fW (gA X NY scope cl G.objs.size s₂ H2 fp) [] (HQ js k σ) (upd H2 s₂.heap.objs.size (.lst [])) {s₂ with heap:=I,toks:=s₂.toks+([]:List (Str×cV)).length}:=by
  refine⟨QB B U ag Z.kind Z.cell l ae j,rfl,B.bare,Un.laid R (dk _) fD,⟨_,s,λi y v h1 h2 h3=>?_⟩,λx c h=>?_,?_,λx c h=>?_,λp hp=>absurd (show p∈([]:List (c7×Obj)) from hp) (by simp),B.hok.laid R (dk _) ⟨eV _,[],0,.nil,ao⟩,?_⟩
  ·obtain⟨e1,e2⟩:=QK h2;have hi:i<N.length:=by
    have:=(cR.mp e1).1;rw[B.len,hN] at this;exact this
   have hy:N[i]?=some y:=by
    rw[<-Z.pre,List.getElem?_take_of_lt hi];exact h1
   have hz:(y,i)∈N.zipIdx:=by
    rw[List.mem_zipIdx_iff_getElem?];exact hy
   have nn:scope.names.lookup y≠none:=R1 (env:=X.env) (x:=y) (by
    rcases h3 with z|z|z
    ·intro q;rw[show(relabel scope X.env).names.lookup y=_ from z] at q;cases q
    ·intro q;rw[show(relabel scope X.env).names.lookup y=_ from z] at q;cases q
    ·intro q;rw[show(relabel scope X.env).names.lookup y=_ from z] at q;cases q)
   have ah:scope.names.lookup y=some .free:=by
    rcases Z.cap (y,i) hz with z|z|z
    ·rw[e2] at z;cases z
    ·exact absurd z nn
    ·exact z
   have hX:=Z.free (y,.free) (gN ah) rfl;rw[<-aF] at hX;obtain⟨m,hn,hl⟩:=B.loc;obtain⟨u,ru,lk⟩:=hl i y v (by rw[hN];exact hy) e1 (by
    rcases hX with z|z
    ·exact .inr (.inl z)
    ·exact .inr (.inr z))
   refine⟨u,ru,?_⟩;rcases lk with⟨lk,_⟩|⟨_,c,aD,aE⟩
   ·have lk:X.env.scope.names.lookup y=some .local:=lk;rcases hX with z|z<;>· rw[z] at lk;cases lk
   ·have hs:=ae (y,.free) (gN ah) rfl;obtain⟨c',aq⟩:=jZ.mp hs;have e3:=l y c' aq;rw[aD] at e3;cases e3;refine .inr ⟨?_,c,aq,aE.keeps R⟩;show(relabel scope X.env).names.lookup y=some .cell\/(relabel scope X.env).names.lookup y=some .free;have e:(relabel scope X.env).names.lookup y=_:=mv (env:=X.env) (x:=y) scope.names;rw[e,ah,fO];split
    ·exact .inl rfl
    ·exact .inr rfl
  ·obtain⟨v,q⟩:=B.cell x c (l x c h);exact⟨v,q.keeps R⟩
  ·show upd H2 s₂.heap.objs.size (.lst []) G.objs.size=none;rw[dC (Ne.symm af)];exact fC
  ·have q:=B.freeC x c (l x c h);obtain⟨v,o,Y,_⟩:=B.cell x c (l x c h);show upd H2 s₂.heap.objs.size (.lst []) c=none;rw[dC (eg (dD Y))];exact q
  ·show(HQ js k σ).length=NY.length;rw[QL,B.len,hN,hk]
 have aw:tn 0 I:=T.keep _ _ _ au λb _ o e=>R b o e;obtain⟨W,⟨m0,w0⟩,turn⟩:=ar s₂.heap.objs.size fD;have S:∀{H':Hp},(∀b∈fp,H' b=none)->∀b∈fp,uI (gA X NY scope cl G.objs.size s₂ H2 fp) [] H' b:=λhn b f=>by
  obtain⟨o,Y⟩:=ag b f;refine⟨hn b f,P b (dD Y),λz=>?_,.inl f,λx c h=>(U b f).2.2.2.2.1 x c (l x c h),λp hp=>absurd (show p∈([]:List (c7×Obj)) from hp) (by simp)⟩;rcases dW.mp (B.stkSub b z) with e|e
  ·exact(U b f).2.1 e
  ·exact(U b f).2.2.1 e
 have go:∀L:da,L={s₂ with heap:=I,toks:=s₂.toks+([]:List (Str×cV)).length}->
   mZ (model X.prog X.w) X.A (.compLoop (.ListComp elt [⟨target,iter,ifs,0⟩] scope pos) 0 (.ref it) (.ref s₂.heap.objs.size) (compEnvC scope cl G.objs.size X.env)) (RR (.ref s₂.heap.objs.size) G.objs.size) L:=by
  rintro L rfl;refine D9 (λn s'=>∃i M H',fW (gA X NY scope cl G.objs.size s₂ H2 fp) [] M H' s'/\tn i s'.heap/\(∀b∈fp,H' b=none)/\W i n M H') ?_ m0
   ⟨0,_,_,I4,aw,λb f=>by
    obtain⟨o,Y⟩:=ag b f;rw[dC (eg (dD Y))];exact(U b f).1,w0⟩
  rintro n s3 ⟨i,aa,H3,I3,av,ak,w3⟩;rcases turn i n aa H3 w3 with⟨stop,qn⟩|⟨go,Nx,aB,step⟩
  ·refine kf (T.done (gA X NY scope cl G.objs.size s₂ H2 fp) rfl rfl rfl hc i [] s3 aa H3 _ I3 (S ak) av stop) λr s5 ⟨hr,I5⟩=>?_;subst hr;have IX:fW X pins σ H3 s5:=B.call' (ch:=fp) I5.os I5.base I5.hok I5.bare λb f=>⟨(U b f).2.2.2.1,(U b f).2.1,(U b f).2.2.2.2.1,(U b f).2.2.2.2.2⟩;obtain⟨m,hm,_⟩:=I5.loc;refine aC _ _ H3 s5 m hm IX I5.free (λz=>?_) (fq B.sz j) (λx c h z=>?_) (λp hp z=>?_) af qn
   ·have:=B.lt;rw[<-z] at this;exact ih _ (eI this j)
   ·obtain⟨v,o,Y,_⟩:=B.cell x c h;have:=dD Y;rw[z] at this;exact ih _ (eI this j)
   ·have:=dD (B.pin p hp).1;rw[z] at this;exact ih _ (eI this j)
  ·refine kf (T.item (gA X NY scope cl G.objs.size s₂ H2 fp) rfl rfl rfl hc i [] s3 aa H3 _ I3 (S ak) av go) λr s5 ⟨u,hr,h5⟩=>?_;subst hr;refine kf h5 λ_ s6 ⟨x,H6,I6,r6,y6,ai,aA⟩=>?_;have az:=I6.pinned (S aA) (T.obj _ _ ai);have O:∀{t:St} {H7:Hp} {s7:da},fW (gA X NY scope cl G.objs.size s₂ H2 fp) ([]++Ak fp s6.heap) t H7 s7->Nx t H7->∃m,m<n/\∃i M H',fW (gA X NY scope cl G.objs.size s₂ H2 fp) [] M H' s7/\tn i s7.heap/\(∀b∈fp,H' b=none)/\W i m M H':=λ{t H7 s7} I7 n7=>by
    obtain⟨m',hm,w7⟩:=aB t H7 n7;refine⟨m',hm,i+1,t,H7,I7.unpinned,T.keep _ _ _ ai λb f o e=>(I7.pin (b,o) (eW _ (eW _ (rk f e)))).1,λb f=>?_,w7⟩;obtain⟨o,e,d⟩:=T.obj _ _ ai b f;exact(I7.pin (b,o) (eW _ (eW _ (rk f e)))).2.1
   refine kf (hg cl G.objs.size s₂ H2 fp _ s6 aa H6 x u _ az r6 (step x H6 y6)) λ_ s7 ⟨t,H7,I7,q7⟩=>?_;refine kf (hi cl G.objs.size s₂ H2 fp _ s7 t H7 _ I7 q7) λZ s8 ⟨H8,I8,q8⟩=>?_;cases Z with
   |false=>
    rw[if_neg Bool.false_ne_true] at q8 ⊢;exact O I8 q8
   |true=>
    rw[if_pos rfl] at q8 ⊢;refine kf (he cl G.objs.size s₂ H2 fp _ s8 t H8 _ I8 q8) λy s9 ⟨z,H9,I9,r9,ys,hD,hz,n9⟩=>?_;refine kf (Da (X:=gA X NY scope cl G.objs.size s₂ H2 fp) _ s9 t H9 (.ref s₂.heap.objs.size) [z] (.ref s₂.heap.objs.size) [y] (λ_ H'=>H'=upd H9 s₂.heap.objs.size (.lst (ys++[z]))) I9 rfl (.cons r9 .nil) ⟨_,ys,z,rfl,rfl,hD,hz,rfl⟩) λ_ aJ ⟨_,aI,ay,_,aG⟩=>?_;subst aG;exact O ay n9
 exact codeAny_compStart_list (go _ rfl) (T.self _ 0 _ _ _ aw (go _ rfl))
def Rj{v:TI}(l:nU sc N scope NY js)(f:X.env.scope=sc)(P:X.N=N)(hk:NY.length=N.length+k)(S:X.calm=true)(p:PI X target iter v)
  (Y:∀cl C s₀ H₀ fp,PG (gA X NY scope cl C s₀ H₀ fp) target g) (Z:∀cl C s₀ H₀ fp,Lc (gA X NY scope cl C s₀ H₀ fp) ifs tc) (U:∀cl C s₀ H₀ fp,PE (gA X NY scope cl C s₀ H₀ fp) elt te)
  (hs:∀x,ia iter X.env x=pure x:=by intro _;rfl):PE X (.ListComp elt [⟨target,iter,ifs,0⟩] scope pos) (iq js k v g tc te):=by
 intro pins s σ H Q I h;obtain⟨cl,a,c,d⟩:=zM (scope:=scope) (env:=X.env) λx hx W=>I.ok.has x.1 (by
  have:=l.free x hx W;rw[<-f] at this;exact this)
 rw[eval_ListComp];refine wpAny_comprehension_free (use:=none) rfl hs a l.kind l.names (kf (p pins s σ H _ I h) λxv u i=>kf i λaa s₂ j=>?_);obtain⟨it,fp,tn,J,H2,rfl,z,T,t,M,loop⟩:=j;refine zO (RR:=λn C=>compPost (model X.prog X.w) X.A X.xe none (EP X pins σ Q) n C) (Q:=Q) l f P hk S z T t M c d Y Z U loop ?_;intro D C y s' m hm B O E G K L _ q;exact⟨m,hm,λh' r=>⟨.ref D,y,B.turned (t':=s'.toks) (λb o R e=>(r.2 b R).trans e) O E (.inr G) K L,rfl,q⟩⟩
def RB{Y:TI}{i:Nat}{y:Str}{f c:Pos}(u:nU sc N scope NY js)(n:X.env.scope=sc)(hN:X.N=N)(hk:NY.length=N.length+k)(hc:X.calm=true)(K:PI X target iter Y)
  (hg:∀cl C s₀ H₀ fp,PG (gA X NY scope cl C s₀ H₀ fp) target g) (hi:∀cl C s₀ H₀ fp,Lc (gA X NY scope cl C s₀ H₀ fp) ifs tc) (he:∀cl C s₀ H₀ fp,PE (gA X NY scope cl C s₀ H₀ fp) elt te)
  (nd:X.N.Nodup) (hy:X.N[i]?=some y) (hl:Nd X.env.scope y) (O:mK (.ListComp elt [⟨target,iter,ifs,0⟩] scope pos) (some (.Name y f)) c.line X.env=pure true)
  (hs:∀x,ia iter X.env x=pure x:=by intro _;rfl) (G:X.fn y=true\/X.env.scope.names.lookup y=some .local:=by first|exact .inl rfl|exact .inr rfl|assumption) :
  PS X (.Assign [.Name y f] (.ListComp elt [⟨target,iter,ifs,0⟩] scope pos) c) (eF (iq js k Y g tc te) (dy i)):=by
 intro pins s σ H D I h;obtain⟨cl,d,j,l⟩:=zM (scope:=scope) (env:=X.env) λx hx G=>I.ok.has x.1 (by
  have:=u.free x hx G;rw[<-n] at this;exact this)
 rw[exec_Assign_Name_used _ _ _ _ O];refine cS (pT (cS ?_));show dJ _ X.A (do let _ <-comprehension (.ListComp elt [⟨target,iter,ifs,0⟩] scope pos) scope X.env _ (newList []) false (eval iter X.env) (some (assign (.Name y f) X.env))) _ _ s;refine cS (iI (wpAny_comprehension_free (use:=some (assign (.Name y f) X.env)) (Q:=λ_ t=>SP X pins D .next t) rfl hs d u.kind u.names
  (kf (K pins s σ H _ I h) λxv W p=>kf p λaa s₂ r=>?_)) (λ_ t hq=>di (di hq)) λ_ _ e=>e)
 obtain⟨it,fp,tn,J,H2,rfl,I2,T,P,f2,loop⟩:=r;refine zO (RR:=λB C=>compPost (model X.prog X.w) X.A X.xe (some (assign (.Name y f) X.env)) (λ_ t=>SP X pins D .next t) B C) (Q:=λx H1=>dy i x σ H1 D.nx) u n hN hk hc I2 T P f2 j l hg hi he loop ?_;intro R C Z t m hm IX fC S c2 U c4 _ q;show dJ _ X.A (assign (.Name y f) X.env (.ref R)) _ _ _;refine wpAny_assign_Name (Dr IX nd hy hl (v:=.ref R) rfl (λs2 IY ⟨a,sb,E⟩=>?_) G);have L:C≠a:=by
  rcases E with rfl|E
  ·exact S
  ·exact λz=>U y a E z.symm
 exact⟨m,hm.sameBut sb L,λh' M=>⟨_,Z,IY.turned (t':=s2.toks) (λb o hb e=>(M.2 b hb).trans e) fC S (.inr c2) U c4,q⟩⟩
end
section
variable{X:Cx}{pins:List (c7×Obj)}{σ:St}{H:Hp}{s:da}{h':Heap}
def fW.turnedL{t':Nat}{ch:List c7}(I:fW X pins σ H s)(k:∀b o,b∉ch->s.heap.get? b=some o->h'.get? b=some o)(d:∀b∈ch,uI X pins H b) :
  fW X pins σ H {s with heap:=h',toks:=t'}:=by
 have f:∀b u,H b=some u->b∉ch:=λb u e z=>by rw[(d b z).1] at e;cases e
 refine I.step (g':=s.gens) (d':=s.drawn) (ch:=ch) (λb g=>⟨(d b g).2.2.2.1,(d b g).2.1,(d b g).2.2.2.2.1,(d b g).2.2.2.2.2⟩) (λb o _ _ a e _=>k b o a e) (λb o _ _ a e _=>⟨o.slots,k b o a e⟩) (λ_ _ _ _ n=>n)
  (λb o a e=>⟨o,k b o a e⟩) (λ_ _ e=>e) (λ_ _ _ e=>e) (λb p e=>⟨#[],by rw[e];simp⟩) (λm j=>?_) (λb u e=>?_) I.bare
 ·obtain⟨o,i,h,l,r⟩:=j;exact⟨o,i,h,k _ o (λz=>(d _ z).2.1 rfl) l,r⟩
 ·refine(I.hok b u e).stay (λc v a q=>k c v ?_ q) (λ_ q=>q) λ_ _ q=>q;rcases a with z|z
  ·rw[z];exact f b u e
  ·exact f c _ z
def fW.adopt{T:c7}{o:HO}(I:fW X pins σ H s)(d:uI X pins H T)(h:kb X.prog X.w (upd H T o) s.heap T o):fW X pins σ (upd H T o) s:=by
 have f:∀b u,H b=some u->b≠T:=λb u e z=>by rw[z,d.1] at e;cases e
 refine I.step (h':=s.heap) (H':=upd H T o) (g':=s.gens) (d':=s.drawn) (t':=s.toks) (ch:=[T]) (λb a=>?_) (λb _ _ _ _ e _=>e) (λb g _ _ _ e _=>⟨g.slots,e⟩) (λb g a _ n=>?_)
  (λb g _ e=>⟨g,e⟩) (λb j e=>?_) (λb g u e=>?_) (λb k e=>⟨#[],?_⟩) (λm i=>i) (λb u e=>?_) I.bare
 ·have e:b=T:=by simpa using a
  subst e;exact⟨d.2.2.2.1,d.2.1,d.2.2.2.2.1,d.2.2.2.2.2⟩
 ·rw[dC (λz=>a (by simp[z]))];exact n
 ·rw[dC (f b _ e)];exact e
 ·rw[dC (f b _ e)];exact e
 ·rw[dC (f b _ e),e];simp
 ·by_cases a:b=T
  ·subst a;rw[cW] at e;cases e;exact h
  ·rw[dC a] at e;exact(I.hok b u e).stay (λc v _ q=>q) (λc q=>by rw[dC (f c _ q)];exact q) λc j q=>by rw[dC (f c _ q)];exact q
end
def Vy(K:Fg)(a:c7):It:=
 ⟨λi H=>∃b x,fR K H a b/\b[i]?=some x,λi H x c=>∃p v,H p=none/\x=.ref p/\c=upd H p (.tup [.int (i:Nat),v])/\∀b,fR K H a b->b[i]?=some v,λi H=>∃b,fR K H a b/\b.length<=i⟩
def Vz(K:Fg)(a b:c7):It:=
 ⟨λi H=>∃c x d y,fR K H a c/\c[i]?=some x/\fR K H b d/\d[i]?=some y,
  λi H x e=>∃p v u,H p=none/\x=.ref p/\e=upd H p (.tup [v,u])/\(∀c,fR K H a c->c[i]?=some v)/\∀d,fR K H b d->d[i]?=some u,
  λi H=>∃c d,fR K H a c/\fR K H b d/\(c.length<=i\/d.length<=i)⟩
def ze{X:Cx}{H:Hp}{h:Heap}{T:c7}{x y:V}{u v:cV}{n:Nat}(e:h.get? T=some {cls:=.type "tuple",data:=.seq #[u,v] n})(a:hV x u)(b:hV y v):kb X.prog X.w H h T (.tup [x,y]):=
 ⟨show 2<=c6 by decide,[u,v],.cons a (.cons b .nil),⟨_,e,⟨rfl,rfl⟩,_,rfl⟩⟩
def Q7{h:Heap}{it a:c7}{i:Nat}{l:c7}{items:Array cV}(p:h.IsList a items)(q:h.IsListIter it l i):a≠it:=by
 intro e;subst e;obtain⟨o,f,d,_⟩:=p;obtain⟨g,c,b,_⟩:=q;rw[f] at c;cases c;rw[d] at b;injection b with c3;exact absurd c3 (by decide)
def ML{P:dv}{w:dQ}{K:Fg}{J:List Expr}{k:Nat}{pos:Pos}(a e it:c7)(B:e≠it) :
  BU P w K (.Tuple J k pos) (Vy K a) [e,it] e (λi h=>(∃g,IsEnum h e it (i:Nat) g)/\h.IsListIter it a i) where
 mem:=by simp
 obj:=λi h r b f=>by
  obtain⟨⟨g,j⟩,⟨o,C,c,d⟩⟩:=r;rcases dW.mp f with rfl|f
  ·exact⟨_,j,λv z=>by have z':Data.fields _=Data.cell v:=z;cases z'⟩
  ·rw[dc.mp f];exact⟨o,C,λv z=>by rw[d] at z;cases z⟩
 keep:=λi h h' r k=>⟨let⟨g,j⟩:=r.1;⟨g,k e (by simp) _ j⟩,r.2.at λo q=>k it (by simp) o q⟩
 item:=by
  intro X L hw U Y i m s σ H E I O r hg;subst L hw U;obtain⟨⟨g,j⟩,hit⟩:=r;obtain⟨xs,x,Q,hx⟩:=hg;obtain⟨l,rv,p,hz⟩:=I.list Q;obtain⟨u,hu,ru⟩:=rv.get hx;have ab:i<l.toArray.size:=by have:=(cR.mp hu).1;simpa using this
  have na:a≠it:=Q7 p.isList hit;have nb:e≠a:=by
   intro z;subst z;obtain⟨o,n,e1,c1,_⟩:=p;rw[j] at e1;cases e1;injection c1 with c3;exact absurd c3 (by decide)
  have Dw:=Draws.list (prog:=X.prog) (w:=X.w) (A:=X.A.in1) (show X.A.in1.handled=none from I.ok.hd Y) it a na l.toArray;refine wpAny_pyNext_enum_itemD Dw j ⟨hit,p.isList⟩ ab B (by simp[B,nb]) λy S R L C af M ag hk=>?_;have ey:y=u:=by
   have S:l.toArray[i]?=some y:=L;have G:l[i]?=some y:=by simpa using S
   rw[hu] at G;exact(Option.some.inj G).symm
  subst ey;refine⟨_,rfl,?_⟩;have fT:uI X m H s.heap.objs.size:=I.fpOk (dk _) (I.hok.fresh (dk _));refine wpAny_letOwnedTupleGo_enum C λG aa D=>?_;have t:e<s.heap.objs.size:=dD j;have I1:fW X m σ H {s with heap:=G,toks:=R+1}:=I.turnedL (t':=R+1) (ch:=[e,it]) (λb o f q=>by
   have b1:b≠e:=λz=>f (by simp[z]);have b2:b≠it:=λz=>f (by simp[z]);exact(D.2 b b1).trans (hk b o b1 b2 q)) O
  have gT:G.get? s.heap.objs.size=some {cls:=.type "tuple",data:=.seq #[.int i R,y]}:=(D.2 _ (oB t)).trans M;have I2:=I1.adopt (T:=s.heap.objs.size) (o:=.tup [.int (i:Nat),x]) fT (ze (X:=X) gT ⟨R,rfl⟩ ru);refine⟨.ref s.heap.objs.size,_,I2,rfl,⟨s.heap.objs.size,x,fT.1,rfl,rfl,λys hy=>by rw[I.list_inj hy Q];exact hx⟩,⟨⟨y,?_⟩,?_⟩,λb f=>?_⟩
  ·have e2:(((i+1:Nat):Nat):Int)=(i:Int)+1:=by lia
   show IsEnum G e it (((i+1:Nat):Nat):Int) y;rw[e2];exact aa
  ·obtain⟨o,q1,q2⟩:=af.1;exact⟨o,(D.2 it (Ne.symm B)).trans q1,q2⟩
  ·have nT:b≠s.heap.objs.size:=by
    rcases dW.mp f with rfl|f
    ·exact eg t
    ·rw[dc.mp f];obtain⟨o,C,_⟩:=hit;exact eg (dD C)
   rw[dC nT];exact(O b f).1
 done:=by
  intro X L hw U Y i m s σ H E I O r hg;subst L hw U;obtain⟨⟨g,j⟩,hit⟩:=r;obtain⟨xs,Q,hx⟩:=hg;obtain⟨l,rv,p,hz⟩:=I.list Q;have hl:=rv.length;have M:s.TypeIs (.ref e) "enumerate":=⟨_,j,rfl⟩;unfold nN;refine cS (jY (e8 (name:=Str.ofString "__next__") M F.slot_enumerate_next
   (e9 F.slot_enumerate_next M F.entry_enumerate_next ?_ (F.args_enumerate_next_1 _))))
  show dJ _ _ (field (.ref e) 2 >>= _) _ _ _;refine cS (eM j rfl (x:=.ref it) rfl ?_);refine cS (wpAny_nextOf_list_end (show X.A.in1.handled=none from I.ok.hd Y) hit p.isList (by simp;lia) λS x1 eb ae=>?_);obtain⟨o,C,Z⟩:=ae;refine cS (iz (T:="StopIteration") (b:=true) ⟨o,C,Z⟩ oP ?_);exact di ⟨rfl,I.turnedL (t':=s.toks) (ch:=[e,it]) (λb ob f q=>eb b ob (λz=>f (by simp[z])) q) O⟩
 self:=λ_ _ _ _ _ r h=>let⟨_,j⟩:=r.1;lW j h
section
variable{X:Cx}{elts:List Expr}{k:Nat}{tpos:Pos}
def NZ(K:Fg)(c:TA):TI:=λf H R=>c f H λd b=>∃a,d=[.ref a]/\(∃e,fR K b a e)/\R (Vy K a) b
def Rq{a:Expr}{o:TA}{p pos:Pos}(x:Gl X "enumerate")(z:X.mg "enumerate"=none)(w:PA X [a] o)(C:dH [a] X.env=[(false,eval a X.env)]:=by rfl) :
  PI X (.Tuple elts k tpos) (.Call (.Name "enumerate" p) [a] [] pos) (NZ X.K o):=by
 intro c s t H R I h;refine Call_ (pk I x z boot_enumerate (fL (kf (w pos c s t H _ I h) λQ d ⟨S,m,g,L,J⟩=>?_) C rfl));obtain⟨l,e,⟨T,B⟩,q⟩:=J;subst e;cases L with
 |cons r M=>
  cases M;cases r;obtain⟨E,P,G,O⟩:=g.list B;refine call_enumerate_list G.isList λv n j D y=>?_;refine lW n ?_;have u:fW X c t m {d with heap:=v}:=g.kept (t':=d.toks) y;refine⟨d.heap.objs.size+1,[d.heap.objs.size+1,d.heap.objs.size],_,_,m,rfl,u,ML l _ _ (Nat.succ_ne_self _),⟨⟨.none,n⟩,j⟩,λb i=>?_,q⟩;have f:d.heap.objs.size<=b:=by
   rcases dW.mp i with rfl|i
   ·lia
   ·rw[dc.mp i];exact dk _
  exact g.fpOk f (g.hok.fresh f)
end
def PQ{P:dv}{w:dQ}{K:Fg}{O:List Expr}{k:Nat}{pos:Pos}(z TI TO t B l1 l2:c7)(D:qo z TI TO t B l1 l2) :
  BU P w K (.Tuple O k pos) (Vz K l1 l2) [z,TI,TO,t,B] z (λi h=>IsZip h z TI TO .none/\kD h TI (.ref t) (.ref B)/\(∃a b,kD h TO a b)/\h.IsListIter t l1 i/\h.IsListIter B l2 i) where
 mem:=by simp
 obj:=λi h p b g=>by
  obtain⟨j,d,⟨Y,Z,f⟩,⟨o1,e1,c1,d1⟩,⟨o2,e2,c2,d2⟩⟩:=p;simp only[dW,gq,or_false] at g;rcases g with rfl|rfl|rfl|rfl|rfl
  ·exact⟨_,j,λv q=>by have U:Data.fields _=Data.cell v:=q;cases U⟩
  ·exact⟨_,d,λv q=>by have U:Data.seq _ _=Data.cell v:=q;cases U⟩
  ·exact⟨_,f,λv q=>by have U:Data.seq _ _=Data.cell v:=q;cases U⟩
  ·exact⟨o1,e1,λv q=>by rw[d1] at q;cases q⟩
  ·exact⟨o2,e2,λv q=>by rw[d2] at q;cases q⟩
 keep:=λi h h' p k=>by
  obtain⟨j,d,⟨Y,Z,f⟩,J,L⟩:=p;exact⟨k z (by simp) _ j,k TI (by simp) _ d,⟨Y,Z,k TO (by simp) _ f⟩,J.at λo q=>k t (by simp) o q,L.at λo q=>k B (by simp) o q⟩
 item:=by
  intro X hP hw hK hc i l s σ H E I hf p hg;subst hP hw hK;obtain⟨j,d,⟨Y,Z,f⟩,J,L⟩:=p;obtain⟨xs,x,ys,y,m,hx,n,hy⟩:=hg;obtain⟨R,C,p1,_⟩:=I.list m;obtain⟨S,G,p2,_⟩:=I.list n;obtain⟨u,hu,ru⟩:=C.get hx;obtain⟨v,hv,rv⟩:=G.get hy;refine wpAny_pyNext_zip_item D j d f J L p1.isList p2.isList (x:=u) (y:=v) (by simpa using hu) (by simpa using hv) λh3 a1 a2 a3 a4 a5 a6 hk=>?_;refine⟨_,rfl,?_⟩;have fT:uI X l H s.heap.objs.size:=I.fpOk (dk _) (I.hok.fresh (dk _));have M:∀{c o},s.heap.get? c=some o->c≠s.heap.objs.size:=λe=>eg (dD e);refine wpAny_letOwnedTupleGo_zip a1 λh4 aa r=>?_;have I1:fW X l σ H {s with heap:=h4,toks:=s.toks}:=I.turnedL (t':=s.toks) (ch:=[z,TI,TO,t,B]) (λb o g q=>by
   have b1:b≠z:=λe=>g (by simp[e]);exact(r.2 b b1).trans (hk b o b1 (λe=>g (by simp[e])) (λe=>g (by simp[e])) (λe=>g (by simp[e])) q)) hf
  have gT:h4.get? s.heap.objs.size=some {cls:=.type "tuple",data:=.seq #[u,v]}:=(r.2 _ (Ne.symm (M j))).trans a5;have I2:=I1.adopt (T:=s.heap.objs.size) (o:=.tup [x,y]) fT (ze (X:=X) gT ru rv);have ext:∀c o,c≠z->h3.get? c=some o->h4.get? c=some o:=λc o hc q=>(r.2 c hc).trans q;refine⟨.ref s.heap.objs.size,_,I2,rfl,⟨s.heap.objs.size,x,y,fT.1,rfl,rfl,λzs j=>by rw[I.list_inj j m];exact hx,λzs j=>by rw[I.list_inj j n];exact hy⟩,
   ⟨aa,ext _ _ D.TIz (hk _ _ D.TIz D.TITO D.TIi1 D.TIi2 d),⟨_,_,ext _ _ D.TOz a2⟩,a3.at λo q=>ext _ o D.i1z q,a4.at λo q=>ext _ o D.i2z q⟩,λb g=>?_⟩
  have nT:b≠s.heap.objs.size:=by
   obtain⟨o1,e1,_⟩:=J;obtain⟨o2,e2,_⟩:=L;simp only[dW,gq,or_false] at g;rcases g with rfl|rfl|rfl|rfl|rfl
   ·exact M j
   ·exact M d
   ·exact M f
   ·exact M e1
   ·exact M e2
  rw[dC nT];exact(hf b g).1
 done:=by
  intro X hP hw hK hc i l s σ H E I hf p hg;subst hP hw hK;obtain⟨j,d,⟨Y,Z,f⟩,J,L⟩:=p;obtain⟨xs,ys,m,n,Q⟩:=hg;obtain⟨R,C,p1,_⟩:=I.list m;obtain⟨S,G,p2,_⟩:=I.list n;have ab:=C.length;have ae:=G.length;refine wpAny_pyNext_zip_end (I.ok.hd hc) D j d f J L p1.isList p2.isList (Q.imp (λh=>by simp;lia) λh=>by simp;lia) λh3 hk=>⟨rfl,?_⟩;exact I.turnedL (t':=s.toks) (ch:=[z,TI,TO,t,B]) (λb o g q=>hk b o (λe=>g (by simp[e])) (λe=>g (by simp[e])) (λe=>g (by simp[e])) (λe=>g (by simp[e])) q) hf
 self:=λ_ _ _ _ _ p h=>mL p.1 h
section
variable{X:Cx}{elts:List Expr}{k:Nat}{tpos:Pos}
def T1(K:Fg)(e:TA):TI:=λg H R=>e g H λf c=>∃a b,f=[.ref a,.ref b]/\(∃d,fR K c a d)/\(∃d,fR K c b d)/\R (Vz K a b) c
def UT{a b:Expr}{J:TA}{p pos:Pos}(T:Gl X "zip")(W:X.mg "zip"=none)(S:PA X [a,b] J)(Y:dH [a,b] X.env=[(false,eval a X.env),(false,eval b X.env)]:=by rfl)(g:dH [b] X.env=[(false,eval b X.env)]:=by rfl) :
  PI X (.Tuple elts k tpos) (.Call (.Name "zip" p) [a,b] [] pos) (T1 X.K J):=by
 intro c s L H R I h;refine Call_ (pk I T W boot_zip (fL (kf (S pos c s L H _ I h) λus i ⟨vs,w,d,r1,q1⟩=>?_) (by rw[Y,g]) (by rw[g];rfl)));obtain⟨C,D,e,⟨xs,t⟩,⟨ys,u⟩,q⟩:=q1;subst e;cases r1 with
 |cons r v=>
  cases v with
  |cons r' v=>
   cases v;cases r;cases r';obtain⟨z,aa,E,_⟩:=d.list t;obtain⟨B,ab,G,_⟩:=d.list u;have O:C<i.heap.objs.size:=by obtain⟨o,e,_⟩:=E.isList;exact dD e
   have P:D<i.heap.objs.size:=by obtain⟨o,e,_⟩:=G.isList;exact dD e
   refine call_zip_2 E.isList G.isList λQ y j l m n Z U=>?_;refine mL y ?_;have M:fW X c L w {i with heap:=Q}:=d.kept (t':=i.toks) U;refine⟨_,_,_,_,w,rfl,M,PQ _ _ _ _ _ C D (zipApart_new O P),⟨y,j,⟨_,_,l⟩,m,n⟩,λb x=>?_,q⟩;have f:i.heap.objs.size<=b:=by
    simp only[dW,gq,or_false] at x;rcases x with rfl|rfl|rfl|rfl|rfl<;>lia
   exact d.fpOk f (d.hok.fresh f)
end
def NP{K:Fg}{a:c7}{xs:List V}{g:TG}{k:TS}{D:pd}{b:St}{H:Hp}(c:Nat->St->Hp->Prop)(n:c 0 b H)(s:∀i b H,i<=xs.length->c i b H->fR K H a xs)
  (t:∀i x b H p,xs[i]?=some x->H p=none->c i b H->g (.ref p) b (upd H p (.tup [.int (i:Nat),x])) λf H2=>k {D with nx:=c (i+1),ct:=c (i+1),bk:=D.nx} f H2) (o:∀b H,c xs.length b H->D.nx b H) :
  ∃W:Nat->Nat->St->Hp->Prop,(∃m,W 0 m b H)/\∀i m b H,W i m b H->
   ((Vy K a).stop i H/\D.nx b H)\/((Vy K a).go i H/\∃N:St->Hp->Prop,(∀d H',N d H'->∃j,j<m/\W (i+1) j d H')/\∀x H',(Vy K a).yld i H x H'->g x b H' λf H2=>k {D with nx:=N,ct:=N,bk:=D.nx} f H2):=by
 refine⟨λi m b H=>m=xs.length-i/\i<=xs.length/\c i b H,⟨xs.length,by simp,eV _,n⟩,?_⟩;rintro i m b H ⟨rfl,r,p⟩;have q:=s i b H r p;by_cases h:i<xs.length
 ·refine .inr ⟨⟨xs,xs[i],q,by simp[h]⟩,c (i+1),λd H' u=>⟨xs.length-(i+1),by lia,rfl,h,u⟩,λx H' y=>?_⟩;obtain⟨w,v,l,rfl,rfl,y⟩:=y;exact t i v b H w (y xs q) l p
 ·have e:i=xs.length:=by lia
  subst e;exact .inl ⟨⟨xs,q,dk _⟩,o b H p⟩
def QR{K:Fg}{a b:c7}{xs ys:List V}{g:TG}{q:TS}{D:pd}{c:St}{H:Hp}(J:xs.length=ys.length)(d:Nat->St->Hp->Prop)(s:d 0 c H)(z:∀i c H,i<=xs.length->d i c H->fR K H a xs/\fR K H b ys)
  (B:∀i x y c H p,xs[i]?=some x->ys[i]?=some y->H p=none->d i c H->g (.ref p) c (upd H p (.tup [x,y])) λh H2=>q {D with nx:=d (i+1),ct:=d (i+1),bk:=D.nx} h H2) (t:∀c H,d xs.length c H->D.nx c H) :
  ∃W:Nat->Nat->St->Hp->Prop,(∃m,W 0 m c H)/\∀i m c H,W i m c H->
   ((Vz K a b).stop i H/\D.nx c H)\/((Vz K a b).go i H/\∃N:St->Hp->Prop,(∀f H',N f H'->∃o,o<m/\W (i+1) o f H')/\∀x H',(Vz K a b).yld i H x H'->g x c H' λh H2=>q {D with nx:=N,ct:=N,bk:=D.nx} h H2):=by
 refine⟨λi m c H=>m=xs.length-i/\i<=xs.length/\d i c H,⟨xs.length,by simp,eV _,s⟩,?_⟩;rintro i m c H ⟨rfl,w,p⟩;obtain⟨l,n⟩:=z i c H w p;by_cases j:i<xs.length
 ·have k:i<ys.length:=by lia
  refine .inr ⟨⟨xs,xs[i],ys,ys[i],l,by simp[j],n,by simp[k]⟩,d (i+1),λf H' C=>⟨xs.length-(i+1),by lia,rfl,j,C⟩,λx H' y=>?_⟩;obtain⟨E,v,u,r,rfl,rfl,G,I⟩:=y;exact B i v u c H E (G xs l) (I ys n) r p
 ·have e:i=xs.length:=by lia
  subst e;exact .inl ⟨⟨xs,ys,l,n,.inl (dk _)⟩,t c H p⟩
end L2
namespace PySem
open Sem (wp)
open Builtin MeetsSeq MeetsSeq2 MeetsSeq3
def xh:fillsNumberSlot (.type "tuple") "mul"=pure false:=
 fillsNumberSlot_seq (id:="tuple.__mul__") (r:=some (.builtin "tuple.__rmul__")) F.slot_tuple_mul.lookup (by decide +kernel) F.slot_tuple_rmul.lookup (by decide +kernel)
def EJ:seqRepeat? (.type "tuple")=pure (some (.builtin "tuple.__mul__")):=by
 unfold seqRepeat?;rw[seqSlot_of (T:="tuple") (name:="__mul__") (id:="tuple.__mul__") F.slot_tuple_mul.lookup (by decide +kernel),seqSlot_of (T:="tuple") (name:="__rmul__") (id:="tuple.__rmul__") F.slot_tuple_rmul.lookup (by decide +kernel)];rfl
def zV(a:Int)(t:Tok)(l:c7)(items:Array cV)(n:Nat)(c:Option c7)(sl:Array (Option cV)) :
  Meets (dS.«int.__rmul__» ⟨[.int a t,.ref l],[]⟩) (λ_ R s=>s.heap.get? l=some {cls:=.type "tuple",dict:=c,data:=.seq items n,slots:=sl}/\R (.ok (.ret cV.notImplemented)) s):=
 .of_wp λb w A R s h=>by obtain⟨f,g,d,j,i⟩:=s;obtain⟨e,h⟩:=h;wp_walk;exact⟨_,rfl,h⟩
def BA(l:c7)(items:Array cV)(n:Nat)(i:Option c7)(sl:Array (Option cV))(x:Int)(u:Tok)(o:-(2 ^ 63)<=x)(k:x<2 ^ 63)(c:items.isEmpty=false)(j:¬x=1)(p:0<x)(hsz:items.size*x.toNat<=c6) :
  Meets (dS.«tuple.__mul__» ⟨[.ref l,.int x u],[]⟩) (λ_ R s=>s.heap.get? l=some {cls:=.type "tuple",dict:=i,data:=.seq items n,slots:=sl}/\
   R (.ok (.ret (cV.ref s.heap.objs.size))) {s with heap:=s.heap.push {cls:=cV.type "tuple",data:=Data.seq (qW (λa b=>a++b) #[] (dm x.toNat items))},toks:=s.toks}):=
 .of_wp λf w A R s h=>by
  obtain⟨p,g,d,y,v⟩:=s;obtain⟨m,h⟩:=h;have q:(decide (x < -(2 ^ 63)) || decide (x >= 2 ^ 63))=false:=by simp;lia
  have z:(items.isEmpty || x==1)=false:=by simp[c,j]
  have B:(decide (x<=0) || items.isEmpty)=false:=by simp[c];lia
  have ex:(items.size:Int)*x=((items.size*x.toNat:Nat):Int):=by
   rw[Int.natCast_mul];congr 1;lia
  have r:¬((items.size:Int)*x>(2 ^ 63-1) / 8):=by
   rw[ex];have:(c6:Nat)<=(2 ^ 63-1) / 8:=by decide
   lia
  have t:Tuple.tupleTooMany ((items.size:Int)*x)=false:=by
   unfold Tuple.tupleTooMany;rw[ex];exact decide_eq_false (by lia)
  have C:(qW (λ(a b:Array cV)=>a++b) #[] (dm x.toNat items)).size<=c6:=by
   have e:=AutoListH.size_joined items x.toNat #[];rw[e,u9];simpa using hsz
  wp_walk
  refine wpAny_ite_false (by rw[q];rfl) ?_
  wp_walk using AutoSeq1.wpAny_loadPart' m
  refine wpAny_ite_false (decide_eq_false r) ?_
  wp_walk
  refine wpAny_ite_false (by rw[t];rfl) ?_
  wp_walk
  exact⟨_,rfl,h⟩
def CH(l:c7)(items:Array cV)(n:Nat)(b:Option c7)(sl:Array (Option cV))(u:Tok) :
  Meets (dS.«tuple.__mul__» ⟨[.ref l,.int 1 u],[]⟩) (λ_ R s=>s.heap.get? l=some {cls:=.type "tuple",dict:=b,data:=.seq items n,slots:=sl}/\R (.ok (.ret (cV.ref l))) s):=
 .of_wp λa w A R s h=>by
  obtain⟨e,g,d,i,f⟩:=s;obtain⟨c,h⟩:=h;have j:(items.isEmpty || (1:Int)==1)=true:=by simp
  wp_walk using AutoSeq1.wpAny_loadPart' c
  first|exact⟨_,rfl,h⟩|trace_state
def BB(l:c7)(items:Array cV)(n:Nat)(b:Option c7)(sl:Array (Option cV))(u:Tok)(c:items.isEmpty=false) :
  Meets (dS.«tuple.__mul__» ⟨[.ref l,.int 0 u],[]⟩) (λ_ R s=>s.heap.get? l=some {cls:=.type "tuple",dict:=b,data:=.seq items n,slots:=sl}/\
   R (.ok (.ret (cV.ref s.heap.objs.size))) {s with heap:=s.heap.push {cls:=cV.type "tuple",data:=Data.seq #[]},toks:=s.toks}):=
 .of_wp λa w A R s h=>by
  obtain⟨f,g,d,j,i⟩:=s;obtain⟨e,h⟩:=h;have k:(items.isEmpty || (0:Int)==1)=false:=by simp[c]
  have m:(decide ((0:Int)<=0) || items.isEmpty)=true:=by simp
  wp_walk using AutoSeq1.wpAny_loadPart' e
  first|exact⟨_,rfl,h⟩|trace_state
end PySem
namespace L2
open PySem PySem.Spec PyProof.Rows
section
variable{X:Cx}
def Td(K:Fg):R2:=λx y H Q=>∃(l:c7) (k:Nat) (a:List V),x=.ref l/\y=.int (k:Nat)/\fA K H l a/\a≠[]/\a.length*k<=c6/\(k=1->Q (.ref l) H)/\
 (k≠1->∀p,H p=none->Q (.ref p) (upd H p (.tup (dm k a).flatten)))
def Rf:oD X (iH .Mult) (Td X.K):=by
 intro f s M H x y v u Q I rx ry h;obtain⟨l,k,xs,rfl,rfl,S,B,J,Y,L⟩:=h;cases rx;obtain⟨t,rfl⟩:=ry;obtain⟨c,r,⟨⟨cls,m,data,p⟩,e,D,n,E⟩,hl⟩:=I.tuple S;simp only at D E;subst D E;have d:=r.length;have z:c.toArray.isEmpty=false:=by
  cases c with
  |nil=>simp at d;exact absurd d B
  |cons a Z=>rfl
 have W:c.toArray.size*k<=c6:=by rw[dq,<-d];exact J
 have j:dJ (model X.prog X.w) X.A (call (.builtin "tuple.__mul__") [.ref l,.int (k:Nat) t]) (EP X f M Q) X.xe s->dJ (model X.prog X.w) X.A (iH .Mult (.ref l) (.int (k:Nat) t)) (EP X f M Q) X.xe s:=λg=>
  wpAny_binaryOp_repeat_ref (T:="tuple") (U:="int") (by decide) ⟨_,e,rfl⟩ (λs'=>qV s' k t) xh F.fills_int_mul F.slot_int_rmul EJ F.slot_int_index.lookup
   (kQ F.slot_int_rmul (qV s k t) F.entry_int_rmul (F.args_int_rmul_2 _ _) (zV k t l c.toArray n m p) ⟨e,rfl,⟨_,e,rfl⟩,g⟩)
 refine j ?_;by_cases q:k=1
 ·subst q;exact kQ F.slot_tuple_mul ⟨_,e,rfl⟩ F.entry_tuple_mul (F.args_tuple_mul_2 _ _) (CH l c.toArray n m p t) ⟨e,⟨.ref l,H,I,rfl,Y rfl⟩⟩
 ·have G:H s.heap.objs.size=none:=I.hok.fresh (dk _);by_cases P:k=0
  ·subst P;refine kQ F.slot_tuple_mul ⟨_,e,rfl⟩ F.entry_tuple_mul (F.args_tuple_mul_2 _ _) (BB l c.toArray n m p t z) ⟨e,⟨.ref s.heap.objs.size,_,?_,rfl,L q _ G⟩⟩;exact I.laid (t':=s.toks) (λb o e=>df _ e) (dk _) ⟨eV _,[],.nil,⟨_,dI _ rfl,⟨rfl,rfl⟩,_,rfl⟩⟩
  ·have i:(k:Int)<2 ^ 63:=by
    have R:1<=c.toArray.size:=by
     cases c with
     |nil=>simp at z
     |cons a Z=>simp
    have h4:k<=c.toArray.size*k:=Nat.le_mul_of_pos_left k R;have h5:(c6:Nat)<2 ^ 63:=by decide
    lia
   refine kQ F.slot_tuple_mul ⟨_,e,rfl⟩ F.entry_tuple_mul (F.args_tuple_mul_2 _ _) (BA l c.toArray n m p k t (by lia) i z (by lia) (by lia) (by simpa using W)) ⟨e,?_⟩;have C:=xc c k [];rw[jq] at C;have O:((k:Nat):Int).toNat=k:=by simp
   rw[O,C];refine⟨.ref s.heap.objs.size,_,?_,rfl,L q _ G⟩;refine I.laid (t':=s.toks) (λb o e=>df _ e) (dk _) ⟨?_,(dm k c).flatten,r.rep k,⟨_,dI _ rfl,⟨rfl,rfl⟩,_,rfl⟩⟩;rw[Ey,u9];exact J
def D6:pb X (.builtin "divmod") (λxs H Q=>∃i j,xs=[.int i,.int j]/\(0<j/\j<2 ^ 64)/\∀p,H p=none->Q (.ref p) (upd H p (.tup [.int (i / j),.int (i % j)]))):=by
 intro a s v H xs m Q I r h;obtain⟨i,j,rfl,⟨f,g⟩,q⟩:=h;obtain⟨u,n,rfl,⟨t,rfl⟩,⟨l,rfl⟩⟩:=KW r;have c:j.natAbs.log2<9000:=by
  have k:j.natAbs.log2<64:=(Nat.log2_lt (by lia)).mpr (by lia);lia
 refine divmod_int (by lia) ?_ (.inl (PyProof.noPylong_of_log2 c));rw[Int.fdiv_eq_ediv_of_nonneg i (by lia),Int.fmod_eq_emod_of_nonneg i (by lia)];have d:H s.heap.objs.size=none:=I.hok.fresh (dk _);refine⟨.ref s.heap.objs.size,_,?_,rfl,q _ d⟩;refine I.laid (λb o e=>df _ e) (dk _) ⟨by simp only[fB,jo];rw[sf];decide,[.int (i / j) s.toks,.int (i % j) (s.toks+1)],.cons ⟨_,rfl⟩ (.cons ⟨_,rfl⟩ .nil),?_⟩;exact⟨_,dI s.heap rfl,⟨rfl,rfl⟩,0,rfl⟩
inductive BG(K:Fg)(H:Hp):V->String->Bool->Prop where
 |int_int (i:Int):BG K H (.int i) "int" true
 |int_bool (i:Int):BG K H (.int i) "bool" false
 |int_tuple (i:Int):BG K H (.int i) "tuple" false
 |str_tuple (x:Str):BG K H (.str x) "tuple" false
 |tup_tuple {a:c7} {xs:List V} (h:fA K H a xs):BG K H (.ref a) "tuple" true
 |lst_list {a:c7} {xs:List V} (h:fR K H a xs):BG K H (.ref a) "list" true
 |str_str (x:Str):BG K H (.str x) "str" true
 |bl_bool (b:Bool):BG K H (.bl b) "bool" true
def vy:pb X (.builtin "isinstance") (λxs H Q=>∃x T b,xs=[x,.ty T]/\BG X.K H x T b/\Q (.bl b) H):=by
 intro g s w H xs p Q I r h;obtain⟨x,T,b,rfl,j,q⟩:=h;obtain⟨u,v,rfl,a,m⟩:=KW r;cases m;cases j with
 |int_int i=>obtain⟨t,rfl⟩:=a;exact IsiPair.int_int ⟨.bl true,H,I,rfl,q⟩
 |int_bool i=>obtain⟨t,rfl⟩:=a;exact IsiPair.int_bool ⟨.bl false,H,I.tok _,rfl,q⟩
 |int_tuple i=>obtain⟨t,rfl⟩:=a;exact IsiPair.int_tuple ⟨.bl false,H,I.tok _,rfl,q⟩
 |str_tuple z=>obtain⟨t,rfl⟩:=a;exact IsiPair.str_tuple ⟨.bl false,H,I.tok _,rfl,q⟩
 |tup_tuple d=>
  cases a;obtain⟨f,n,⟨o,e,c,_⟩,k⟩:=I.tuple d;exact IsiPair.tuple_tuple e c ⟨.bl true,H,I,rfl,q⟩
 |lst_list d=>
  cases a;obtain⟨f,n,l,k⟩:=I.list d;obtain⟨o,e,c,_⟩:=l.isList;exact IsiPair.list_list e c ⟨.bl true,H,I,rfl,q⟩
 |str_str z=>obtain⟨t,rfl⟩:=a;exact IsiPair.str_str ⟨.bl true,H,I,rfl,q⟩
 |bl_bool z=>cases a;exact IsiPair.bool_bool ⟨.bl true,H,I,rfl,q⟩
def TK(bs:List Bool):(jr bs.length).all (λi=>(bs[i]?).getD false)=bs.all id:=by
 rw[Bool.eq_iff_iff,gd,gd];constructor
 ·intro h b c;obtain⟨i,a,e⟩:=eH.mp c;have:=h i (ja.mpr a);rw[cP a,iB,e] at this;exact this
 ·intro h i a;have a:=ja.mp a;rw[cP a,iB];exact h _ (gg a)
def ny(E:X.calm=true):pb X (.builtin "all") (λxs H Q=>∃(p:c7) (bs:List Bool),xs=[.ref p]/\fR X.K H p (bs.map V.bl)/\Q (.bl (bs.all id)) H):=by
 intro t s W H xs U Q I r h;obtain⟨p,bs,rfl,J,q⟩:=h;obtain⟨u,rfl,M⟩:=uE r;cases M;obtain⟨c,w,j,T⟩:=I.list J;have a:=w.length;rw[cT] at a;have g:p<s.heap.objs.size:=by obtain⟨o,e,_⟩:=j.isList;exact dD e
 refine call_all_walk (lX j.isList ?_);refine⟨_,_,_,_,_,_,λi=>(bs[i]?).getD false,rfl,Walks.list (A:=X.A.in1) (show X.A.in1.handled=none from I.ok.hd E) s.heap.objs.size p (eg g) c.toArray,⟨⟨_,dI _ rfl,rfl,rfl⟩,j.isList.push _⟩,?_,λS P G=>?_⟩
 ·intro i v O y R C D;have d:c[i]?=some v:=by
   have:c.toArray[i]?=some v:=C;simpa using this
  have m:i<bs.length:=by rw[a];exact(cR.mp d).1
  obtain⟨u,n,L⟩:=w.get (i:=i) (x:=V.bl bs[i]) (by rw[dw,cP m];rfl);rw[d] at n;cases n;cases L;have f:y ((bs[i]?).getD false) O:=D;rw[cP m,iB] at f;exact ji f
 ·have e:c.toArray.size=bs.length:=by rw[dq,a]
  rw[e,TK];refine⟨.bl _,H,?_,rfl,q⟩;refine I.kept (t':=P) λb o k=>?_;refine G b o (λz=>?_) (df _ k);have B:b=s.heap.objs.size:=by simpa using z
  have l:=dD k;rw[B] at l;exact ih _ l
def D7(d:X.calm=true):pb X (.builtin "sum") (λxs H Q=>∃(p:c7) (ns:List Int),xs=[.ref p]/\fR X.K H p (ns.map V.int)/\∀z:Int,Q (.int z) H):=by
 intro c s B H xs y Q I r h;obtain⟨p,ns,rfl,g,q⟩:=h;obtain⟨u,rfl,m⟩:=uE r;cases m;obtain⟨a,l,j,w⟩:=I.list g;have b:∀(ns:List Int) (a:List cV),gy (ns.map V.int) a->∃xs:List (Int×Tok),a=xs.map λp=>cV.int p.1 p.2:=by
  intro ns
  induction ns with
  |nil=>intro a r;cases r;exact⟨[],rfl⟩
  |cons n ns i=>
   intro a r;cases r with
   |cons r k=>
    obtain⟨xs,rfl⟩:=i _ k;obtain⟨t,rfl⟩:=r;exact⟨(n,t)::xs,rfl⟩
 obtain⟨xs,rfl⟩:=b ns a l;refine sum_intListG (xs:=xs.toArray) (I.ok.hd d) ?_ λv x o f=>⟨.int _,H,I.kept f,⟨o,rfl⟩,q _⟩;have e:=j.isList;simpa[intItems] using e
theorem GW:∀{ys:List Str} {us:List cV},gy (ys.map V.str) us->StrsAre us ys
 |[],_,r=>by cases r;exact .nil
 |y::ys,_,r=>by
  cases r with
  |cons r a=>
   obtain⟨t,rfl⟩:=r;exact .cons _ _ (GW a)
def OQ(K:Fg):V->List V->Hp->VK->Prop:=λx c H Q=>∃(a:Str) (p:c7) (b:List Str),x=.str a/\c=[.ref p]/\fR K H p (b.map V.str)/\(b.map (·.length)).sum+b.length*a.length<=16777216/\Q (.str (Txt.join a b)) H
def Q6:VD X "str.join" (OQ X.K):=by
 intro a s o H x m v l Q I i g h;obtain⟨sep,p,n,rfl,rfl,b,c,q⟩:=h;obtain⟨t,rfl⟩:=i;obtain⟨u,rfl,f⟩:=g.one;cases f;obtain⟨d,r,e,_⟩:=I.list b;exact join_list e.isList (by simpa using GW r) c λj k=>⟨.str _,H,I.tok k,⟨j,rfl⟩,q⟩
def lM(xs ys:List V):Bool:=(jr (min xs.length ys.length)).all (λj=>qx ((xs[j]?).getD .non) ((ys[j]?).getD .non))&&xs.length==ys.length
def RW(K:Fg)(c:Bool):R2:=λx y H Q=>∃p q a b,x=.ref p/\y=.ref q/\fA K H p a/\fA K H q b/\a.all iT=true/\b.all iT=true/\Q (.bl (if c then !lM a b else lM a b)) H
def FZ{A:ef}{s:da}{xs ys:List V}{us vs:List cV}(d:gy xs us)(e:gy ys vs)(h:xs.all iT=true)(i:ys.all iT=true) :
  ∀j (a:j<us.toArray.size) (h2:j<vs.toArray.size),SeqAt.EqAt A s us.toArray[j] vs.toArray[j] (qx ((xs[j]?).getD .non) ((ys[j]?).getD .non)):=by
 intro j a h2;have o:=d.length;have p:=e.length;rw[dq] at a h2;have b:j<xs.length:=by lia
 have c:j<ys.length:=by lia
 obtain⟨u,k,m⟩:=d.get (cP b);obtain⟨v,l,n⟩:=e.get (cP c);have f:us.toArray[j]=u:=by
  have:=cP a;rw[k] at this;simpa using(Option.some.inj this).symm
 have g:vs.toArray[j]=v:=by
  have:=cP h2;rw[l] at this;simpa using(Option.some.inj this).symm
 rw[f,g,cP b,cP c,iB,iB];exact Ei m n (gd.mp h _ (gg b)) (gd.mp i _ (gg c))
def Ux(i:X.A.units<cLine):oD X (gi .Eq) (RW X.K false):=by
 intro a s z H x y v u Q I k l h;obtain⟨p,q,t,w,rfl,rfl,f,g,d,e,j⟩:=h;cases k;cases l;obtain⟨o,b,m,_⟩:=I.tuple f;obtain⟨r,c,n,_⟩:=I.tuple g;refine SeqAt.eq_tupleAt (show s.heap.IsTuple p o.toArray from m) (show s.heap.IsTuple q r.toArray from n) i (FZ b c d e) ⟨.bl (lM t w),H,I,?_,j⟩;show cV.bool _=cV.bool _;unfold lM;rw[dq,dq,b.length,c.length]
def Tc(K:Fg):R2:=λx y H Q=>∃p a z,x=.ref p/\y=.str z/\fA K H p a/\Q (.bl false) H
def Re(c:X.A.units<cLine):oD X (gi .Eq) (Tc X.K):=by
 intro a s l H x y v u Q I e f h;obtain⟨p,k,z,rfl,rfl,b,d⟩:=h;cases e;obtain⟨t,rfl⟩:=f;obtain⟨i,j,g,_⟩:=I.tuple b;exact SeqAt.RcAt.tuple_str z t (show s.heap.IsTuple p i.toArray from g) c X.prog X.w X.xe _ ⟨.bl false,H,I,rfl,d⟩
def UB(i:X.A.units<cLine):oD X (gi .NotEq) (RW X.K true):=by
 intro a s B H x y v u Q I k l h;obtain⟨p,q,t,z,rfl,rfl,f,g,d,e,j⟩:=h;cases k;cases l;obtain⟨o,b,m,_⟩:=I.tuple f;obtain⟨r,c,n,_⟩:=I.tuple g;refine SeqAt.RcNeAt.tuples (show s.heap.IsTuple p o.toArray from m) (show s.heap.IsTuple q r.toArray from n) i (FZ b c d e) X.prog X.w X.xe _ ⟨.bl (!lM t z),H,I,?_,j⟩;show cV.bool _=cV.bool _;unfold lM;rw[dq,dq,b.length,c.length]
def RV(K:Fg)(c:Bool):R2:=λx y H Q=>∃p q a b,x=.ref p/\y=.ref q/\fR K H p a/\fR K H q b/\a.all iT=true/\b.all iT=true/\Q (.bl (if c then !lM a b else lM a b)) H
def zT{xs ys:List V}(h:xs.length=ys.length):lM xs ys=(jr xs.length).all (λj=>qx ((xs[j]?).getD .non) ((ys[j]?).getD .non)):=by
 unfold lM;rw[<-h,Nat.min_self];simp
def Ej{xs ys:List V}(h:¬xs.length=ys.length):lM xs ys=false:=by
 unfold lM;rw[Bool.and_eq_false_iff];right;simpa using h
def Uw(d:X.A.units<cLine):oD X (gi .Eq) (RV X.K false):=by
 intro e s D H x y v u Q I t w h;obtain⟨p,q,a,b,rfl,rfl,n,o,l,m,f⟩:=h;cases t;cases w;obtain⟨B,g,j,_⟩:=I.list n;obtain⟨C,i,k,_⟩:=I.list o;have r:=g.length;have z:=i.length;by_cases c:a.length=b.length
 ·refine SeqAt.eq_listAt j.isList k.isList (by rw[dq,dq];lia) d (FZ g i l m) ⟨.bl (lM a b),H,I,?_,f⟩;show cV.bool _=cV.bool _;rw[zT c,dq,r]
 ·refine SeqAt.eq_list_lengthsAt j.isList k.isList (by rw[dq,dq];simp;lia) d ⟨.bl (lM a b),H,I,?_,f⟩;show cV.bool _=cV.bool _;rw[Ej c]
def Uz(d:X.A.units<cLine):oD X (gi .NotEq) (RV X.K true):=by
 intro e s E H x y v u Q I t z h;obtain⟨p,q,a,b,rfl,rfl,n,o,l,m,f⟩:=h;cases t;cases z;obtain⟨C,g,j,_⟩:=I.list n;obtain⟨D,i,k,_⟩:=I.list o;have r:=g.length;have B:=i.length;by_cases c:a.length=b.length
 ·refine SeqAt.RcNeAt.lists j.isList k.isList (by rw[dq,dq];lia) d (FZ g i l m) X.prog X.w X.xe _ ⟨.bl (!lM a b),H,I,?_,f⟩;show cV.bool _=cV.bool _;rw[zT c,dq,r]
 ·refine SeqAt.RcNeAt.lists_lengths j.isList k.isList (by rw[dq,dq];simp;lia) d X.prog X.w X.xe _ ⟨.bl (!lM a b),H,I,?_,f⟩;show cV.bool _=cV.bool _;rw[Ej c];rfl
end
section
variable{prog:dv}{w:dQ}{A:ef}{E:Zz}
def zS{it t:c7}{items:Array cV}(f:t≠it):∀(n i:Nat) (s:da) (Q:List cV->da->Prop),s.heap.IsListIter it t i->s.heap.IsList t items->i+n<=items.size->
  (∀h':Heap,h'.IsListIter it t (i+n)->Heap.SameBut it s.heap h'->Q ((items.toList.drop i).take n) {s with heap:=h'})->dJ (model prog w) A (draw (.ref it) n) Q E s
 |0,i,s,Q,hit,_,_,h=>by
  show dJ _ _ (pure []) Q E s;exact di (by simpa using h s.heap hit (Heap.SameBut.refl ..))
 |n+1,i,s,Q,hit,j,hle,h=>by
  have e:i<items.size:=by lia
  show dJ _ _ (nN (.ref it) >>= _) Q E s;refine cS (wpAny_pyNext_list_item hit j (x:=items[i]) (by simp[e]) λk b a=>?_);refine cS (gj (zS f n (i+1) _ _ b (j.extBut a.extBut f) (by lia) λg c d=>di ?_));have l:items.toList.drop i=items[i]::items.toList.drop (i+1):=by simp[List.drop_eq_getElem_cons,e]
  have:=h g (by rw[show i+(n+1)=i+1+n by lia];exact c) (a.trans d);rw[l,ot] at this;exact this
def wA{s:da}{t:c7}{items:Array cV}{Q:List cV->da->Prop}(n:A.handled=none)(i:s.heap.IsList t items)
  (m:∀h':Heap,Heap.ExtBut s.heap.objs.size s.heap h'->Q items.toList {s with heap:=h'}):dJ (model prog w) A (unpackItems (.ref t) items.size none) Q E s:=by
 have h:t≠s.heap.objs.size:=by obtain⟨o,p,_⟩:=i;exact eg (dD p)
 unfold unpackItems;refine cS ?_
 ·unfold notIterableAtAll;refine cS (gJ i.typeIs slot_list_iter.lookup ?_);refine di ?_;simp only[Bool.false_eq_true,if_false];refine cS (gj (lX i ?_));refine cS (gj (zS h items.size 0 _ _ ⟨_,dI _ rfl,rfl,rfl⟩ (i.push _) (by lia) λj c a=>?_));have g:List.take items.size (List.drop 0 items.toList)=items.toList:=by
   rw[oT];exact eK (by simp)
  rw[g];rw[if_neg (by simp)];have f:j.IsList t items:=(i.push _).extBut a.extBut h;refine cS (gj (wpAny_pyNext_list_end n c f (by simp) λk d=>?_));simp only[Option.isSome_none,Bool.false_eq_true,if_false];refine di (m k λb o l e=>d b o l (a.extBut b o l (df _ e)))
end
section
variable{X:Cx}{pos:Pos}
def NT(K:Fg)(n:Nat)(t:Lj):TG:=λv c H Q=>∃a b,v=.ref a/\fR K H a b/\b.length=n/\t b c H Q
def Ro{es:List Expr}{k:Nat}{t:Lj}{n:Nat}(q:X.calm=true)(h:Vq X es t)
  (x:(ix es X.env).length=n:=by rfl) (d:(ix es X.env).findIdx? (·.1)=none:=by rfl):PG X (.Tuple es k pos) (NT X.K n t):=by
 intro c s j H v u Q I r f;obtain⟨a,C,m,y,w,f⟩:=f;subst m;cases r;obtain⟨g,i,z,D⟩:=I.list y;rw[assign_Tuple];refine cS (pT ?_);unfold unpack;have e:(ix es X.env).length=g.toArray.size:=by simp[x,<-w,i.length]
 rw[e,d];refine cS (gj (wA (I.ok.hd q) z.isList λp B=>?_));have l:fW X c j H {s with heap:=p}:=I.kept (t':=s.toks) λb o e=>B b o (eg (dD e)) e;exact h c _ j H C _ Q l (by simpa using i) f
end
def Ws:R2:=λx y H Q=>∃i j,x=.str i/\y=.str j/\i.length+j.length<=c6/\Q (.str (i++j)) H
def ig(K:Fg):R2:=λx y H Q=>MU (λi j=>.int (i+j)) x y H Q\/(Ws x y H Q\/(Wh x y H Q\/Ta K x y H Q))
def KG:R2:=MU λi j=>.int (i-j)
def kc(K:Fg):R2:=λx y H Q=>rI Qb (λi j=>.int (i*j)) x y H Q\/Td K x y H Q
def nB:R2:=rI (λ_ j=>0<j) λi j=>.int (i % j)
def Ji:R2:=rI Vu λi j=>.int (i / j)
def GI:R2:=rI Vv λi j=>.int (i ^ j.toNat)
def jL(K:Fg):R2:=λx y H Q=>Xs x y H Q\/(RW K false x y H Q\/(Tc K x y H Q\/RV K false x y H Q))
def xk(K:Fg):R2:=λx y H Q=>Xt x y H Q\/(RW K true x y H Q\/RV K true x y H Q)
def uS:R2:=MU λi j=>.bl (decide (i<j))
def L8:R2:=MU λi j=>.bl (decide (j<i))
def U9:R2:=MU λi j=>.bl (decide (j<=i))
def OP:R2:=λx y H Q=>y=.non/\Q (.bl (decide (x=.non))) H
def OS:R2:=λx y H Q=>y=.non/\Q (.bl (!decide (x=.non))) H
def Jj:V->Hp->VK->Prop:=rU λi=>.int (-i)
def Dj(K:Fg):V->Option Int->Option Int->Hp->VK->Prop:=λx b a H Q=>Wq K x b a H Q\/Wr K x b a H Q
def iE(K:Fg):List V->Hp->VK->Prop:=λa H Q=>∃x n,a=[x]/\VC K x H n/\Q (.int n) H
def RU:List V->Hp->VK->Prop:=λa H Q=>∃i j,a=[.int i,.int j]/\(0<j/\j<2 ^ 64)/\∀p,H p=none->Q (.ref p) (upd H p (.tup [.int (i / j),.int (i % j)]))
def OR:List V->Hp->VK->Prop:=λa H Q=>∃i j,a=[.int i,.int j]/\Q (.int (if j>i then j else i)) H
def Wm:List V->Hp->VK->Prop:=λa H Q=>∃i j,a=[.int i,.int j]/\Q (.int (if j<i then j else i)) H
def W6(K:Fg):List V->Hp->VK->Prop:=λb H Q=>∃(p:c7) (a:List Int),b=[.ref p]/\fR K H p (a.map V.int)/\∀z:Int,Q (.int z) H
def ON(K:Fg):List V->Hp->VK->Prop:=λb H Q=>∃(p:c7) (a:List Bool),b=[.ref p]/\fR K H p (a.map V.bl)/\Q (.bl (a.all id)) H
def RX(K:Fg):List V->Hp->VK->Prop:=λa H Q=>∃x T b,a=[x,.ty T]/\BG K H x T b/\Q (.bl b) H
def Di:List V->Hp->VK->Prop:=λa H Q=>(∃i,a=[.int i]/\Q (.int i) H)\/∃k,a=[.bl k]/\Q (.int (if k then 1 else 0)) H
def vM(K:Fg):List V->Hp->VK->Prop:=λb H Q=>∃p a,b=[.ref p]/\(fR K H p a\/fA K H p a)/\∀l,H l=none->Q (.ref l) (upd H l (.lst a))
def gK(K:Fg):List V->Hp->VK->Prop:=λb H Q=>∃p a,b=[.ref p]/\((fR K H p a/\∀l,H l=none->Q (.ref l) (upd H l (.tup a)))\/(fA K H p a/\Q (.ref p) H))
def kz(K:Fg)(a:TE):TI:=λb H R=>SS K a b H R\/VT K a b H R
section
variable{X:Cx}
def fX:oD X (iH .Add) (ig X.K):=Uu.or (Jb.or (Uv.or Rb))
def jx:oD X (iH .Mult) (kc X.K):=Uy.or Rf
def gw(a:X.A.units<cLine):oD X (gi .Eq) (jL X.K):=V4.or ((Ux a).or ((Re a).or (Uw a)))
def oa(a:X.A.units<cLine):oD X (gi .NotEq) (xk X.K):=V5.or ((UB a).or (Uz a))
def kK:Np X (Dj X.K):=Sa.or Vl
def UR{e l:Expr}{c:TE}(b:PE X l c):PI X e l (kz X.K c):=by
 intro a s d H R I h;rcases h with h|h
 ·exact Rr b a s d H R I h
 ·exact US b a s d H R I h
end
structure fh(P:dv)(w:dQ)(K:Fg)(mg:Str->Option cV)(base:Heap)(x:Str)(ps:List Str)(k:Nat)(sp:Sp):Prop where
 ex:∃(f:c7) (fd:iQ),mg x=some (.ref f)/\iL K (.ref f)=true/\xP K fd ps []/\wK P w K mg base J5 k f fd ps sp
def V8{X:Cx}{x:Str}{ps:List Str}{k:Nat}{sp:Sp}{e:Expr}{es:List Expr}{t:TA}{p pos:Pos}(c:fh X.prog X.w X.K X.mg X.base x ps k sp)(m:mn k X.A)(i:Gl X x)(d:PA X (e::es) t)
  (a:(x==("__debug__":Str))=false:=by decide) (h:dH (e::es) X.env=(false,eval e X.env)::dH es X.env:=by rfl) (b:(iy pos (dH es X.env)).any (·.1)=false:=by rfl) :
  PE X (.Call (.Name x p) (e::es) [] pos) (dR sp [] E0 t):=by
 obtain⟨f,n,l,j,g,F⟩:=c.ex;exact KB F m i l j g .nil SX d a h b
structure mC(mg:Str->Option cV):Prop where
 len_:mg "len"=none
 range_:mg "range"=none
 divmod_:mg "divmod"=none
 max_:mg "max"=none
 min_:mg "min"=none
 sum_:mg "sum"=none
 all_:mg "all"=none
 isinstance_:mg "isinstance"=none
 int_:mg "int"=none
 bool_:mg "bool"=none
 list_:mg "list"=none
 tuple_:mg "tuple"=none
 enumerate_:mg "enumerate"=none
 zip_:mg "zip"=none
 sorted_:mg "sorted"=none
 set_:mg "set"=none
 dict_:mg "dict"=none
 str_:mg "str"=none
 any_:mg "any"=none
 reversed_:mg "reversed"=none
 abs_:mg "abs"=none
def iO(a:c7)(H H':Hp):Prop:=∀b o,b≠a->H b=some o->H' b=some o
def iO.refl(a:c7)(H:Hp):iO a H H:=λ_ _ _ h=>h
def iO.trans{a:c7}{H b H2:Hp}(x:iO a H b)(y:iO a b H2):iO a H H2:=λc o n h=>y c o n (x c o n h)
def du.but{a:c7}{H H':Hp}(x:du H H'):iO a H H':=λb o _ h=>x b o h
def iO.upd_at{a:c7}{H:Hp}{o:HO}:iO a H (upd H a o):=λb u n h=>by rw[dC n];exact h
def iO.new{a p:c7}{H c:Hp}{o:HO}(x:iO a H c)(d:c p=none):iO a H (upd c p o):=λb u n h=>by
 rw[dC (de (x b u n h) d)];exact x b u n h
def du.new{p:c7}{H a:Hp}{o:HO}(x:du H a)(c:a p=none):du H (upd a p o):=λb u h=>by
 rw[dC (de (x b u h) c)];exact x b u h
def iO.free{a p:c7}{H H':Hp}(x:iO a H H')(n:p≠a)(h:H' p=none):H p=none:=by
 cases q:H p with
 |none=>rfl
 |some o=>rw[x p o n q] at h;cases h
def mR{f:List Nat}{k:Nat}{e:Int}{n:Nat}{g:TG}{j:TT}{l:TE}{R:Hp->Prop}{a:St}{H:Hp}{D:c7}(c:Nat->St->Hp->Prop)(o:c 0 (HQ f k a) (upd H D (.lst [])))
  (q:∀i a H,i<n->c i a H->g (.int (e+i)) a H λb H2=>vP D j l {nx:=c (i+1),rt:=λ_ _=>False,ct:=c (i+1),bk:=λ_ H'=>R H'} b H2) (p:∀a H,c n a H->R H) :
  ∃W:Nat->Nat->St->Hp->Prop,(∃m,W 0 m (HQ f k a) (upd H D (.lst [])))/\∀i m a H,W i m a H->
   ((Qi e n).stop i H/\R H)\/((Qi e n).go i H/\∃N:St->Hp->Prop,(∀d H',N d H'->∃h,h<m/\W (i+1) h d H')/\∀x H',(Qi e n).yld i H x H'->g x a H' λb H2=>vP D j l {nx:=N,rt:=λ_ _=>False,ct:=N,bk:=λ_ H'=>R H'} b H2):=
 jO (D:={nx:=λ_ H'=>R H',rt:=λ_ _=>False}) c o q p
def lg{f:List Nat}{k:Nat}{K:Fg}{a:c7}{xs:List V}{g:TG}{j:TT}{l:TE}{R:Hp->Prop}{b:St}{H:Hp}{D:c7}(c:Nat->St->Hp->Prop)(n:c 0 (HQ f k b) (upd H D (.lst [])))(p:∀i b H,i<=xs.length->c i b H->fR K H a xs)
  (q:∀i x b H,xs[i]?=some x->c i b H->g x b H λd H2=>vP D j l {nx:=c (i+1),rt:=λ_ _=>False,ct:=c (i+1),bk:=λ_ H'=>R H'} d H2) (o:∀b H,c xs.length b H->R H) :
  ∃W:Nat->Nat->St->Hp->Prop,(∃m,W 0 m (HQ f k b) (upd H D (.lst [])))/\∀i m b H,W i m b H->
   ((SJ K a).stop i H/\R H)\/((SJ K a).go i H/\∃N:St->Hp->Prop,(∀e H',N e H'->∃h,h<m/\W (i+1) h e H')/\∀x H',(SJ K a).yld i H x H'->g x b H' λd H2=>vP D j l {nx:=N,rt:=λ_ _=>False,ct:=N,bk:=λ_ H'=>R H'} d H2):=
 vB (D:={nx:=λ_ H'=>R H',rt:=λ_ _=>False}) c n p q o
def jd{f:List Nat}{k:Nat}{K:Fg}{a:c7}{xs:List V}{g:TG}{j:TT}{l:TE}{R:Hp->Prop}{b:St}{H:Hp}{D:c7}(c:Nat->St->Hp->Prop)(n:c 0 (HQ f k b) (upd H D (.lst [])))(p:∀i b H,i<=xs.length->c i b H->fA K H a xs)
  (q:∀i x b H,xs[i]?=some x->c i b H->g x b H λd H2=>vP D j l {nx:=c (i+1),rt:=λ_ _=>False,ct:=c (i+1),bk:=λ_ H'=>R H'} d H2) (o:∀b H,c xs.length b H->R H) :
  ∃W:Nat->Nat->St->Hp->Prop,(∃m,W 0 m (HQ f k b) (upd H D (.lst [])))/\∀i m b H,W i m b H->
   ((SK K a).stop i H/\R H)\/((SK K a).go i H/\∃N:St->Hp->Prop,(∀e H',N e H'->∃h,h<m/\W (i+1) h e H')/\∀x H',(SK K a).yld i H x H'->g x b H' λd H2=>vP D j l {nx:=N,rt:=λ_ _=>False,ct:=N,bk:=λ_ H'=>R H'} d H2):=
 tM (D:={nx:=λ_ H'=>R H',rt:=λ_ _=>False}) c n p q o
def iO.through{a l:c7}{H c H2:Hp}{o:HO}(x:iO a H c)(f:c l=none)(y:iO l (upd c l o) H2):iO a H H2:=λb u n h=>by
 have d:=x b u n h;have e:b≠l:=de d f;exact y b u e (by rw[dC e];exact d)
end L2
namespace Bg
open PySem L2
inductive ed where
 |num (x:Str) (z:Int)
 |op (x s a b:Str)
 |call (x:Str) (k:Nat) (as:List Str)
 |say (a:Str)
 |jump (to:Nat)
 |test (a:Str) (to:Nat)
 |give (a:Str)
structure gQ where
 name:Str
 params:List Str
 rows:List ed
def gG:ed->Str
 |.num _ _=>"num"|.op _ _ _ _=>"op"|.call _ _ _=>"call"|.say _=>"say"|.jump _=>"jump"|.test _ _=>"test"|.give _=>"give"
def gR(H:Hp)(v:V):ed->Prop
 |.num x z=>∃p,v=.ref p/\H p=some (.tup [.str "num",.str x,.int z])
 |.op x s a b=>∃p,v=.ref p/\H p=some (.tup [.str "op",.str x,.str s,.str a,.str b])
 |.call x k d=>∃p q,v=.ref p/\H p=some (.tup [.str "call",.str x,.int (k:Nat),.ref q])/\H q=some (.tup (d.map V.str))
 |.say a=>∃p,v=.ref p/\H p=some (.tup [.str "say",.str a])
 |.jump c=>∃p,v=.ref p/\H p=some (.tup [.str "jump",.int (c:Nat)])
 |.test a c=>∃p,v=.ref p/\H p=some (.tup [.str "test",.str a,.int (c:Nat)])
 |.give a=>∃p,v=.ref p/\H p=some (.tup [.str "give",.str a])
def Tp(H H':Hp):Prop:=∀p a,H p=some (.tup a)->H' p=some (.tup a)
def Tp.refl(H:Hp):Tp H H:=λ_ _ h=>h
def Tp.trans{H a H2:Hp}(x:Tp H a)(y:Tp a H2):Tp H H2:=λp b h=>y p b (x p b h)
def Tp.of_same{H H':Hp}(x:du H H'):Tp H H':=λp a h=>x p _ h
def Tp.of_but{a:c7}{ys:List V}{H H':Hp}(x:iO a H H')(b:H a=some (.lst ys)):Tp H H':=λp c h=>x p _ (by rintro rfl;rw[h] at b;cases b) h
def Tp.new{p:c7}{H a:Hp}{o:HO}(x:Tp H a)(d:a p=none):Tp H (upd a p o):=λb c h=>by
 rw[dC (de (x b c h) d)];exact x b c h
def Tp.lst{p:c7}{H a:Hp}{ys:List V}{o:HO}(x:Tp H a)(d:a p=some (.lst ys)):Tp H (upd a p o):=λb e h=>by
 have c:=x b e h;rw[dC (by rintro rfl;rw[c] at d;cases d)];exact c
def gR.mono{H H':Hp}{v:V}{r:ed}(h:gR H v r)(t:Tp H H'):gR H' v r:=by
 cases r with
 |call x k b=>obtain⟨p,q,e,h,a⟩:=h;exact⟨p,q,e,t _ _ h,t _ _ a⟩
 |_=>obtain⟨p,e,h⟩:=h;exact⟨p,e,t _ _ h⟩
def gR.ref{H:Hp}{v:V}{r:ed}(h:gR H v r):∃p xs,v=.ref p/\H p=some (.tup (.str (gG r)::xs)):=by
 cases r with
 |call x k a=>obtain⟨p,q,e,h,b⟩:=h;exact⟨p,_,e,h⟩
 |_=>obtain⟨p,e,h⟩:=h;exact⟨p,_,e,h⟩
structure dZ{α:Type}(R:V->α->Prop)(vs:List V)(rs:List α):Prop where
 len:vs.length=rs.length
 at_:∀(i:Nat) v r,vs[i]?=some v->rs[i]?=some r->R v r
def dZ.nil{a:Type}{R:V->a->Prop}:dZ R [] []:=⟨rfl,λi v r h=>by simp at h⟩
def dZ.imp{d:Type}{R c:V->d->Prop}{vs:List V}{rs:List d}(h:dZ R vs rs)(f:∀v r,R v r->c v r):dZ c vs rs:=⟨h.len,λi v r a b=>f v r (h.at_ i v r a b)⟩
def dZ.snoc{c:Type}{R:V->c->Prop}{vs:List V}{rs:List c}{v:V}{r:c}(h:dZ R vs rs)(q:R v r):dZ R (vs++[v]) (rs++[r]):=by
 refine⟨by simp[h.len],λi w t a b=>?_⟩;by_cases d:i<vs.length
 ·rw[dX d] at a;rw[dX (by rw[<-h.len];exact d)] at b;exact h.at_ i w t a b
 ·rw[dA (by omega)] at a;rw[dA (by rw[<-h.len];omega)] at b;have e:i-vs.length=0:=by
   have:=(cR.mp a).1;simp at this;omega
  rw[e] at a;rw[<-h.len,e] at b;simp at a b;rw[<-a,<-b];exact q
def dZ.set{c:Type}{R:V->c->Prop}{vs:List V}{rs:List c}{j:Nat}{v:V}{r:c}(h:dZ R vs rs)(q:R v r):dZ R (vs.set j v) (rs.set j r):=by
 refine⟨by simp[h.len],λi w t a b=>?_⟩;by_cases e:j=i
 ·subst e;have d:j<vs.length:=by have:=(cR.mp a).1;rw[eX] at this;exact this
  rw[d6 d] at a;rw[d6 (by rw[<-h.len];exact d)] at b;cases a;cases b;exact q
 ·rw[eC e] at a b;exact h.at_ i w t a b
def dZ.get{c:Type}{R:V->c->Prop}{vs:List V}{rs:List c}(h:dZ R vs rs){i:Nat}(a:i<rs.length):∃v r,vs[i]?=some v/\rs[i]?=some r/\R v r:=by
 have b:i<vs.length:=by rw[h.len];exact a
 exact⟨vs[i],rs[i],cP b,cP a,h.at_ i _ _ (cP b) (cP a)⟩
def dZ.of_v{b:Type}{R:V->b->Prop}{vs:List V}{rs:List b}(h:dZ R vs rs){i:Nat}{v:V}(e:vs[i]?=some v):∃r,rs[i]?=some r/\R v r:=by
 have d:=(cR.mp e).1;obtain⟨f,r,a,c,q⟩:=h.get (i:=i) (by rw[<-h.len];exact d);rw[e] at a;cases a;exact⟨r,c,q⟩
def mP(H:Hp)(v:V)(b:gQ):Prop:=∃p q r a,v=.ref p/\H p=some (.tup [.str b.name,.ref q,.ref r])/\H q=some (.tup (b.params.map V.str))/\H r=some (.tup a)/\dZ (gR H) a b.rows
def mP.mono{H H':Hp}{v:V}{b:gQ}(h:mP H v b)(t:Tp H H'):mP H' v b:=by
 obtain⟨p,q,r,g,e,a,c,d,f⟩:=h;exact⟨p,q,r,g,e,t _ _ a,t _ _ c,t _ _ d,f.imp λ_ _ z=>z.mono t⟩
def pM(K:Fg)(H:Hp)(a:c7)(ns:List Int):Prop:=
 (∃o,H a=some (.frz o (.lst (ns.map V.int))))\/∃(o:Obj) (b:Array cV) (n:Nat),K.lookup a=some o/\o.cls=.type "list"/\o.dict=none/\o.data=.seq b n/\b.size<=c6/\gy (ns.map V.int) b.toList
def pM.sq{K:Fg}{H:Hp}{a:c7}{ns:List Int}(h:pM K H a ns):fR K H a (ns.map V.int):=by
 rcases h with⟨o,h⟩|h
 ·exact .inl (.inr ⟨o,h⟩)
 ·exact .inr h
def Fz(H H':Hp):Prop:=∀p o u,H p=some (.frz o u)->H' p=some (.frz o u)
def Fz.of_but{a:c7}{ys:List V}{H H':Hp}(x:iO a H H')(b:H a=some (.lst ys)):Fz H H':=λp o u h=>x p _ (by rintro rfl;rw[h] at b;cases b) h
def Fz.of_same{H H':Hp}(x:du H H'):Fz H H':=λp o u h=>x p _ h
def pM.mono{K:Fg}{H H':Hp}{a:c7}{ns:List Int}(h:pM K H a ns)(f:Fz H H'):pM K H' a ns:=by
 rcases h with⟨o,h⟩|h
 ·exact .inl ⟨o,f _ _ _ h⟩
 ·exact .inr h
def j5(K:Fg)(H:Hp)(st:c7)(k:Nat):Prop:=∃a b c,H st=some (.lst [.ref a,.int (k:Nat),.int c])/\pM K H a b/\b.length<=63
def j5.lst{K:Fg}{H:Hp}{st:c7}{k:Nat}(h:j5 K H st k):∃ys,H st=some (.lst ys):=by
 obtain⟨a,b,c,e,_⟩:=h;exact⟨_,e⟩
def j5.mono{K:Fg}{H H':Hp}{a st:c7}{k:Nat}{ys:List V}(h:j5 K H st k)(x:iO a H H')(d:H a=some (.lst ys))(n:st≠a):j5 K H' st k:=by
 obtain⟨b,f,c,e,q,l⟩:=h;exact⟨b,f,c,x _ _ n e,q.mono (.of_but x d),l⟩
def j5.same{K:Fg}{H H':Hp}{st:c7}{k:Nat}(h:j5 K H st k)(x:du H H'):j5 K H' st k:=by
 obtain⟨a,b,c,e,q,l⟩:=h;exact⟨a,b,c,x _ _ e,q.mono (.of_same x),l⟩
def j5.new{K:Fg}{H:Hp}{st p:c7}{o:HO}{k:Nat}(h:j5 K H st k)(a:H p=none):j5 K (upd H p o) st k:=h.same ((du.refl H).new a)
def eN(K:Fg):Sp:=λc H Q _=>∃(a:c7) (m:Int) (k:Nat),c=[.ref a,.int m]/\j5 K H a k/\k<=1000000/\0<m/\m<2 ^ 64/\
 ∀(d:Int) (b:Hp),0<=d->d<m->j5 K b a (k+1)->iO a H b->Q (.int d) b
def O6:List Str:=["part","call","say","jump","test","give"]
structure Nm(y:Str):Prop where
 l1:1<=y.length
 l8:y.length<=8
 TH:∀c∈y.cps.toList,97<=c/\c<=122
 no:y∉O6
def Nm.ne{y:Str}(h:Nm y):y≠"":=by
 rintro rfl;exact absurd h.l1 (by decide +kernel)
def vU(K:Fg):Sp:=λe H Q _=>∃(b:c7) (n k:Nat),e=[.ref b,.int (n:Nat)]/\j5 K H b k/\k<=900000/\n<=20/\
 ∀(l:c7) (c:List Str) (d:Nat) (a:Hp),H l=none->c.length=n->c.Nodup->(∀y∈c,Nm y)->a l=some (.lst (c.map V.str))->j5 K a b d->d<=k+11->iO b H a->Q (.ref l) a
def KP:List Str:=["+","-","*","<","="]
def zI(ys:List Str)(f:List Nat)(n:Nat):ed->Prop
 |.num x z=>x∈ys/\0<=z/\z<2 ^ 64
 |.op x s a b=>x∈ys/\s∈KP/\a=""/\b=""
 |.call x k e=>x∈ys/\∃c,f[k]?=some c/\e=dm c ("":Str)
 |.say a=>a=""
 |.jump d=>d<n
 |.test a d=>a=""/\d<n
 |.give a=>a=""
def eU(ns:List Nat):List V:=ns.map λn=>V.int (n:Nat)
def rK(K:Fg):Sp:=λi H Q _=>∃(a g f:c7) (n k:Nat) (e:List Str) (b:List Nat),i=[.ref a,.ref g,.int (n:Nat),.ref f]/\j5 K H a k/\k<=800000/\H g=some (.lst (e.map V.str))/\e≠[]/\e.length<=100/\
 1<=n/\n<=1000/\H f=some (.lst (eU b))/\b≠[]/\b.length<=100/\(∀c∈b,c<=4)/\g≠a/\f≠a/\
 ∀(v:V) (r:ed) (h:Nat) (d:Hp),gR d v r->zI e b n r->j5 K d a h->h<=k+8->iO a H d->Q v d
def fK(n:Nat):ed->List Nat
 |.jump a=>[a]
 |.test _ a=>[n+1,a]
 |.give _=>[]
 |_=>[n+1]
def kJ:ed->V
 |.num x _=>.str x
 |.op x _ _ _=>.str x
 |.call x _ _=>.str x
 |_=>.non
def qA:ed->Bool
 |.jump _=>true
 |.give _=>true
 |_=>false
def zX:ed->Bool
 |.num _ _=>true
 |_=>false
structure DW(ys:List Str)(cs:List Nat)(rs:List ed):Prop where
 pos:rs≠[]
 few:rs.length<=100
 rough:∀r∈rs,zI ys cs rs.length r
def stp(rs:List ed)(n:Nat):Nat:=match rs[n]? with
 |some (.jump t)=>t
 |_=>n
def runJ(rs:List ed):Nat->Nat->Nat
 |0,n=>n
 |k+1,n=>runJ rs k (stp rs n)
def je:ed->Bool
 |.jump _=>true
 |_=>false
def zB(rs:List ed):Prop:=∀n,n<rs.length->∀r,rs[runJ rs rs.length n]?=some r->je r=false
def xx(K:Fg):Sp:=λj H Q _=>∃(e h:c7) (a:Bool) (f:List V) (d:List ed) (i:List Str) (R:ed->Prop),j=[.ref e,.ref h,.bl a]/\H e=some (.lst f)/\dZ (gR H) f d/\d≠[]/\d.length<=100/\(∀r∈d,R r)/\R (.say "")/\R (.give "")/\(∀t,R (.jump t)->t<d.length)/\H h=some (.lst (i.map V.str))/\i≠[]/\(∀y∈i,a=true->R (.num y 3))/\h≠e/\
 (a=true->2<=d.length)/\∀(c:List V) (b:List ed) (g:Hp),g e=some (.lst c)->dZ (gR g) c b->b.length=d.length->(∀r∈b,R r)->(b.getLast?.map qA=some true)->(a=true->b.head?.map zX=some true)->zB b->iO e H g->Q (.ref e) g
def zJ(H:Hp)(v:V)(ks:List Str):Prop:=∃a,v=.ref a/\H a=some (.lst (ks.map V.str))
structure zu(ps:List Str)(rs:List ed)(kss:List (List Str)):Prop where
 zero:∀ks,kss[0]?=some ks->∀y∈ks,y∈ps
 on:∀(n m:Nat) r ks km,rs[n]?=some r->m∈fK n r->kss[n]?=some ks->kss[m]?=some km->∀y∈km,y∈ks\/kJ r=.str y
def rL(K:Fg):Sp:=λo H Q _=>∃(m k l:c7) (e:List V) (d:List ed) (f c:List Str) (n:List Nat),o=[.ref m,.ref k,.ref l]/\H m=some (.lst e)/\dZ (gR H) e d/\DW f n d/\(d.getLast?.map qA=some true)/\
 H k=some (.lst (f.map V.str))/\f.length<=100/\H l=some (.lst (c.map V.str))/\c.length<=100/\(∀y∈c,y∈f)/\(c=[]->d.head?.map zX=some true)/\
 ∀(j:c7) (b:List V) (a:List (List Str)) (g:Hp),H j=none->g j=some (.lst b)->dZ (zJ g) b a->a.length=d.length->(∀(i:Nat) h,a[i]?=some h->h.length<=100/\(∀y∈h,y∈f)/\(h≠[]\/(i=0/\c=[])))->zu c d a->du H g->Q (.ref j) g
def nV(ks:List Str):ed->ed->Prop
 |.num x z,r=>r=.num x z
 |.op x s _ _,r=>∃a b,r=.op x s a b/\a∈ks/\b∈ks
 |.call x k e,r=>∃c:List Str,r=.call x k c/\c.length=e.length/\∀b∈c,b∈ks
 |.say _,r=>∃a,r=.say a/\a∈ks
 |.jump d,r=>r=.jump d
 |.test _ d,r=>∃a,r=.test a d/\a∈ks
 |.give _,r=>∃a,r=.give a/\a∈ks
def xu(K:Fg):Sp:=λv H Q _=>∃(j o n:c7) (k:Nat) (m d:List V) (g:List ed) (b:List (List Str)) (u:List Str) (q:List Nat),v=[.ref j,.ref o,.ref n]/\j5 K H j k/\k<=700000/\H o=some (.lst m)/\dZ (gR H) m g/\DW u q g/\(∀y∈u,y≠"")/\(∀c∈q,c<=4)/\
 H n=some (.lst d)/\dZ (zJ H) d b/\b.length=g.length/\(∀(i:Nat) e,b[i]?=some e->e.length<=100)/\(∀(i:Nat) e r,b[i]?=some e->g[i]?=some r->e≠[]\/zX r=true)/\(∀a∈d,a≠.ref j)/\o≠j/\n≠j/\
 ∀(p:c7) (f:List V) (h:List ed) (s:Nat) (l:Hp),l p=some (.tup f)->dZ (gR l) f h->h.length=g.length->(∀(i:Nat) e r t,b[i]?=some e->g[i]?=some r->h[i]?=some t->nV e r t)->j5 K l j s->s<=k+5*g.length->iO j H l->Q (.ref p) l
def iw:ed->List Str
 |.op _ _ a b=>[a,b]
 |.call _ _ c=>c
 |.say a=>[a]
 |.test a _=>[a]
 |.give a=>[a]
 |_=>[]
def Kb(ys:List Str)(e:List Nat)(n:Nat):ed->Prop
 |.num x z=>x∈ys/\0<=z/\z<2 ^ 64
 |.op x s a b=>x∈ys/\s∈KP/\a∈ys/\b∈ys
 |.call x k d=>x∈ys/\e[k]?=some d.length/\∀a∈d,a∈ys
 |.say a=>a∈ys
 |.jump c=>c<n
 |.test a c=>a∈ys/\c<n
 |.give a=>a∈ys
structure pf(ys:List Str)(cs:List Nat)(b:gQ):Prop where
 pnd:b.params.Nodup
 pin:∀y∈b.params,y∈ys
 pos:b.rows≠[]
 few:b.rows.length<=60
 rows:∀r∈b.rows,Kb ys cs b.rows.length r
 last:b.rows.getLast?.map qA=some true
 ring:zB b.rows
 known:∃kss,kss.length=b.rows.length/\zu b.params b.rows kss/\∀(n:Nat) r ks,b.rows[n]?=some r->kss[n]?=some ks->∀y∈iw r,y∈ks
structure DU(ys:List Str)(cs:List Nat)(bs:List gQ):Prop where
 ynd:ys.Nodup
 ynm:∀y∈ys,Nm y
 y2:2<=ys.length
 y6:ys.length<=6
 pos:1<=bs.length
 few:bs.length<=5
 nnd:(bs.map (·.name)).Nodup
 nnm:∀b∈bs,Nm b.name
 cnt:bs.map (·.params.length)=cs
 c4:∀c∈cs,c<=4
 part:∀b∈bs,pf ys cs b
def EW(K:Fg):Sp:=λo H Q _=>∃(a i j h:c7) (n:Str) (m k:Nat) (d f:List Str) (e:List Nat),o=[.ref a,.str n,.ref i,.ref j,.ref h,.int (m:Nat)]/\j5 K H a k/\k<=600000/\H i=some (.lst (d.map V.str))/\d≠[]/\d.length<=100/\(∀y∈d,y≠"")/\
 H j=some (.lst (f.map V.str))/\f.length<=100/\f.Nodup/\(∀y∈f,y∈d)/\H h=some (.lst (eU e))/\e≠[]/\e.length<=100/\(∀c∈e,c<=4)/\1<=m/\m<=50/\i≠a/\j≠a/\h≠a/\
 ∀(v:V) (b:gQ) (l:Nat) (g:Hp),mP g v b->b.name=n->b.params=f->pf d e b->b.rows.length<=m+1->j5 K g a l->l<=k+1000->iO a H g->Q v g
def uY(K:Fg):Sp:=λh H Q _=>∃(d:c7) (m k:Nat),h=[.ref d,.int (m:Nat)]/\j5 K H d k/\k<=500000/\1<=m/\m<=50/\
 ∀(p:c7) (c:List V) (e:List gQ) (i:List Str) (g:List Nat) (f:Nat) (a:Hp),a p=some (.tup c)->dZ (mP a) c e->DU i g e->(∀b∈e,b.rows.length<=m+1)->j5 K a d f->f<=k+10000->iO d H a->Q (.ref p) a
def NU:ed->V
 |.jump a=>.int (a:Nat)
 |.test _ a=>.int (a:Nat)
 |_=>.non
def Sd:Sp:=λb H Q _=>∃v r,b=[v]/\gR H v r/\∀(p:c7) (a:Hp),a p=some (.tup ((iw r).map V.str))->du H a->Q (.ref p) a
abbrev uX(_:Fg):Sp:=Sd
def tQ(_:Fg):Sp:=λb H Q _=>∃v r,b=[v]/\gR H v r/\∀(a:Hp),du H a->Q (kJ r) a
def xy(_:Fg):Sp:=λa H Q _=>∃v r,a=[v]/\gR H v r/\Q (NU r) H
def Vm:Sp:=λc H Q _=>∃(rt:c7) (n:Nat) (a:List V) (v:V) (r:ed),c=[.ref rt,.int (n:Nat)]/\H rt=some (.tup a)/\a[n]?=some v/\gR H v r/\∀(p:c7) (b:Hp),b p=some (.tup (eU (fK n r)))->du H b->Q (.ref p) b
abbrev rG(_:Fg):Sp:=Vm
def EU(K:Fg):Sp:=λd H Q _=>∃(a:c7) (b:List Int),d=[.ref a]/\pM K H a b/\b.length<=63/\∀c,Q (.bl true) c
abbrev Ug:Nat:=0
abbrev Tv:Nat:=1
abbrev Q2:Nat:=1
abbrev Qk:Nat:=2
abbrev N8:Nat:=0
abbrev M9:Nat:=1
abbrev N6:Nat:=1
abbrev M6:Nat:=2
abbrev Ui:Nat:=3
abbrev Tx:Nat:=4
abbrev LN:Nat:=4
abbrev La:Nat:=5
abbrev LL:Nat:=0
abbrev K8:Nat:=1
abbrev Oa:Nat:=0
abbrev Nb:Nat:=1
def fM{c:Prop}[Decidable c]{A B:Prop}(a:c->A)(h2:¬c->B):if decide c=true then A else B:=by
 by_cases h:c
 ·rw[decide_eq_true h];exact sH (a h)
 ·rw[decide_eq_false h];exact lT (h2 h)
def pj{c:Prop}[Decidable c]{A B:Prop}(a:¬c->A)(h2:c->B):if(!decide c)=true then A else B:=by
 by_cases h:c
 ·rw[decide_eq_true h];exact lT (h2 h)
 ·rw[decide_eq_false h];exact sH (a h)
def jU{b:Bool}{A B:Prop}(a:b=true->A)(h2:b=false->B):if b=true then A else B:=by
 cases b with
 |true=>exact sH (a rfl)
 |false=>exact lT (h2 rfl)
def D1{a:Type}{xs:List a}{i:Int}{v:a}(b:0<=i)(e:xs[i.toNat]?=some v):P7 xs i=some v:=by
 have c:=(cR.mp e).1;unfold P7 P9;rw[if_pos b,if_pos (by lia)];exact e
def nI{K:Fg}{p:c7}{xs:List V}{i:Int}{v:V}{H:Hp}{Q:VK}(h:fR K H p xs)(a:0<=i)(e:xs[i.toNat]?=some v)(q:Q v H):eJ K (.ref p) (.int i) H Q:=
 .inl ⟨p,xs,i,v,rfl,rfl,h,D1 a e,q⟩
def eP{K:Fg}{p:c7}{xs:List V}{i:Int}{v:V}{H:Hp}{Q:VK}(h:H p=some (.tup xs))(h0:0<=i)(e:xs[i.toNat]?=some v)(q:Q v H):eJ K (.ref p) (.int i) H Q:=
 .inr (.inl ⟨p,xs,i,v,rfl,rfl,fA.of h,D1 h0 e,q⟩)
def Zt{K:Fg}{p:c7}{xs:List V}{i:Int}{v:V}{H:Hp}{Q:VK}(h:H p=some (.tup xs))(e:xs[i.toNat]?=some v)(q:Q v H)(h0:0<=i:=by decide):eJ K (.ref p) (.int i) H Q:=eP h h0 e q
def WN{K:Fg}{z:Str}{i:Int}{c:Nat}{H:Hp}{Q:VK}(hz:z.length<=c6)(a:0<=i)(e:z.cps.toList[i.toNat]?=some c)(q:Q (.str ⟨#[c]⟩) H):eJ K (.str z) (.int i) H Q:=
 .inr (.inr ⟨z,i,c,rfl,rfl,hz,D1 a e,q⟩)
def ES{p:c7}{xs:List V}{i:Int}{v:V}{H:Hp}{Q:Hp->Prop}(h:H p=some (.lst xs))(a:0<=i)(b:i.toNat<xs.length)(q:Q (upd H p (.lst (xs.set i.toNat v)))):pP (.ref p) (.int i) v H Q:=by
 refine⟨p,xs,i,i.toNat,rfl,rfl,h,?_,q⟩;unfold P9;rw[if_pos a,if_pos (by lia)]
def fE{n:Nat}(h:n<=100000):n<c6:=Nat.lt_of_le_of_lt h (by decide)
def LG{ns:List Nat}{i:Nat}{n:Nat}(h:ns[i]?=some n):(eU ns)[i]?=some (.int (n:Nat)):=by
 unfold eU;rw[dw,h];rfl
def hW(ns:List Nat):(eU ns).length=ns.length:=by unfold eU;rw[cT]
def GX{ys:List Str}{i:Nat}{y:Str}(h:ys[i]?=some y):(ys.map V.str)[i]?=some (.str y):=by rw[dw,h];rfl
def rn{H:Hp}{a b:c7}{xs ys:List V}(h:H a=some (.lst xs))(h':H b=some (.tup ys)):a≠b:=SV h h' (by intro z;cases z)
def ib{D:c7}{b:TE}{E:pd}{a:St}{H:Hp}(h:b a H λy H2=>∃ys,H2 D=some (.lst ys)/\ys.length<c6/\E.nx a (upd H2 D (.lst (ys++[y])))):vP D kX b E a H:=by
 unfold vP kX;dsimp only;rw[if_pos rfl];exact h
def no{x y:V}{A B:Prop}(h:¬x=y)(q:B):if decide (x=y)=true then A else B:=fM (λz=>absurd z h) λ_=>q
def Zs{x y:V}{A B:Prop}(q:B)(h:¬x=y:=by decide +kernel):if decide (x=y)=true then A else B:=no h q
def yes{x:V}{A B:Prop}(q:A):if decide (x=x)=true then A else B:=fM (λ_=>q) λz=>absurd rfl z
def Gh{b:Bool}{A B:Prop}(e:b=true)(q:A):if b=true then A else B:=by rw[e];exact sH q
def Gg{b:Bool}{A B:Prop}(e:b=false)(q:B):if b=true then A else B:=by rw[e];exact lT q
def lH(xs:List V)(c:Nat):ph xs none (some (c:Int))=xs.take c:=by
 unfold ph;rw[HT.sIx_none,HT.sIx_nat,oT,va,<-List.take_eq_take_min]
def vz(xs:List V)(c:Nat):ph xs (some (c:Int)) none=xs.drop c:=by
 unfold ph;rw[HT.sIx_none,HT.sIx_nat];by_cases h:c<=xs.length
 ·rw[nQ h];exact eK (by rw[gm];lia)
 ·rw[qr (by lia),List.drop_length,List.drop_of_length_le (by lia),List.take_nil]
def tL(ys:List Str):(ys.map V.str).all iT=true:=by
 rw[gd];intro v a;obtain⟨y,_,rfl⟩:=jS.mp a;rfl
def zU(y:Str)(a:List Str):kM (.str y) (a.map V.str)=decide (y∈a):=by
 unfold kM;rw[List.any_map,Bool.eq_iff_iff,List.any_eq_true,decide_eq_true_eq];constructor
 ·rintro⟨z,c,e⟩;have b:(z==y)=true:=e;have:z=y:=by simpa using b
  rw[<-this];exact c
 ·intro h;exact⟨y,h,by show(y==y)=true;simp⟩
def iO.past{a l:c7}{H b H2:Hp}(x:iO a H b)(d:H l=none)(y:iO l b H2):iO a H H2:=λc u n h=>y c u (de h d) (x c u n h)
def BV(P:Nat->St->Hp->Prop):∃b:Nat->St->Hp->Prop,∀{i a H},b i a H↔P i a H:=⟨P,Iff.rfl⟩
section
variable(f:Nat->Nat)(p:Nat->Bool)
def oN:Nat->Nat->Nat
 |0,n=>n
 |k+1,n=>oN k (f n)
theorem rj:∀a b n,oN f (a+b) n=oN f b (oN f a n)
 |0,b,n=>by rw[Nat.zero_add];rfl
 |a+1,b,n=>by rw[Nat.succ_add];exact rj a b (f n)
def Gn(k n:Nat):oN f (k+1) n=f (oN f k n):=by rw[rj f k 1 n];rfl
theorem Kt{n:Nat}(h:f n=n):∀k,oN f k n=n
 |0=>rfl
 |k+1=>by show oN f k (f n)=n;rw[h];exact Kt h k
variable{f p}
def N4(a:∀n,p n=false->f n=n){k n:Nat}(h:p (oN f k n)=false)(m:Nat):oN f (k+m) n=oN f k n:=by
 rw[rj,Kt f (a _ h)]
def Ku(a:∀n,p n=false->f n=n){m n:Nat}(h:p (oN f m n)=true){k:Nat}(b:k<=m):p (oN f k n)=true:=by
 cases q:p (oN f k n) with
 |true=>rfl
 |false=>
  have e:=N4 a q (m-k);rw[ou b] at e;rw[e,q] at h;cases h
def C7(g:∀n,p n=false->f n=n){i j n:Nat}(c:i<j)(e:oN f i n=oN f j n)(h:∀k,k<j->p (oN f k n)=true):∀k,p (oN f k n)=true:=by
 intro k
 induction k using Nat.strongRecOn with
 |ind k d=>
  by_cases a:k<j
  ·exact h k a
  ·have b:oN f k n=oN f (i+(k-j)) n:=by
    rw[rj f i,e,<-rj f j,ou (Nat.le_of_not_lt a)]
   rw[b];exact d _ (by omega)
theorem OB:∀(L:Nat) (g:Nat->Nat),(∀k,k<=L->g k<L)->∃i j,i<j/\j<=L/\g i=g j
 |0,g,h=>absurd (h 0 (dk _)) (by omega)
 |L+1,g,h=>by
  by_cases m:∃i,i<L+1/\g i=g (L+1)
  ·obtain⟨i,d,e⟩:=m;exact⟨i,L+1,d,dk _,e⟩
  ·have a:∀i,i<L+1->g i≠g (L+1):=λi d e=>m ⟨i,d,e⟩;have q:=h (L+1) (dk _);have l:∀k,k<=L->(if g k=L then g (L+1) else g k)<L:=λk s=>by
    have o:=h k (by omega);have n:=a k (by omega);by_cases e:g k=L
    ·rw[if_pos e];have p:g (L+1)≠L:=λz=>n (by rw[e,z]);omega
    ·rw[if_neg e];omega
   obtain⟨i,j,f,r,e⟩:=OB L (λk=>if g k=L then g (L+1) else g k) l;refine⟨i,j,f,by omega,?_⟩;by_cases c:g i=L
   ·by_cases b:g j=L
    ·rw[c,b]
    ·simp only[if_pos c,if_neg b] at e;exact absurd e.symm (a j (by omega))
   ·by_cases b:g j=L
    ·simp only[if_neg c,if_pos b] at e;exact absurd e (a i (by omega))
    ·simp only[if_neg c,if_neg b] at e;exact e
def Gm(a:∀n,p n=false->f n=n){L n:Nat}(d:∀n,n<L->p n=true->f n<L)(l:n<L)(h:p (oN f L n)=true):∀k,p (oN f k n)=true:=by
 have c:∀k,k<=L->oN f k n<L:=by
  intro k
  induction k with
  |zero=>intro _;exact l
  |succ k m=>
   intro g;rw[Gn];exact d _ (m (by omega)) (Ku a h (by omega))
 obtain⟨i,j,b,o,e⟩:=OB L (λk=>oN f k n) c;exact C7 a b e λk g=>Ku a h (by omega)
end
inductive gb where
 |num (z:Int)
 |op (s:Str) (i j:Int)
 |keep (i:Int)
 |say (i:Int)
 |jump (to:Int)
 |test (i to:Int)
 |call (k:Int) (as:List Int)
 |give (i:Int)
def eZ:gb->Str
 |.num _=>"num"|.op _ _ _=>"op"|.keep _=>"keep"|.say _=>"say"|.jump _=>"jump"|.test _ _=>"test"|.call _ _=>"call"|.give _=>"give"
def hI(H:Hp)(v:V):gb->Prop
 |.num z=>∃p,v=.ref p/\H p=some (.tup [.str "num",.int z])
 |.op s i j=>∃p,v=.ref p/\H p=some (.tup [.str "op",.str s,.int i,.int j])
 |.keep i=>∃p,v=.ref p/\H p=some (.tup [.str "keep",.int i])
 |.say i=>∃p,v=.ref p/\H p=some (.tup [.str "say",.int i])
 |.jump a=>∃p,v=.ref p/\H p=some (.tup [.str "jump",.int a])
 |.test i a=>∃p,v=.ref p/\H p=some (.tup [.str "test",.int i,.int a])
 |.call k b=>∃p q,v=.ref p/\H p=some (.tup [.str "call",.int k,.ref q])/\H q=some (.tup (b.map V.int))
 |.give i=>∃p,v=.ref p/\H p=some (.tup [.str "give",.int i])
def hI.mono{H H':Hp}{v:V}{r:gb}(h:hI H v r)(t:Tp H H'):hI H' v r:=by
 cases r with
 |call k b=>obtain⟨p,q,e,h,a⟩:=h;exact⟨p,q,e,t _ _ h,t _ _ a⟩
 |_=>obtain⟨p,e,h⟩:=h;exact⟨p,e,t _ _ h⟩
def hI.ref{H:Hp}{v:V}{r:gb}(h:hI H v r):∃p xs,v=.ref p/\H p=some (.tup (.str (eZ r)::xs)):=by
 cases r with
 |call k a=>obtain⟨p,q,e,h,b⟩:=h;exact⟨p,_,e,h⟩
 |_=>obtain⟨p,e,h⟩:=h;exact⟨p,_,e,h⟩
abbrev jb:=Int×List gb
def j7(H:Hp)(v:V)(b:jb):Prop:=∃p r a,v=.ref p/\H p=some (.tup [.int b.1,.ref r])/\H r=some (.tup a)/\dZ (hI H) a b.2
def j7.mono{H H':Hp}{v:V}{b:jb}(h:j7 H v b)(t:Tp H H'):j7 H' v b:=by
 obtain⟨p,r,a,e,c,d,f⟩:=h;exact⟨p,r,a,e,t _ _ c,t _ _ d,f.imp λ_ _ z=>z.mono t⟩
abbrev MZ:=Int×List jb
def qY(H:Hp)(v:V)(c:MZ):Prop:=∃p q a,v=.ref p/\H p=some (.tup [.int c.1,.ref q])/\H q=some (.tup a)/\dZ (j7 H) a c.2
def qY.mono{H H':Hp}{v:V}{c:MZ}(h:qY H v c)(t:Tp H H'):qY H' v c:=by
 obtain⟨p,q,a,e,b,d,f⟩:=h;exact⟨p,q,a,e,t _ _ b,t _ _ d,f.imp λ_ _ z=>z.mono t⟩
def d5:gb->List Int
 |.op _ i j=>[i,j]
 |.call _ a=>a
 |.keep i=>[i]
 |.say i=>[i]
 |.test i _=>[i]
 |.give i=>[i]
 |_=>[]
def C0:gb->Option Int
 |.jump a=>some a
 |.test _ a=>some a
 |_=>none
def w6(r:gb):V:=match C0 r with
 |some a=>.int a
 |none=>.non
def ij(n:Int):gb->List Int
 |.jump a=>[a]
 |.test _ a=>[n+1,a]
 |.give _=>[]
 |_=>[n+1]
def wZ:gb->Bool
 |.jump _=>true
 |.give _=>true
 |_=>false
def lE:gb->Bool
 |.keep _=>true
 |.jump _=>true
 |_=>false
def oG(rs:List gb)(n:Nat):Bool:=match rs[n]? with
 |some r=>lE r
 |none=>false
def ko(rs:List gb)(n:Nat):Nat:=match rs[n]? with
 |some (.keep _)=>n+1
 |some (.jump a)=>a.toNat
 |_=>n
def EY(rs:List gb)(n:Nat)(h:oG rs n=false):ko rs n=n:=by
 unfold oG at h;unfold ko;cases e:rs[n]? with
 |none=>rfl
 |some r=>rw[e] at h;cases r<;>first|rfl|cases h
def vq(rs:List gb):Prop:=∀n,n<rs.length->oG rs (oN (ko rs) rs.length n)=false
def Within(rs:List gb):Prop:=∀n,n<rs.length->oG rs n=true->ko rs n<rs.length
def wJ(rs:List gb):Prop:=rs.getLast?.map wZ=some true/\∀r∈rs,∀a,C0 r=some a->0<=a/\a<rs.length
def zp(ps:List jb)(k:Int)(as:List Int):Prop:=0<=k/\k<ps.length/\∀b,ps[k.toNat]?=some b->(as.length:Int)=b.1
def DV(places:Int)(ps:List jb)(n:Nat)(r:gb):Prop:=
 (∀i∈d5 r,0<=i/\i<places)/\(∀a,C0 r=some a->0<=a/\a<n)/\∀k b,r=.call k b->zp ps k b
def vt(places:Int)(ps:List jb)(b:jb):Prop:=
 (0<=b.1/\b.1<=4)/\b.2≠[]/\b.2.getLast?.map wZ=some true/\(∀r∈b.2,DV places ps b.2.length r)/\vq b.2
def Tu(c:MZ):Prop:=(1<=c.1/\c.1<=16)/\∀b∈c.2,vt c.1 c.2 b
def MP{rs:List gb}(d:rs.getLast?.map wZ=some true)(g:∀r∈rs,∀a,C0 r=some a->0<=a/\a<rs.length):Within rs:=by
 intro n c b;unfold oG at b;unfold ko;rw[cP c] at b ⊢;have h:=gg c;cases e:rs[n] with
 |keep i=>
  show n+1<rs.length;rcases Nat.lt_or_ge (n+1) rs.length with z|z
  ·exact z
  ·have f:rs.getLast?=some rs[n]:=by
    rw[fY];have:rs.length-1=n:=by omega
    rw[this];exact cP c
   rw[f,e] at d;cases d
 |jump a=>
  have:=g _ h a (by rw[e];rfl);show a.toNat<rs.length;omega
 |_=>rw[e] at b;cases b
def wJ.within{rs:List gb}(h:wJ rs):Within rs:=MP h.1 h.2
def xt(_:Fg):Sp:=λa H Q _=>∃v r,a=[v]/\hI H v r/\Q (w6 r) H
def uV(_:Fg):Sp:=λc H Q _=>∃(rt:c7) (n:Nat) (a:List V) (v:V) (r:gb),c=[.ref rt,.int (n:Nat)]/\H rt=some (.tup a)/\a[n]?=some v/\hI H v r/\
 ∀(p:c7) (b:Hp),b p=some (.tup ((ij (n:Nat) r).map V.int))->du H b->Q (.ref p) b
def jW(_:Fg):Sp:=λd H Q _=>∃a b:Int,d=[.int a,.int b]/\∀c:Bool,(c=true↔0<=a/\a<b)->Q (.bl c) H
def lx(_:Fg):Sp:=λb H Q _=>∃v r,b=[v]/\hI H v r/\∀(p:c7) (a:Hp),a p=some (.tup ((d5 r).map V.int))->du H a->Q (.ref p) a
def pB(_:Fg):Sp:=λe H Q _=>∃(q:c7) (v:V) (a:List V) (d:List jb) (k:Int) (b:List Int),e=[.ref q,v]/\H q=some (.tup a)/\dZ (j7 H) a d/\hI H v (.call k b)/\
 ∀c:Bool,(c=true↔zp d k b)->Q (.bl c) H
def qf(_:Fg):Sp:=λg H Q _=>∃(e:Int) (q rt:c7) (v:V) (a b:List V) (f:List jb) (r:gb),g=[.int e,.ref q,.ref rt,v]/\H q=some (.tup a)/\dZ (j7 H) a f/\H rt=some (.tup b)/\hI H v r/\(d5 r).length<=1000/\
 ∀(c:Bool) (d:Hp),(c=true↔DV e f b.length r)->du H d->Q (.bl c) d
def qd(_:Fg):Sp:=λe H Q _=>∃(rt:c7) (a:List V) (b:List gb),e=[.ref rt]/\H rt=some (.tup a)/\dZ (hI H) a b/\b.length<=1000/\wJ b/\
 ∀(c:Bool) (d:Hp),(c=true↔¬vq b)->du H d->Q (.bl c) d
structure Tt(c:MZ):Prop where
 parts:c.2.length<=1000
 rows:∀b∈c.2,b.2.length<=1000
 ats:∀b∈c.2,∀r∈b.2,(d5 r).length<=1000
def pC(_:Fg):Sp:=λg H Q _=>∃(e:Int) (q:c7) (v:V) (a:List V) (f:List jb) (b:jb),g=[.int e,.ref q,v]/\H q=some (.tup a)/\dZ (j7 H) a f/\j7 H v b/\b.2.length<=1000/\(∀r∈b.2,(d5 r).length<=1000)/\
 ∀(c:Bool) (d:Hp),(c=true↔vt e f b)->du H d->Q (.bl c) d
def qH(_:Fg):Sp:=λd H Q _=>∃(v:V) (c:MZ),d=[v]/\qY H v c/\Tt c/\∀(b:Bool) (a:Hp),(b=true↔Tu c)->du H a->Q (.bl b) a
abbrev xf:Nat:=0
abbrev wL:Nat:=1
abbrev yx:Nat:=0
abbrev yk:Nat:=1
abbrev Cb:Nat:=1
abbrev BI:Nat:=2
abbrev Er:Nat:=2
abbrev DJ:Nat:=3
abbrev Eo:Nat:=2
abbrev DH:Nat:=3
abbrev Cc:Nat:=3
abbrev BJ:Nat:=4
abbrev N9:Nat:=4
abbrev Na:Nat:=5
def nz(b:List V)(x:V):List V:=(x::b).take b.length
def Ir(n:Nat)(args:List V)(e:V):List V:=args.foldl nz (dm n e)
def SeqAt(H:Hp)(a:c7)(xs:List V):Prop:=H a=some (.lst xs)\/H a=some (.tup xs)
def nG(_:Fg):Sp:=λd H Q _=>∃(b:c7) (x:V) (a:List V),d=[.ref b,x]/\H b=some (.tup a)/\a≠[]/\a.length<=1000/\
 ∀(p:c7) (c:Hp),c p=some (.tup (nz a x))->du H c->Q (.ref p) c
def uW(_:Fg):Sp:=λd H Q _=>∃(n:Nat) (a:c7) (e:V) (c:List V),d=[.int (n:Nat),.ref a,e]/\SeqAt H a c/\1<=n/\n<=1000/\
 ∀(p:c7) (b:Hp),b p=some (.tup (Ir n c e))->du H b->Q (.ref p) b
abbrev IQ:Nat:=0
abbrev HU:Nat:=1
abbrev LK:Nat:=1
abbrev K7:Nat:=2
def oV:Option Str->V
 |none=>.non
 |some y=>.str y
def gs(a:List (Option Str)):List V:=a.map oV
def KA(o:Option Str):iT (oV o)=true:=by cases o<;>rfl
def vH(b:List (Option Str)):(gs b).all iT=true:=by
 rw[gd];intro v a;obtain⟨y,_,rfl⟩:=jS.mp a;exact KA y
def fk(a:List (Option Str)):(gs a).length=a.length:=cT ..
def lh{a:List (Option Str)}{i:Nat}{o:Option Str}(h:a[i]?=some o):(gs a)[i]?=some (oV o):=by
 unfold gs;rw[dw,h];rfl
def Af{a:List (Option Str)}{i:Nat}{v:V}(h:(gs a)[i]?=some v):∃o,a[i]?=some o/\v=oV o:=by
 unfold gs at h;rw[dw] at h;cases e:a[i]? with
 |none=>rw[e] at h;cases h
 |some o=>rw[e] at h;exact⟨o,rfl,(Option.some.inj h).symm⟩
def xZ(a b:Option Str):qx (oV a) (oV b)=decide (a=b):=by
 cases a with
 |none=>cases b with
  |none=>rfl
  |some y=>rfl
 |some x=>cases b with
  |none=>rfl
  |some y=>
   show(x==y)=decide (some x=some y);rw[Bool.eq_iff_iff,beq_iff_eq,decide_eq_true_eq];exact⟨λh=>by rw[h],λh=>Option.some.inj h⟩
def xi{a b:Option Str}(h:oV a=oV b):a=b:=by
 cases a with
 |none=>cases b with
  |none=>rfl
  |some y=>cases h
 |some x=>cases b with
  |none=>cases h
  |some y=>injection h with h;rw[h]
def Om{a:Option Str}:oV a=.non↔a=none:=⟨λh=>xi (b:=none) h,λh=>by rw[h];rfl⟩
def jg(a:List (Option Str))(x:Option Str):List (Option Str):=(x::a).take a.length
def OG(a:List (Option Str))(x:Option Str):nz (gs a) (oV x)=gs (jg a x):=by
 unfold nz jg gs;rw[cT,gv,gu]
def kC(a:List (Option Str))(x:Option Str):(jg a x).length=a.length:=by
 unfold jg;rw[dB,fB];omega
def jz(x:Str)(o:Option Str):Option Str:=if o=some x then none else o
def DZ(a:List (Option Str))(x:Str):List (Option Str):=jg (a.map (jz x)) (some x)
def qC(a:List (Option Str))(i:Nat):List (Option Str):=jg a ((a[i]?).getD none)
def SD(p:Option Str×Option Str):Bool:=decide (p.1=none) || decide (p.1=p.2)
def J4(as bs:List (Option Str)):Bool:=((as.zip bs).map SD).all id
def qB:gb->Bool
 |.num _=>true
 |.op _ _ _=>true
 |.call _ _=>true
 |_=>false
def BE(r:gb)(a:List (Option Str))(x:Option Str):List (Option Str):=match r with
 |.keep i=>qC a i.toNat
 |_=>match x with
  |some y=>if qB r then DZ a y else a
  |none=>a
def sT(_:Fg):Sp:=λf H Q _=>∃(a b:c7) (c d:List (Option Str)),f=[.ref a,.ref b]/\H a=some (.tup (gs c))/\H b=some (.tup (gs d))/\c.length=d.length/\c.length<=1000/\
 ∀e,du H e->Q (.bl (J4 c d)) e
def qg(_:Fg):Sp:=λd H Q _=>∃(a:c7) (b:List (Option Str)) (x:Str),d=[.ref a,.str x]/\H a=some (.tup (gs b))/\b≠[]/\b.length<=1000/\
 ∀(p:c7) (c:Hp),c p=some (.tup (gs (DZ b x)))->du H c->Q (.ref p) c
abbrev IU:Nat:=0
abbrev HX:Nat:=1
abbrev Es:Nat:=1
abbrev DK:Nat:=2
abbrev IP:Nat:=2
abbrev HS:Nat:=3
end Bg
namespace Bg
open PySem PySem.Spec PyProof.Rows L2
abbrev Qn:List Str:=["_law_state","_law_many"]
abbrev Nf:List Str:=["_law_state","_law_many","_law_script","_law_k","_law_digit","_law_cell"]
def Pt(K:Fg):TS:=(eY (dF (nB) (dF (nB) (dF (kc K) (cU 5) (cU 5)) (tC (.int 1999999973))) (cU 1)))
def Pu(K:Fg):TS:=(dU (eF (dF (nB) (dF (kc K) (cU 5) (cU 5)) (tC (.int 2147483587))) (dy 5)) (Pt K))
def G7(K:Fg):TS:=(dU (eF (dF (nB) (dF (kc K) (dF (nB) (cU 5) (tC (.int 2147483629))) (dF (ig K) (cU 3) Zd)) (tC (.int 2147483629))) (dy 5)) (Pu K))
def Pv(K:Fg):TS:=(dU (gc (eA (dF (L8) (iN (iE K) (cQ (cU 2) dh)) Za)) (eF (dF (ig K) (cU 5) (dF (kc K) (dF (eJ K) (cU 2) (dF (nB) (dF (kc K) (cU 3) (tC (.int 7))) (iN (iE K) (cQ (cU 2) dh)))) (dF (ig K) (tC (.int 48271)) (cU 3)))) (dy 5)) eO) (G7 K))
def vW(K:Fg):TS:=(dU (eF (dF (ig K) (dF (kc K) (cU 3) (tC (.int 7919))) Zi) (dy 5)) (Pv K))
def Pw(K:Fg):TS:=(eY (cU 4))
def G8(K:Fg):TS:=(gc (eA (dF ((Ap K true)) (dF (eJ K) (cU 0) Zc) (eR (cQ Za (cQ (Sf Jj Zb) dh))))) (dU (eF (iN (RU) (cQ (dF (eJ K) (cU 0) Zc) (cQ (cU 1) dh))) (tU K 2 (jw (sG (cU 0) Zc pP) (jw (dy 4) sF)))) (Pw K)) eO)
def G9(K:Fg):TS:=(dU (gc (u1 (eA (dF (uS) (dF (ig K) (dF (Ji) (cU 3) Zq) Zb) (iN (iE K) (cQ (cU 2) dh)))) (eA (dF (jL K) (dF (nB) (dF (eJ K) (cU 2) Za) Zc) Zb))) (dU (gc (eA (dF (jL K) (dF (nB) (cU 3) Zq) Za)) (eF (dF (eJ K) (cU 2) (dF (ig K) (dF (Ji) (cU 3) Zq) Zb)) (sG (cU 0) Zc pP)) eO) (G8 K)) (gc (eA (dF (uS) (cU 3) (iN (iE K) (cQ (cU 2) dh)))) (eY (dF (nB) (dF (eJ K) (cU 2) (cU 3)) (cU 1))) eO)) (vW K))
def Px(K:Fg):TS:=(dU (eF (dF (ig K) (cU 3) Zb) (sG (cU 0) Zb pP)) (G9 K))
def Pr(K:Fg):TS:=(dU (eF (oz (Dj K) (cU 0) fo (gH Zc)) (NT K 2 (jw (dy 2) (jw (dy 3) sF)))) (Px K))
abbrev Ni:List Str:=["_law_state","_law_many"]
abbrev DO:List Str:=["_law_state","_law_many","_law_letters","_law_size","_law_at","_law_first","_law_base","_law_found","_law_k","_law_some","_law_name"]
def Du(K:Fg):TS:=(eY (cU 7))
def Dv(K:Fg):TS:=(ow (GZ K "list" j9 (cU 7) (cQ (cU 10) dh)))
def MB(K:Fg):TS:=(dU (gc (Pn (eA (dF ((Ap K false)) (cU 10) (eR (cQ (tC (.str "part")) (cQ Ze (cQ Zo (cQ Zf (cQ Zj (cQ Zk dh))))))))) (u1 (eA (dF (uS) (cU 3) Zr)) (eA (dF (jL K) (dF (nB) (dF (ig K) (cU 3) (cU 8)) Zd) Zb)))) (eF (dF (ig K) (cU 10) (tC (.str "x"))) (dy 10)) eO) (Dv K))
def MC(K:Fg):TS:=(dU (eF (GZ K "str" (OQ K) Zl (cQ (cU 9) dh)) (dy 10)) (MB K))
def MD(K:Fg):TS:=(dU (eF (dF (ig K) (dF (ig K) (oz (Dj K) (cU 6) fo (gH (cU 4))) (oH (cQ (dF (eJ K) (cU 2) (dF (nB) (dF (ig K) (cU 5) (dF (kc K) Zi (cU 8))) (tC (.int 26)))) dh))) (oz (Dj K) (cU 6) (gH (dF (ig K) (cU 4) Zb)) fo)) (dy 9)) (MC K))
def ME(K:Fg):TS:=(dU (oj (mu (cQ (cU 1) dh)) (dy 8) (MD K)) (Du K))
def MF(K:Fg):TS:=(dU (eF (oH dh) (dy 7)) (ME K))
def MG(K:Fg):TS:=(dU (eF (iq [] 1 (mu (cQ (cU 3) dh)) (dy 11) kX (dF (eJ K) (cU 2) (dF (nB) (dF (ig K) (cU 5) (dF (kc K) (dF (kc K) (tC (.int 7)) (cU 11)) (dR (eN K) [] E0 (cQ (cU 0) (cQ Zm dh))))) (tC (.int 26))))) (dy 6)) (MF K))
def MH(K:Fg):TS:=(dU (eF (dR (eN K) [] E0 (cQ (cU 0) (cQ (tC (.int 26)) dh))) (dy 5)) (MG K))
def AV(K:Fg):TS:=(dU (eF (dR (eN K) [] E0 (cQ (cU 0) (cQ (cU 3) dh))) (dy 4)) (MH K))
def JQ(K:Fg):TS:=(dU (eF (dF (ig K) Zb (dR (eN K) [] E0 (cQ (cU 0) (cQ Zr dh)))) (dy 3)) (AV K))
def KR(K:Fg):TS:=(dU (eF (tC (.str "abcdefghijklmnopqrstuvwxyz")) (dy 2)) (JQ K))
abbrev Lf:List Str:=["_law_rows","_law_names_here","_law_bare"]
abbrev FJ:List Str:=["_law_rows","_law_names_here","_law_bare","_law_last","_law_n","_law_to","_law_turn"]
def JL(K:Fg):TS:=(eY (cU 0))
def JM(K:Fg):TS:=(gc (eA (dF (jL K) (dF (eJ K) (dF (eJ K) (cU 0) (cU 5)) Za) Zf)) (eF (dF (eJ K) (oH (cQ (eR (cQ Zo (cQ Zl dh))) (cQ (eR (cQ Zk (cQ Zl dh))) dh))) (iN (Di) (cQ (dF (jL K) (cU 4) (cU 3)) dh))) (sG (cU 0) (cU 4) pP)) eO)
def JN(K:Fg):TS:=(gc (eA (dF (jL K) (dF (eJ K) (dF (eJ K) (cU 0) (cU 5)) Za) Zf)) (eF (dF (eJ K) (dF (eJ K) (cU 0) (cU 5)) Zb) (dy 5)) eO)
def JO(K:Fg):TS:=(dU (oj (kz K (cU 0)) (dy 6) (JN K)) (JM K))
def JP(K:Fg):TS:=(dU (eF (cU 4) (dy 5)) (JO K))
def AR(K:Fg):TS:=(dU (oj (mu (cQ (iN (iE K) (cQ (cU 0) dh)) dh)) (dy 4) (JP K)) (JL K))
def AS(K:Fg):TS:=(dU (gc (u1 (tB (cU 2)) (u1 (eA (dF (xk K) (dF (eJ K) (dF (eJ K) (cU 0) Za) Za) Zh)) (eA (dF (L8) (cU 3) Za)))) (eF (eR (cQ Zh (cQ (dF (eJ K) (cU 1) Za) (cQ Zd dh)))) (sG (cU 0) Za pP)) eO) (AR K))
def AU(K:Fg):TS:=(dU (gc (eA (dF ((Ap K true)) (dF (eJ K) (dF (eJ K) (cU 0) (cU 3)) Za) (eR (cQ Zf (cQ Zk dh))))) (eF (eR (cQ Zk (cQ Zl dh))) (sG (cU 0) (cU 3) pP)) eO) (AS K))
def He(K:Fg):TS:=(dU (eF (dF (KG) (iN (iE K) (cQ (cU 0) dh)) Zb) (dy 3)) (AU K))
abbrev Ld:List Str:=["_law_state","_law_rows","_law_known"]
abbrev zv:List Str:=["_law_state","_law_rows","_law_known","_law_found","_law_n","_law_row","_law_some","_law_thing"]
def JH(K:Fg):TS:=(eY (iN (gK K) (cQ (cU 3) dh)))
def JI(K:Fg):TS:=(ow (GZ K "list" j9 (cU 3) (cQ (dF (ig K) (eR (cQ (dF (eJ K) (cU 5) Za) dh)) (iN (gK K) (cQ (cU 6) dh))) dh)))
def AL(K:Fg):TS:=(ow (GZ K "list" j9 (cU 6) (cQ (cU 7) dh)))
def AM(K:Fg):TS:=(dU (gc (eA (dF (jL K) (cU 7) Zl)) (eF (dF (eJ K) (dF (eJ K) (cU 2) (cU 4)) (dR (eN K) [] E0 (cQ (cU 0) (cQ (iN (iE K) (cQ (dF (eJ K) (cU 2) (cU 4)) dh)) dh)))) (dy 7)) (gc (tB (iN (RX K) (cQ (cU 7) (cQ (tC (.ty "tuple")) dh)))) (eF (iN (gK K) (cQ (iq [] 1 (kz K (cU 7)) (dy 8) kX (dF (eJ K) (dF (eJ K) (cU 2) (cU 4)) (dR (eN K) [] E0 (cQ (cU 0) (cQ (iN (iE K) (cQ (dF (eJ K) (cU 2) (cU 4)) dh)) dh))))) dh)) (dy 7)) eO)) (AL K))
def AN(K:Fg):TS:=(dU (oj (kz K (oz (Dj K) (cU 5) (gH Zb) fo)) (dy 7) (AM K)) (JI K))
def AO(K:Fg):TS:=(dU (eF (oH dh) (dy 6)) (AN K))
def JJ(K:Fg):TS:=(dU (oj (NZ K (cQ (cU 1) dh)) (tU K 2 (jw (dy 4) (jw (dy 5) sF))) (AO K)) (JH K))
def Ha(K:Fg):TS:=(dU (eF (oH dh) (dy 3)) (JJ K))
abbrev Qp:List Str:=["_law_state","_law_word","_law_names_here","_law_params","_law_counts","_law_most"]
abbrev Ia:List Str:=["_law_state","_law_word","_law_names_here","_law_params","_law_counts","_law_most","_law_many","_law_rows","_law_known"]
def PH(K:Fg):TS:=(eY (eR (cQ (cU 1) (cQ (iN (gK K) (cQ (cU 3) dh)) (cQ (dR (xu K) [] E0 (cQ (cU 0) (cQ (cU 7) (cQ (cU 8) dh)))) dh)))))
def PJ(K:Fg):TS:=(dU (eF (dR (rL K) [] E0 (cQ (cU 7) (cQ (cU 2) (cQ (cU 3) dh)))) (dy 8)) (PH K))
def PL(K:Fg):TS:=(dU (eF (dR (xx K) [] E0 (cQ (cU 7) (cQ (cU 2) (cQ (dF (jL K) (iN (iE K) (cQ (cU 3) dh)) Za) dh)))) (dy 7)) (PJ K))
def PM(K:Fg):TS:=(dU (eF (iq [] 1 (mu (cQ (cU 6) dh)) (dy 9) kX (dR (rK K) [] E0 (cQ (cU 0) (cQ (cU 2) (cQ (cU 6) (cQ (cU 4) dh)))))) (dy 7)) (PL K))
def PF(K:Fg):TS:=(dU (eF (iN (OR) (cQ (dF (ig K) Zb (iN (Di) (cQ (dF (jL K) (iN (iE K) (cQ (cU 3) dh)) Za) dh))) (cQ (dF (ig K) Zb (dR (eN K) [] E0 (cQ (cU 0) (cQ (cU 5) dh)))) dh))) (dy 6)) (PM K))
abbrev Ii:List Str:=["_law_state","_law_most"]
abbrev wO:List Str:=["_law_state","_law_most","_law_five","_law_words","_law_names_here","_law_counts","_law_found","_law_word","_law_many","_law_turn","_law_params"]
def Hu(K:Fg):TS:=(eY (iN (gK K) (cQ (cU 6) dh)))
def Hv(K:Fg):TS:=(ow (GZ K "list" j9 (cU 6) (cQ (dR (EW K) [] E0 (cQ (cU 0) (cQ (cU 7) (cQ (cU 4) (cQ (cU 10) (cQ (cU 5) (cQ (cU 1) dh))))))) dh)))
def Hw(K:Fg):TS:=(dU (eF (oz (Dj K) (dF (ig K) (oz (Dj K) (cU 4) (gH (cU 9)) fo) (oz (Dj K) (cU 4) fo (gH (cU 9)))) fo (gH (cU 8))) (dy 10)) (Hv K))
def Hx(K:Fg):TS:=(dU (eF (dR (eN K) [] E0 (cQ (cU 0) (cQ (iN (iE K) (cQ (cU 4) dh)) dh))) (dy 9)) (Hw K))
def Hy(K:Fg):TS:=(dU (oj (T1 K (cQ (cU 3) (cQ (cU 5) dh))) (tU K 2 (jw (dy 7) (jw (dy 8) sF))) (Hx K)) (Hu K))
def Hz(K:Fg):TS:=(dU (eF (oH dh) (dy 6)) (Hy K))
def HA(K:Fg):TS:=(dU (eF (iq [7] 0 (kz K (cU 3)) (dy 7) kX (dR (eN K) [] E0 (cQ (cU 0) (cQ (dF (ig K) (iN (Wm) (cQ Zm (cQ (iN (iE K) (cQ (cU 4) dh)) dh))) Zb) dh)))) (dy 5)) (Hz K))
def yg(K:Fg):TS:=(dU (eF (dR (vU K) [] E0 (cQ (cU 0) (cQ (dF (ig K) Zc (dR (eN K) [] E0 (cQ (cU 0) (cQ Zi dh)))) dh))) (dy 4)) (HA K))
def HB(K:Fg):TS:=(dU (eF (oz (Dj K) (dR (vU K) [] E0 (cQ (cU 0) (cQ Zi dh))) fo (gH (dF (eJ K) (oH (cQ (dF (ig K) Zb (dR (eN K) [] E0 (cQ (cU 0) (cQ Zd dh)))) (cQ Zi dh))) (cU 2)))) (dy 3)) (yg K))
def DA(K:Fg):TS:=(dU (eF (iN (Di) (cQ (dF (jL K) (dF (nB) (dF (Ji) (iN (W6 K) (cQ (oz (Dj K) (dF (eJ K) (cU 0) Za) fo (gH Zb)) dh)) Zm) (tC (.int 16))) Zi) dh)) (dy 2)) (HB K))
end Bg
namespace Bg
open PySem L2
abbrev TH:Str:="abcdefghijklmnopqrstuvwxyz"
def Kd:TH.length<=c6:=by decide +kernel
def one(c:Nat):Str:=⟨#[c]⟩
theorem F4:∀a:List Nat,(Txt.join "" (a.map one)).cps.toList=a
 |[]=>by decide +kernel
 |c::r=>by
  unfold Txt.join;rw[StrLaws.glued_eq_join]
  induction r generalizing c with
  |nil=>rfl
  |cons d r b=>
   show(one c++("":Str)++Str.join "" ((d::r).map one)).cps.toList=_;have e:(one c++("":Str)++Str.join "" ((d::r).map one)).cps.toList=(one c).cps.toList++("":Str).cps.toList++(Str.join "" ((d::r).map one)).cps.toList:=by
    show((one c).cps++("":Str).cps++(Str.join "" ((d::r).map one)).cps).toList=_;rw[oo,oo]
   rw[e,b d];rfl
def qD(y:Str):y.length=y.cps.toList.length:=by
 show y.cps.size=_;rw[ju]
def FW:∀j:Nat,j<26->TH.cps.toList[j]?=some (97+j):=by decide +kernel
def O7:∀y∈O6,y.length<=4:=by decide +kernel
def Mm:∀y∈O6,y.cps.toList.getLast?≠some 120:=by decide +kernel
def Kh(y:Str):(y++"x").cps.toList=y.cps.toList++[120]:=by
 show(y.cps++("x":Str).cps).toList=_;rw[oo];rfl
def Gz{y:Str}{b:List Nat}(h:y.cps.toList=b)(d:1<=b.length)(e:b.length<=8)(a:∀c∈b,97<=c/\c<=122)(n:y∉O6):Nm y:=
 ⟨by rw[qD,h];exact d,by rw[qD,h];exact e,by rw[h];exact a,n⟩
def V2{y:Str}{b:List Nat}(h:y.cps.toList=b)(g:b.length<=7)(a:∀c∈b,97<=c/\c<=122):Nm (y++"x"):=by
 have e:=Kh y;rw[h] at e;refine⟨by rw[qD,e,c9];simp,by rw[qD,e,c9];simp;lia,λc d=>?_,λf=>?_⟩
 ·rw[e] at d;rcases d9.mp d with z|z
  ·exact a c z
  ·rw[dc.mp z];decide
 ·have:=Mm _ f;rw[e,List.getLast?_append] at this;exact this rfl
def WX(st b l:c7)(n o a:Nat)(f:Int)(g:Hp)(i:Nat):St->Hp->Prop:=λd e=>∃(c:List Str) (h k m:Option V),d=[XU st,XW n,some (.str TH),XW o,XW a,XX f,XU b,XU l,h,k,m]/\e l=some (.lst (c.map V.str))/\c.length=i/\(∀y∈c,Nm y)/\(∀(j:Nat) y,c[j]?=some y->y.cps.toList[a]?=some (97+((f+5*(j:Int)) % 26).toNat))/\iO l (upd g l (.lst [])) e
def RZ{K:Fg}{vs:List V}{H:Hp}{Q:VK}{E:XK}(h:vU K vs H Q E):KR K {nx:=λ_ H'=>Q .non H',rt:=Q} (fQ DO vs) H:=by
 obtain⟨D,n,k,rfl,S,hk,hn,q⟩:=h;refine⟨_,rfl,D,8,k,rfl,S,by lia,by decide,by decide,λd H1 d0 d1 S1 B1=>.inl ⟨_,_,rfl,rfl,?_⟩⟩;obtain⟨G,aF,z1,z8⟩:∃G:Nat,(1:Int)+d=(G:Int)/\1<=G/\G<=8:=⟨(1+d).toNat,by lia,by lia,by lia⟩;show AV K _ [XU D,XW n,some (.str TH),some (.int ((1:Int)+d)),none,none,none,none,none,none,none] H1;rw[aF];refine⟨_,rfl,_,rfl,D,_,k+1,rfl,S1,by lia,by lia,by lia,λa H2 a0 a1 S2 az=>?_⟩;obtain⟨at',rfl⟩:∃j:Nat,a=(j:Int):=⟨a.toNat,by lia⟩;have B2:=B1.trans az;refine⟨_,rfl,D,26,k+2,rfl,S2,by lia,by decide,by decide,λf H3 f0 f1 S3 aA=>?_⟩;have B3:=B2.trans aA;refine⟨_,rfl,_,rfl,by lia,by lia,λb hb=>?_⟩;obtain⟨aJ,aD⟩:=S3.lst;have nb:b≠D:=λz=>by rw[z,aD] at hb;cases hb
 refine mR (λi O H'=>∃(bc:List Nat) (kk:Nat) (o:Option V),O=[XU D,XW n,some (.str TH),XW G,XW at',XX f,none,none,none,none,none,o]/\
  H' b=some (.lst ((bc.map one).map V.str))/\bc.length=i/\(∀c∈bc,97<=c/\c<=122)/\j5 K H' D kk/\kk<=k+3+i/\iO D H H') ?_ ?_ ?_
 ·exact⟨[],k+3,none,rfl,cW,rfl,by simp,S3.new hb,by lia,B3.new hb⟩
 ·rintro i O H' hi ⟨g,kk,o,rfl,R,v,B,S4,ag,B4⟩;have hi:i<G:=by simpa using hi
  refine ib ?_;refine⟨_,rfl,_,rfl,_,rfl,.inl ⟨_,_,rfl,rfl,.inl ⟨by decide,by decide⟩,_,rfl,D,4,kk,rfl,S4,by lia,by decide,by decide,λe H5 e0 e1 S5 B5=>.inl ⟨_,_,rfl,rfl,.inr ⟨by lia,by lia⟩,.inl ⟨_,_,rfl,rfl,_,_,rfl,rfl,(by show(0:Int)<26;decide),?_⟩⟩⟩⟩;have x0:0<=(f+7*(0+(i:Int))*e) % 26:=gY _ (by decide);have x1:(f+7*(0+(i:Int))*e) % 26<26:=gW _ (by decide);refine WN Kd x0 (FW _ (by lia)) ?_;have x2:((f+7*(0+(i:Int))*e) % 26).toNat<26:=by lia
  generalize ((f+7*(0+(i:Int))*e) % 26).toNat=x at x2;have h5:=B5 b _ nb R;refine⟨_,h5,fE (by rw[cT,cT];lia),g++[97+x],kk+1,_,rfl,?_,by simp[v],?_,?_,by lia,?_⟩
  ·rw[cW,dt,dt];rfl
  ·intro y J;rcases d9.mp J with z|z
   ·exact B y z
   ·rw[dc.mp z];lia
  ·exact S5.mono .upd_at h5 (Ne.symm nb)
  ·exact λc' u n' h'=>by
    have w:=(B4.trans B5) c' u n' h';have aG:c'≠b:=λz=>by
     have:H c'=none:=(B3.free (λz'=>n' z') (by rw[z];exact hb));rw[this] at h';cases h'
    rw[dC aG];exact w
 ·rintro O H4 ⟨g,kk,o,rfl,R,v,B,S4,ag,B4⟩;have v:g.length=G:=by simpa using v
  have ag:kk<=k+3+G:=by simpa using ag
  refine⟨Zu,λl hl=>?_⟩;have aq:b≠l:=de R hl;obtain⟨aK,aE⟩:=S4.lst;have ar:D≠l:=de aE hl;have Hl:H l=none:=B4.free (Ne.symm ar) hl;refine⟨_,rfl,_,rfl,by lia,by lia,jO (WX D b l n G at' f H4) ⟨[],none,none,none,rfl,cW,rfl,by simp,by simp,.refl _ _⟩ ?_ ?_⟩
  ·rintro i O H5 hi ⟨ys,o1,o2,o3,rfl,p,m,ak,aa,B5⟩;have hi:i<n:=by simpa using hi
   have I:H5 b=some (.lst ((g.map one).map V.str)):=B5 b _ aq (by rw[dC aq];exact R);refine⟨_,rfl,_,rfl,_,rfl,.inl ⟨b,_,rfl,fR.of I,λp1 ah=>?_⟩⟩;rw[lH,<-gv,<-gv];have L:b≠p1:=de I ah;have r:l≠p1:=de p ah;refine⟨_,rfl,_,rfl,_,rfl,.inl ⟨_,_,rfl,rfl,.inl ⟨by decide,by decide⟩,.inl ⟨_,_,rfl,rfl,_,_,rfl,rfl,(by show(0:Int)<26;decide),?_⟩⟩⟩;have aC:(0:Int)+(i:Int)=(i:Int):=by lia
   rw[aC];have x0:0<=(f+5*(i:Int)) % 26:=gY _ (by decide);have x1:(f+5*(i:Int)) % 26<26:=gW _ (by decide);obtain⟨c,hc⟩:∃c,c=97+((f+5*(i:Int)) % 26).toNat:=⟨_,rfl⟩;refine WN Kd x0 (by rw[FW _ (by lia),<-hc]) ⟨Zv,λp2 U=>?_⟩;have ab:p1≠p2:=de cW U;have ae:b≠p2:=de (by rw[dC L];exact I) U;have C:l≠p2:=de (by rw[dC r];exact p) U;refine .inr (.inr (.inl ⟨p1,p2,_,_,rfl,rfl,by rw[dC ab,cW],cW,?_,λp3 X=>?_⟩))
   ·have:=fE (n:=9) (by decide);rw[cT,cT,dB];show min at' g.length+1<=c6;lia
   have aI:p1≠p3:=de (by rw[dC ab];exact cW) X;have av:b≠p3:=de (by rw[dC ae,dC L];exact I) X;have M:l≠p3:=de (by rw[dC C,dC r];exact p) X;refine⟨_,rfl,_,rfl,.inl ⟨_,_,rfl,rfl,_,rfl,.inl ⟨b,_,rfl,fR.of (by rw[dC av,dC ae,dC L];exact I),λp4 ai=>?_⟩⟩⟩;rw[show((at':Int)+1)=((at'+1:Nat):Int) by lia,vz,<-kA,<-kA];have au:p3≠p4:=de cW ai;have af:l≠p4:=de (by rw[dC M,dC C,dC r];exact p) ai;refine .inr (.inr (.inl ⟨p3,p4,_,_,rfl,rfl,by rw[dC au,cW],cW,?_,λp5 ao=>?_⟩))
   ·have:=fE (n:=100) (by decide);rw[c9,cT,cT,cT,cT,dB,gm];show min at' g.length+1+(g.length-(at'+1))<=c6;lia
   have aw:l≠p5:=de (by rw[dC af,dC M,dC C,dC r];exact p) ao;have ew:((g.take at').map one).map V.str++[V.str ⟨#[c]⟩]++((g.drop (at'+1)).map one).map V.str=((g.take at'++[c]++g.drop (at'+1)).map one).map V.str:=by rw[dt,dt,dt,dt];rfl
   rw[ew];have wl:(g.take at'++[c]++g.drop (at'+1)).length=G:=by rw[c9,c9,dB,gm,d4];lia
   have s:∀y∈g.take at'++[c]++g.drop (at'+1),97<=y/\y<=122:=λy J=>by
    rcases d9.mp J with z|z
    ·rcases d9.mp z with z|z
     ·exact B y (i9 z)
     ·rw[dc.mp z];lia
    ·exact B y (List.mem_of_mem_drop z)
   have Z:(g.take at'++[c]++g.drop (at'+1))[at']?=some c:=by
    have tl:(g.take at').length=at':=by rw[dB];lia
    rw[eu,dA (by lia),tl,iv];rfl
   generalize g.take at'++[c]++g.drop (at'+1)=w at wl s Z ⊢;have B6:=((((B5.new (o:=.lst (((g.take at').map one).map V.str)) ah).new (o:=.lst [V.str ⟨#[c]⟩]) U).new (o:=.lst (((g.take at').map one).map V.str++[V.str ⟨#[c]⟩])) X).new (o:=.lst (((g.drop (at'+1)).map one).map V.str)) ai).new (o:=.lst ((w.map one).map V.str)) ao;have h6:(upd (upd (upd (upd (upd H5 p1 (.lst (((g.take at').map one).map V.str))) p2 (.lst [V.str ⟨#[c]⟩])) p3 (.lst (((g.take at').map one).map V.str++[V.str ⟨#[c]⟩]))) p4 (.lst (((g.drop (at'+1)).map one).map V.str))) p5 (.lst ((w.map one).map V.str))) l=some (.lst (ys.map V.str)):=by
    rw[dC aw,dC af,dC M,dC C,dC r];exact p
   have g6:(upd (upd (upd (upd (upd H5 p1 (.lst (((g.take at').map one).map V.str))) p2 (.lst [V.str ⟨#[c]⟩])) p3 (.lst (((g.take at').map one).map V.str++[V.str ⟨#[c]⟩]))) p4 (.lst (((g.drop (at'+1)).map one).map V.str))) p5 (.lst ((w.map one).map V.str))) p5=some (.lst ((w.map one).map V.str)):=cW;generalize (upd (upd (upd (upd (upd H5 p1 (.lst (((g.take at').map one).map V.str))) p2 (.lst [V.str ⟨#[c]⟩])) p3 (.lst (((g.take at').map one).map V.str++[V.str ⟨#[c]⟩]))) p4 (.lst (((g.drop (at'+1)).map one).map V.str))) p5 (.lst ((w.map one).map V.str)))=H6 at B6 h6 g6 ⊢;have ax:((w.map one).map (·.length)).sum=w.length:=by
    rw[gZ,show((λx:Str=>x.length) ∘ one)=λ_=>1 from rfl,List.map_const',List.sum_replicate_nat,Nat.mul_one]
   refine⟨rfl,_,rfl,"",p5,w.map one,rfl,rfl,fR.of g6,?_,?_⟩
   ·have e:("":Str).length=0:=by decide +kernel
    rw[ax,e,Nat.mul_zero];lia
   have Y:=F4 w;generalize Txt.join "" (w.map one)=aj at Y ⊢;have nl:aj.length=G:=by rw[qD,Y,wl]
   have P:∀(nw:Str) (H7:Hp),Nm nw->nw.cps.toList[at']?=some c->iO l (upd H4 l (.lst [])) H7->H7 l=some (.lst (ys.map V.str))->Dv K {nx:=WX D b l n G at' f H4 (i+1),rt:=Q,ct:=WX D b l n G at' f H4 (i+1),bk:=Du K {nx:=λ_ H'=>Q .non H',rt:=Q}} [XU D,XW n,some (.str TH),XW G,XW at',XX f,XU b,XU l,some (.int (i:Int)),XU p5,some (.str nw)] H7:=λnw H7 w1 w2 B7 h7=>by
    refine⟨_,rfl,.inl ⟨rfl,_,fR.of h7⟩,_,rfl,l,_,_,rfl,rfl,h7,fE (by rw[cT];lia),?_⟩;refine⟨ys++[nw],_,_,_,rfl,?_,by simp[m],?_,?_,B7.trans .upd_at⟩
    ·rw[cW,dt];rfl
    ·intro y J;rcases d9.mp J with z|z
     ·exact ak y z
     ·rw[dc.mp z];exact w1
    ·intro j y J;by_cases cj:j<ys.length
     ·rw[dX cj] at J;exact aa j y J
     ·have aB:j=i:=by
       have:=(cR.mp J).1;rw[c9,d4] at this;lia
      subst aB;rw[dA (by lia),m,iv] at J;cases J;rw[<-hc];exact w2
   refine⟨_,rfl,(by show 6<=c6;decide),λt ht=>⟨t,_,rfl,.inr (fA.of cW),rfl,rfl,_,rfl,?_⟩⟩;have aH:l≠t:=de h6 ht;have B7:=B6.new (o:=.tup [V.str "part",V.str "call",V.str "say",V.str "jump",V.str "test",V.str "give"]) ht;have h7:(upd H6 t (.tup [V.str "part",V.str "call",V.str "say",V.str "jump",V.str "test",V.str "give"])) l=some (.lst (ys.map V.str)):=by rw[dC aH];exact h6
   have xl:("x":Str).length=1:=by decide +kernel
   have ay:(aj++"x").cps.toList[at']?=some c:=by
    rw[Kh,Y,dX (by rw[wl];lia)];exact Z
   show if kM (.str aj) (O6.map V.str)=true then _ else _;rw[zU];refine fM (λT=>?_) (λT=>?_)
   ·refine⟨_,rfl,.inr (.inl ⟨_,_,rfl,rfl,by rw[xl];have:=fE (n:=100) (by decide);lia,?_⟩)⟩;have z4:=O7 _ T;exact P _ _ (V2 Y (by rw[wl];lia) s) ay B7 h7
   ·refine⟨_,rfl,_,_,rfl,rfl,_,rfl,fM (λh8=>?_) (λ_=>?_)⟩
    ·refine⟨_,rfl,_,rfl,.inl ⟨_,_,rfl,rfl,_,_,rfl,rfl,(by show(0:Int)<3;decide),.inl ⟨rfl,_,rfl,fM (λ_=>?_) (λ_=>?_)⟩⟩⟩
     ·refine⟨_,rfl,.inr (.inl ⟨_,_,rfl,rfl,by rw[xl];have:=fE (n:=100) (by decide);lia,?_⟩)⟩;exact P _ _ (V2 Y (by rw[wl];lia) s) ay B7 h7
     ·exact P _ _ (Gz Y (by lia) (by lia) s T) (by rw[Y];exact Z) B7 h7
    ·exact lT (P _ _ (Gz Y (by lia) (by lia) s T) (by rw[Y];exact Z) B7 h7)
  ·rintro O H5 ⟨ys,o1,o2,o3,rfl,p,m,ak,aa,B5⟩;have m:ys.length=n:=by simpa using m
   have nd:ys.Nodup:=by
    rw[List.Nodup,List.pairwise_iff_getElem];intro i j hi hj lt e;have e1:=aa i _ (cP hi);have e2:=aa j _ (cP hj);rw[e,e2] at e1;have e3:=Option.some.inj e1;have a1:0<=(f+5*(i:Int)) % 26:=gY _ (by decide);have a2:0<=(f+5*(j:Int)) % 26:=gY _ (by decide);lia
   refine⟨_,rfl,q l ys kk H5 Hl m nd ak p ((S4.new hl).mono B5 cW ar) (by lia) (B4.through hl B5)⟩
structure MJ(rl:c7)(H:Hp)(R:ed->Prop)(n:Nat)(H':Hp)(rvs:List V)(rs:List ed):Prop where
 at_:H' rl=some (.lst rvs)
 all:dZ (gR H') rvs rs
 len:rs.length=n
 rough:∀r∈rs,R r
 but:iO rl H H'
def MJ.vlen{b:c7}{H H':Hp}{R:ed->Prop}{n:Nat}{a:List V}{rs:List ed}(m:MJ b H R n H' a rs):a.length=n:=m.all.len.trans m.len
def MJ.grown{c:c7}{H H' H2:Hp}{R:ed->Prop}{n:Nat}{a:List V}{rs:List ed}(m:MJ c H R n H' a rs)(s:du H' H2):MJ c H R n H2 a rs:=
 ⟨s _ _ m.at_,m.all.imp λ_ _ z=>z.mono (.of_same s),m.len,m.rough,λb o d h=>s _ _ (m.but b o d h)⟩
def MJ.set{b:c7}{H H':Hp}{R:ed->Prop}{n:Nat}{a:List V}{rs:List ed}{v:V}{r:ed}(j:Nat)(m:MJ b H R n H' a rs)(q:gR H' v r)(e:R r) :
  MJ b H R n (upd H' b (.lst (a.set j v))) (a.set j v) (rs.set j r):=by
 have t:Tp H' (upd H' b (.lst (a.set j v))):=(Tp.refl H').lst m.at_;refine⟨cW,(m.all.set q).imp λ_ _ z=>z.mono t,by rw[eX];exact m.len,λd c=>?_,m.but.trans .upd_at⟩;rcases ly c with z|z
 ·exact m.rough d z
 ·rw[z];exact e
def MJ.get{f:c7}{H H':Hp}{R:ed->Prop}{n:Nat}{a:List V}{rs:List ed}(m:MJ f H R n H' a rs){j:Nat}(d:j<n):∃p xs r,a[j]?=some (.ref p)/\rs[j]?=some r/\H' p=some (.tup (.str (gG r)::xs))/\gR H' (.ref p) r/\R r:=by
 obtain⟨v,r,c,b,q⟩:=m.all.get (i:=j) (by rw[m.len];exact d);obtain⟨p,xs,rfl,e⟩:=q.ref;exact⟨p,xs,r,c,b,e,q,m.rough r (dg b)⟩
def SH(n:Nat)(rs:List ed):Prop:=∃r,rs[n-1]?=some r/\qA r=true
def VG(a:Bool)(rs:List ed):Prop:=a=true->∃r,rs[0]?=some r/\zX r=true
def xN{r:ed}(h:gG r="jump"):∃c,r=.jump c:=by
 cases r with
 |jump c=>exact⟨c,rfl⟩
 |num x z=>exact absurd h (by show ¬("num":Str)="jump";decide +kernel)
 |op x s a b=>exact absurd h (by show ¬("op":Str)="jump";decide +kernel)
 |call x k d=>exact absurd h (by show ¬("call":Str)="jump";decide +kernel)
 |say a=>exact absurd h (by show ¬("say":Str)="jump";decide +kernel)
 |test a c=>exact absurd h (by show ¬("test":Str)="jump";decide +kernel)
 |give a=>exact absurd h (by show ¬("give":Str)="jump";decide +kernel)
def Ub{r:ed}(h:gG r="num"):zX r=true:=by
 cases r with
 |num x z=>rfl
 |jump c=>exact absurd h (by show ¬("jump":Str)="num";decide +kernel)
 |op x s a b=>exact absurd h (by show ¬("op":Str)="num";decide +kernel)
 |call x k d=>exact absurd h (by show ¬("call":Str)="num";decide +kernel)
 |say a=>exact absurd h (by show ¬("say":Str)="num";decide +kernel)
 |test a c=>exact absurd h (by show ¬("test":Str)="num";decide +kernel)
 |give a=>exact absurd h (by show ¬("give":Str)="num";decide +kernel)
def Ua{r:ed}(h:kM (.str (gG r)) [V.str "jump",V.str "give"]=true):qA r=true:=by
 cases r with
 |num x z=>exact absurd h (by show ¬kM (.str "num") [V.str "jump",V.str "give"]=true;decide +kernel)
 |op x s a b=>exact absurd h (by show ¬kM (.str "op") [V.str "jump",V.str "give"]=true;decide +kernel)
 |call x k c=>exact absurd h (by show ¬kM (.str "call") [V.str "jump",V.str "give"]=true;decide +kernel)
 |say a=>exact absurd h (by show ¬kM (.str "say") [V.str "jump",V.str "give"]=true;decide +kernel)
 |test a d=>exact absurd h (by show ¬kM (.str "test") [V.str "jump",V.str "give"]=true;decide +kernel)
 |_=>rfl
def zc{a b:Str}(h:V.str a=V.str b):a=b:=by cases h;rfl
def GV{rs:List ed}{n:Nat}(h:∀r,rs[n]?=some r->je r=false):stp rs n=n:=by
 unfold stp;cases e:rs[n]? with
 |none=>rfl
 |some r=>cases r with
  |jump t=>exact absurd (h _ e) (by show ¬true=false;decide)
  |_=>rfl
theorem tO{rs:List ed}{n:Nat}(h:∀r,rs[n]?=some r->je r=false):∀k,runJ rs k n=n
 |0=>rfl
 |k+1=>by
  show runJ rs k (stp rs n)=n;rw[GV h];exact tO h k
theorem tP(rs:List ed):∀(k n:Nat),runJ rs (k+1) n=stp rs (runJ rs k n)
 |0,n=>rfl
 |k+1,n=>by
  show runJ rs (k+1) (stp rs n)=stp rs (runJ rs k (stp rs n));exact tP rs k (stp rs n)
def Pd{rs:List ed}{j:Nat}{b:ed}(i:je b=false)(g:j<rs.length):∀(k m:Nat),(∀r,rs[runJ rs k m]?=some r->je r=false)->∀r,(rs.set j b)[runJ (rs.set j b) k m]?=some r->je r=false:=by
 have a:∀r,(rs.set j b)[j]?=some r->je r=false:=λr e=>by
  rw[d6 g] at e;cases e;exact i
 intro k
 induction k with
 |zero=>
  intro m h r e;by_cases c:j=m
  ·subst c;exact a r e
  ·have d:(rs.set j b)[m]?=some r:=e;rw[eC c] at d;exact h r d
 |succ k l=>
  intro m h r e;by_cases c:j=m
  ·subst c;rw[tO a] at e;exact a r e
  ·have f:stp (rs.set j b) m=stp rs m:=by unfold stp;rw[eC c]
   have d:(rs.set j b)[runJ (rs.set j b) k (stp (rs.set j b) m)]?=some r:=e;rw[f] at d;exact l (stp rs m) h r d
def Ae{r:ed}(h:¬gG r="jump"):je r=false:=by
 cases r<;>first|rfl|exact absurd rfl h
def WW(e nm:c7)(a:Bool)(H:Hp)(R:ed->Prop)(n i:Nat):St->Hp->Prop:=λd f=>∃(c:List V) (b:List ed) (g h j:Option V),d=[XU e,XU nm,some (.bl a),some (.int ((n-1:Nat):Nat)),g,h,j]/\MJ e H R n f c b/\SH n b/\VG a b/\∀m,m<i->∀r,b[runJ b n m]?=some r->je r=false
def OW{K:Fg}{vs:List V}{H:Hp}{Q:VK}{E:XK}(h:xx K vs H Q E):He K {nx:=λ_ H'=>Q .non H',rt:=Q} (fQ FJ vs) H:=by
 obtain⟨C,P,bare,a,g,ys,R,rfl,af,hA,aq,ak,hR,av,L,ag,ax,aw,au,aC,ab,q⟩:=h;obtain⟨n,hn⟩:∃n,n=g.length:=⟨_,rfl⟩;have n1:1<=n:=by rw[hn];exact eL.mpr aq
 have aE:n<=100:=by rw[hn];exact ak
 have M0:MJ C H R n H a g:=⟨af,hA,hn.symm,hR,.refl _ _⟩;refine⟨_,rfl,_,_,rfl,.inl ⟨_,fR.of af,rfl⟩,_,_,rfl,rfl,?_⟩;show AU K _ [XU C,XU P,some (.bl bare),some (.int (((a.length:Nat):Int)-1)),none,none,none] H;rw[show((a.length:Nat):Int)-1=((n-1:Nat):Nat) by rw[M0.vlen];lia];have J:∀H',WW C P bare H R n 0 [XU C,XU P,some (.bl bare),some (.int ((n-1:Nat):Nat)),none,none,none] H'->AR K {nx:=λ_ H'=>Q .non H',rt:=Q} [XU C,XU P,some (.bl bare),some (.int ((n-1:Nat):Nat)),none,none,none] H':=λH' P0=>by
  obtain⟨aF,aG,_,_,_,_,MM,_,_,_⟩:=id P0;refine⟨_,rfl,_,_,rfl,.inl ⟨_,fR.of MM.at_,rfl⟩,_,rfl,by lia,by rw[MM.vlen];lia,jO (λi=>WW C P bare H R n i) P0 ?_ ?_⟩
  ·rintro i ah H1 hi ⟨a,g,o4,o5,o6,rfl,M,hE,hN,hJ⟩;have hi:i<n:=by rw[MM.vlen] at hi;simpa using hi
   have e0:(0:Int)+(i:Int)=((i:Nat):Int):=by lia
   rw[e0];refine⟨_,rfl,?_⟩;refine .inl ⟨_,rfl,C,rfl,⟨_,fR.of M.at_⟩,vB (xs:=a) (λj σ H'=>∃(S:Nat) (o:Option V),σ=[XU C,XU P,some (.bl bare),some (.int ((n-1:Nat):Nat)),XW i,XW S,o]/\H'=H1/\S<n/\(∀r,g[i]?=some r->zX r=true->S=i)/\S=runJ g j i)
    ⟨i,o6,rfl,rfl,hi,λ_ _ _=>rfl,rfl⟩ (λ_ _ _ _ ⟨_,_,_,e,_⟩=>by rw[e];exact fR.of M.at_) ?_ ?_⟩
   ·rintro j x ah Z hx ⟨S,o,rfl,rfl,Y,hk,f⟩;obtain⟨p,xs,r,e1,G,hp,U,X⟩:=M.get Y;have u:a[((S:Nat):Int).toNat]?=some (.ref p):=by simpa using e1
    refine⟨_,rfl,_,rfl,nI (fR.of M.at_) (by lia) u (Zt hp rfl (.inl ⟨rfl,_,rfl,fM (λO=>?_) (λO=>?_)⟩))⟩
    ·obtain⟨t',rfl⟩:=xN (zc O);obtain⟨p',e3,ay⟩:=U;cases e3;refine⟨_,rfl,_,rfl,nI (fR.of M.at_) (by lia) u (Zt ay rfl ?_)⟩;refine⟨t',_,rfl,rfl,by rw[hn];exact ag _ X,λr hr aa=>?_,?_⟩
     ·have:=hk r hr aa;rw[this] at G;rw[G] at hr;cases hr;cases aa
     ·rw[tP,<-f];unfold stp;rw[G]
    ·refine⟨S,_,rfl,rfl,Y,hk,?_⟩;rw[tP,<-f,GV];intro r' d;rw[G] at d;cases d;exact Ae λz=>O (by rw[z])
   ·rintro ah Z ⟨S,o,rfl,rfl,Y,hk,f⟩;rw[M.vlen] at f;obtain⟨p,xs,r,e1,G,hp,U,X⟩:=M.get Y;have u:a[((S:Nat):Int).toNat]?=some (.ref p):=by simpa using e1
    refine⟨_,rfl,_,rfl,nI (fR.of M.at_) (by lia) u (Zt hp rfl (.inl ⟨rfl,_,rfl,fM (λO=>?_) (λO=>⟨a,g,_,_,_,rfl,M,hE,hN,λm hm=>?_⟩)⟩))⟩;rotate_left
    ·by_cases cm:m<i
     ·exact hJ m cm
     ·have:m=i:=by lia
      subst this;intro r' d;rw[<-f,G] at d;cases d;exact Ae λz=>O (by rw[z])
    obtain⟨t',rfl⟩:=xN (zc O);refine⟨Zw,λk az=>⟨Zw,λb w=>⟨Zw,λl hl=>?_⟩⟩⟩;have ar:k≠b:=de cW w;have aA:k≠l:=de (by rw[dC ar];exact cW) hl;have aB:b≠l:=de cW hl;have sm:du Z (upd (upd (upd Z k (.tup [V.str "say",V.str ""])) b (.tup [V.str "give",V.str ""])) l (.lst [V.ref k,V.ref b])):=(((du.refl Z).new az).new w).new hl;have M2:=M.grown sm;have ae:(upd (upd (upd Z k (.tup [V.str "say",V.str ""])) b (.tup [V.str "give",V.str ""])) l (.lst [V.ref k,V.ref b])) l=some (.lst [V.ref k,V.ref b]):=cW;have h1:(upd (upd (upd Z k (.tup [V.str "say",V.str ""])) b (.tup [V.str "give",V.str ""])) l (.lst [V.ref k,V.ref b])) k=some (.tup [V.str "say",V.str ""]):=by rw[dC aA,dC ar,cW]
    have h2:(upd (upd (upd Z k (.tup [V.str "say",V.str ""])) b (.tup [V.str "give",V.str ""])) l (.lst [V.ref k,V.ref b])) b=some (.tup [V.str "give",V.str ""]):=by rw[dC aB,cW]
    generalize (upd (upd (upd Z k (.tup [V.str "say",V.str ""])) b (.tup [V.str "give",V.str ""])) l (.lst [V.ref k,V.ref b]))=H3 at M2 ae h1 h2 ⊢;have aj:∀(v:V) (r:ed),gR H3 v r->R r->je r=false->(i=n-1->qA r=true)->sG (cU 0) (cU 4) pP v [XU C,XU P,some (.bl bare),some (.int ((n-1:Nat):Nat)),XW i,XW S,o] H3 (WW C P bare H R n (i+1)):=λv r hv hr hj he=>by
     refine⟨_,rfl,_,rfl,ES M2.at_ (by lia) (by rw[M2.vlen];simpa using hi) ?_⟩;have ei:((i:Nat):Int).toNat=i:=by simp
     rw[ei];refine⟨_,g.set i r,_,_,_,rfl,M2.set i hv hr,?_,λI=>?_,λm hm=>?_⟩
     ·obtain⟨r1,B,D⟩:=hE;by_cases c:i=n-1
      ·exact⟨r,by rw[<-c,d6 (by rw[M2.len];exact hi)],he c⟩
      ·exact⟨r1,by rw[eC c];exact B,D⟩
     ·obtain⟨r0,B,D⟩:=hN I;have c:i≠0:=λc=>by
       subst c;have:=hk r0 B D;subst this;rw[G] at B;cases B;cases D
      exact⟨r0,by rw[eC c];exact B,D⟩
     ·have il:i<g.length:=by rw[M2.len];exact hi
      by_cases cm:m<i
      ·exact Pd hj il n m (hJ m cm)
      ·have:m=i:=by lia
       subst this;have ai:∀r',(g.set m r)[m]?=some r'->je r'=false:=λr' e=>by rw[d6 il] at e;cases e;exact hj
       intro r' d;rw[tO ai] at d;exact ai r' d
    refine⟨_,rfl,_,rfl,.inl ⟨rfl,?_⟩⟩;refine .inr ⟨_,rfl,?_⟩;by_cases c:i=n-1
    ·have ec:decide (V.int (i:Nat)=V.int ((n-1:Nat):Nat))=true:=by rw[c];exact decide_eq_true rfl
     rw[ec];exact nI (fR.of ae) (by decide) rfl (aj _ (.give "") ⟨b,rfl,h2⟩ L rfl λ_=>rfl)
    ·have ec:decide (V.int (i:Nat)=V.int ((n-1:Nat):Nat))=false:=decide_eq_false (λz=>c (by injection z with z;lia));rw[ec];exact nI (fR.of ae) (by decide) rfl (aj _ (.say "") ⟨k,rfl,h1⟩ av rfl λz=>absurd z c)
  ·rintro ah H1 ⟨a,aD,o4,o5,o6,rfl,M,hE,hN,hJ⟩;rw[MM.vlen,c8] at hJ;refine⟨_,rfl,q a aD H1 M.at_ M.all (M.len.trans hn) M.rough ?_ ?_ (by intro m hm;rw[M.len] at hm ⊢;exact hJ m hm) M.but⟩
   ·obtain⟨r,B,D⟩:=hE;rw[fY,M.len,B,fO,D]
   ·intro I;obtain⟨r,B,D⟩:=hN I;rw[lY,B,fO,D]
 have s:∀(H':Hp) (a:List V) (g:List ed),MJ C H R n H' a g->SH n g->AS K {nx:=λ_ H'=>Q .non H',rt:=Q} [XU C,XU P,some (.bl bare),some (.int ((n-1:Nat):Nat)),none,none,none] H':=λH' a g M hE=>by
  refine⟨_,rfl,bare,rfl,jU (λI=>?_) (λI=>?_)⟩
  ·have n2:2<=n:=by rw[hn];exact ab I
   obtain⟨p,xs,r,e1,G,hp,U,X⟩:=M.get (j:=0) (by lia);refine⟨_,rfl,nI (fR.of M.at_) (by decide) e1 (Zt hp rfl (.inl ⟨rfl,_,rfl,pj (λO=>?_) (λO=>?_)⟩))⟩
   ·refine⟨_,rfl,_,_,rfl,rfl,_,rfl,fM (λ_=>?_) (λhz=>absurd (show(0:Int)<((n-1:Nat):Nat) by lia) hz)⟩;have ao:=M.but P _ aC ax;obtain⟨y,yr,rfl⟩:∃y yr,ys=y::yr:=List.exists_cons_of_ne_nil aw;refine⟨_,rfl,nI (fR.of ao) (by decide) rfl ⟨Zx,λb w=>?_⟩⟩;have M2:=M.grown ((du.refl H').new (o:=.tup [V.str "num",V.str y,V.int 3]) w);refine⟨_,rfl,ES M2.at_ (by decide) (by rw[M2.vlen];exact n1) (J _ ⟨_,g.set 0 (.num y 3),_,_,_,rfl,M2.set 0 ⟨b,rfl,cW⟩ (au y eG I),?_,λ_=>⟨.num y 3,d6 (by rw[M.len];exact n1),rfl⟩,λ_ z=>absurd z (fN _)⟩)⟩;obtain⟨r1,B,D⟩:=hE;exact⟨r1,by rw[eC (by lia)];exact B,D⟩
   ·exact lT (J _ ⟨a,g,_,_,_,rfl,M,hE,λ_=>⟨r,G,Ub (zc O)⟩,λ_ z=>absurd z (fN _)⟩)
  ·exact lT (J _ ⟨a,g,_,_,_,rfl,M,hE,λT=>(by rw[I] at T;cases T),λ_ z=>absurd z (fN _)⟩)
 obtain⟨p,xs,r,e1,G,hp,U,X⟩:=M0.get (j:=n-1) (by lia);have u:a[((n-1:Nat):Int).toNat]?=some (.ref p):=by simpa using e1
 refine⟨_,rfl,_,rfl,nI (fR.of af) (by lia) u (Zt hp rfl ⟨Zw,λt ht=>⟨t,_,rfl,.inr (fA.of cW),rfl,rfl,_,rfl,?_⟩⟩)⟩;have M1:=M0.grown ((du.refl H).new (o:=.tup [V.str "jump",V.str "give"]) ht);refine jU (λI=>?_) (λI=>?_)
 ·refine⟨Zw,λb w=>?_⟩;have M2:=M1.grown ((du.refl _).new (o:=.tup [V.str "give",V.str ""]) w);refine⟨_,rfl,_,rfl,ES M2.at_ (by lia) (by rw[M2.vlen];lia) ?_⟩;have ei:((n-1:Nat):Int).toNat=n-1:=by simp
  rw[ei];exact s _ _ _ (M2.set (n-1) (r:=.give "") ⟨b,rfl,cW⟩ L) ⟨.give "",d6 (by rw[M0.len];lia),rfl⟩
 ·refine s _ _ _ M1 ⟨r,G,Ua ?_⟩;have T:(!kM (.str (gG r)) [V.str "jump",V.str "give"])=false:=I;simpa using T
def Lm(b:c7)(H:Hp)(v:V)(ks:List Str):Prop:=∃a,v=.ref a/\a≠b/\H a=some (.lst (ks.map V.str))
def Lm.same{b:c7}{H H':Hp}{v:V}{ks:List Str}(h:Lm b H v ks)(s:du H H'):Lm b H' v ks:=by
 obtain⟨a,e,n,h⟩:=h;exact⟨a,e,n,s _ _ h⟩
def Lm.upd{b:c7}{H:Hp}{v:V}{ks:List Str}{o:HO}(h:Lm b H v ks):Lm b (upd H b o) v ks:=by
 obtain⟨a,e,n,h⟩:=h;exact⟨a,e,n,by rw[dC n];exact h⟩
def xD(kss:List (List Str)):Nat:=(kss.map i7).sum
theorem GY:∀{kss:List (List Str)} {m:Nat} {ks kp:List Str},kss[m]?=some ks->xD (kss.set m kp)+ks.length=xD kss+kp.length
 |[],m,ks,kp,h=>by simp at h
 |a::r,0,ks,kp,h=>by
  simp at h;subst h;show kp.length+xD r+a.length=a.length+xD r+kp.length;lia
 |a::r,m+1,ks,kp,h=>by
  have b:=GY (kss:=r) (m:=m) (ks:=ks) (kp:=kp) (by simpa using h);show a.length+xD (r.set m kp)+ks.length=a.length+xD r+kp.length;lia
def x3{a:Type}(p:a->Bool)(l:List a)(i:Nat)(v:a)(h:l[i]?=some v):(l.take (i+1)).filter p=(l.take i).filter p++(if p v=true then[v] else[]):=by
 rw[jT,h,List.filter_append];cases b:p v<;>simp[b]
def Ks{r:ed}(h:kM (.str (gG r)) [V.str "num",V.str "op",V.str "call"]=true):∃x,kJ r=.str x:=by
 cases r with
 |num x z=>exact⟨x,rfl⟩
 |op x s a b=>exact⟨x,rfl⟩
 |call x k d=>exact⟨x,rfl⟩
 |jump c=>exact absurd h (by show ¬kM (.str "jump") [V.str "num",V.str "op",V.str "call"]=true;decide +kernel)
 |say a=>exact absurd h (by show ¬kM (.str "say") [V.str "num",V.str "op",V.str "call"]=true;decide +kernel)
 |test a c=>exact absurd h (by show ¬kM (.str "test") [V.str "num",V.str "op",V.str "call"]=true;decide +kernel)
 |give a=>exact absurd h (by show ¬kM (.str "give") [V.str "num",V.str "op",V.str "call"]=true;decide +kernel)
def KM{H:Hp}{p:c7}{r:ed}{x:Str}(h:gR H (.ref p) r)(e:kJ r=.str x):∃xs,H p=some (.tup (.str (gG r)::.str x::xs)):=by
 cases r with
 |call y k f=>cases e;obtain⟨c,q,b,h,_⟩:=h;cases b;exact⟨_,h⟩
 |jump d=>cases e
 |say a=>cases e
 |test a d=>cases e
 |give a=>cases e
 |_=>cases e;obtain⟨c,b,h⟩:=h;cases b;exact⟨_,h⟩
def Oi{ys:List Str}{h:List Nat}{rs:List ed}{i m j:Nat}{r:ed}(f:rs[i]?=some r)(g:zI ys h rs.length r)(d:rs.getLast?.map qA=some true)(n:(fK i r)[j]?=some m):m<rs.length:=by
 have p:i<rs.length:=(cR.mp f).1;have nx:qA r=false->i+1<rs.length:=λl=>by
  by_cases c:i+1<rs.length
  ·exact c
  ·have k:i=rs.length-1:=by lia
   rw[fY,<-k,f,fO,l] at d;cases d
 have b:=dg n;cases r with
 |jump o=>rw[dc.mp b];exact g
 |test a o=>
  rcases dW.mp b with e|e
  ·rw[e];exact nx rfl
  ·rw[dc.mp e];exact g.2
 |give a=>cases b
 |_=>rw[dc.mp b];exact nx rfl
def zH(rs:List ed)(i:Nat)(kss:List (List Str)):Prop:=∀(n m:Nat) r b a,n<i->rs[n]?=some r->m∈fK n r->kss[n]?=some b->kss[m]?=some a->∀y∈a,y∈b\/kJ r=.str y
def DY(ps:List Str)(kss:List (List Str)):Prop:=∀a,kss[0]?=some a->∀y∈a,y∈ps
def DY.set{ps:List Str}{kss:List (List Str)}{m:Nat}{km kp:List Str}(h:DY ps kss)(e:kss[m]?=some km)(s:∀y∈kp,y∈km):DY ps (kss.set m kp):=by
 intro f a y b;by_cases c:m=0
 ·subst c;have d:0<kss.length:=(cR.mp e).1;rw[d6 d] at a;cases a;exact h km e y (s y b)
 ·rw[eC c] at a;exact h f a y b
def BD(a b:c7)(H H':Hp):Prop:=∀c o,c≠a->c≠b->H c=some o->H' c=some o
def BD.refl(a b:c7)(H:Hp):BD a b H H:=λ_ _ _ _ h=>h
def BD.trans{a b:c7}{H d H2:Hp}(x:BD a b H d)(y:BD a b d H2):BD a b H H2:=λc o n m h=>y c o n m (x c o n m h)
def BD.of_l{a b:c7}{H H':Hp}(x:iO a H H'):BD a b H H':=λc o n _ h=>x c o n h
def BD.of_r{a b:c7}{H H':Hp}(x:iO b H H'):BD a b H H':=λc o _ m h=>x c o m h
def BD.upd_r{a b:c7}{H:Hp}{o:HO}:BD a b H (upd H b o):=.of_r .upd_at
def BD.tp{a b:c7}{H H':Hp}{xs ys:List V}(x:BD a b H H')(c:H a=some (.lst xs))(d:H b=some (.lst ys)):Tp H H':=λp e h=>
 x p _ (by rintro rfl;rw[h] at c;cases c) (by rintro rfl;rw[h] at d;cases d) h
def BD.but{a b:c7}{H d H2:Hp}(x:iO a H d)(e:H b=none)(y:BD a b d H2):iO a H H2:=λc o n h=>y c o n (de h e) (x c o n h)
def Ea:V->Nat
 |.str s=>if s="" then 1 else 0
 |.ref _=>4
 |_=>0
def Lk(ks:List Str)(H:Hp):V->Prop
 |.str s=>s=""->ks≠[]
 |.int _=>True
 |.ref q=>∃a:List Str,H q=some (.tup (a.map V.str))/\a.length<=4/\ks≠[]
 |_=>False
def Lk.mono{ks:List Str}{H H':Hp}{x:V}(h:Lk ks H x)(t:Tp H H'):Lk ks H' x:=by
 cases x with
 |str s=>exact h
 |int i=>exact h
 |ref q=>obtain⟨a,b,c⟩:=h;exact⟨a,t _ _ b,c⟩
 |_=>exact h.elim
def M3(ks:List Str)(H:Hp)(y x:V):Prop:=match x with
 |.str s=>(s=""->∃z∈ks,y=.str z)/\(s≠""->y=.str s)
 |.int i=>y=.int i
 |.ref q=>∃(c a:List Str) (d:c7),H q=some (.tup (c.map V.str))/\y=.ref d/\H d=some (.tup (a.map V.str))/\a.length=c.length/\∀b∈a,b∈ks
 |_=>False
def M3.mono{ks:List Str}{H H':Hp}{x y:V}(h:M3 ks H y x)(t:Tp H H'):M3 ks H' y x:=by
 cases x with
 |str s=>exact h
 |int i=>exact h
 |ref q=>obtain⟨a,b,g,c,d,e,f⟩:=h;exact⟨a,b,g,t _ _ c,d,t _ _ e,f⟩
 |_=>exact h.elim
def Ko{K:Fg}{f:St}{st m a:c7}{i k:Nat}{b:List V}{ks:List Str}{H:Hp}{Q:VK}(s:f[0]?=some (some (.ref st)))(h2:f[2]?=some (some (.ref m)))(j:f[4]?=some (some (.int (i:Nat))))
  (c:H m=some (.lst b)) (t:b[i]?=some (.ref a)) (l:H a=some (.lst (ks.map V.str))) (v:ks≠[]) (len:ks.length<=100) (S:j5 K H st k) (w:k<=900000) (u:a≠st)
  (q:∀(y:Str) (H':Hp),y∈ks->j5 K H' st (k+1)->iO st H H'->Q (.str y) H') :
  dF (eJ K) (dF (eJ K) (cU 2) (cU 4)) (dR (eN K) [] E0 (cQ (cU 0) (cQ (iN (iE K) (cQ (dF (eJ K) (cU 2) (cU 4)) dh)) dh))) f H Q:=by
 have x:0<ks.length:=eL.mpr v;have e:b[((i:Nat):Int).toNat]?=some (.ref a):=by simpa using t
 refine⟨_,h2,_,j,nI (fR.of c) (by lia) e ⟨_,s,_,h2,_,j,nI (fR.of c) (by lia) e ⟨_,_,rfl,.inl ⟨_,fR.of l,rfl⟩,st,_,k,rfl,S,by lia,by rw[cT];lia,by rw[cT];lia,λd n p r o g=>?_⟩⟩⟩;rw[cT] at r;have h:d.toNat<ks.length:=by lia
 exact nI (fR.of (g a _ u l)) p (GX (cP h)) (q _ n (gg h) o g)
def NN{K:Fg}{st Z E fd p g a:c7}{i k:Nat}{w vs:List V}{ks:List Str}{x:V}{H:Hp}{D:pd}(Q:H E=some (.lst w))(hr:w[i]?=some (.ref a))(ha:H a=some (.lst (ks.map V.str)))(len:ks.length<=100)(S:j5 K H st k)(hk:k<=800000)(na:a≠st)(nk:E≠st)
  (ab:H g=some (.lst vs)) (vl:vs.length<=100) (ns:g≠st) (ok:Lk ks H x)
  (q:∀(y:V) (d:Nat) (H':Hp),M3 ks H' y x->H' g=some (.lst (vs++[y]))->j5 K H' st d->d<=k+Ea x->BD st g H H'->D.nx [XU st,XU Z,XU E,XU fd,XW i,XU p,XU g,some y] H') :
  AM K D [XU st,XU Z,XU E,XU fd,XW i,XU p,XU g,some x] H:=by
 have m:∀(y:V) (d:Nat) (G:Hp),M3 ks G y x->j5 K G st d->d<=k+Ea x->iO st H G->AL K D [XU st,XU Z,XU E,XU fd,XW i,XU p,XU g,some y] G:=λy d G f S1 l1 B1=>by
  have U:=B1 g _ ns ab;refine⟨_,rfl,.inl ⟨rfl,_,fR.of U⟩,_,rfl,g,_,_,rfl,rfl,U,fE (by lia),?_⟩;exact q y d _ (f.mono ((Tp.refl G).lst U)) cW (S1.mono .upd_at U (Ne.symm ns)) l1 ((BD.of_l B1).trans .upd_r)
 cases x with
 |str s=>
  refine⟨_,rfl,.inl ⟨rfl,_,rfl,fM (λe=>?_) (λe=>?_)⟩⟩
  ·have e':s="":=by cases e;rfl
   refine Ko rfl rfl rfl Q hr ha (ok e') len S (by lia) na λy H' hy J v=>?_;refine m (.str y) _ H' ⟨λ_=>⟨y,hy,rfl⟩,λz=>absurd e' z⟩ J ?_ v;show k+1<=k+(if s="" then 1 else 0);rw[if_pos e'];exact dk _
  ·refine⟨_,rfl,_,_,_,rfl,.str_tuple _,_,rfl,lT ?_⟩;exact m (.str s) k H ⟨λz=>absurd (by rw[z]) e,λ_=>rfl⟩ S (by lia) (.refl _ _)
 |int j=>
  refine⟨_,rfl,.inl ⟨rfl,_,rfl,no (λz=>by cases z) ?_⟩⟩;refine⟨_,rfl,_,_,_,rfl,.int_tuple _,_,rfl,lT ?_⟩;exact m (.int j) k H rfl S (by lia) (.refl _ _)
 |ref t=>
  obtain⟨as,I,l4,ne⟩:=ok;obtain⟨ae,R⟩:=S.lst;have nt:t≠st:=Ne.symm (rn R I);refine⟨_,rfl,.inr (.inr (.inl ⟨t,_,_,rfl,rfl,fA.of I,_,rfl,lT ?_⟩))⟩;refine⟨_,rfl,_,_,_,rfl,.tup_tuple (fA.of I),_,rfl,sH ?_⟩;refine .inr ⟨_,rfl,t,rfl,⟨_,fA.of I⟩,λL O=>?_⟩;have nL:L≠st:=λz=>by rw[z,R] at O;cases O
  refine jd (xs:=as.map V.str) (λj r H'=>∃(C:List Str) (d:Nat) (o:Option V),r=[XU st,XU Z,XU E,XU fd,XW i,XU p,XU g,XU t,o]/\H' L=some (.lst (C.map V.str))/\C.length=j/\(∀b∈C,b∈ks)/\j5 K H' st d/\d<=k+j/\iO st H H') ?_ ?_ ?_ ?_
  ·exact⟨[],k,none,rfl,cW,rfl,by simp,S.new O,by lia,(iO.refl st H).new O⟩
  ·rintro j r H' _ ⟨_,_,_,_,_,_,_,_,_,B⟩;exact fA.of (B t _ nt I)
  ·rintro j x r H' hx ⟨C,d,o,rfl,X,T,bm,J,P,v⟩;have jl:j<as.length:=by have:=(cR.mp hx).1;rw[cT] at this;exact this
   refine ib (Ko rfl rfl rfl (v E _ nk Q) hr (v a _ na ha) ne len J (by lia) na λy H2 hy S2 B2=>?_);have M:=B2 L _ nL X;refine⟨_,M,fE (by rw[cT];lia),C++[y],d+1,_,rfl,by rw[cW,dt];rfl,by simp[T],λb aa=>?_,S2.mono .upd_at M (Ne.symm nL),by lia,?_⟩
   ·rcases d9.mp aa with z|z
    ·exact bm b z
    ·rw[dc.mp z];exact hy
   ·exact λc u n h=>by rw[dC (de h O)];exact(v.trans B2) c u n h
  ·rintro r H2 ⟨C,d,o,_,X,T,bm,J,P,v⟩;rw[cT] at T P;refine⟨L,_,rfl,.inl ⟨fR.of X,λl Y=>?_⟩⟩;have nl:L≠l:=de X Y;have M:=v t _ nt I;refine m (.ref l) d _ ⟨as,C,l,by rw[dC (de M Y)];exact M,rfl,cW,T,bm⟩ (J.new Y) ?_ (v.new Y);show d<=k+4;lia
 |_=>exact ok.elim
def F7(w:V)(rest:List V):ph (w::rest) (some 1) none=rest:=by
 unfold ph;have a:HT.sIx (w::rest).length 0 (some 1)=1:=by
  rw[show(1:Int)=((1:Nat):Int) from rfl,HT.sIx_nat,fB];lia
 rw[a,HT.sIx_none,List.drop_succ_cons,oT,fB];exact eK (by lia)
def F6(w:V){rest:List V}(h:rest≠[]):¬(HT.sIx (w::rest).length 0 (some 1)=0/\HT.sIx (w::rest).length (w::rest).length none=(w::rest).length):=by
 rintro⟨a,_⟩;rw[show(1:Int)=((1:Nat):Int) from rfl,HT.sIx_nat,fB] at a;lia
def TZ{K:Fg}{st rl t fd p a:c7}{i k:Nat}{L fs rest:List V}{w:Str}{ks:List Str}{H:Hp}{D:pd}{o6 o7:Option V}(aa:H t=some (.lst L))(hr:L[i]?=some (.ref a))(ha:H a=some (.lst (ks.map V.str)))(len:ks.length<=100)(S:j5 K H st k)(hk:k<=750000)(na:a≠st)(nk:t≠st)
  (hp:H p=some (.tup (.str w::rest))) (ag:rest≠[]) (aC:rest.length<=4) (ok:∀x∈rest,Lk ks H x) (aB:(rest.map Ea).sum<=5) (Y:H fd=some (.lst fs)) (fl:fs.length<=100) (nf:fd≠st)
  (q:∀(o6 o7:Option V) (p':c7) (vs:List V) (J:Nat) (H':Hp),H' fd=some (.lst (fs++[.ref p']))->H' p'=some (.tup (.str w::vs))->dZ (M3 ks H') vs rest->j5 K H' st J->J<=k+5->BD st fd H H'->D.nx [XU st,XU rl,XU t,XU fd,XW i,XU p,o6,o7] H') :
  AO K D [XU st,XU rl,XU t,XU fd,XW i,XU p,o6,o7] H:=by
 obtain⟨aD,s⟩:=S.lst;refine⟨Zu,λb d=>?_⟩;have aw:b≠st:=λz=>by rw[z,s] at d;cases d
 have s1:du H (upd H b (.lst [])):=(du.refl H).new d;have g1:(upd H b (.lst [])) b=some (.lst []):=cW;show AN K D [XU st,XU rl,XU t,XU fd,XW i,XU p,XU b,o7] (upd H b (.lst []));generalize upd H b (.lst [])=P at s1 g1 ⊢;refine .inr ⟨_,rfl,_,rfl,.inr ⟨p,_,rfl,fA.of (s1 _ _ hp),F6 _ ag,λv af=>?_⟩⟩;rw[F7];have r:du H (upd P v (.tup rest)):=s1.new af;have g2:(upd P v (.tup rest)) b=some (.lst []):=by rw[dC (de g1 af)];exact g1
 have t2:(upd P v (.tup rest)) v=some (.tup rest):=cW;generalize upd P v (.tup rest)=H2 at r g2 t2 ⊢;have ay:v≠st:=Ne.symm (rn (r _ _ s) t2);have ax:v≠b:=Ne.symm (rn g2 t2);have aq:fd≠b:=de Y d;have ar:t≠b:=de aa d;have ao:a≠b:=de ha d;have av:p≠st:=Ne.symm (rn s hp);have au:p≠b:=de hp d;refine⟨v,rfl,⟨_,fA.of t2⟩,tM (xs:=rest) (λj C H'=>∃(vs:List V) (J:Nat) (o:Option V),C=[XU st,XU rl,XU t,XU fd,XW i,XU p,XU b,o]/\H' b=some (.lst vs)/\dZ (M3 ks H') vs (rest.take j)/\j5 K H' st J/\J<=k+((rest.take j).map Ea).sum/\BD st b H2 H') ?_ ?_ ?_ ?_⟩
 ·exact⟨[],k,o7,rfl,g2,.nil,S.same r,by simp,.refl _ _ _⟩
 ·rintro j C H' _ ⟨_,_,_,_,_,_,_,_,B⟩;exact fA.of (B v _ ay ax t2)
 ·rintro j x C H' hx ⟨vs,J,o,rfl,g,Q,U,Z,E⟩;have jl:j<rest.length:=(cR.mp hx).1;have et:rest.take (j+1)=rest.take j++[x]:=by rw[jT,hx];rfl
  have c5:((rest.take j).map Ea).sum<=5:=by
   have e:=congrArg (λl=>(l.map Ea).sum) (List.take_append_drop j rest);simp only[dt,List.sum_append] at e;lia
  have vl:vs.length<=4:=by rw[Q.len,dB];lia
  refine NN (E t _ nk ar (r _ _ aa)) hr (E a _ na ao (r _ _ ha)) len U (by lia) na nk g (by lia) aw (((ok x (dg hx)).mono (.of_same r)).mono (E.tp (r _ _ s) g2)) λy k2 G f h3 S3 l3 B3=>?_;obtain⟨aA,I⟩:=U.lst;refine⟨vs++[y],k2,_,rfl,h3,?_,S3,?_,E.trans B3⟩
  ·rw[et];exact(Q.imp λ_ _ z=>z.mono (B3.tp I g)).snoc f
  ·rw[et,dt,List.sum_append];show k2<=k+(((rest.take j).map Ea).sum+(Ea x+0));lia
 ·rintro C G ⟨vs,J,o,rfl,g,Q,U,Z,E⟩;rw[fV] at Q Z;have ai:=E p _ av au (r _ _ hp);have X:=E fd _ nf aq (r _ _ Y);obtain⟨aA,I⟩:=U.lst;have vl:vs.length=rest.length:=Q.len;have az:vs≠[]:=λz=>ag (fG.mp (by rw[<-vl,z];rfl));have BH:iO st H G:=(BD.but (r.but) d E);refine⟨_,rfl,.inl ⟨rfl,_,fR.of X⟩,_,rfl,Zt ai rfl ⟨Zv,λR ab=>⟨_,rfl,b,_,rfl,.inl ⟨fR.of (by rw[dC (de g ab)];exact g),λT ae=>?_⟩⟩⟩⟩;have ak:R≠T:=de cW ae;refine .inr (.inr (.inr ⟨R,T,[.str w],vs,rfl,rfl,fA.of (by rw[dC ak];exact cW),fA.of cW,by simp,?_,λz=>absurd z az,λ_ M aj=>?_⟩))
  ·have:=fE (n:=100) (by decide);show 1+vs.length<=c6;lia
  have s5:du G (upd (upd (upd G R (.tup [.str w])) T (.tup vs)) M (.tup (.str w::vs))):=(((du.refl G).new ab).new ae).new aj;have g5:(upd (upd (upd G R (.tup [.str w])) T (.tup vs)) M (.tup (.str w::vs))) M=some (.tup (.str w::vs)):=cW;show j9 (.ref fd) [.ref M] (upd (upd (upd G R (.tup [.str w])) T (.tup vs)) M (.tup (.str w::vs))) λx P=>D.nx [XU st,XU rl,XU t,XU fd,XW i,XU p,XU b,o] P;generalize upd (upd (upd G R (.tup [.str w])) T (.tup vs)) M (.tup (.str w::vs))=H5 at s5 g5 ⊢;have O:=s5 _ _ X;refine⟨fd,_,_,rfl,rfl,O,fE (by lia),?_⟩;have ah:Tp H5 (upd H5 fd (.lst (fs++[.ref M]))):=(Tp.refl H5).lst O;refine q _ _ M vs J _ cW (ah _ _ g5) ((Q.imp λ_ _ z=>z.mono (.of_same s5)).imp λ_ _ z=>z.mono ah) ((U.same s5).mono .upd_at O (Ne.symm nf)) (by lia) ?_;exact λc u n m h=>by rw[dC m];exact s5 _ _ (BH c u n h)
def Ph{s:Str}(h:s∈KP):s≠"":=by
 intro e;subst e;exact absurd h (by decide +kernel)
def Gv{as bs:List Str}(h:as.map V.str=bs.map V.str):as.length=bs.length:=by
 have:=congrArg i7 h;simpa using this
def y8{ks:List Str}{H:Hp}{y:V}{s:Str}(h:M3 ks H y (.str s))(n:s≠""):y=.str s:=h.2 n
def vA{ks:List Str}{H:Hp}{y:V}(h:M3 ks H y (.str "")):∃z∈ks,y=.str z:=h.1 rfl
def y4{s:Str}(n:s≠""):Ea (.str s)=0:=by
 show(if s="" then 1 else 0)=0;rw[if_neg n]
def Xv{vs:List V}(h:vs.length=2):∃a b,vs=[a,b]:=by
 match vs,h with
 |[a,b],_=>exact⟨a,b,rfl⟩
def Xa{vs:List V}(h:vs.length=1):∃a,vs=[a]:=by
 match vs,h with
 |[a],_=>exact⟨a,rfl⟩
def XS{vs:List V}(h:vs.length=3):∃a b c,vs=[a,b,c]:=by
 match vs,h with
 |[a,b,c],_=>exact⟨a,b,c,rfl⟩
def XT{vs:List V}(h:vs.length=4):∃a b c d,vs=[a,b,c,d]:=by
 match vs,h with
 |[a,b,c,d],_=>exact⟨a,b,c,d,rfl⟩
def QN{H:Hp}{p:c7}{r:ed}{ys ks:List Str}{Q:List Nat}{n:Nat}(j:gR H (.ref p) r)(l:zI ys Q n r)(C:∀y∈ys,y≠"")(J:∀c∈Q,c<=4)(o:ks≠[]\/zX r=true) :
  ∃rest,H p=some (.tup (.str (gG r)::rest))/\rest≠[]/\rest.length<=4/\(∀x∈rest,Lk ks H x)/\(rest.map Ea).sum<=5/\∀(H':Hp) (i:c7) (vs:List V),dZ (M3 ks H') vs rest->H' i=some (.tup (.str (gG r)::vs))->Tp H H'->∃S,gR H' (.ref i) S/\nV ks r S:=by
 cases r with
 |num x z=>
  obtain⟨i,e,h⟩:=j;cases e;have u:=C x l.1;refine⟨_,h,by simp,by simp,λv g=>?_,?_,λH' i vs d f t=>?_⟩
  ·rcases dW.mp g with rfl|g
   ·exact λz=>absurd z u
   ·rw[dc.mp g];exact trivial
  ·show Ea (.str x)+(0+0)<=5;rw[y4 u];decide
  ·obtain⟨a,b,rfl⟩:=Xv d.len;have E:=y8 (d.at_ 0 _ _ rfl rfl) u;have B:b=.int z:=d.at_ 1 _ _ rfl rfl;subst E B;exact⟨.num x z,⟨i,rfl,f⟩,rfl⟩
 |op x s a b=>
  obtain⟨i,e,h⟩:=j;cases e;obtain⟨O,ss,rfl,rfl⟩:=l;have u:=C x O;have M:=Ph ss;have w:ks≠[]:=o.resolve_right (by intro z;cases z);refine⟨_,h,by simp,by simp,λv g=>?_,?_,λH' i vs d f t=>?_⟩
  ·rcases dW.mp g with rfl|g
   ·exact λz=>absurd z u
   ·rcases dW.mp g with rfl|g
    ·exact λz=>absurd z M
    ·rcases dW.mp g with rfl|g
     ·exact λ_=>w
     ·rw[dc.mp g];exact λ_=>w
  ·show Ea (.str x)+(Ea (.str s)+(Ea (.str "")+(Ea (.str "")+0)))<=5;rw[y4 u,y4 M];decide +kernel
  ·obtain⟨D,I,T,v4,rfl⟩:=XT d.len;have E:=y8 (d.at_ 0 _ _ rfl rfl) u;have B:=y8 (d.at_ 1 _ _ rfl rfl) M;obtain⟨U,m3,K⟩:=vA (d.at_ 2 _ _ rfl rfl);obtain⟨W,m4,Z⟩:=vA (d.at_ 3 _ _ rfl rfl);subst E B K Z;exact⟨.op x s U W,⟨i,rfl,f⟩,U,W,rfl,m3,m4⟩
 |call x k as=>
  obtain⟨i,q,e,h,R⟩:=j;cases e;obtain⟨O,c,hc,rfl⟩:=l;have u:=C x O;have w:ks≠[]:=o.resolve_right (by intro z;cases z);have Y:=J c (dg hc);refine⟨_,h,by simp,by simp,λv g=>?_,?_,λH' i vs d f t=>?_⟩
  ·rcases dW.mp g with rfl|g
   ·exact λz=>absurd z u
   ·rcases dW.mp g with rfl|g
    ·exact trivial
    ·rw[dc.mp g];exact⟨_,R,by rw[d3];exact Y,w⟩
  ·show Ea (.str x)+(0+(4+0))<=5;rw[y4 u];decide
  ·obtain⟨D,I,T,rfl⟩:=XS d.len;have E:=y8 (d.at_ 0 _ _ rfl rfl) u;have B:I=.int (k:Nat):=d.at_ 1 _ _ rfl rfl;obtain⟨X,P,q',L,K,h3,hl,hm⟩:=(show M3 ks H' T (.ref q) from d.at_ 2 _ _ rfl rfl);subst E B K;have:=t _ _ R;rw[L] at this;have e:=Gv (HO.tup.inj (Option.some.inj this));exact⟨.call x k P,⟨i,q',rfl,f,h3⟩,P,rfl,hl.trans e,hm⟩
 |say a=>
  obtain⟨i,e,h⟩:=j;cases e;have l:a="":=l;subst l;have w:ks≠[]:=o.resolve_right (by intro z;cases z);refine⟨_,h,by simp,by simp,λv g=>?_,?_,λH' i vs d f t=>?_⟩
  ·rw[dc.mp g];exact λ_=>w
  ·show Ea (.str "")+0<=5
   decide +kernel
  ·obtain⟨D,rfl⟩:=Xa d.len;obtain⟨z,m,e⟩:=vA (d.at_ 0 _ _ rfl rfl);subst e;exact⟨.say z,⟨i,rfl,f⟩,z,rfl,m⟩
 |jump G=>
  obtain⟨i,e,h⟩:=j;cases e;refine⟨_,h,by simp,by simp,λv g=>?_,?_,λH' i vs d f t=>?_⟩
  ·rw[dc.mp g];exact trivial
  ·show 0+0<=5
   decide
  ·obtain⟨D,rfl⟩:=Xa d.len;have e:D=.int (G:Nat):=d.at_ 0 _ _ rfl rfl;subst e;exact⟨.jump G,⟨i,rfl,f⟩,rfl⟩
 |test a G=>
  obtain⟨i,e,h⟩:=j;cases e;obtain⟨l,_⟩:a=""/\_:=l;subst l;have w:ks≠[]:=o.resolve_right (by intro z;cases z);refine⟨_,h,by simp,by simp,λv g=>?_,?_,λH' i vs d f t=>?_⟩
  ·rcases dW.mp g with rfl|g
   ·exact λ_=>w
   ·rw[dc.mp g];exact trivial
  ·show Ea (.str "")+(0+0)<=5
   decide +kernel
  ·obtain⟨D,I,rfl⟩:=Xv d.len;obtain⟨z,m,e⟩:=vA (d.at_ 0 _ _ rfl rfl);have B:I=.int (G:Nat):=d.at_ 1 _ _ rfl rfl;subst e B;exact⟨.test z G,⟨i,rfl,f⟩,z,rfl,m⟩
 |give a=>
  obtain⟨i,e,h⟩:=j;cases e;have l:a="":=l;subst l;have w:ks≠[]:=o.resolve_right (by intro z;cases z);refine⟨_,h,by simp,by simp,λv g=>?_,?_,λH' i vs d f t=>?_⟩
  ·rw[dc.mp g];exact λ_=>w
  ·show Ea (.str "")+0<=5
   decide +kernel
  ·obtain⟨D,rfl⟩:=Xa d.len;obtain⟨z,m,e⟩:=vA (d.at_ 0 _ _ rfl rfl);subst e;exact⟨.give z,⟨i,rfl,f⟩,z,rfl,m⟩
def OU{K:Fg}{vs:List V}{H:Hp}{Q:VK}{E:XK}(h:xu K vs H Q E):Ha K {nx:=λ_ H'=>Q .non H',rt:=Q} (fQ zv vs) H:=by
 obtain⟨t,rl,kl,k,ao,refs,rs,ai,ys,cs,rfl,S,hk,I,hA,D,aq,aa,af,hT,R,P,kne,ak,aj,T,q⟩:=h;obtain⟨au,J⟩:=S.lst;refine⟨Zu,λg e=>?_⟩;have nf:g≠t:=λz=>by rw[z,J] at e;cases e
 have Z:du H (upd H g (.lst [])):=(du.refl H).new e;have g1:(upd H g (.lst [])) g=some (.lst []):=cW;generalize upd H g (.lst [])=H1 at Z g1 ⊢;refine⟨_,rfl,rl,rfl,⟨_,fR.of (Z _ _ I)⟩,NP (xs:=ao) (λi f H'=>∃(s:List V) (d:List ed) (O:Nat) (o4 o5 o6 o7:Option V),f=[XU t,XU rl,XU kl,XU g,o4,o5,o6,o7]/\H' g=some (.lst s)/\dZ (gR H') s d/\d.length=i/\
  (∀(j:Nat) ks r U,ai[j]?=some ks->rs[j]?=some r->d[j]?=some U->nV ks r U)/\j5 K H' t O/\O<=k+5*i/\iO t H H') ?_ ?_ ?_ ?_⟩
 ·exact⟨[],[],k,none,none,none,none,rfl,g1,.nil,rfl,λj ks r U _ _ z=>by simp at z,S.same Z,by lia,Z.but⟩
 ·rintro i f H' _ ⟨_,_,_,_,_,_,_,_,_,_,_,_,_,_,B⟩;exact fR.of (B rl _ aj I)
 ·rintro i x f H' w hx M ⟨s,d,O,o4,o5,o6,o7,rfl,m,X,b,hF,S',o,B'⟩;obtain⟨r,Y,G⟩:=hA.of_v hx;obtain⟨p,xs,rfl,_⟩:=G.ref;have il:i<rs.length:=(cR.mp Y).1;have ar:=D.few;obtain⟨v,ks,e1,e2,a,rfl,ha⟩:=hT.get (i:=i) (by rw[R];exact il);have na:a≠t:=λz=>ak (.ref a) (dg e1) (by rw[z]);have y:iO t H (upd H' w (.tup [.int (i:Nat),.ref p])):=B'.new M;have s2:du H' (upd H' w (.tup [.int (i:Nat),.ref p])):=(du.refl H').new M;have g2:(upd H' w (.tup [.int (i:Nat),.ref p])) w=some (.tup [.int (i:Nat),.ref p]):=cW;generalize upd H' w (.tup [.int (i:Nat),.ref p])=H2 at y s2 g2 ⊢;refine⟨w,_,rfl,fA.of g2,rfl,_,_,rfl,_,_,rfl,rfl,?_⟩;have T2:Tp H H2:=.of_but y J;obtain⟨rest,h1,h2,h3,h4,h5,h6⟩:=QN (ks:=ks) (G.mono T2) (D.rough r (dg Y)) aq aa (kne i ks r e2 Y);have f2:=s2 _ _ m;have S2:=S'.same s2;obtain⟨av,L⟩:=S2.lst;refine TZ (y kl _ T af) e1 (y a _ na ha) (P i ks e2) S2 (by lia) na T h1 h2 h3 h4 h5 f2 (by rw[X.len,b];lia) nf λp6 p7 p' vs k3 H3 f3 g3 ab S3 l3 B3=>?_;have T3:Tp H2 H3:=B3.tp L f2;obtain⟨U,ag,ae⟩:=h6 H3 p' vs ab g3 T3;refine⟨s++[.ref p'],d++[U],k3,_,_,_,_,rfl,f3,((X.imp λ_ _ z=>(z.mono (.of_same s2)).mono T3)).snoc ag,by simp[b],λj ah r1 r2 a1 a2 C=>?_,S3,by lia,?_⟩
  ·by_cases c:j<d.length
   ·rw[dX c] at C;exact hF j ah r1 r2 a1 a2 C
   ·have c2:j=i:=by
     have:=(cR.mp C).1;rw[c9,d4] at this;lia
    subst c2;rw[dA (by lia),b,iv] at C;cases C;rw[e2] at a1;cases a1;rw[Y] at a2;cases a2;exact ae
  ·exact λc u n h=>by
    have hc:=y c u n h;exact B3 c u n (de h e) hc
 ·rintro f H' ⟨s,d,O,o4,o5,o6,o7,rfl,m,X,b,hF,S',o,B'⟩;rw[hA.len] at b o;refine⟨_,rfl,g,_,rfl,.inl ⟨fR.of m,λl hl=>?_⟩⟩;exact q l s d O _ cW (X.imp λ_ _ z=>z.mono ((Tp.refl H').new hl)) b hF (S'.new hl) o (B'.new hl)
def KU{K:Fg}{H:Hp}{st:c7}{k:Nat}{v:V}{ks:List Str}(S:j5 K H st k)(h:zJ H v ks):v≠.ref st:=by
 rintro rfl;obtain⟨a,e,h⟩:=h;cases e;obtain⟨d,f,c,b,_⟩:=S;rw[h] at b;cases ks with
 |_=>cases b
def II{ks:List Str}{r c:ed}(h:nV ks r c)(n:Nat):fK n c=fK n r:=by
 cases r with
 |num x z=>have h:c=.num x z:=h;subst h;rfl
 |op x s a b=>obtain⟨_,_,rfl,_⟩:=h;rfl
 |jump t=>have h:c=.jump t:=h;subst h;rfl
 |_=>obtain⟨_,rfl,_⟩:=h;rfl
def LB{ks:List Str}{r c:ed}(h:nV ks r c):kJ c=kJ r:=by
 cases r with
 |num x z=>have h:c=.num x z:=h;subst h;rfl
 |op x s a b=>obtain⟨_,_,rfl,_⟩:=h;rfl
 |jump t=>have h:c=.jump t:=h;subst h;rfl
 |_=>obtain⟨_,rfl,_⟩:=h;rfl
def NM{ks:List Str}{r c:ed}(h:nV ks r c):qA c=qA r:=by
 cases r with
 |num x z=>have h:c=.num x z:=h;subst h;rfl
 |op x s a b=>obtain⟨_,_,rfl,_⟩:=h;rfl
 |jump t=>have h:c=.jump t:=h;subst h;rfl
 |_=>obtain⟨_,rfl,_⟩:=h;rfl
def LA{ks:List Str}{r c:ed}(h:nV ks r c):je c=je r:=by
 cases r with
 |num x z=>have h:c=.num x z:=h;subst h;rfl
 |op x s a b=>obtain⟨_,_,rfl,_⟩:=h;rfl
 |jump t=>have h:c=.jump t:=h;subst h;rfl
 |_=>obtain⟨_,rfl,_⟩:=h;rfl
def IJ{ks:List Str}{r f:ed}(h:nV ks r f):∀y∈iw f,y∈ks:=by
 cases r with
 |num x z=>have h:f=.num x z:=h;subst h;intro y e;cases e
 |op x s a b=>
  obtain⟨c,d,rfl,g,i⟩:=h;intro y e;rcases dW.mp e with rfl|e
  ·exact g
  ·rw[dc.mp e];exact i
 |call x k j=>obtain⟨_,rfl,_,h⟩:=h;exact h
 |jump t=>have h:f=.jump t:=h;subst h;intro y e;cases e
 |_=>obtain⟨_,rfl,h⟩:=h;intro y e;rw[dc.mp e];exact h
def QP{ys ks:List Str}{i:List Nat}{n:Nat}{r g:ed}(e:zI ys i n r)(f:∀y∈ks,y∈ys)(h:nV ks r g):Kb ys i n g:=by
 cases r with
 |num x z=>have h:g=.num x z:=h;subst h;exact e
 |op x s a b=>obtain⟨c,d,rfl,j,l⟩:=h;exact⟨e.1,e.2.1,f _ j,f _ l⟩
 |call x k v=>
  obtain⟨w,rfl,o,h⟩:=h;obtain⟨p,c,q,u⟩:=e;refine⟨p,?_,λa m=>f _ (h a m)⟩;rw[o,u,d3];exact q
 |jump t=>have h:g=.jump t:=h;subst h;exact e
 |test a t=>obtain⟨_,rfl,h⟩:=h;exact⟨f _ h,e.2⟩
 |_=>obtain⟨_,rfl,h⟩:=h;exact f _ h
structure tW(rs rs':List ed):Prop where
 len:rs'.length=rs.length
 fill:∀(i:Nat) r r',rs[i]?=some r->rs'[i]?=some r'->∃ks,nV ks r r'
def tW.get{rs a:List ed}(h:tW rs a){i:Nat}{c:ed}(e:a[i]?=some c):∃r ks,rs[i]?=some r/\nV ks r c:=by
 have b:i<rs.length:=by rw[<-h.len];exact(cR.mp e).1
 obtain⟨ks,f⟩:=h.fill i _ _ (cP b) e;exact⟨_,ks,cP b,f⟩
def tW.stp{rs c:List ed}(h:tW rs c)(n:Nat):stp c n=stp rs n:=by
 unfold Bg.stp;cases e:c[n]? with
 |none=>
  have:rs[n]?=none:=by rw[List.getElem?_eq_none_iff] at e ⊢;rw[<-h.len];exact e
  rw[this]
 |some d=>
  obtain⟨r,j,g,f⟩:=h.get e;rw[g];cases r with
  |num x z=>have f:d=.num x z:=f;subst f;rfl
  |op x s a b=>obtain⟨_,_,rfl,_⟩:=f;rfl
  |call x k i=>obtain⟨_,rfl,_⟩:=f;rfl
  |say a=>obtain⟨_,rfl,_⟩:=f;rfl
  |jump t=>have f:d=.jump t:=f;subst f;rfl
  |test a t=>obtain⟨_,rfl,_⟩:=f;rfl
  |give a=>obtain⟨_,rfl,_⟩:=f;rfl
theorem tW.runJ{rs a:List ed}(h:tW rs a):∀(k n:Nat),runJ a k n=runJ rs k n
 |0,_=>rfl
 |k+1,n=>by
  show Bg.runJ a k (Bg.stp a n)=Bg.runJ rs k (Bg.stp rs n);rw[h.stp];exact tW.runJ h k _
def tW.ring{rs a:List ed}(h:tW rs a)(q:zB rs):zB a:=by
 intro n b g e;rw[h.len] at b;rw[h.len,h.runJ] at e;obtain⟨r,d,c,f⟩:=h.get e;rw[LA f];exact q n b r c
def Vc{K:Fg}{vs:List V}{H:Hp}{Q:VK}{E:XK}(h:EW K vs H Q E):PF K {nx:=λ_ H'=>Q .non H',rt:=Q} (fQ Ia vs) H:=by
 obtain⟨J,Z,pr,cn,wd,m,k,O,s,P,rfl,S,hk,R,ae,aG,aQ,I,aP,pnd,pin,aK,au,aH,ar,m1,aS,nnm,aj,aE,q⟩:=h;refine⟨_,rfl,_,_,rfl,.inl ⟨_,fR.of I,rfl⟩,.inl ⟨rfl,.inr ⟨_,rfl,.inl ⟨_,_,rfl,rfl,_,rfl,_,rfl,J,_,k,rfl,S,by lia,by lia,by lia,λd H1 d0 d1 S1 B1=>.inl ⟨_,_,rfl,rfl,_,_,rfl,?_⟩⟩⟩⟩⟩;rw[cT];obtain⟨n,hn,n1,aT,aU,n2⟩:∃n:Nat,(if 1+d>1+(if decide (V.int ((s.length:Nat):Int)=V.int 0)=true then 1 else 0) then 1+d else 1+(if decide (V.int ((s.length:Nat):Int)=V.int 0)=true then 1 else 0))=(n:Int)/\1<=n/\n<=52/\n<=m+1/\(s=[]->2<=n):=by
  by_cases c:s=[]
  ·have e:decide (V.int ((s.length:Nat):Int)=V.int 0)=true:=by rw[c];rfl
   rw[e,if_pos rfl];by_cases c2:1+d>1+1
   ·rw[if_pos c2];exact⟨(1+d).toNat,by lia,by lia,by lia,by lia,λ_=>by lia⟩
   ·rw[if_neg c2];exact⟨2,rfl,by lia,by lia,by lia,λ_=>by lia⟩
  ·have e:decide (V.int ((s.length:Nat):Int)=V.int 0)=false:=decide_eq_false λz=>c (fG.mp (by injection z with z;lia));rw[e,if_neg Bool.false_ne_true];by_cases c2:1+d>1+0
   ·rw[if_pos c2];exact⟨(1+d).toNat,by lia,by lia,by lia,by lia,λz=>absurd z c⟩
   ·rw[if_neg c2];exact⟨1,rfl,by lia,by lia,by lia,λz=>absurd z c⟩
 rw[hn];refine⟨_,rfl,_,rfl,by lia,by lia,λL hL=>?_⟩;obtain⟨aW,aL⟩:=S1.lst;have nL:L≠J:=λz=>by rw[z,aL] at hL;cases hL
 have HL:H L=none:=B1.free nL hL;refine mR (λi ak H'=>∃(B:List V) (U:List ed) (k':Nat) (o:Option V),ak=[XU J,some (.str wd),XU Z,XU pr,XU cn,XW m,XW n,none,none,o]/\
  H' L=some (.lst B)/\dZ (gR H') B U/\U.length=i/\(∀r∈U,zI O P n r)/\j5 K H' J k'/\k'<=k+1+8*i/\iO J H H') ?_ ?_ ?_
 ·exact⟨[],[],k+1,none,rfl,cW,.nil,rfl,by simp,S1.new hL,by lia,B1.new hL⟩
 ·rintro i ak H' hi ⟨B,U,k',o,rfl,T,hA,b,ro,S',aR,B'⟩;have hi:i<n:=by simpa using hi
  refine ib ⟨_,rfl,_,rfl,_,rfl,_,rfl,J,Z,cn,n,k',O,P,rfl,S',by lia,B' Z _ nnm R,ae,aG,n1,by lia,B' cn _ aE aK,au,aH,ar,nnm,aE,λv r k2 H2 hv hr S2 l2 B2=>?_⟩;have h2:=B2 L _ nL T;have t2:Tp H' H2:=by obtain⟨_,e⟩:=S'.lst;exact .of_but B2 e
  have t3:Tp H2 (upd H2 L (.lst (B++[v]))):=(Tp.refl H2).lst h2;refine⟨_,h2,fE (by rw[hA.len];lia),B++[v],U++[r],k2,_,rfl,cW,(hA.imp λ_ _ z=>(z.mono t2).mono t3).snoc (hv.mono t3),by simp[b],λw ai=>?_,S2.mono .upd_at h2 (Ne.symm nL),by lia,?_⟩
  ·rcases d9.mp ai with z|z
   ·exact ro w z
   ·rw[dc.mp z];exact hr
  ·exact iO.past (B'.trans B2) HL .upd_at
 ·rintro ak H2 ⟨B,U,k2,o,_,T,hA,b,ro,S2,aA,B2⟩;have b:U.length=n:=by simpa using b
  have aA:k2<=k+1+8*n:=by simpa using aA
  have aO:Z≠L:=de R HL;have aV:pr≠L:=de I HL;have Ok:DW O P U:=⟨λz=>by rw[z] at b;simp at b;lia,by lia,by rw[b];exact ro⟩;have aC:=B2 pr _ aj I;have ag:decide (V.int (((s.map V.str).length:Nat):Int)=V.int 0)=true->s=[]:=λz=>by
   have z':=of_decide_eq_true z;rw[cT] at z';injection z' with z';exact fG.mp (by lia)
  have D:s=[]->decide (V.int (((s.map V.str).length:Nat):Int)=V.int 0)=true:=λz=>by rw[z];rfl
  refine⟨_,rfl,_,rfl,_,rfl,_,_,rfl,.inl ⟨_,fR.of aC,rfl⟩,.inl ⟨rfl,L,Z,_,B,U,O,zI O P n,rfl,T,hA,Ok.pos,Ok.few,ro,rfl,rfl,λt ht=>by rw[b];exact ht,B2 Z _ nnm R,ae,λy hy _=>⟨hy,by decide,by decide⟩,aO,λz=>by rw[b];exact n2 (ag z),λab x H3 h3 av aD ay ah ax aJ B3=>?_⟩⟩;have n3:x.length=n:=aD.trans b;have aq:DW O P x:=⟨λz=>by rw[z] at n3;simp at n3;lia,by lia,by rw[n3];exact ay⟩;have S3:j5 K H3 J k2:=S2.mono B3 T (Ne.symm nL);have af:iO J H H3:=iO.past B2 HL B3;refine⟨_,rfl,_,rfl,_,rfl,L,Z,pr,ab,x,O,s,P,rfl,h3,av,aq,ah,af Z _ nnm R,aG,af pr _ aj I,aP,pin,λz=>ax (D z),λkl aa G H4 aB h4 hT lk hK aw s4=>?_⟩;have S4:=S3.same s4;have ao:iO J H H4:=af.trans s4.but;have aN:kl≠J:=λz=>by obtain⟨_,e⟩:=S3.lst;rw[z,e] at aB;cases aB
  refine⟨_,rfl,_,rfl,pr,_,rfl,.inl ⟨fR.of (ao pr _ aj I),λt ht=>?_⟩⟩;have s5:du H4 (upd H4 t (.tup (s.map V.str))):=(du.refl H4).new ht;have g5:(upd H4 t (.tup (s.map V.str))) t=some (.tup (s.map V.str)):=cW;generalize upd H4 t (.tup (s.map V.str))=H5 at s5 g5 ⊢;have S5:=S4.same s5;have az:dZ (zJ H5) aa G:=hT.imp λ_ _ ⟨a,e,h⟩=>⟨a,e,s5 _ _ h⟩;refine⟨_,rfl,_,rfl,_,rfl,J,L,kl,k2,ab,aa,x,G,O,P,rfl,S5,by lia,s5 _ _ (s4 _ _ h3),(av.imp λ_ _ z=>(z.mono (.of_same s4)).mono (.of_same s5)),aq,aQ,ar,s5 _ _ h4,az,lk,λi j e=>(hK i j e).1,λi j r u M=>?_,λa ha=>?_,nL,aN,λp aF g k6 H6 h6 aI l hF S6 l6 B6=>?_⟩
  ·rcases(hK i j u).2.2 with z|⟨z1,z2⟩
   ·exact .inl z
   ·subst z1;have:=ax (D z2);rw[lY,M] at this;exact .inr (Option.some.inj this)
  ·obtain⟨i,hi,e⟩:=eH.mp ha;obtain⟨j,_,z⟩:=az.of_v (i:=i) (v:=a) (by rw[cP hi,e]);exact KU S5 z
  refine⟨Zx,λf hf=>?_⟩;obtain⟨_,e5⟩:=S5.lst;have t6:Tp H5 H6:=.of_but B6 e5;have t7:Tp H6 (upd H6 f (.tup [.str wd,.ref t,.ref p])):=(Tp.refl H6).new hf;have Y:∀(i:Nat) r,x[i]?=some r->∃j,G[i]?=some j:=λi r e=>⟨_,cP (by rw[lk];exact(cR.mp e).1)⟩;have al:tW x g:=⟨l,λi r w u M=>by
   obtain⟨j,X⟩:=Y i r u;exact⟨j,hF i j r w X u M⟩⟩
  have C:∀(i:Nat) w,g[i]?=some w->∃r j,x[i]?=some r/\G[i]?=some j/\nV j r w:=λi w e=>by
   obtain⟨r,_,u,_⟩:=al.get e;obtain⟨j,X⟩:=Y i r u;exact⟨r,j,u,X,hF i j r w X u e⟩
  have ok:pf O P ⟨wd,s,g⟩:=by
   refine⟨pnd,pin,λz=>?_,?_,λw ai=>?_,?_,al.ring aJ,G,?_,⟨aw.zero,λi m w j km e hm X em y hy=>?_⟩,λi w j e X=>?_⟩
   ·have z':g=[]:=z;rw[z',n3] at l;simp at l;lia
   ·show g.length<=60;lia
   ·show Kb O P g.length w;obtain⟨i,hi,e⟩:=eH.mp ai;obtain⟨r,j,u,M,f⟩:=C i w (by rw[<-e];exact cP hi);rw[l,n3];exact QP (ay r (dg u)) (hK i j M).2.1 f
   ·show g.getLast?.map qA=some true;have hl:g.length-1<g.length:=by lia
    obtain⟨r,j,u,M,f⟩:=C (g.length-1) _ (cP hl);rw[fY,cP hl,fO,NM f];rw[fY,<-l,u,fO] at ah;exact ah
   ·show G.length=g.length;rw[lk,l]
   ·obtain⟨r,aM,u,M,f⟩:=C i w e;rw[II f] at hm;rw[LB f];exact aw.on i m r j km u hm X em y hy
   ·obtain⟨r,aM,u,M,f⟩:=C i w e;rw[X] at M;cases M;exact IJ f
  refine q _ ⟨wd,s,g⟩ k6 _ ⟨f,t,p,aF,rfl,cW,t7 _ _ (t6 _ _ g5),t7 _ _ h6,aI.imp λ_ _ z=>z.mono t7⟩ rfl rfl ok (by show g.length<=m+1;lia) (S6.new hf) (by lia) ?_;exact((ao.trans s5.but).trans B6).new hf
inductive Fv(rs:List ed)(un:Option Str):Nat->Prop where
 |zero:Fv rs un 0
 |step {n m:Nat} {r:ed}:Fv rs un n->rs[n]?=some r->(∀y,un=some y->kJ r≠.str y)->m∈fK n r->Fv rs un m
structure gE(rs:List ed):Prop where
 pos:0<rs.length
 few:rs.length<64
 inr:∀(n m:Nat) r,rs[n]?=some r->m∈fK n r->m<rs.length
 ring:zB rs
def Fv.lt{rs:List ed}{b:Option Str}(g:gE rs){m:Nat}(h:Fv rs b m):m<rs.length:=by
 cases h with
 |zero=>exact g.pos
 |step _ e _ a=>exact g.inr _ _ _ e a
def Oh{rs:List ed}(l:∀r∈rs,∀t:Nat,NU r=.int (t:Nat)->t<rs.length)(g:rs.getLast?.map qA=some true):∀(n m:Nat) r,rs[n]?=some r->m∈fK n r->m<rs.length:=by
 intro i m r d b;have o:i<rs.length:=(cR.mp d).1;have nx:qA r=false->i+1<rs.length:=λk=>by
  by_cases c:i+1<rs.length
  ·exact c
  ·have j:i=rs.length-1:=by lia
   rw[fY,<-j,d,fO,k] at g;cases g
 have h:=l r (dg d);cases r with
 |jump f=>rw[dc.mp b];exact h f rfl
 |test a f=>
  rcases dW.mp b with e|e
  ·rw[e];exact nx rfl
  ·rw[dc.mp e];exact h f rfl
 |give a=>cases b
 |_=>rw[dc.mp b];exact nx rfl
def pf.good{ys:List Str}{f:List Nat}{b:gQ}(h:pf ys f b):gE b.rows:=by
 have:=h.few;refine⟨eL.mpr h.pos,by lia,Oh (λr g t e=>?_) h.last,h.ring⟩;have d:=h.rows r g;cases r with
 |jump c=>
  injection e with e;have:c=t:=by lia
  subst this;exact d
 |test a c=>
  injection e with e;have:c=t:=by lia
  subst this;exact d.2
 |_=>cases e
theorem GO(rs:List ed):∀(j k n:Nat),runJ rs (j+k) n=runJ rs j (runJ rs k n)
 |j,0,n=>rfl
 |j,k+1,n=>by
  show runJ rs (j+k) (stp rs n)=runJ rs j (runJ rs k (stp rs n));exact GO rs j k (stp rs n)
def Pk{rs:List ed}(g:gE rs){n:Nat}(h:n<rs.length):stp rs n<rs.length:=by
 unfold stp;rw[cP h];cases e:rs[n] with
 |jump t=>exact g.inr n t (.jump t) (by rw[cP h,e]) (dc.mpr rfl)
 |_=>exact h
theorem rr{rs:List ed}(g:gE rs):∀(k:Nat) {n:Nat},n<rs.length->runJ rs k n<rs.length
 |0,_,h=>h
 |k+1,_,h=>rr g k (Pk g h)
def Pc{rs:List ed}{k n:Nat}(a:k<=rs.length)(h:∀r,rs[runJ rs k n]?=some r->je r=false):runJ rs rs.length n=runJ rs k n:=by
 have e:rs.length=(rs.length-k)+k:=by lia
 rw[e,GO];exact tO h _
theorem mw:∀{n:Nat} {l:List Nat},l.Nodup->(∀x∈l,x<n)->l.length<=n
 |0,l,_,h=>by
  cases l with
  |nil=>exact dk _
  |cons a r=>exact absurd (h a eG) (fN _)
 |n+1,l,d,h=>by
  by_cases c:n∈l
  ·have e:=mw (n:=n) (l:=l.erase n) (d.erase n) λx b=>by
    have:=(d.mem_erase_iff).mp b;have:=h x this.2;lia
   rw[List.length_erase_of_mem c] at e;lia
  ·have e:=mw (n:=n) d λx b=>by
    have:=h x b;have:x≠n:=λz=>c (z ▸ b);lia
   lia
theorem sJ:∀{l:List Nat},l.Pairwise (·<=·)->l.Nodup->l.Pairwise (·<·)
 |[],_,_=>.nil
 |a::r,h,b=>by
  rw[List.pairwise_cons] at h ⊢;rw[iu] at b;refine⟨λx c=>?_,sJ h.2 b.2⟩;have:=h.1 x c;have:a≠x:=λz=>b.1 (z ▸ c);lia
def L3{c:List Int}{ns:List Nat}(p:c.Perm (ns.map λn=>((n:Nat):Int)))(s:c.Pairwise (·<=·))(j:ns.Nodup):∃ks:List Nat,c=ks.map (λn=>((n:Nat):Int))/\(∀x,x∈ks↔x∈ns)/\ks.Pairwise (·<·):=by
 have g:c.map (λi=>((i.toNat:Nat):Int))=c:=by
  have:∀i∈c,((i.toNat:Nat):Int)=i:=λi f=>by
   obtain⟨n,_,e⟩:=jS.mp (p.mem_iff.mp f);lia
  exact(List.map_congr_left this).trans (List.map_id _)
 have d:(c.map iA).Perm ns:=by
  have:=p.map iA;rw[gZ] at this;have e:ns.map (iA ∘ λn=>((n:Nat):Int))=ns:=by
   have:∀n∈ns,(iA ∘ λn=>((n:Nat):Int)) n=n:=λn _=>by simp
   exact(List.map_congr_left this).trans (List.map_id _)
  rw[e] at this;exact this
 refine⟨c.map iA,?_,λx=>d.mem_iff,sJ ?_ (d.nodup_iff.mpr j)⟩
 ·rw[gZ];exact g.symm
 ·rw[List.pairwise_map];exact s.imp λ{a b} h=>by lia
def WS:Option Str->V
 |none=>.non
 |some y=>.str y
def jA(_:Fg):Sp:=λc H Q _=>∃(rt:c7) (n:Nat) (b:List V) (a:List ed),c=[.ref rt,.int (n:Nat)]/\H rt=some (.tup b)/\dZ (gR H) b a/\gE a/\n<a.length/\Q (.int (runJ a a.length n:Nat)) H
def lS(_:Fg):Sp:=λf H Q _=>∃(rt:c7) (e:Option Str) (a:List V) (d:List ed),f=[.ref rt,WS e]/\H rt=some (.tup a)/\dZ (gR H) a d/\gE d/\
 ∀(l:c7) (c:List Nat) (b:Hp),(∀m,m∈c↔Fv d e m)->c.Pairwise (·<·)->b l=some (.lst (eU c))->H l=none->du H b->Q (.ref l) b
def ov(rs:List ed)(m:Nat):Prop:=Fv rs none m/\∀r,rs[m]?=some r->je r=false
def Se:Sp:=λe H Q _=>∃(rt:c7) (a:List V) (d:List ed),e=[.ref rt]/\H rt=some (.tup a)/\dZ (gR H) a d/\gE d/\
 ∀(l:c7) (c:List Nat) (b:Hp),(∀m,m∈c↔ov d m)->c.Pairwise (·<·)->b l=some (.lst (eU c))->H l=none->du H b->Q (.ref l) b
abbrev rF(_:Fg):Sp:=Se
abbrev IR:Nat:=1
abbrev HV:Nat:=2
abbrev IT:Nat:=2
abbrev uJ:Nat:=3
abbrev Gq:Nat:=3
abbrev FF:Nat:=4
abbrev oJ:=Nat×List (Option Str)
def sD(H:Hp)(v:V)(q:oJ):Prop:=∃p a,v=.ref p/\H p=some (.tup [.int (q.1:Nat),.ref a])/\H a=some (.tup (gs q.2))
def sD.mono{H H':Hp}{v:V}{q:oJ}(h:sD H v q)(t:Tp H H'):sD H' v q:=let⟨p,a,e,b,c⟩:=h;⟨p,a,e,t _ _ b,t _ _ c⟩
def ue(H:Hp)(v:V)(b:List oJ):Prop:=∃p a,v=.ref p/\H p=some (.tup a)/\dZ (sD H) a b
def ue.mono{H H':Hp}{v:V}{a:List oJ}(h:ue H v a)(t:Tp H H'):ue H' v a:=let⟨p,d,e,b,c⟩:=h;⟨p,d,e,t _ _ b,c.imp λ_ _ z=>z.mono t⟩
def tR(_:Fg):Sp:=λb H Q _=>∃(p:c7) (w:Str) (a:List V),b=[.ref p]/\H p=some (.tup (.str w::a))/\(w="jump"->∃y,a[0]?=some y/\Q y H)/\(w="test"->∃y,a[1]?=some y/\Q y H)/\(w≠"jump"->w≠"test"->Q .non H)
def Ew(w:Str)(xs:List V)(n:Int)(a:List Int):Prop:=(w="give"->a=[])/\(w="jump"->∃t,xs[0]?=some (.int t)/\a=[t])/\(w="test"->∃t,xs[1]?=some (.int t)/\a=[n+1,t])/\(w≠"give"->w≠"jump"->w≠"test"->a=[n+1])
def pG(_:Fg):Sp:=λf H Q _=>∃(c p:c7) (n:Nat) (a e:List V) (w:Str) (d:List Int),f=[.ref c,.int (n:Nat)]/\(H c=some (.lst a)\/H c=some (.tup a))/\a[n]?=some (.ref p)/\H p=some (.tup (.str w::e))/\Ew w e n d/\∀(t:c7) (b:Hp),b t=some (.tup (d.map V.int))->du H b->Q (.ref t) b
def FY:ed->V
 |.num _ z=>.int z
 |.op _ s _ _=>.str s
 |.call _ k _=>.int (k:Nat)
 |_=>.non
def Ln:gb->V
 |.num z=>.int z
 |.op s _ _=>.str s
 |.call k _=>.int k
 |_=>.non
structure sE(r:ed)(c:gb)(os:List (Option Str)):Prop where
 wd:gG r=eZ c
 arg:FY r=Ln c
 len:(d5 c).length=(iw r).length
 at_:∀(t:Nat) i a,(d5 c)[t]?=some i->(iw r)[t]?=some a->0<=i/\os[i.toNat]?=some (some a)
def rQ(q:oJ)(n:Nat)(a:List (Option Str)):Prop:=q.1=n/\q.2.length=a.length/\J4 q.2 a=true
def jt:ed->Option Str
 |.num x _=>some x
 |.op x _ _ _=>some x
 |.call x _ _=>some x
 |_=>none
def gB(rs:List ed)(c:gb)(n:Nat):List Nat:=if lE c then[n] else match rs[n]? with
 |some r=>(fK n r).map (runJ rs rs.length)
 |none=>[]
structure FT(places:Nat)(rs:List ed)(cs:List gb)(ps:List oJ)(m:Nat):Prop where
 ex:∃c q r,cs[m]?=some c/\ps[m]?=some q/\rs[q.1]?=some r/\q.2.length=places/\(∀i,c=.keep i->0<=i/\i.toNat<places)/\(lE c=false->sE r c q.2)/\
  (∀to∈fK q.1 r,to<rs.length)/\(ij (m:Nat) c).length=(gB rs c q.1).length/\
  ∀(t:Nat) to n,(ij (m:Nat) c)[t]?=some to->(gB rs c q.1)[t]?=some n->0<=to/\∃q',ps[to.toNat]?=some q'/\rQ q' n (BE c q.2 (jt r))
structure qt(places:Nat)(b:gQ)(cs:List gb)(ps:List oJ):Prop where
 len:ps.length=cs.length
 wide:∀(i:Nat) q,ps[i]?=some q->q.2.length=places
 fst:∃q,ps[0]?=some q/\rQ q (runJ b.rows b.rows.length 0) (b.params.reverse.map some++dm places none |>.take places)
 row:∀m,m<cs.length->FT places b.rows cs ps m
structure wW(places:Nat)(bs:List gQ)(cps:List jb)(pss:List (List oJ)):Prop where
 len:cps.length=bs.length
 ln2:pss.length=bs.length
 cnt:cps.map (·.1)=bs.map (λb=>((b.params.length:Nat):Int))
 part:∀(k:Nat) b c ps,bs[k]?=some b->cps[k]?=some c->pss[k]?=some ps->qt places b c.2 ps
def jB(_:Fg):Sp:=λe H Q _=>∃(v:V) (a:c7) (q:oJ) (n:Nat) (c:List (Option Str)),e=[v,.int (n:Nat),.ref a]/\sD H v q/\H a=some (.tup (gs c))/\q.2.length<=1000/\q.2.length=c.length/\∀(b:Bool) (d:Hp),(b=true↔rQ q n c)->du H d->Q (.bl b) d
def pE(_:Fg):Sp:=λf H Q _=>∃(v u:V) (a:c7) (r:ed) (c:gb) (d:List (Option Str)),f=[v,u,.ref a]/\gR H v r/\hI H u c/\H a=some (.tup (gs d))/\(d5 c).length<=1000/\(∀i∈d5 c,0<=i/\i.toNat<d.length)/\∀(b:Bool) (e:Hp),(b=true↔sE r c d)->du H e->Q (.bl b) e
def rE(_:Fg):Sp:=λd H Q _=>∃(v:V) (a:c7) (r:gb) (b:List (Option Str)) (x:Option Str),d=[v,.ref a,oV x]/\hI H v r/\H a=some (.tup (gs b))/\b≠[]/\b.length<=1000/\(∀i,r=.keep i->0<=i/\i.toNat<b.length)/\(qB r=true->x.isSome=true)/\
 ∀(p:c7) (c:Hp),c p=some (.tup (gs (BE r b x)))->du H c->Q (.ref p) c
def Nn(places:Nat)(rs:List ed)(b:List gb)(ps:List oJ)(m:Nat):Prop:=∃c q r,b[m]?=some c/\ps[m]?=some q/\rs[q.1]?=some r/\(d5 c).length<=1000/\(∀i∈d5 c,0<=i/\i.toNat<places)/\∀a∈ij (m:Nat) c,0<=a/\a.toNat<ps.length
def Im(rs:List ed)(d:List gb)(ps:List oJ)(m:Nat):Prop:=∀c q r,d[m]?=some c->ps[m]?=some q->rs[q.1]?=some r->(lE c=false->sE r c q.2)/\
 ∀(t:Nat) b n a,(ij (m:Nat) c)[t]?=some b->(gB rs c q.1)[t]?=some n->ps[b.toNat]?=some a->rQ a n (BE c q.2 (jt r))
def qe(_:Fg):Sp:=λl H Q _=>∃(rt ct k:c7) (m a:Nat) (e c d:List V) (g:List ed) (h:List gb) (f:List oJ),l=[.ref rt,.ref ct,.ref k,.int (m:Nat)]/\H rt=some (.tup e)/\dZ (gR H) e g/\gE g/\H ct=some (.tup c)/\dZ (hI H) c h/\H k=some (.tup d)/\dZ (sD H) d f/\1<=a/\a<=1000/\(∀(i:Nat) q,f[i]?=some q->q.2.length=a)/\Nn a g h f m/\∀(b:Bool) (j:Hp),(b=true↔Im g h f m)->du H j->Q (.bl b) j
def vk(P:Nat->Prop)(n:Nat):Option Nat->Prop
 |none=>∀j,j<n->¬P j
 |some k=>k<n/\P k/\∀j,j<k->¬P j
def Xr:Option Nat->V
 |none=>.non
 |some n=>.int (n:Nat)
structure Nk(places:Nat)(b:gQ)(cs:List gb)(ps:List oJ):Prop where
 len:ps.length=cs.length
 pos:0<cs.length
 wide:∀(i:Nat) q,ps[i]?=some q->q.2.length=places
 row:∀m,m<cs.length->Nn places b.rows cs ps m
def Qg(places:Nat)(b:gQ)(ps:List oJ):Prop:=∃q,ps[0]?=some q/\rQ q (runJ b.rows b.rows.length 0) (b.params.reverse.map some++dm places none |>.take places)
def uf(places:Nat)(b:gQ)(a:List gb)(ps:List oJ)(o:Option Nat):Prop:=(¬Qg places b ps/\o=some 0)\/(Qg places b ps/\vk (λm=>¬Im b.rows a ps m) a.length o)
def pD(_:Fg):Sp:=λi H Q _=>∃(v:V) (ct h:c7) (a:Nat) (c d:List V) (b:gQ) (e:List gb) (f:List oJ),i=[.int (a:Nat),v,.ref ct,.ref h]/\mP H v b/\gE b.rows/\b.rows≠[]/\b.params.length<=100/\H ct=some (.tup c)/\dZ (hI H) c e/\e.length<=100000/\H h=some (.tup d)/\dZ (sD H) d f/\1<=a/\a<=1000/\Nk a b e f/\∀(o:Option Nat) (g:Hp),uf a b e f o->du H g->Q (Xr o) g
def Kc(bs:List gQ)(a:List jb)(k:Nat):Prop:=(bs[k]?).map (λb=>((b.params.length:Nat):Int))≠(a[k]?).map (·.1)
def sS(_:Fg):Sp:=λh H Q _=>∃(f g:c7) (c b:List V) (d:List gQ) (a:List jb),h=[.ref f,.ref g]/\H f=some (.tup c)/\dZ (mP H) c d/\H g=some (.tup b)/\dZ (j7 H) b a/\d.length<=100/\a.length<=100/\∀(o:Option Nat) (e:Hp),vk (Kc d a) (max d.length a.length) o->du H e->Q (Xr o) e
def tJ(places:Nat)(bs:List gQ)(a:List jb)(e:List (List oJ))(o:Option (Nat×Nat)):Prop:=
 (∃k,vk (Kc bs a) (max bs.length a.length) (some k)/\o=some (k,0))\/(vk (Kc bs a) (max bs.length a.length) none/\((o=none/\∀(j:Nat) b c d,bs[j]?=some b->a[j]?=some c->e[j]?=some d->uf places b c.2 d none)\/
  ∃k m,o=some (k,m)/\(∃b c d,bs[k]?=some b/\a[k]?=some c/\e[k]?=some d/\uf places b c.2 d (some m))/\∀(j:Nat) b c d,j<k->bs[j]?=some b->a[j]?=some c->e[j]?=some d->uf places b c.2 d none))
def Nl(places:Nat)(bs:List gQ)(a:List jb)(d:List (List oJ)):Prop:=a.length=bs.length->d.length=bs.length/\∀(k:Nat) b c e,bs[k]?=some b->a[k]?=some c->d[k]?=some e->Nk places b c.2 e
def VH(bs:List gQ):Prop:=bs.length<=10/\∀b∈bs,gE b.rows/\b.rows≠[]/\b.params.length<=100
def Nq(H:Hp)(v:V):Option (Nat×Nat)->Prop
 |none=>v=.non
 |some (k,m)=>∃p,v=.ref p/\H p=some (.tup [.int (k:Nat),.int (m:Nat)])
def HZ(vs:List V)(H:Hp)(places:Nat)(bs:List gQ)(a:List jb)(b:List (List oJ)):Prop:=∃(g h:c7) (f:V) (d e:List V),vs=[.ref g,f,.ref h]/\H g=some (.tup d)/\dZ (mP H) d bs/\VH bs/\qY H f ((places:Nat),a)/\(a.length<=100/\∀c∈a,c.2.length<=100000)/\H h=some (.tup e)/\dZ (ue H) e b/\(1<=places/\places<=1000)/\Nl places bs a b
def rH(_:Fg):Sp:=λf H Q _=>∃(a:Nat) (e:List gQ) (b:List jb) (c:List (List oJ)),HZ f H a e b c/\∀(o:Option (Nat×Nat)) (v:V) (d:Hp),tJ a e b c o->Nq d v o->du H d->Q v d
abbrev Ob:Nat:=0
abbrev zr:Nat:=1
abbrev LO:Nat:=1
abbrev wM:Nat:=2
abbrev yw:Nat:=1
abbrev yj:Nat:=2
abbrev Ce:Nat:=1
abbrev BL:Nat:=2
abbrev Ep:Nat:=3
abbrev DI:Nat:=4
abbrev Cd:Nat:=4
abbrev BK:Nat:=5
abbrev IS:Nat:=0
abbrev HW:Nat:=1
abbrev LM:Nat:=5
abbrev K9:Nat:=6
def Ts(a b:c7)(H H':Hp):Prop:=∀p o,p≠a->p≠b->H p=some o->H' p=some o
inductive mQ where
 |c (r:gb)
 |land (i:Nat)
 |jmp (m t:Nat)
def uP(H:Hp)(v:V):mQ->Prop
 |.c r=>hI H v r
 |.land i=>∃p,v=.ref p/\H p=some (.tup [.str "test",.int (i:Nat),.str "land"])
 |.jmp m t=>∃p a,v=.ref p/\H p=some (.tup [.str "jump",.ref a])/\H a=some (.tup [.str "at",.int (m:Nat),.int (t:Nat)])
def uP.mono{H H':Hp}{v:V}{x:mQ}(h:uP H v x)(t:Tp H H'):uP H' v x:=by
 cases x with
 |c r=>exact hI.mono h t
 |land i=>obtain⟨p,e,h⟩:=h;exact⟨p,e,t _ _ h⟩
 |jmp m k=>obtain⟨p,a,e,h,b⟩:=h;exact⟨p,a,e,t _ _ h,t _ _ b⟩
abbrev XO:=mQ×oJ
def WL(H:Hp)(v:V)(x:XO):Prop:=∃p u w,v=.ref p/\H p=some (.tup [u,w])/\uP H u x.1/\sD H w x.2
def WL.mono{H H':Hp}{v:V}{x:XO}(h:WL H v x)(t:Tp H H'):WL H' v x:=let⟨p,u,w,e,a,b,c⟩:=h;⟨p,u,w,e,t _ _ a,b.mono t,c.mono t⟩
def tT(a:List (Option Str)):List Str->List (Option Str)
 |[]=>a
 |y::l=>tT (jg a (some y)) l
def wY(n:Nat)(a:List (Option Str)):List Str->List XO
 |[]=>[]
 |y::l=>(.c (.keep ((a.idxOf (some y):Nat):Int)),(n,a))::wY n (jg a (some y)) l
def zi(a:List (Option Str)):List Str->Prop
 |[]=>True
 |y::l=>some y∈a/\zi (jg a (some y)) l
def rg(H:Hp)(b:c7)(out:List XO):Prop:=∃a,H b=some (.lst a)/\dZ (WL H) a out
def qu(H:Hp)(v:V)(ks:List Str):Prop:=∃a,v=.ref a/\H a=some (.tup (ks.map V.str))
def qu.mono{H H':Hp}{v:V}{ks:List Str}(h:qu H v ks)(t:Tp H H'):qu H' v ks:=let⟨a,e,h⟩:=h;⟨a,e,t _ _ h⟩
def AI(_:Fg):Sp:=λd H Q _=>∃(a:c7) (b:List (Option Str)) (o:Option Str),d=[.ref a,oV o]/\H a=some (.tup (gs b))/\2<=b.length/\b.length<=1000/\
 ∀(p:c7) (c:Hp),c p=some (.tup (gs (jg b o)))->du H c->Q (.ref p) c
def mW(_:Fg):Sp:=λh H Q _=>∃(e f g:c7) (n:Nat) (b:List XO) (c:List (Option Str)) (a:List Str),h=[.ref e,.int (n:Nat),.ref f,.ref g]/\rg H e b/\H f=some (.tup (gs c))/\2<=c.length/\c.length<=1000/\H g=some (.tup (a.map V.str))/\a.length<=100/\b.length<=90000/\zi c a.reverse/\
 ∀(p:c7) (d:Hp),d p=some (.tup (gs (tT c a.reverse)))->rg d e (b++wY n c a.reverse)->iO e H d->Q (.ref p) d
def pF(K:Fg):Sp:=λe H Q _=>∃(b d:c7) (k:Nat) (a:List (Option Str)) (y:Str),e=[.ref b,.ref d,.str y]/\j5 K H b k/\k<=900000/\H d=some (.tup (gs a))/\a.length<=1000/\some y∈a/\
 ∀(i:Nat) (c:Hp),a[i]?=some (some y)->j5 K c b (k+1)->iO b H c->Q (.int (i:Nat)) c
structure Qf(a b:List (Option Str)):Prop where
 len:b.length=a.length
 wk:J4 b a=true
 fst:∀y k,some y∈a.take k->some y∈b.take k
def xw(K:Fg):Sp:=λf H Q _=>∃(d e:c7) (k:Nat) (c:List (Option Str)),f=[.ref d,.ref e]/\j5 K H d k/\k<=900000/\H e=some (.tup (gs c))/\c≠[]/\c.length<=1000/\
 ∀(p:c7) (a:List (Option Str)) (b:Hp),b p=some (.tup (gs a))->Qf c a->j5 K b d (k+1)->iO d H b->Q (.ref p) b
def FV(r:ed)(x:mQ)(b:List (Option Str)):Prop:=match r with
 |.test a _=>∃i:Nat,x=.land i/\b[i]?=some (some a)
 |_=>∃c,x=.c c/\sE r c b
def qh(K:Fg):Sp:=λf H Q _=>∃(c d:c7) (v:V) (k:Nat) (r:ed) (b:List (Option Str)),f=[.ref c,v,.ref d]/\j5 K H c k/\k<=800000/\gR H v r/\je r=false/\H d=some (.tup (gs b))/\b.length<=1000/\(iw r).length<=10/\(∀y∈iw r,some y∈b)/\
 ∀(u:V) (x:mQ) (e:Nat) (a:Hp),uP a u x->FV r x b->j5 K a c e->e<=k+10->iO c H a->Q u a
def jc(ks:List Str)(places:Nat):List (Option Str):=(ks.map some++dm places none).take places
inductive Ka(b0:List (Option Str))(n:Nat):List XO->List (Option Str)->Prop where
 |no {os}:Qf b0 os->Ka b0 n [] os
 |yes {i:Nat} {os}:i<b0.length->Qf (qC b0 i) os->Ka b0 n [(.c (.keep ((i:Nat):Int)),(n,b0))] os
def jF(r:ed)(a:List (Option Str)):List (Option Str):=match jt r with
 |some y=>DZ a y
 |none=>a
def gC(kss:List (List Str))(m t:Nat)(a:List (Option Str)):List XO:=wY m a ((kss[m]?).getD []).reverse++[(.jmp m t,(m,tT a ((kss[m]?).getD []).reverse))]
inductive rh(rs:List ed)(kss:List (List Str))(times n b:Nat)(os:List (Option Str)):ed->mQ->List XO->mQ->Prop where
 |give {a x}:rh rs kss times n b os (.give a) x [] x
 |test {a to i t t'}:t<times->t'<times->rh rs kss times n b os (.test a to) (.land i)
   (gC kss (runJ rs rs.length (n+1)) t os++gC kss (runJ rs rs.length to) t' os)
   (.c (.test ((i:Nat):Int) ((b+1+(gC kss (runJ rs rs.length (n+1)) t os).length:Nat):Int)))
 |on {r x t}:t<times->(∀a,r≠.give a)->(∀a to,r≠.test a to)->rh rs kss times n b os r x (gC kss (runJ rs rs.length (n+1)) t (jF r os)) x
def MV(rs:List ed)(kss:List (List Str))(places times b n:Nat)(e:List XO):Prop:=
 ∃f r c d x g a,kss[n]?=some f/\rs[n]?=some r/\Ka (jc f places) n c d/\FV r x d/\rh rs kss times n (b+c.length) d r x a g/\e=c++(g,(n,d))::a
structure yn(rs:List ed)(kss:List (List Str))(N places:Nat):Prop where
 len:kss.length=rs.length
 few:∀(n:Nat) ks,kss[n]?=some ks->ks.length<=N
 read:∀(n:Nat) r ks,ov rs n->rs[n]?=some r->kss[n]?=some ks->∀y∈iw r,y∈ks
 on:∀(n m:Nat) r ks km,rs[n]?=some r->m∈fK n r->kss[n]?=some ks->kss[m]?=some km->∀y∈km,y∈ks\/kJ r=.str y
 room:2*N+2<=places
 most:places<=100
def AH(K:Fg):Sp:=λp H Q _=>∃(h f rt m:c7) (n a b N k:Nat) (c:List XO) (j d:List V) (g:List ed) (e:List (List Str)),p=[.ref h,.ref f,.ref rt,.int (n:Nat),.ref m,.int (a:Nat),.int (b:Nat)]/\j5 K H h k/\k<=700000/\rg H f c/\c.length<=80000/\h≠f/\H rt=some (.tup j)/\dZ (gR H) j g/\gE g/\(∀r∈g,(iw r).length<=10)/\ov g n/\H m=some (.lst d)/\m≠h/\m≠f/\dZ (qu H) d e/\yn g e N a/\1<=b/\b<=2/\
 ∀(i:List XO) (o:Nat) (l:Hp),MV g e a b c.length n i->rg l f (c++i)->j5 K l h o->o<=k+20->Ts h f H l->Q .non l
def FU(H:Hp)(a:c7)(xs:List V):Prop:=H a=some (.lst xs)\/H a=some (.tup xs)
def rR(ys ps:List Str)(rs:List ed)(kss:List (List Str)):Prop:=∀a:List (List Str),a.length=rs.length->(∀(i:Nat) b,a[i]?=some b->∀y∈b,y∈ys)->zu ps rs a->∀(i:Nat) b c,kss[i]?=some b->a[i]?=some c->∀y∈c,y∈b
def pH(_:Fg):Sp:=λp H Q _=>∃(o k l:c7) (e:List V) (c:List ed) (f d:List Str),p=[.ref o,.ref k,.ref l]/\FU H o e/\dZ (gR H) e c/\0<c.length/\c.length<=100/\(∀(n m:Nat) r,c[n]?=some r->m∈fK n r->m<c.length)/\
 H k=some (.lst (f.map V.str))/\f.length<=100/\FU H l (d.map V.str)/\d.length<=100/\
 ∀(h:c7) (b:List V) (a:List (List Str)) (g:Hp),H h=none->g h=some (.lst b)->dZ (zJ g) b a->a.length=c.length->(∀(i:Nat) j,a[i]?=some j->j.length<=max f.length d.length/\∀y∈j,y∈f\/y∈d)->zu d c a->rR f d c a->du H g->Q (.ref h) g
def m7(bs:List gQ)(y:Str):Prop:=∃b∈bs,y∈b.params\/∃r∈b.rows,jt r=some y
def J9(N:Nat)(b:gQ)(a:List gb):Prop:=vq a/\a.length<=200+(2*N+4)*(2*b.rows.length)
def rJ(K:Fg):Sp:=λq H Q _=>∃(g i:c7) (v:V) (a k:Nat) (h r:List Str) (l:List Nat) (b:gQ),q=[.ref g,v,.ref i,.int (a:Nat)]/\j5 K H g k/\k<=600000/\mP H v b/\pf r l b/\(∀c∈l,c<=4)/\H i=some (.lst (h.map V.str))/\i≠g/\h.Nodup/\(∀y,m7 [b] y->y∈h)/\2*h.length+2<=a/\a<=100/\
 ∀(p j n:c7) (d:List gb) (f:List V) (o:List oJ) (m:Nat) (e:Hp),e p=some (.tup [.ref j,.ref n])->j7 e (.ref j) (((b.params.length:Nat):Int),d)->e n=some (.tup f)->dZ (sD e) f o->qt a b d o->J9 h.length b d->j5 K e g m->m<=k+3000->iO g H e->Q (.ref p) e
def pQ(_:Fg):Sp:=λg H Q _=>∃(f:c7) (a:List V) (c:List gQ),g=[.ref f]/\H f=some (.tup a)/\dZ (mP H) a c/\c.length<=10/\(∀b∈c,b.rows.length<=100/\b.params.length<=100)/\
 ∀(l:c7) (e:List Str) (d:Hp),H l=none->d l=some (.lst (e.map V.str))->e.Nodup->(∀y,y∈e↔m7 c y)->du H d->Q (.ref l) d
def EV(K:Fg):Sp:=λr H Q _=>∃(j n:c7) (g:List V) (k:Nat) (s:List Str) (q:List Nat) (i:List gQ),r=[.ref j,.ref n]/\j5 K H j k/\k<=550000/\H n=some (.tup g)/\dZ (mP H) g i/\DU s q i/\
 ∀(p o:c7) (l:V) (a:Nat) (e:List jb) (h:List V) (f:List (List oJ)) (m:Nat) (d:Hp),d p=some (.tup [l,.ref o])->qY d l ((a:Nat),e)->d o=some (.tup h)->dZ (ue d) h f->wW a i e f->2<=a->a<=16->(∀(k:Nat) b c,i[k]?=some b->e[k]?=some c->J9 6 b c.2)->j5 K d j m->m<=k+20000->iO j H d->Q (.ref p) d
abbrev W4:Nat:=0
abbrev WU:Nat:=1
abbrev LI:Nat:=1
abbrev KY:Nat:=2
abbrev Q3:Nat:=1
abbrev Ql:Nat:=2
abbrev N7:Nat:=1
abbrev M7:Nat:=2
abbrev Eu:Nat:=2
abbrev DM:Nat:=3
abbrev Q1:Nat:=3
abbrev Qj:Nat:=4
abbrev Cg:Nat:=2
abbrev ua:Nat:=3
abbrev AJ(K:Fg):Sp:=rL K
abbrev Gr:Nat:=4
abbrev FG:Nat:=5
abbrev IM:Nat:=0
abbrev HR:Nat:=1
abbrev Uh:Nat:=5
abbrev Tw:Nat:=6
abbrev lN(K:Fg):Sp:=jB K
def r8(a:List (Option Str))(i:Int):Option Str:=(a[i.toNat]?).getD none
def EX(c:gb)(a:List (Option Str))(q:c7):List V:=.str (eZ c)::match c with
 |.num z=>[.int z]
 |.op s i j=>[.str s,oV (r8 a i),oV (r8 a j)]
 |.call k _=>[.int k,.ref q]
 |.say i=>[oV (r8 a i)]
 |.test i _=>[oV (r8 a i)]
 |.give i=>[oV (r8 a i)]
 |_=>[]
def xB(_:Fg):Sp:=λf H Q _=>∃(u:V) (a:c7) (c:gb) (d:List (Option Str)),f=[u,.ref a]/\hI H u c/\lE c=false/\H a=some (.tup (gs d))/\(d5 c).length<=1000/\(∀i∈d5 c,0<=i/\i.toNat<d.length)/\
 ∀(p q:c7) (b:Hp),b p=some (.tup (EX c d q))->(∀k e,c=.call k e->H q=none/\b q=some (.tup (gs (e.map (r8 d)))))->du H b->Q (.ref p) b
def oh(_:Fg):Sp:=λd H Q _=>∃(p:c7) (r:ed) (w:Str) (b:List V),d=[.ref p]/\gR H (.ref p) r/\H p=some (.tup (.str w::b))/\
 ∀(c:c7) (a:Hp),a c=some (.tup (.str w::(if(jt r).isSome then b.drop 1 else b.take 1)))->du H a->Q (.ref c) a
def sU(_:Fg):Sp:=λl H Q _=>∃(rt ct k:c7) (m a:Nat) (e c d:List V) (g:List ed) (h:List gb) (f:List oJ),l=[.ref rt,.ref ct,.ref k,.int (m:Nat)]/\H rt=some (.tup e)/\dZ (gR H) e g/\gE g/\H ct=some (.tup c)/\dZ (hI H) c h/\H k=some (.tup d)/\dZ (sD H) d f/\2<=a/\a<=1000/\(∀(i:Nat) q,f[i]?=some q->q.2.length=a)/\Nn a g h f m/\∀(b:Bool) (j:Hp),(b=true↔Im g h f m)->du H j->Q (.bl b) j
def Jx(_:Fg):Sp:=λf H Q _=>∃(a:Nat) (e:List gQ) (b:List jb) (c:List (List oJ)),HZ f H a e b c/\2<=a/\∀(o:Option (Nat×Nat)) (v:V) (d:Hp),tJ a e b c o->Nq d v o->du H d->Q v d
def xA(_:Fg):Sp:=λd H Q _=>∃(p:c7) (i:Nat) (v:V) (a:List V),d=[.ref p,.int (i:Nat),v]/\H p=some (.tup a)/\i<a.length/\a.length<=1000/\∀(c:c7) (b:Hp),b c=some (.tup (a.set i v))->du H b->Q (.ref c) b
def mX(K:Fg):Sp:=λi H Q _=>∃(b rt e:c7) (v:V) (k:Nat) (a:List V) (d:List ed) (g:List Str) (q:oJ),i=[.ref b,.ref rt,.ref e,v]/\j5 K H b k/\k<=800000/\H rt=some (.tup a)/\dZ (gR H) a d/\gE d/\H e=some (.lst (g.map V.str))/\e≠b/\g≠[]/\g.length<=1000/\sD H v q/\q.1<d.length/\2<=q.2.length/\q.2.length<=1000/\
 ∀(u:V) (f:oJ) (h:Nat) (c:Hp),sD c u f->f.1<d.length->f.2.length=q.2.length->j5 K c b h->h<=k+5->iO b H c->Q u c
def oi(K:Fg):Sp:=λj H Q _=>∃(e g h:c7) (u:V) (k m a:Nat) (b:List V) (c:gb),j=[.ref e,.ref g,u,.int (m:Nat)]/\j5 K H e k/\k<=800000/\H g=some (.tup [.int (a:Nat),.ref h])/\H h=some (.tup b)/\1<=a/\a<=1000/\b≠[]/\b.length<=1000/\1<=m/\m<=1000/\hI H u c/\(d5 c).length<=1000/\
 ∀(w:V) (f:gb) (i:Nat) (d:Hp),hI d w f->(d5 f).length<=1000->j5 K d e i->i<=k+5->iO e H d->Q w d
structure sC(places:Nat)(bs:List gQ)(cps:List jb)(pss:List (List oJ)):Prop where
 few:cps.length<=6
 rows:∀c∈cps,c.2.length<=1000/\∀r∈c.2,(d5 r).length<=1000
 fits:cps.length=bs.length->Tu (((places:Nat):Int),cps)
 len:cps.length=bs.length->pss.length=bs.length
 paps:cps.length=bs.length->∀(k:Nat) b c ps,bs[k]?=some b->cps[k]?=some c->pss[k]?=some ps->ps.length=c.2.length/\∀(i:Nat) q,ps[i]?=some q->q.1<b.rows.length/\q.2.length=places
def sA(H:Hp)(p:c7)(places:Nat)(b:List jb)(c:List (List oJ)):Prop:=∃(d:V) (e:c7) (a:List V),H p=some (.tup [d,.ref e])/\qY H d (((places:Nat):Int),b)/\H e=some (.tup a)/\dZ (ue H) a c
def sA.mono{H H':Hp}{p:c7}{places:Nat}{a:List jb}{b:List (List oJ)}(h:sA H p places a b)(t:Tp H H'):sA H' p places a b:=let⟨d,j,c,e,f,g,i⟩:=h;⟨d,j,c,t _ _ e,f.mono t,t _ _ g,i.imp λ_ _ z=>z.mono t⟩
structure uO(H:Hp)(pg:c7)(bs:List gQ):Prop where
 at_:∃pvs,H pg=some (.tup pvs)/\dZ (mP H) pvs bs
 ok:VH bs
 pos:0<bs.length
 five:bs.length<=5
def uO.mono{H H':Hp}{b:c7}{bs:List gQ}(h:uO H b bs)(t:Tp H H'):uO H' b bs:=⟨let⟨a,c,d⟩:=h.at_;⟨a,t _ _ c,d.imp λ_ _ z=>z.mono t⟩,h.ok,h.pos,h.five⟩
def rM(K:Fg):Sp:=λo H Q _=>∃(f m i n:c7) (k a:Nat) (j:List Str) (h:List gQ) (d:List jb) (e:List (List oJ)),o=[.ref f,.ref m,.ref i,.ref n]/\j5 K H f k/\k<=700000/\uO H m h/\H i=some (.lst (j.map V.str))/\i≠f/\j≠[]/\j.length<=1000/\2<=a/\a<=16/\sA H n a d e/\sC a h d e/\d.length=h.length/\
 ∀(p:c7) (b:List jb) (c:List (List oJ)) (l:Nat) (g:Hp),sA g p a b c->sC a h b c->j5 K g f l->l<=k+20->iO f H g->Q (.ref p) g
def nq(_:Fg):Sp:=λh H Q _=>∃(f g:c7) (a:Nat) (e:List gQ) (b:List jb) (c:List (List oJ)),h=[.ref f,.ref g]/\uO H f e/\2<=a/\a<=16/\sA H g a b c/\sC a e b c/\∀(d:Hp),du H d->Q (.bl true) d
abbrev LJ:Nat:=0
abbrev K6:Nat:=1
abbrev Oc:Nat:=0
abbrev Nc:Nat:=1
abbrev z3:Nat:=0
abbrev zq:Nat:=1
abbrev IV:Nat:=3
abbrev HY:Nat:=4
abbrev VX:Nat:=4
abbrev VA:Nat:=5
abbrev VY:Nat:=0
abbrev VB:Nat:=1
abbrev yy:Nat:=1
abbrev ym:Nat:=2
abbrev z6:Nat:=1
abbrev zt:Nat:=2
abbrev Gs:Nat:=5
abbrev FH:Nat:=6
abbrev Et:Nat:=6
abbrev DL:Nat:=7
abbrev SU:Nat:=7
abbrev M8:Nat:=8
def uZ(K:Fg):Sp:=λd H Q _=>∃(a:c7) (k:Nat),d=[.ref a]/\j5 K H a k/\k<=900000/\
 ∀(z:Int) (c:Nat) (b:Hp),0<=z->z<2 ^ 64->j5 K b a c->c<=k+6->iO a H b->Q (.int z) b
abbrev LP:Nat:=1
abbrev Lb:Nat:=2
abbrev Cf:Nat:=2
abbrev BM:Nat:=3
end Bg
namespace L2
open PySem PySem.Spec PyProof.Rows
structure QE(X:Cx)(e:Expr)(t:TE):Prop where
 up:PE X e t
structure QT(X:Cx)(e:Expr)(t:TT):Prop where
 up:PT X e t
structure QW(X:Cx)(e:Expr)(t:TT):Prop where
 up:PW X e t
structure QA(X:Cx)(e:List Expr)(t:TA):Prop where
 up:PA X e t
structure QS(X:Cx)(e:Stmt)(t:TS):Prop where
 up:PS X e t
structure Qr(X:Cx)(e:List Stmt)(t:TS):Prop where
 up:HP X e t
structure QG(X:Cx)(e:Expr)(t:TG):Prop where
 up:PG X e t
structure VL(X:Cx)(e:List Expr)(t:Lj):Prop where
 up:Vq X e t
structure QI(X:Cx)(a b:Expr)(t:TI):Prop where
 up:PI X a b t
structure QO(X:Cx)(e:Option Expr)(t:TO):Prop where
 up:PO X e t
structure Il(X:Cx)(e:List Expr)(t:TT):Prop where
 up:Lc X e t
def qv(i:Nat){x:Str}{pos:Pos}(b:X.N[i]?=some x:=by rfl)(d:WK X.env.scope x:=by first|exact Or.inl rfl|exact Or.inr (Or.inl rfl)|exact Or.inr (Or.inr rfl))(c:(x==("__debug__":Str))=false:=by decide)(a:(x==("__classdict__":Str))=false:=by decide):QE X (.Name x pos) (cU i):=
 ⟨pv i b d c a⟩
def cY{i j pos}:QE X (.Constant (.int i) j pos) (tC (.int i)):=
 ⟨UH ⟩
def kO{b j pos}:QE X (.Constant (.bool b) j pos) (tC (.bl b)):=
 ⟨V6 ⟩
def jy{j pos}:QE X (.Constant .none j pos) (tC .non):=
 ⟨UJ ⟩
def dG{x j pos}:QE X (.Constant (.str x) j pos) (tC (.str x)):=
 ⟨UM ⟩
def eE{op:Operator}{r:R2}(e:oD X (iH op) r)(c:QE X a ta)(d:QE X b tb):QE X (.BinOp a op b pos) (dF r ta tb):=
 ⟨Wa e c.up d.up⟩
def Dh{op:UnaryOp}{r:V->Hp->VK->Prop}(c:WJ X (unaryOp op) r)(b:QE X a ta):QE X (.UnaryOp op a pos) (Sf r ta):=
 ⟨Wc c b.up⟩
def Jg(b:QE X a ta):QE X (.UnaryOp .Not a pos) (G0 ta):=
 ⟨UK b.up⟩
def i4{op:CmpOp}{r:R2}(f:oD X (gi op) r)(c:QE X a ta)(d:QE X b tb)(e:pS op b=false):QE X (.Compare a [op] [b] pos) (dF r ta tb):=
 ⟨Ri f c.up d.up e⟩
def xj{rest:List Expr}(c:QE X a ta)(d:QE X (.BoolOp .And (b::rest) pos) tb):QE X (.BoolOp .And (a::b::rest) pos) (ya ta tb):=
 ⟨UE c.up d.up⟩
def OK{rest:List Expr}(c:QE X a ta)(d:QE X (.BoolOp .Or (b::rest) pos) tb):QE X (.BoolOp .Or (a::b::rest) pos) (Po ta tb):=
 ⟨Wb c.up d.up⟩
def sO{op}{t:TE}(h:QE X a t):QE X (.BoolOp op [a] pos) t:=
 ⟨UL h.up⟩
def GG{c:Expr}(f:QT X c tA)(d:QE X a ta)(e:QE X b tb):QE X (.IfExp c a b pos) (WQ tA ta tb):=
 ⟨Ow f.up d.up e.up⟩
def ff{b a:Option Expr}{r:V->Option Int->Option Int->Hp->VK->Prop}(f:Np X r)(c:QE X e te)(d:QO X b tl)(g:QO X a th):QE X (.Subscript e (.Slice b a none p2) pos) (oz r te tl th):=
 ⟨Ox f c.up d.up g.up⟩
def Wg{r:R2}(e:P6 X r)(c:QE X a ta)(d:QE X b tb)(f:DT b):QE X (.Subscript a b pos) (dF r ta tb):=
 ⟨V9 e c.up d.up f⟩
def dN{x1}(h:QA X es t):QE X (.Tuple es x1 pos) (eR t):=
 ⟨UN h.up⟩
def j3(h:QA X es t):QE X (.List es pos) (oH t):=
 ⟨UI h.up⟩
def SZ{id:String}(l:uF T)(f:Slot T name id)(g:typeOf (.builtin id)=pure (.type "method_descriptor"))(i:VD X id r)(j:QE X o to)(h:QA X (e::es) t)(b:iY o name X.env (eval o X.env)=eval o X.env:=by rfl)(d:((iy cpos (dH (e::es) X.env)).all (λx=>!x.1)&&(oO cpos (kU [] X.env)).all (λx=>x.1.isSome)
   && decide ((e::es).length+([]:List j6).length+(if([]:List j6).isEmpty then 0 else 1)<30))=true:=by rfl) (c:(apos.endLine==cpos.line)=true:=by rfl) (k:dH (e::es) X.env=(false,eval e X.env)::dH es X.env:=by rfl) (a:(iy cpos (dH es X.env)).any (·.1)=false:=by rfl):QE X (.Call (.Attribute o name apos) (e::es) [] cpos) (GZ X.K T r to t):=
 ⟨V7 l f g i j.up h.up b d c k a⟩
def U5{id:String}(g:uF T)(c:Slot T name id)(d:typeOf (.builtin id)=pure (.type "method_descriptor"))(e:VD X id r)(f:QE X o to)(a:iY o name X.env (eval o X.env)=eval o X.env:=by rfl)(b:(apos.endLine==cpos.line)=true:=by rfl):QE X (.Call (.Attribute o name apos) [] [] cpos) (Vo X.K T r to):=
 ⟨UF g c d e f.up a b⟩
def jh{id:String}(d:pb X (.builtin id) r)(g:Gl X x)(h:X.mg x=none)(j:jP x=some (.builtin id))(c:QA X (e::es) t)(i:x≠"__name__":=by decide)(a:(x==("__debug__":Str))=false:=by decide)(f:dH (e::es) X.env=(false,eval e X.env)::dH es X.env:=by rfl)(b:(iy pos (dH es X.env)).any (·.1)=false:=by rfl):QE X (.Call (.Name x p) (e::es) [] pos) (iN r t):=
 ⟨Ot d g h j c.up i a f b⟩
def fH(d:pb X (.type T) r)(g:Gl X x)(h:X.mg x=none)(j:jP x=some (.type T))(c:QA X (e::es) t)(i:x≠"__name__":=by decide)(a:(x==("__debug__":Str))=false:=by decide)(f:dH (e::es) X.env=(false,eval e X.env)::dH es X.env:=by rfl)(b:(iy pos (dH es X.env)).any (·.1)=false:=by rfl):QE X (.Call (.Name x p) (e::es) [] pos) (iN r t):=
 ⟨L1 d g h j c.up i a f b⟩
def Wf{X:Cx}{x:Str}{ps:List Str}{k:Nat}{sp:Sp}{e:Expr}{es:List Expr}{t:TA}{p pos:Pos}(c:fh X.prog X.w X.K X.mg X.base x ps k sp)(h:mn k X.A)(g:Gl X x)(d:QA X (e::es) t)(a:(x==("__debug__":Str))=false:=by decide)(f:dH (e::es) X.env=(false,eval e X.env)::dH es X.env:=by rfl)(b:(iy pos (dH es X.env)).any (·.1)=false:=by rfl):QE X (.Call (.Name x p) (e::es) [] pos) (dR sp [] E0 t):=
 ⟨V8 c h g d.up a f b⟩
def KD{e:TI}(o:nU sc N scope NY js)(d:X.env.scope=sc)(f:X.N=N)(m:NY.length=N.length+k)(h:X.calm=true)(c:QI X target iter e)(j:∀a C s₀ H₀ b,QG (gA X NY scope a C s₀ H₀ b) target g)(l:∀a C s₀ H₀ b,Il (gA X NY scope a C s₀ H₀ b) ifs tc)(i:∀a C s₀ H₀ b,QE (gA X NY scope a C s₀ H₀ b) elt te)(n:∀x,ia iter X.env x=pure x:=by intro _;rfl):QE X (.ListComp elt [⟨target,iter,ifs,0⟩] scope pos) (iq js k e g tc te):=
 ⟨Rj o d f m h c.up (λa C s₀ H₀ b=>(j a C s₀ H₀ b).up) (λa C s₀ H₀ b=>(l a C s₀ H₀ b).up) (λa C s₀ H₀ b=>(i a C s₀ H₀ b).up) n⟩
def RS{j:TI}{i:Nat}{y:Str}{h c:Pos}(w:nU sc N scope NY js)(e:X.env.scope=sc)(l:X.N=N)(r:NY.length=N.length+k)(m:X.calm=true)(d:QI X target iter j)(p:∀a C s₀ H₀ b,QG (gA X NY scope a C s₀ H₀ b) target g)(q:∀a C s₀ H₀ b,Il (gA X NY scope a C s₀ H₀ b) ifs tc)(n:∀a C s₀ H₀ b,QE (gA X NY scope a C s₀ H₀ b) elt te)(v:X.N.Nodup)(u:X.N[i]?=some y)(s:Nd X.env.scope y)(f:mK (.ListComp elt [⟨target,iter,ifs,0⟩] scope pos) (some (.Name y h)) c.line X.env=pure true)(t:∀x,ia iter X.env x=pure x:=by intro _;rfl)(o:X.fn y=true\/X.env.scope.names.lookup y=some .local:=by first|exact .inl rfl|exact .inr rfl|assumption):QS X (.Assign [.Name y h] (.ListComp elt [⟨target,iter,ifs,0⟩] scope pos) c) (eF (iq js k j g tc te) (dy i)):=
 ⟨RB w e l r m d.up (λa C s₀ H₀ b=>(p a C s₀ H₀ b).up) (λa C s₀ H₀ b=>(q a C s₀ H₀ b).up) (λa C s₀ H₀ b=>(n a C s₀ H₀ b).up) v u s f t o⟩
def f9 :QO X none fo:=
 ⟨Ry ⟩
def fP(h:QE X e te):QO X (some e) (gH te):=
 ⟨Rz h.up⟩
def px :QA X [] dh:=
 ⟨UD ⟩
def cX(a:QE X e te)(b:QA X es t)(c:dH (e::es) X.env=(false,eval e X.env)::dH es X.env:=by rfl):QA X (e::es) (cQ te t):=
 ⟨Rg a.up b.up c⟩
def dE{op:CmpOp}{r:R2}(f:oD X (gi op) r)(c:QE X a ta)(d:QE X b tb)(e:pS op b=false):QT X (.Compare a [op] [b] pos) (eA (dF r ta tb)):=
 ⟨RG f c.up d.up e⟩
def mU(b:QT X a tA):QT X (.UnaryOp .Not a pos) (u2 tA):=
 ⟨UZ b.up⟩
def mV{rest:List Expr}(c:QT X a tA)(d:QW X (.BoolOp .And (b::rest) pos) tB'):QW X (.BoolOp .And (a::b::rest) pos) (u1 tA tB'):=
 ⟨U2 c.up d.up⟩
def nh(b:QT X a tA):QW X (.BoolOp .And [a] pos) tA:=
 ⟨RH b.up⟩
def vL{rest:List Expr}(c:QT X a tA)(d:QW X (.BoolOp .Or (b::rest) pos) tB'):QW X (.BoolOp .Or (a::b::rest) pos) (Pn tA tB'):=
 ⟨We c.up d.up⟩
def uR(b:QT X a tA):QW X (.BoolOp .Or [a] pos) tA:=
 ⟨U4 b.up⟩
def QW.pt{X:Cx}{e:Expr}{t:TT}(h:QW X e t):QT X e t:=
 ⟨PW.pt h.up⟩
def kI{e:Expr}{t:TE}(h:QE X e t)(b:∀a,isTrue e X.env a=(do let v <-a;standAt e.pos;holding [v] (truthy v)):=by intro _;rfl):QT X e (tB t):=
 ⟨U0 h.up b⟩
def iD{a:Expr}{b:TA}{p pos:Pos}(d:Gl X "range")(e:X.mg "range"=none)(c:QA X [a] b)(f:dH [a] X.env=[(false,eval a X.env)]:=by rfl):QI X tg (.Call (.Name "range" p) [a] [] pos) (mu b):=
 ⟨L4 d e c.up f⟩
def RO{a:Expr}{b:TA}{p pos:Pos}(d:Gl X "enumerate")(e:X.mg "enumerate"=none)(c:QA X [a] b)(f:dH [a] X.env=[(false,eval a X.env)]:=by rfl):QI X (.Tuple elts k tpos) (.Call (.Name "enumerate" p) [a] [] pos) (NZ X.K b):=
 ⟨Rq d e c.up f⟩
def U7{a b:Expr}{d:TA}{p pos:Pos}(f:Gl X "zip")(g:X.mg "zip"=none)(e:QA X [a,b] d)(h:dH [a,b] X.env=[(false,eval a X.env),(false,eval b X.env)]:=by rfl)(c:dH [b] X.env=[(false,eval b X.env)]:=by rfl):QI X (.Tuple elts k tpos) (.Call (.Name "zip" p) [a,b] [] pos) (T1 X.K d):=
 ⟨UT f g e.up h c⟩
def ip{c l:Expr}{a:TE}(b:QE X l a):QI X c l (kz X.K a):=
 ⟨UR b.up⟩
def RM{i:Nat}{x:Str}(a:X.N.Nodup)(c:X.N[i]?=some x)(d:Nd X.env.scope x)(b:X.fn x=true\/X.env.scope.names.lookup x=some .local:=by first|exact .inl rfl|exact .inr rfl|assumption):QG X (.Name x pos) (dy i):=
 ⟨Rn a c d b⟩
def mT{es:List Expr}{k:Nat}{t:Lj}{n:Nat}(b:X.calm=true)(h:VL X es t)(c:(ix es X.env).length=n:=by rfl)(a:(ix es X.env).findIdx? (·.1)=none:=by rfl):QG X (.Tuple es k pos) (tU X.K n t):=
 ⟨UQ b h.up c a⟩
def RN{es:List Expr}{k:Nat}{t:Lj}{n:Nat}(b:X.calm=true)(h:VL X es t)(c:(ix es X.env).length=n:=by rfl)(a:(ix es X.env).findIdx? (·.1)=none:=by rfl):QG X (.Tuple es k pos) (NT X.K n t):=
 ⟨Ro b h.up c a⟩
def kP :VL X [] sF:=
 ⟨Rp ⟩
def gr{e:Expr}{es:List Expr}{t:TG}{u:Lj}(a:QG X e t)(h2:VL X es u)(b:(ix (e::es) X.env).map (·.2)=assign e X.env::(ix es X.env).map (·.2):=by rfl):VL X (e::es) (jw t u):=
 ⟨Oy a.up h2.up b⟩
def mz{o i:Expr}{d c:TE}{t:Qs}(g:QE X o d)(f:QE X i c)(h:Qq X t)(e:∀v,assign (.Subscript o i pos) X.env v=(do
   let a <-holding [v] (eval o X.env);let b <-holding [v,a] (eval i X.env)
   standAt pos
   holding [v,a,b] (setItem a b v)
   release [v,a,b] []):=by intro _;rfl):QG X (.Subscript o i pos) (sG d c t):=
 ⟨UP g.up f.up h e⟩
def U8{i:Nat}{x:Str}{e:Expr}{b:TE}{a:Pos}(c:X.N.Nodup)(g:X.N[i]?=some x)(j:Nd X.env.scope x)(d:QE X e b)(h:mK e (some (.Name x a)) pos.line X.env=pure false:=by rfl)(f:X.fn x=true\/X.env.scope.names.lookup x=some .local:=by first|exact .inl rfl|exact .inr rfl|assumption):QS X (.Assign [.Name x a] e pos) (eF b (dy i)):=
 ⟨UY c g j d.up h f⟩
def kj{a e:Expr}{b:TE}{g:TG}(d:QE X e b)(f:QG X a g)(h:swapsWithSole [a] e pos.line X.env=pure false:=by rfl)(i:swappedStores [a] e X.env=pure none:=by rfl)(c:(ix [a] X.env).map (·.2)=[assign a X.env]:=by rfl):QS X (.Assign [a] e pos) (eF b g):=
 ⟨UV d.up f.up h i c⟩
def lq(a:QE X e te)(b:mK e none pos.line X.env=pure false:=by rfl):QS X (.Expr e pos) (ow te):=
 ⟨RC a.up b⟩
def dO(a:QE X e te):QS X (.Return (some e) pos) (eY te):=
 ⟨UX a.up⟩
def RT :QS X (.Return none pos) Pp:=
 ⟨RD ⟩
def nA{c:Expr}{a b:List Stmt}{d:TT}(g:QT X c d)(e:Qr X a t)(f:Qr X b u):QS X (.If c a b pos) (gc d t u):=
 ⟨Wd g.up e.up f.up⟩
def vK{c:Expr}{a:List Stmt}{d:TT}{b:TS}(g:fS (model X.prog X.w) X.A X.env X.xe)(f:QT X c d)(e:Qr X a b):QS X (.While c a [] pos) (xE d b):=
 ⟨OD g f.up e.up⟩
def jK{a:Expr}{b:List Stmt}{d:TI}{g:TG}{c:TS}{pos:Pos}(j:fS (model X.prog X.w) X.A X.env X.xe)(f:X.calm=true)(i:QI X tg a d)(h:QG X tg g)(e:Qr X b c)(k:∀x,ia a X.env x=pure x:=by intro _;rfl):QS X (.For tg a b [] pos) (oj d g c):=
 ⟨UW j f i.up h.up e.up k⟩
def cZ{st:Stmt}{rest:List Stmt}(a:QS X st t)(h2:Qr X rest u):Qr X (st::rest) (dU t u):=
 ⟨OE a.up h2.up⟩
def dM{st:Stmt}(a:QS X st t):Qr X [st] t:=
 ⟨RF a.up⟩
def lu :Qr X [] eO:=
 ⟨RE ⟩
def zb{x:Str}{v:V}{u:cV}{pos:Pos}(b:Gl X x)(c:X.mg x=none)(e:jP x=some u)(r:hV v u)(d:x≠"__name__":=by decide)(a:(x==("__debug__":Str))=false:=by decide):QE X (.Name x pos) (tC v):=
 ⟨Rh b c e r d a⟩
def ie{X:Cx}:Il X [] kX:=
 ⟨Rv ⟩
def rq{X:Cx}{c:Expr}{t:TT}(h:QT X c t):Il X [c] t:=
 ⟨Rw h.up⟩
section
variable{κ:Type}[DecidableEq κ]
def kq(kvs:List (κ×V))(k:κ):Option V:=(kvs.find? λa=>decide (a.1=k)).map (·.2)
def lj(kvs:List (κ×V))(k:κ)(v:V):List (κ×V):=
 if(kvs.any λa=>decide (a.1=k))=true then kvs.map (λa=>if a.1=k then(a.1,v) else a) else kvs++[(k,v)]
def PV{k:κ}:kq ([]:List (κ×V)) k=none:=rfl
def kZ{p:κ×V}{r:List (κ×V)}{k:κ}(e:p.1=k):kq (p::r) k=some p.2:=by simp[kq,jN,e]
def kY{p:κ×V}{r:List (κ×V)}{k:κ}(e:¬p.1=k):kq (p::r) k=kq r k:=by simp[kq,jN,e]
theorem tu(k:κ):∀kvs:List (κ×V),(kvs.any λa=>decide (a.1=k))=(kq kvs k).isSome
 |[]=>rfl
 |p::r=>by
  rw[m6];by_cases e:p.1=k
  ·simp only[kZ e,decide_eq_true e,Bool.true_or,Option.isSome_some]
  ·rw[kY e,decide_eq_false e,Bool.false_or];exact tu k r
theorem HK(k j:κ)(y:V):∀kvs:List (κ×V),kq (kvs.map λa=>if a.1=k then(a.1,y) else a) j=(kq kvs j).map λx=>if j=k then y else x
 |[]=>rfl
 |p::r=>by
  have b:=HK k j y r;rw[gu];by_cases h:p.1=k
  ·rw[if_pos h];by_cases e:p.1=j
   ·rw[kZ (p:=(p.1,y)) e,kZ e,fO,if_pos (e.symm.trans h)]
   ·rw[kY (p:=(p.1,y)) e,kY e,b]
  ·rw[if_neg h];by_cases e:p.1=j
   ·rw[kZ (p:=p) e,kZ e,fO,if_neg (λz=>h (e.trans z))]
   ·rw[kY (p:=p) e,kY e,b]
theorem DD(k j:κ)(y:V):∀kvs:List (κ×V),kq kvs k=none->kq (kvs++[(k,y)]) j=if j=k then some y else kq kvs j
 |[],_=>by
  by_cases e:k=j
  ·rw[if_pos e.symm];exact kZ (p:=(k,y)) e
  ·rw[if_neg (λz=>e z.symm)];exact kY (p:=(k,y)) e
 |p::r,a=>by
  rw[List.cons_append];have b:¬p.1=k:=λz=>by rw[kZ z] at a;cases a
  rw[kY b] at a;have c:=DD k j y r a;by_cases e:p.1=j
  ·rw[kZ e,kZ e,if_neg (λz=>b (e.trans z))]
  ·rw[kY e,kY e,c]
def HM(kvs:List (κ×V))(k j:κ)(y:V):kq (lj kvs k y) j=if j=k then some y else kq kvs j:=by
 unfold lj;by_cases a:(kvs.any λc=>decide (c.1=k))=true
 ·rw[if_pos a,HK];rw[tu] at a;by_cases e:j=k
  ·obtain⟨x,b⟩:=jZ.mp a;rw[if_pos e,e,b,fO,if_pos rfl]
  ·rw[if_neg e];cases kq kvs j with
   |none=>rfl
   |some x=>rw[fO,if_neg e]
 ·rw[if_neg a];refine DD k j y kvs ?_;rw[tu] at a;cases q:kq kvs k with
  |none=>rfl
  |some x=>rw[q] at a;exact(a rfl).elim
def sI(kvs:List (κ×V))(k:κ)(v:V):(lj kvs k v).length<=kvs.length+1:=by
 unfold lj;split
 ·rw[cT];lia
 ·rw[c9,fB,jo];lia
def GE{kvs:List (κ×V)}{k:κ}(v:V)(h:kq kvs k=none):lj kvs k v=kvs++[(k,v)]:=by
 unfold lj;rw[tu,h];exact if_neg (by decide)
def FS.isSome_eq{o:Option V}{u:Option cV}(r:FS o u):o.isSome=u.isSome:=by
 cases o with
 |none=>cases u with
  |none=>rfl
  |some _=>exact(show False from r).elim
 |some _=>cases u with
  |none=>exact(show False from r).elim
  |some _=>rfl
def FS.getD{o:Option V}{u:Option cV}{d:V}{d':cV}(r:FS o u)(a:hV d d'):hV (o.getD d) (u.getD d'):=by
 cases o with
 |none=>cases u with
  |none=>exact a
  |some _=>exact(show False from r).elim
 |some _=>cases u with
  |none=>exact(show False from r).elim
  |some _=>exact r
def KV.val{kvs:List (κ×V)}{vs:List (κ×cV)}(r:KV kvs vs)(k:κ):FS (kq kvs k) (valueAt vs k):=by
 unfold KV at r
 induction r with
 |nil=>exact True.intro
 |@cons p q i c h t g=>
  obtain⟨d,f⟩:=h;by_cases e:p.1=k
  ·have a:q.1=k:=d.symm.trans e;have b:valueAt (q::c) k=some q.2:=by simp[valueAt,jN,a]
   rw[kZ e,b];exact f
  ·have a:¬q.1=k:=λz=>e (d.trans z);have b:valueAt (q::c) k=valueAt c k:=by simp[valueAt,jN,a]
   rw[kY e,b];exact g
def KV.any{kvs:List (κ×V)}{vs:List (κ×cV)}(r:KV kvs vs)(k:κ):(kvs.any λa=>decide (a.1=k))=vs.any λa=>decide (a.1=k):=by
 unfold KV at r
 induction r with
 |nil=>rfl
 |cons h t b=>rw[m6,m6,b,h.1]
def KV.repl{kvs:List (κ×V)}{vs:List (κ×cV)}(r:KV kvs vs)(k:κ){y:V}{u:cV}(f:hV y u) :
  KV (kvs.map λa=>if a.1=k then(a.1,y) else a) (vs.map λa=>if a.1=k then(a.1,u) else a):=by
 unfold KV at r ⊢
 induction r with
 |nil=>exact .nil
 |@cons p q g i h t d=>
  rw[gu,gu];refine .cons ?_ d;obtain⟨b,c⟩:=h;by_cases e:p.1=k
  ·rw[if_pos e,if_pos (b.symm.trans e)];exact⟨b,f⟩
  ·rw[if_neg e,if_neg (λz=>e (b.trans z))];exact⟨b,c⟩
def KV.put{kvs:List (κ×V)}{vs:List (κ×cV)}(r:KV kvs vs)(k:κ){y:V}{u:cV}(a:hV y u):KV (lj kvs k y) (stored vs k u):=by
 unfold lj stored;rw[r.any k];by_cases e:(vs.any λb=>decide (b.1=k))=true
 ·rw[if_pos e,if_pos e];exact r.repl k a
 ·rw[if_neg e,if_neg e];exact Paired.snoc r ⟨rfl,a⟩
def KV.keys{kvs:List (κ×V)}{vs:List (κ×cV)}(r:KV kvs vs):kvs.map (·.1)=vs.map (·.1):=by
 unfold KV at r
 induction r with
 |nil=>rfl
 |cons h t a=>rw[gu,gu,a,h.1]
def KV.length{kvs:List (κ×V)}{vs:List (κ×cV)}(r:KV kvs vs):kvs.length=vs.length:=Paired.length r
end
def x4{P:dv}{w:dQ}{k:pI}{u:cV}(r:hV (kV k) u):(jk P w).is k u=true:=by
 cases k with
 |inl i=>obtain⟨t,e⟩:=(show ∃t,u=cV.int i t from r);subst e;exact Gx P w i t
 |inr x=>obtain⟨t,e⟩:=(show ∃t,u=cV.str x t from r);subst e;exact Gy P w x t
def VW{P:dv}{w:dQ}{k:iC}{u:cV}(r:hV (kN k) u):(m9 P w).is k u=true:=by
 cases k with
 |none=>obtain rfl:u=cV.none:=r;rfl
 |some k=>exact x4 (P:=P) (w:=w) (k:=k) r
theorem C6{P:dv}{w:dQ}:∀{ks:List iC} {us:List cV},gy (ks.map kN) us->ItemsAre (m9 P w) ks us
 |[],_,r=>by rw[u7] at r;cases r;exact .nil
 |k::ks,_,r=>by
  rw[gu] at r;cases r with
  |cons h t=>exact .cons (VW h) (C6 t)
abbrev KT(H:Hp):List (List iC×V)->List (List iC×c7×cV)->Prop:=Paired λp q=>p.1=q.1/\H q.2.1=some (.tup (p.1.map kN))/\hV p.2 q.2.2
def KT.val{H:Hp}{kvs:List (List iC×V)}{xs:List (List iC×c7×cV)}(r:KT H kvs xs)(k:List iC):FS (kq kvs k) ((atKey xs k).map (·.2)):=by
 induction r with
 |nil=>exact True.intro
 |@cons p q i c h t g=>
  obtain⟨d,_,f⟩:=h;by_cases e:p.1=k
  ·have a:q.1=k:=d.symm.trans e;have b:atKey (q::c) k=some q.2:=by simp[atKey,jN,a]
   rw[kZ e,b];exact f
  ·have a:¬q.1=k:=λz=>e (d.trans z);have b:atKey (q::c) k=atKey c k:=by simp[atKey,jN,a]
   rw[kY e,b];exact g
def KT.repl{H:Hp}{kvs:List (List iC×V)}{xs:List (List iC×c7×cV)}(r:KT H kvs xs)(k:List iC){y:V}{u:cV}(g:hV y u) :
  KT H (kvs.map λb=>if b.1=k then(b.1,y) else b) (xs.map (putAt k u)):=by
 induction r with
 |nil=>exact .nil
 |@cons p q i j h t f=>
  rw[gu,gu];refine .cons ?_ f;obtain⟨a,c,d⟩:=h;unfold putAt;by_cases e:p.1=k
  ·rw[if_pos e,if_pos (a.symm.trans e)];exact⟨a,c,g⟩
  ·rw[if_neg e,if_neg (λz=>e (a.trans z))];exact⟨a,c,d⟩
def KT.put{H:Hp}{kvs:List (List iC×V)}{xs:List (List iC×c7×cV)}(r:KT H kvs xs)(k:List iC){b:c7}{y:V}{u:cV}(c:H b=some (.tup (k.map kN)))(a:hV y u) :
  KT H (lj kvs k y) (storedH xs k b u):=by
 have e:(kvs.any λd=>decide (d.1=k))=(atKey xs k).isSome:=by
  rw[tu,(r.val k).isSome_eq,mf]
 unfold lj storedH;rw[e];by_cases q:(atKey xs k).isSome=true
 ·rw[if_pos q,if_pos q];exact r.repl k a
 ·rw[if_neg q,if_neg q];exact Paired.snoc r ⟨rfl,c,a⟩
def KT.keeps{H H':Hp}{kvs:List (List iC×V)}{xs:List (List iC×c7×cV)}(r:KT H kvs xs)(a:∀b ys,H b=some (.tup ys)->H' b=some (.tup ys)):KT H' kvs xs:=
 Paired.mapP r λ_ _ z=>⟨z.1,a _ _ z.2.1,z.2.2⟩
section
variable{P:dv}{w:dQ}{H:Hp}{h:Heap}{a:c7}
def Tf{u:HO}(b:vj P w H h)(e:Rd H a u):kb P w H h a u:=e.ok b
def Gd{kvs:List (pI×V)}(b:vj P w H h)(e:Rd H a (.dK kvs)):kvs.length<=c6/\(a==jm)=false/\∃vs,KV kvs vs/\h.DictOf (jk P w) a vs:=
 show kb P w H h a (.dK kvs) from Tf b e
def Gc{kvs:List (pI×V)}(b:vj P w H h)(e:H a=some (.dK kvs)):kvs.length<=c6/\(a==jm)=false/\∃vs,KV kvs vs/\h.DictOf (jk P w) a vs:=Gd b (.inl e)
def z9{ks:List iC}(g:vj P w H h)(e:H a=some (.tup (ks.map kN))):(lb (m9 P w)).is h ks a:=by
 obtain⟨_,b,r,o,c,d,n,f⟩:=(show kb P w H h a (.tup (ks.map kN)) from g a _ e);exact⟨o,b.toArray,n,c,d.1,f,by simpa using C6 r⟩
def Ge{kvs:List (List iC×V)}(d:vj P w H h)(e:Rd H a (.dT kvs)):kvs.length<=c6/\(a==jm)=false/\
  ∃xs,KT H kvs xs/\h.DictOfH (lb (m9 P w)) a xs:=by
 obtain⟨z,y,xs,r,o,g,f,i,j,k,n,s⟩:=(show kb P w H h a (.dT kvs) from Tf d e);refine⟨z,y,xs,r,o,g,f,i,j,k,n,λx b=>?_,s⟩;have all:∀{l:List (List iC×V)} {m:List (List iC×c7×cV)},KT H l m->∀x∈m,(lb (m9 P w)).is h x.1 x.2.1:=by
  intro l m q
  induction q with
  |nil=>intro x b;exact nomatch b
  |@cons p q v B c t u=>
   intro x b;rcases dW.mp b with e|b
   ·subst e;exact z9 d (by rw[<-c.1];exact c.2.1)
   ·exact u x b
 exact all r x b
def SQ{kvs:List (List iC×V)}(b:vj P w H h)(e:H a=some (.dT kvs)):kvs.length<=c6/\(a==jm)=false/\
  ∃xs,KT H kvs xs/\h.DictOfH (lb (m9 P w)) a xs:=Ge b (.inl e)
end
def vi(H:Hp)(a:c7)(y:V)(r:Option V):Prop:=
 (∃c k,Rd H a (.dK c)/\y=kV k/\r=kq c k)\/∃c k b,Rd H a (.dT c)/\y=.ref b/\H b=some (.tup (k.map kN))/\r=kq c k
def DF(H:Hp)(a:c7)(y v:V)(H':Hp):Prop:=
 (∃c k,H a=some (.dK c)/\y=kV k/\c.length<c6/\H'=upd H a (.dK (lj c k v)))\/
 ∃c k b,H a=some (.dT c)/\y=.ref b/\H b=some (.tup (k.map kN))/\c.length<c6/\H'=upd H a (.dT (lj c k v))
def vi.k{H:Hp}{a:c7}{kvs:List (pI×V)}{k:pI}(e:H a=some (.dK kvs)):vi H a (kV k) (kq kvs k):=.inl ⟨kvs,k,.inl e,rfl,rfl⟩
def vi.t{H:Hp}{a b:c7}{kvs:List (List iC×V)}{k:List iC}(e:H a=some (.dT kvs))(c:H b=some (.tup (k.map kN))):vi H a (.ref b) (kq kvs k):=.inr ⟨kvs,k,b,.inl e,rfl,c,rfl⟩
def DF.k{H:Hp}{a:c7}{kvs:List (pI×V)}{k:pI}{v:V}(e:H a=some (.dK kvs))(b:kvs.length<c6):DF H a (kV k) v (upd H a (.dK (lj kvs k v))):=.inl ⟨kvs,k,e,rfl,b,rfl⟩
def DF.t{H:Hp}{a b:c7}{kvs:List (List iC×V)}{k:List iC}{v:V}(e:H a=some (.dT kvs))(c:H b=some (.tup (k.map kN)))(d:kvs.length<c6) :
  DF H a (.ref b) v (upd H a (.dT (lj kvs k v))):=.inr ⟨kvs,k,b,e,rfl,c,d,rfl⟩
section
variable{X:Cx}{pins:List (c7×Obj)}{σ:St}{H:Hp}{s:da}{a:c7}{y v:V}{u r:cV}{o:Option V}{A:ef}{E:Zz}
def fW.big(I:fW X pins σ H s):jm<s.heap.objs.size:=by
 have h:eB<s.heap.objs.size:=(I.mod.glob.keeps I.bk).lt;exact Nat.lt_trans (by decide) h
def TR{Q:Zz}(n:A.units+1<cLine)(I:fW X pins σ H s)(g:vi H a y o)(j:hV y u)(h:∀s',fW X pins σ H s'->Q (.bool o.isSome) s') :
  dJ (model X.prog X.w) A (gi .In u (.ref a)) Q E s:=by
 rcases g with⟨i,k,e,d,l⟩|⟨i,k,b,e,d,m,l⟩
 ·subst d;obtain⟨z,f,p,rel,c⟩:=Gd I.hok e;refine wpAny_in_of (x4 j) f c.mapOf ?_;rw[<-(rel.val k).isSome_eq,<-l];exact h _ (I.tok _)
 ·subst d;cases(show u=cV.ref b from j);obtain⟨z,f,r,rel,c⟩:=Ge I.hok e;refine wpAny_in_heap (lK n) (z9 I.hok m) f c ?_;have q:=(rel.val k).isSome_eq;rw[mf] at q;rw[<-q,<-l];exact h _ (I.tok _)
def QH{Q:Zz}(n:A.units+1<cLine)(I:fW X pins σ H s)(g:vi H a y o)(j:hV y u)(h:∀s',fW X pins σ H s'->Q (.bool (!o.isSome)) s') :
  dJ (model X.prog X.w) A (gi .NotIn u (.ref a)) Q E s:=by
 rcases g with⟨i,k,e,d,l⟩|⟨i,k,b,e,d,m,l⟩
 ·subst d;obtain⟨z,f,p,rel,c⟩:=Gd I.hok e;refine wpAny_notIn_of (x4 j) f c.mapOf ?_;rw[<-(rel.val k).isSome_eq,<-l];exact h _ (I.tok _)
 ·subst d;cases(show u=cV.ref b from j);obtain⟨z,f,r,rel,c⟩:=Ge I.hok e;refine wpAny_notIn_heap (lK n) (z9 I.hok m) f c ?_;have q:=(rel.val k).isSome_eq;rw[mf] at q;rw[<-q,<-l];exact h _ (I.tok _)
def y7{h':Heap}{t':Nat}{ob:HO}(I:fW X pins σ H s)(h:VE (H a))(g:Heap.SameBut a s.heap h')(f:∃q,h'.get? a=some q)(c:kb X.prog X.w (upd H a ob) h' a ob) :
  fW X pins σ (upd H a ob) {s with heap:=h',toks:=t'}:=
 I.write (x:=a) (e:=a) h (.inl rfl) (λb q d z=>(g.2 b d).trans z) f c
def IF{P:dv}{w:dQ}{H':Hp}{h':Heap}{kvs:List (pI×V)}{vs:List (pI×cV)}(z:kvs.length<=c6)(d:(a==jm)=false)(b:KV kvs vs)(c:h'.DictOf (jk P w) a vs) :
  kb P w H' h' a (.dK kvs):=⟨z,d,vs,b,c⟩
def Ly{H':Hp}{Q:Unit->da->Prop}(T:A.units+1<cLine)(I:fW X pins σ H s)(g:DF H a y v H')(J:hV y u)(G:hV v r)(h:∀s',fW X pins σ H' s'->Q () s') :
  dJ (model X.prog X.w) A (setItem (.ref a) u r) Q E s:=by
 rcases g with⟨d,k,e,n,l,m⟩|⟨d,k,b,e,n,B,l,m⟩
 ·subst n m;obtain⟨z,o,U,rel,j⟩:=Gc I.hok e;have x:U.length<=c6:=by rw[<-rel.length];exact z
  have p:(lj d k v).length<=c6:=by have:=sI d k v;lia
  refine wpAny_setItem_pairs (hsz:=x) (x4 J) j λD f t=>h _ ?_;have S:∃q,D.get? a=some q:=let⟨q,_,_,i,_⟩:=f;⟨q,i⟩;exact y7 I (by rw[e];exact True.intro) t S (IF p o (rel.put k G) f)
 ·subst n m;cases(show u=cV.ref b from J);obtain⟨z,o,W,rel,j⟩:=SQ I.hok e;have x:W.length<=c6:=by rw[<-Paired.length rel];exact z
  have p:(lj d k v).length<=c6:=by have:=sI d k v;lia
  refine wpAny_setItem_heap (hsz:=x) (lK T) (z9 I.hok B) j λD f t=>h _ ?_;obtain⟨q,L,K,i,M,O,P,_,R⟩:=f;refine y7 I (by rw[e];exact True.intro) t ⟨q,i⟩ ⟨p,o,_,(rel.put k B G).keeps λc Y C=>?_,q,L,K,i,M,O,P,R⟩;rw[dC (SV C e (λz=>nomatch z))];exact C
end
section
variable{X:Cx}{pins:List (c7×Obj)}{σ:St}{H:Hp}{s:da}{a:c7}{kvs:List (pI×V)}{k:pI}{u:cV}{A:ef}{E:Zz}
end
section
variable{X:Cx}{o i e value:Expr}{pos pos' tpos:Pos}{td ty tv:TE}
end
def Gb{P:dv}{w:dQ}{H:Hp}(h:Heap)(a:jm<h.objs.size):kb P w H (h.push {cls:=.type "dict",data:=.dict #[]}) h.objs.size (.dK []):=
 ⟨eV _,beq_eq_false_iff_ne.mpr (Ne.symm (eg a)),[],.nil,Heap.DictOf.new h⟩
def NJ{P:dv}{w:dQ}{H:Hp}(h:Heap)(a:jm<h.objs.size):kb P w H (h.push {cls:=.type "dict",data:=.dict #[]}) h.objs.size (.dT []):=
 ⟨eV _,beq_eq_false_iff_ne.mpr (Ne.symm (eg a)),[],.nil,_,#[],0,dI _ rfl,⟨rfl,rfl,rfl⟩,rfl,rfl,oY⟩
def EZ:TE:=λ_ H Q=>∀p,H p=none->Q (.ref p) (upd H p (.dK []))
def Jy:TE:=λ_ H Q=>∀p,H p=none->Q (.ref p) (upd H p (.dT []))
section
variable{X:Cx}{pos:Pos}
def Ou:PE X (.Dict [] [] pos) EZ:=λb s c H Q I h=>
 wpAny_Dict_empty ⟨.ref s.heap.objs.size,_,I.laid (a:=s.heap.objs.size) (o:=.dK []) (t':=s.toks) (λ_ _ q=>df _ q) (dk _) (Gb s.heap I.big),rfl,h _ (I.hok.fresh (dk _))⟩
def Ov:PE X (.Dict [] [] pos) Jy:=λb s c H Q I h=>
 wpAny_Dict_empty ⟨.ref s.heap.objs.size,_,I.laid (a:=s.heap.objs.size) (o:=.dT []) (t':=s.toks) (λ_ _ q=>df _ q) (dk _) (NJ s.heap I.big),rfl,h _ (I.hok.fresh (dk _))⟩
end
def Jz:List (TE×TE)->St->Hp->(List (V×V)->Hp->Prop)->Prop
 |[],_,H,Q=>Q [] H
 |(f,g)::r,a,H,Q=>f a H λx b=>g a b λy c=>Jz r a c λe d=>Q ((x,y)::e) d
abbrev VV:List (V×V)->List (cV×cV)->Prop:=Paired λp q=>hV p.1 q.1/\hV p.2 q.2
def VI(X:Cx)(pos:Pos)(c:List (Option Expr))(a:List Expr)(d:List (TE×TE)):Prop:=
 ∀(b:List (c7×Obj)) (s:da) (e:St) (H:Hp) (Q:List (V×V)->Hp->Prop),fW X b e H s->Jz d e H Q->
  dJ (model X.prog X.w) X.A (evalPairs (pairTrees c a X.env pos)) (λi h=>∃g f,fW X b e f h/\VV g i/\Q g f) X.xe s
def RA{X:Cx}{pos:Pos}:VI X pos [] [] []:=λa s b H Q I h=>pairTrees_nil_walk ⟨[],H,I,.nil,h⟩
def OC{X:Cx}{pos:Pos}{k v:Expr}{ks:List (Option Expr)}{vs:List Expr}{e f:TE}{b:List (TE×TE)}(o:PE X k e)(q:PE X v f)(p:VI X pos ks vs b) :
  VI X pos (some k::ks) (v::vs) ((e,f)::b):=λa s d H Q I h=>
 pairTrees_cons_walk (kf (o a s d H _ I h) λu D ⟨x,g,l,B,t⟩=>kf (q a D d g _ l t) λJ E ⟨y,i,m,C,w⟩=>
  kf (p a E d i _ m w) λK G ⟨r,j,n,c,z⟩=>⟨(x,y)::r,j,n,.cons ⟨B,C⟩ c,z⟩)
def mS(kvs more:List (pI×V)):List (pI×V):=more.foldl (λa b=>lj a b.1 b.2) kvs
def KV.merge:∀{more:List (pI×V)} {rs:List (pI×cV)} {kvs:List (pI×V)} {vs:List (pI×cV)},KV more rs->KV kvs vs->KV (mS kvs more) (merged vs rs):=by
 intro more rs kvs vs r;unfold KV at r
 induction r generalizing kvs vs with
 |nil=>intro q;exact q
 |@cons p q c d h t a=>
  intro b;have e:KV (lj kvs p.1 p.2) (stored vs q.1 q.2):=by
   have:=b.put p.1 h.2;rw[<-h.1];exact this
  exact a e
theorem pZ:∀(more kvs:List (pI×V)),(mS kvs more).length<=kvs.length+more.length
 |[],kvs=>by show kvs.length<=kvs.length+0;lia
 |p::r,kvs=>by
  have a:=pZ r (lj kvs p.1 p.2);have b:=sI kvs p.1 p.2;show(mS (lj kvs p.1 p.2) r).length<=_;rw[fB];lia
theorem zL{P:dv}{w:dQ}:∀{kvs:List (pI×V)} {e:List (cV×cV)},VV (kvs.map λd=>(kV d.1,d.2)) e->∃rs,Carries (jk P w) e rs/\KV kvs rs
 |[],_,r=>by rw[u7] at r;cases r;exact⟨[],True.intro,.nil⟩
 |p::kvs,_,r=>by
  rw[gu] at r;cases r with
  |@cons a b g j h t=>
   obtain⟨rs,c,q⟩:=zL (P:=P) (w:=w) t;obtain⟨i,f⟩:=b;exact⟨(p.1,f)::rs,⟨x4 h.1,rfl,c⟩,.cons ⟨rfl,h.2⟩ q⟩
def Pm(b:List (TE×TE)):TE:=λf H Q=>∀p,H p=none->Jz b f (upd H p (.dK [])) λe c=>c p=some (.dK [])/\∃a:List (pI×V),e=a.map (λd=>(kV d.1,d.2))/\a.length<=15/\Q (.ref p) (upd c p (.dK (mS [] a)))
def Rk{X:Cx}{pos:Pos}{b:List (Option Expr)}{d:List Expr}{k:List (TE×TE)}(h:VI X pos b d k)(g:b.all (·.isSome)=true)(B:b.length=d.length)(u:b≠[])
  (l:b.length<=15):PE X (.Dict b d pos) (Pm k):=by
 intro j s R H Q I q;have C:=I.hok.fresh (dk s.heap.objs.size);have p:=I.laid (a:=s.heap.objs.size) (o:=.dK []) (h':=s.heap.push {cls:=.type "dict",data:=.dict #[]}) (t':=s.toks) (λ_ _ q=>df _ q) (dk _) (Gb s.heap I.big);refine wpAny_Dict_walk (knd:=jk X.prog X.w) g B u l (kf (h j _ R _ _ p (q _ C)) λY W ⟨U,S,n,m,e,i,t,T,J⟩=>?_);subst t;obtain⟨M,c,L⟩:=zL (P:=X.prog) (w:=X.w) m;obtain⟨z,x,O,K,r⟩:=Gc n.hok e;cases K;refine⟨M,c,r,λh' f E=>⟨.ref s.heap.objs.size,_,?_,rfl,J⟩⟩;have G:(mS [] i).length<=c6:=by
  have v:=pZ i [];rw[jo] at v;rw[sf];lia
 have y:∃q,h'.get? s.heap.objs.size=some q:=let⟨q,_,_,D,_⟩:=f;⟨q,D⟩;exact y7 n (by rw[e];exact True.intro) E y (IF G x (L.merge .nil) f)
structure M1(X:Cx)(o:Expr)(m:Str)(apos:Pos)(e:Expr)(cpos:Pos):Prop where
 base:iY o m X.env (eval o X.env)=eval o X.env
 few:((iy cpos (dH [e] X.env)).all (λx=>!x.1)&&(oO cpos (kU [] X.env)).all (λx=>x.1.isSome)
  && decide (([e]:List Expr).length+([]:List j6).length+(if([]:List j6).isEmpty then 0 else 1)<30))=true
 line:(apos.endLine==cpos.line)=true
 trees:iy cpos (dH [e] X.env)=[(false,eval e X.env)]
structure M2(X:Cx)(o:Expr)(m:Str)(apos:Pos)(e f:Expr)(cpos:Pos):Prop where
 base:iY o m X.env (eval o X.env)=eval o X.env
 few:((iy cpos (dH [e,f] X.env)).all (λx=>!x.1)&&(oO cpos (kU [] X.env)).all (λx=>x.1.isSome)
  && decide (([e,f]:List Expr).length+([]:List j6).length+(if([]:List j6).isEmpty then 0 else 1)<30))=true
 line:(apos.endLine==cpos.line)=true
 trees:iy cpos (dH [e,f] X.env)=[(false,eval e X.env),(false,eval f X.env)]
def WT(H:Hp)(a:c7):Prop:=(∃b,Rd H a (.dK b))\/∃b,Rd H a (.dT b)
def N3{X:Cx}{f:List (c7×Obj)}{k:St}{H:Hp}{s:da}{a:c7}(I:fW X f k H s)(d:WT H a) :
  s.TypeIs (.ref a) "dict"/\(∀b,cV.ref a=.ref b->∃ob,s.heap.get? b=some ob/\ob.dict=none)/\(a==jm)=false:=by
 rcases d with⟨j,e⟩|⟨j,e⟩
 ·obtain⟨_,i,l,_,c⟩:=Gd I.hok e;refine⟨c.typeIs,λb q=>?_,i⟩;cases q;obtain⟨ob,_,_,g,h,_⟩:=c;exact⟨ob,g,h.2.1⟩
 ·obtain⟨_,i,m,_,c⟩:=Ge I.hok e;refine⟨c.typeIs,λb q=>?_,i⟩;cases q;obtain⟨ob,_,_,g,h,_⟩:=c;exact⟨ob,g,h.2.1⟩
section
variable{X:Cx}{pins:List (c7×Obj)}{σ:St}{H:Hp}{s:da}{a:c7}{y d:V}{u r:cV}{o:Option V}{A:ef}{E:Zz}
def TQ{Q:Zz}(t:A.units+1<cLine)(I:fW X pins σ H s)(g:vi H a y o)(n:hV y u)(m:hV d r)(h:∀p s',fW X pins σ H s'->hV (o.getD d) p->Q p s') :
  dJ (model X.prog X.w) A (call (.builtin "dict.get") [.ref a,u,r]) Q E s:=by
 rcases g with⟨j,k,e,f,l⟩|⟨j,k,b,e,f,q,l⟩
 ·subst f;obtain⟨z,i,x,rel,c⟩:=Gd I.hok e;refine qT kF c.typeIs mh (lP _ _ _) (meets_dict_get_default (jk X.prog X.w) a (x4 n) i r) ⟨_,c.mapOf,h _ _ (I.tok _) ?_⟩;rw[l];exact(rel.val k).getD m
 ·subst f;cases(show u=cV.ref b from n);obtain⟨z,i,v,rel,c⟩:=Ge I.hok e;refine qT kF c.typeIs mh (lP _ _ _) (meetsH_dict_get_default (lb (m9 X.prog X.w)) a b i r) ⟨lK t,k,v,z9 I.hok q,c,h _ _ (I.tok _) ?_⟩;rw[l];exact(rel.val k).getD m
end
section
variable{X:Cx}{o e f:Expr}{apos cpos:Pos}{td ty tx:TE}
end
section
variable{X:Cx}{pins:List (c7×Obj)}{σ:St}{H:Hp}{s:da}{a:c7}{kvs:List (pI×V)}{A:ef}{E:Zz}
end
section
variable{X:Cx}{pins:List (c7×Obj)}{σ:St}{H:Hp}{s:da}{a:c7}{y:V}{u:cV}{A:ef}{E:Zz}
end
section
variable{X:Cx}
end
section
variable{κ:Type}[DecidableEq κ]
theorem y9:∀{l:List κ} {k:κ},l.Nodup->¬k∈l->(l++[k]).Nodup
 |[],k,_,_=>by simp
 |a::r,k,h,b=>by
  obtain⟨c,d⟩:=iu.mp h;show(a::(r++[k])).Nodup;refine iu.mpr ⟨λm=>?_,y9 d λm=>b (dW.mpr (Or.inr m))⟩;rcases d9.mp m with q|q
  ·exact c q
  ·exact b (dW.mpr (Or.inl (dc.mp q).symm))
end
def L9(b:Bool):R2:=λx y H Q=>∃a o,y=.ref a/\vi H a x o/\Q (.bl (if b then !o.isSome else o.isSome)) H
def GJ:V->V->V->Hp->(Hp->Prop)->Prop:=λo i v H Q=>∃a b,o=.ref a/\DF H a i v b/\Q b
section
variable{X:Cx}
def Oq(d:X.A.units+1<cLine):oD X (gi .In) (L9 false):=by
 intro b s j H x y v u Q I e f h;obtain⟨a,o,rfl,g,q⟩:=h;cases f;exact TR d I g e λi c=>⟨.bl o.isSome,H,c,rfl,q⟩
def De(d:X.A.units+1<cLine):oD X (gi .NotIn) (L9 true):=by
 intro b s j H x y v u Q I e f h;obtain⟨a,o,rfl,g,q⟩:=h;cases f;exact QH d I g e λi c=>⟨.bl (!o.isSome),H,c,rfl,q⟩
def AD(e:X.A.units+1<cLine):Qq X GJ:=by
 intro b s p H o i v m l u Q I j f k h;obtain⟨a,c,rfl,g,q⟩:=h;cases j;exact Ly e I g f k λn d=>⟨c,d,q⟩
def Fu:∀{us:List cV} {ns:List Int},qR us ns->gy (ns.map V.int) us:=by
 intro us ns h
 induction h with
 |nil=>exact .nil
 |cons n t _ a=>exact .cons ⟨t,rfl⟩ a
theorem zY{prog:dv}{w:dQ}:∀{ns:List Int} {vs:List (pI×cV)} {us:List cV},vs.map (·.1)=ns.map Sum.inl->us.length=vs.length->(∀(j:Nat) v,us[j]?=some v->∃k x,vs[j]?=some (k,x)/\(jk prog w).is k v=true)->qR us ns
 |[],vs,us,b,c,_=>by
  have:vs=[]:=by cases vs with|nil=>rfl|cons a r=>cases b
  subst this;have:us=[]:=fG.mp c;subst this;exact .nil
 |n::ns,vs,us,b,c,d=>by
  cases vs with
  |nil=>cases b
  |cons a vs=>
   cases us with
   |nil=>cases c
   |cons u us=>
    obtain⟨k,x,e,g⟩:=d 0 u rfl;have f:a=(k,x):=Option.some.inj e;subst f;injection b with b h1';have b:k=Sum.inl n:=b;subst b;obtain⟨t,rfl⟩:=cV.isInt_shape (k:=n) (v:=u) g;refine .cons n t (zY (prog:=prog) (w:=w) h1' (by simpa using c) λj v e=>?_);exact d (j+1) v (by simpa using e)
def OT:List V->Hp->VK->Prop:=λe H Q=>∃(d:c7) (b:List (pI×V)) (c:List Int),e=[.ref d]/\H d=some (.dK b)/\b.map (·.1)=c.map Sum.inl/\c.length<64/\∀(l:c7) (a:List Int),H l=none->a.Perm c->a.Pairwise (·<=·)->Q (.ref l) (upd H l (.lst (a.map V.int)))
def Iv(S:X.calm=true):pb X (.builtin "sorted") OT:=by
 intro o s σ H xs us Q I r h;obtain⟨d,kvs,p,rfl,T,Z,i,q⟩:=h;obtain⟨u,rfl,rx⟩:=uE r;cases rx;obtain⟨z,lo,t,rel,P⟩:=Gc I.hok T;obtain⟨ep,x⟩:=P.dictAt;have Y:X.A.handled=none:=I.ok.hd S;have J:=rel.length;have G:t.map (·.1)=p.map Sum.inl:=by rw[<-rel.keys];exact Z
 have vl:t.length=p.length:=by have:=congrArg i7 G;simpa using this
 refine Calls.call_function_entry kind_sorted plain_sorted entry_sorted (args_sorted1 _) ?_;unfold dS.«sorted»;refine cS (m:=checkCount "sorted" 1 1 _) (di ?_);refine cS (PySem.W.kdu_collect (A:=X.A.in1) (PySem.W.kdl_dict (knd:=jk X.prog X.w) (kvs:=t) (ep:=ep) lo) Y x (by rw[<-J];exact z) λg C a y c=>?_);have B:a.toList.length=t.length:=by rw[ju];exact c.1
 have R:qR a.toList p:=zY (prog:=X.prog) (w:=X.w) G B λj v e=>c.2 j v (by rw[<-mH];exact e);refine cS (wpAny_newList ?_ (by rw[B,<-J];exact z));have f:(g.push (seqObj "list" a.toList.toArray 0)).get? g.objs.size=some (seqObj "list" a.toList.toArray 0):=dI _ rfl;show dJ _ _ _ _ _ {s with heap:=g.push (seqObj "list" a.toList.toArray 0),toks:=C};refine cS (gj (e9 slot_list_sort ⟨_,f,rfl⟩ entry_list_sort (list_sort_tree f R (by rw[B,vl];exact i) λout l M E O=>⟨_,rfl,?_⟩) (args_list_sort _)));refine di ⟨_,rfl,?_⟩;obtain⟨e,U⟩:=sortedHeap_at (n:=0) (out:=out) f;have hn:=Fu M;have k:l.length=p.length:=E.length_eq;have D:fW X o σ H {s with heap:=g,toks:=C}:=I.kept y;refine⟨.ref g.objs.size,_,D.laid (t':=C) (λb u L=>?_) (dk _) (show kb X.prog X.w _ _ _ (.lst (l.map V.int)) from⟨?_,out.toList,e,hn,?_⟩),rfl,q _ _ (D.hok.fresh (dk _)) E O⟩
 ·have K:=dD L;rw[sortedHeap_old (eg K) (by rw[size_push'];exact Nat.lt_succ_of_lt K)];exact df _ L
 ·rw[cT,k];exact fq (g7 i) (by decide)
 ·rw[nu];exact U
end
structure Qh(K:Fg)(x qual:Str)(st:Stmt)(dV:cV)(f:c7)(fd:iQ):Prop where
 ex:∃(oc:cV) (od:Option c7) (kV doc pm:cV) (an:Option c7) (cdv ct:cV) (osl:Array (Option cV)),
  fd=hH x qual (lJ st) (j8 st) (gk st) dV kV doc pm an cdv ct/\K.lookup f=some ⟨oc,od,.func fd,osl⟩/\jE K cdv qual=true
 kp:iL K (.ref f)=true
section
variable{P:dv}{w:dQ}{K:Fg}{mg:Str->Option cV}{base:Heap}
def Qh.ok{x a:Str}{st:Stmt}{g:cV}{f:c7}{fd:iQ}{N ps:List Str}{k:Nat}{sp:Sp}(F:Qh K x a st g f fd)(S:tH N ps (gk st))(len:∀vs H Q E,sp vs H Q E->vs.length=ps.length)
  (c:∀(b:cV) (A:ef) (outer:List Env) (s:da) (H:Hp) (vs:List V) (Q:VK) (E:XK),mn k (A.deeper (mJ a (gk st) s.heap.objs.size f b))->sp vs H Q E->
   ∃t,HP (Eb J5 P w K mg base N a (gk st) f b A outer s H E).nox (j8 st) t/\t {nx:=λ_ H'=>Q .non H',rt:=Q} (fQ N vs) H):wK P w K mg base J5 (k+1) f fd ps sp:=by
 obtain⟨n,o,kV,doc,p,m,b,ct,l,rfl,j,d⟩:=F.ex;refine SR j d S len λA outer s H vs Q E i e=>?_;obtain⟨t,h,q⟩:=c b A outer s H vs Q E i e;exact⟨t,h.nox,q⟩
def QU{x a:Str}{st:Stmt}{h:cV}{f:c7}{j:cV}{od g:Option c7}{e:Array (Option cV)}{kV d i b ct:cV}(l:K.lookup f=some ⟨j,od,.func (hH x a (lJ st) (j8 st) (gk st) h kV d i g b ct),e⟩)
  (c:jE K b a=true) (k:iL K (.ref f)=true):Qh K x a st h f (hH x a (lJ st) (j8 st) (gk st) h kV d i g b ct):=⟨⟨j,od,kV,d,i,g,b,ct,e,rfl,l,c⟩,k⟩
end
structure y0(P:dv)(w:dQ)(K:Fg)(mg:Str->Option cV)(base:Heap)(x:Str)(ps:List Str)(k:Nat)(dvs:List V)(sp:Sp):Prop where
 ex:∃(f:c7) (fd:iQ) (ds:List cV),mg x=some (.ref f)/\iL K (.ref f)=true/\xP K fd ps ds/\gy dvs ds/\wK P w K mg base J5 k f fd ps sp
def UG{X:Cx}{x:Str}{ps:List Str}{k:Nat}{a:List V}{sp:Sp}{e:Expr}{es:List Expr}{t:TA}{p pos:Pos}(c:y0 X.prog X.w X.K X.mg X.base x ps k a sp)(o:mn k X.A)(l:Gl X x)(g:PA X (e::es) t)
  (b:(x==("__debug__":Str))=false:=by decide) (j:dH (e::es) X.env=(false,eval e X.env)::dH es X.env:=by rfl) (d:(iy pos (dH es X.env)).any (·.1)=false:=by rfl) :
  PE X (.Call (.Name x p) (e::es) [] pos) (dR sp a E0 t):=by
 obtain⟨f,r,q,n,m,h,i,F⟩:=c.ex;exact KB F o l n m h i SX g b j d
structure WH(X:Cx)(pos:Pos)(keys:List (Option Expr))(values:List Expr)(trs:List (TE×TE)):Prop where
 up:VI X pos keys values trs
def RQ{X:Cx}{pos:Pos}:WH X pos [] [] []:=⟨RA⟩
def OM{X:Cx}{pos:Pos}{k v:Expr}{ks:List (Option Expr)}{vs:List Expr}{b c:TE}{a:List (TE×TE)}(d:QE X k b)(f:QE X v c)(e:WH X pos ks vs a):WH X pos (some k::ks) (v::vs) ((b,c)::a):=⟨OC d.up f.up e.up⟩
def RJ{X:Cx}{pos:Pos}{a:List (Option Expr)}{b:List Expr}{d:List (TE×TE)}(h:WH X pos a b d)(c:a.all (·.isSome)=true)(g:a.length=b.length)(f:a≠[])(e:a.length<=15):QE X (.Dict a b pos) (Pm d):=⟨Rk h.up c g f e⟩
def GF{X:Cx}{pos:Pos}:QE X (.Dict [] [] pos) EZ:=⟨Ou⟩
def U6{X:Cx}{x:Str}{ps:List Str}{k:Nat}{a:List V}{sp:Sp}{e:Expr}{es:List Expr}{t:TA}{p pos:Pos}(c:y0 X.prog X.w X.K X.mg X.base x ps k a sp)(i:mn k X.A)(h:Gl X x)(f:QA X (e::es) t)
  (b:(x==("__debug__":Str))=false:=by decide) (g:dH (e::es) X.env=(false,eval e X.env)::dH es X.env:=by rfl) (d:(iy pos (dH es X.env)).any (·.1)=false:=by rfl) :
  QE X (.Call (.Name x p) (e::es) [] pos) (dR sp a E0 t):=⟨UG c i h f.up b g d⟩
end L2
namespace PySem.W
open PySem PySem.Calls PyProof.Rows PyProof.V PySem.Spec
section
variable{prog:dv}{w:dQ}{A:ef}{E:Zz}{s:da}{r l:c7}
end
end PySem.W
namespace L2
open PySem PySem.Spec PyProof.Rows
section
variable{X:Cx}
def O8{ys:List V}{a:List cV}{b:Array cV}(r:gy ys a)(h:ItemsOf (λi v=>a.toArray[a.toArray.size-1-i]?=some v) b a.toArray.size):gy ys.reverse b.toList:=by
 have e:b.toList=a.reverse:=by
  apply List.ext_getElem?;intro i;by_cases f:i<a.length
  ·have g:b.size=a.length:=by have:=h.1;simpa using this
   have c:b[i]?=some b[i]:=jI (by omega);have d:=h.2 i _ c;rw[mH,c,List.getElem?_reverse f];simpa using d.symm
  ·have g:b.size=a.length:=by have:=h.1;simpa using this
   rw[fI (by rw[ju];omega),fI (by rw[e6];omega)]
 rw[e];exact r.reverse
end
end L2
namespace HT
open PySem PyProof.Rows
section
variable{prog:dv}{w:dQ}{A:ef}{E:Zz}{s:da}
def cat_tup0{t b:c7}{vs k:List cV}{Q:Zz}(o:mG s.heap t vs.toArray)(m:mG s.heap b k.toArray)(p:vs=[])(h:Q (.ref b) s):dJ (model prog w) A (iH .Add (.ref t) (.ref b)) Q E s:=by
 obtain⟨⟨cls,l,data,r⟩,j,g,n,i⟩:=id o;obtain⟨⟨f,d,data2,e⟩,c,a,q,hd2⟩:=id m;simp only at g i a hd2;subst g i a hd2;exact concat_meets ⟨_,j,rfl⟩ ⟨_,c,rfl⟩ noFill_tuple_add seq_tuple_add mj lQ (lF _ _)
   (tuple_addW0 t b vs.toArray k.toArray n q l d r e (by simp[p])) ⟨j,c,h⟩
def getItem_tuple_all{t sl:c7}{items:Array cV}{k l:cV}{a d:Option Int}{Q:Zz}(b:mG s.heap t items)(i:s.heap.IsSliceOf sl k l .none)(pl:qS k a)(p:qS l d)
  (j:sIx items.size 0 a=0/\sIx items.size items.size d=items.size) (h:Q (.ref t) s):dJ (model prog w) A (tG (.ref t) (.ref sl)) Q E s:=by
 obtain⟨o,g,f,n⟩:=id i;have e:s.TypeIs (.ref sl) "slice":=⟨o,g,f⟩;unfold tG
 try with_reducible refine gj ?_
 first|refine cS (di ?_)|skip
 refine cS (wpAny_sequenceKey b.typeIs (by decide) ?_);refine cS (e8 (name:=Str.ofString "__getitem__") b.typeIs iP
  (e9 iP b.typeIs entry_tuple_getitem ?_ (args_tuple_getitem _ _)))
 show dJ _ _ (dS.Tuple.tupleItemsOf (.ref t) >>= _) _ _ s;refine cS (tupleItemsOf_ b ?_);refine cS (oA e ?_);rw[if_pos (by decide)];refine cS (qG i pl p ?_);have c:(((sIx items.size 0 a:Nat):Int)==0&&(1:Int)==1&&(sIx items.size items.size d-sIx items.size 0 a)==items.size)=true:=by
  rw[j.1,j.2];simp
 show dJ _ _ (if(((sIx items.size 0 a:Nat):Int)==0&&(1:Int)==1&&(sIx items.size items.size d-sIx items.size 0 a)==items.size)=true then _ else _) _ _ s;rw[if_pos c];refine cS (m:=dS.Tuple.tupleIsExact (.ref t)) ?_;unfold dS.Tuple.tupleIsExact;refine cS (oA b.typeIs (di ?_));rw[if_pos (by decide)];exact cS (jC (di ⟨_,rfl,di h⟩))
end
end HT
namespace L2
open PySem PySem.Spec PyProof.Rows
section
variable{X:Cx}
def OO(K:Fg):R2:=λx y H Q=>∃a b c,x=.ref a/\y=.ref b/\fA K H a []/\fA K H b c/\Q (.ref b) H
def On:oD X (iH .Add) (OO X.K):=by
 intro d s p H x y v u Q I l m h;obtain⟨a,b,o,rfl,rfl,e,f,q⟩:=h;cases l;cases m;obtain⟨g,k,i,_⟩:=I.tuple e;obtain⟨c,n,j,_⟩:=I.tuple f;exact HT.cat_tup0 i j (k.nil_iff.mpr rfl) ⟨.ref b,H,I,rfl,q⟩
def gD(K:Fg):R2:=λx y H Q=>OO K x y H Q\/ig K x y H Q
def gF:oD X (iH .Add) (gD X.K):=On.or fX
def Te(K:Fg):V->Option Int->Option Int->Hp->VK->Prop:=λx d c H Q=>∃a b,x=.ref a/\fA K H a b/\(HT.sIx b.length 0 d=0/\HT.sIx b.length b.length c=b.length)/\Q (.ref a) H
def Sb:Np X (Te X.K):=by
 intro e s y H x v u w p n t Q I l f j k h;obtain⟨a,m,rfl,i,g,q⟩:=h;cases l;obtain⟨c,r,d,o⟩:=I.tuple i;have b:c.toArray.size=m.length:=by rw[dq];exact r.length.symm
 refine⟨"tuple",_,iP.lookup,d.typeIs,?_⟩;exact HT.getItem_tuple_all d f j k (by rw[b];exact g) ⟨.ref a,H,I,rfl,q⟩
def jH(K:Fg):V->Option Int->Option Int->Hp->VK->Prop:=λx b a H Q=>Te K x b a H Q\/Dj K x b a H Q
def iF:Np X (jH X.K):=Sb.or kK
def Tb(K:Fg):R2:=λx y H Q=>∃p q a,x=.ref p/\y=.ref q/\fA K H p a/\fA K H q []/\Q (.bl (decide (a=[]))) H
def Rc(g:X.A.units<cLine):oD X (gi .Eq) (Tb X.K):=by
 intro c s z H x y v u Q I m n h;obtain⟨p,q,d,rfl,rfl,b,a,i⟩:=h;cases m;cases n;obtain⟨t,k,o,_⟩:=I.tuple b;obtain⟨w,l,r,_⟩:=I.tuple a;have f:w=[]:=l.nil_iff.mpr rfl;subst f;refine SeqAt.eq_tupleAt (e:=λ_=>true) (show s.heap.IsTuple p t.toArray from o) (show s.heap.IsTuple q ([]:List cV).toArray from r) g (λj b a=>absurd a (by simp)) ⟨.bl (decide (d=[])),H,I,?_,i⟩;show cV.bool _=cV.bool _;congr 1;rw[dq,<-k.length];cases d<;>simp
def pA(K:Fg):R2:=λx y H Q=>Tb K x y H Q\/jL K x y H Q
def jJ(a:X.A.units<cLine):oD X (gi .Eq) (pA X.K):=(Rc a).or (gw a)
def Pl(h i:TE):TE:=λg H Q=>h g H λx f=>∃a,x=.ref a/\WT f a/\i g f λy e=>∃b d c,y=.ref b/\b≠a/\e a=some (.dK d)/\e b=some (.dK c)/\d.length+c.length<=c6/\Q .non (upd e a (.dK (mS d c)))
def Rl{o e:Expr}{f g:Pos}{D E:TE}(P:PE X o D)(O:PE X e E)(m:M1 X o "update" f e g):PE X (.Call (.Attribute o "update" f) [e] [] g) (Pl D E):=by
 intro i s G H Q I h;refine wpAny_Call_method m.base m.few m.line PySem.F.plainAttrs_dict PySem.F.slot_dict_update PySem.F.type_dict_update (kf (P i s G H _ I h) λu s1 ⟨x,J,v,rx,a,ex,d,W⟩=>?_);subst ex;obtain rfl:u=cV.ref a:=rx;obtain⟨t1,t2,_⟩:=N3 v d;refine⟨t1,t2,?_⟩;rw[m.trees];refine Calls.callWith_builtin rfl (Calls.evalArgs_plain (Calls.spliced_cons (kf (O i s1 G J _ v W) λS s2 ⟨y,H2,q,ry,b,l,c,L,t,B,K,C,Y⟩=>Calls.spliced_nil ?_)));subst L;obtain rfl:S=cV.ref b:=ry;obtain⟨z1,T,vs,j,n⟩:=Gc q.hok B;obtain⟨z2,U,Z,k,r⟩:=Gc q.hok K;refine qT PySem.F.slot_dict_update n.typeIs PySem.F.entry_dict_update (PySem.F.args_dict_update_2 _ _) (meets_dict_update (jk X.prog X.w) a b (Ne.symm t) U) ⟨vs,Z,n,r,by rw[<-j.length,<-k.length];exact C,λh' z d2 R=>?_⟩;have p:(mS l c).length<=c6:=fq (pZ c l) C;refine⟨.non,_,y7 (t':=s2.toks) (ob:=.dK (mS l c)) q (by rw[B];exact True.intro) R (let⟨ob,_,_,M,_⟩:=z;⟨ob,M⟩) (IF p T (k.merge j) z),rfl,Y⟩
def RK{o e:Expr}{a b:Pos}{c d:TE}(g:QE X o c)(f:QE X e d)(m:M1 X o "update" a e b):QE X (.Call (.Attribute o "update" a) [e] [] b) (Pl c d):=⟨Rl g.up f.up m⟩
end
end L2
namespace PySem
open Sem (wp)
namespace F
end F
def mE(a:Bool)(h:Heap)(i l:c7)(k:Nat):Prop:=match a with
 |true=>h.IsTupleIter i l k
 |false=>h.IsListIter i l k
def ky(a:Bool)(h:Heap)(l:c7)(xs:Array cV):Prop:=match a with
 |true=>h.IsTuple l xs
 |false=>h.IsList l xs
def mE.at{a:Bool}{h h':Heap}{i l:c7}{k:Nat}(x:mE a h i l k)(e:∀o,h.get? i=some o->h'.get? i=some o):mE a h' i l k:=by
 cases a with
 |true=>exact Heap.IsTupleIter.at (show h.IsTupleIter i l k from x) e
 |false=>exact Heap.IsListIter.at (show h.IsListIter i l k from x) e
def ky.at{a:Bool}{h h':Heap}{l:c7}{xs:Array cV}(x:ky a h l xs)(e:∀o,h.get? l=some o->h'.get? l=some o):ky a h' l xs:=by
 cases a with
 |true=>obtain⟨o,b,r⟩:=(show h.IsTuple l xs from x);exact⟨o,e o b,r⟩
 |false=>exact Heap.IsList.at (show h.IsList l xs from x) e
def mE.extBut{a:Bool}{h h':Heap}{i l b:c7}{k:Nat}(x:mE a h i l k)(c:Heap.ExtBut b h h')(n:i≠b):mE a h' i l k:=x.at λo e=>c i o n e
def ky.extBut{a:Bool}{h h':Heap}{l b:c7}{xs:Array cV}(x:ky a h l xs)(c:Heap.ExtBut b h h')(n:l≠b):ky a h' l xs:=x.at λo e=>c l o n e
def mE.lt{b:Bool}{h:Heap}{i l:c7}{k:Nat}(x:mE b h i l k):i<h.objs.size:=by
 cases b with
 |true=>obtain⟨o,a,_⟩:=(show h.IsTupleIter i l k from x);exact dD a
 |false=>obtain⟨o,a,_⟩:=(show h.IsListIter i l k from x);exact dD a
def ky.lt{b:Bool}{h:Heap}{l:c7}{xs:Array cV}(x:ky b h l xs):l<h.objs.size:=by
 cases b with
 |true=>obtain⟨o,a,_⟩:=(show h.IsTuple l xs from x);exact dD a
 |false=>obtain⟨o,a,_⟩:=(show h.IsList l xs from x);exact dD a
def Gk(a:Bool)(l:c7):Obj:={cls:=.type (if a then "tuple_iterator" else "list_iterator"),data:=.fields #[.ref l,.int 0 0]}
section
variable{prog:dv}{w:dQ}{A:ef}{E:Zz}{s:da}
def Am{a:Bool}{l:c7}{xs:Array cV}{Q:Zz}(c:ky a s.heap l xs)(b:Q (.ref s.heap.objs.size) {s with heap:=s.heap.push (Gk a l)}):dJ (model prog w) A (pyIter (.ref l)) Q E s:=by
 cases a with
 |true=>exact kh (show s.heap.IsTuple l xs from c) b
 |false=>exact lX (show s.heap.IsList l xs from c) b
def Gi{a:Bool}{l:c7}(h:Heap):mE a (h.push (Gk a l)) h.objs.size l 0:=by
 cases a with
 |_=>exact⟨_,dI _ rfl,rfl,rfl⟩
def vG{it t:c7}{i:Nat}{items}{x:cV}{Q:Zz}(a:s.heap.IsTupleIter it t i)
  (h:s.heap.IsTuple t items) (j:items[i]?=some x)
  (f:∀h',h'.IsTupleIter it t (i+1)->Heap.SameBut it s.heap h'->Q x {s with heap:=h'}) :
  dJ (model prog w) A (dS.SmallTypes.nextOf (.ref it)) Q E s:=by
 obtain⟨o,c,g,b⟩:=id a;obtain⟨l,e,_,k,d⟩:=h;unfold dS.SmallTypes.nextOf;refine cS (e8 (name:=Str.ofString "__next__") a.typeIs F.slot_tuple_iterator_next
  (e9 F.slot_tuple_iterator_next a.typeIs F.entry_tuple_iterator_next ?_ (F.args_tuple_iterator_next_1 _)))
 show dJ _ _ (field (.ref it) 0 >>= _) _ _ s;refine cS (eM c b (x:=.ref t) rfl ?_);show dJ _ _ (if(cV.ref t==cV.none)=true then _ else _) _ _ s;rw[if_neg (show ¬((cV.ref t==cV.none)=true) from Bool.false_ne_true)];show dJ _ _ (field (.ref it) 1 >>= _) _ _ s;refine cS (eM c b (x:=.int i 0) rfl ?_);show dJ _ _ (seqItems? (.ref t) >>= _) _ _ s;refine cS (gU e d ?_);simp only[c8,j];refine cS (oR c b (by simp) (di ⟨x,rfl,di (f _ ?_ (Heap.SameBut.update ..))⟩));exact⟨_,jG _ c (Obj.isFreed_of_fields (Obj.data_mapFields b _)),(Obj.cls_mapFields ..).trans g,by
  rw[Obj.data_mapFields b];simp[oQ]⟩
def xg{it t:c7}{i:Nat}{items}{Q:Zz}(h:A.handled=none)
  (b:s.heap.IsTupleIter it t i) (k:s.heap.IsTuple t items) (l:items[i]?=none)
  (j:∀h' e,Heap.ExtBut it s.heap h'->(∃o,h'.get? e=some o/\o.cls=.type "StopIteration")->E (.ref e) {s with heap:=h'}):dJ (model prog w) A (dS.SmallTypes.nextOf (.ref it)) Q E s:=by
 obtain⟨o,f,n,c⟩:=id b;obtain⟨q,g,_,p,d⟩:=k;unfold dS.SmallTypes.nextOf;refine cS (e8 (name:=Str.ofString "__next__") b.typeIs F.slot_tuple_iterator_next
  (e9 F.slot_tuple_iterator_next b.typeIs F.entry_tuple_iterator_next ?_ (F.args_tuple_iterator_next_1 _)))
 show dJ _ _ (field (.ref it) 0 >>= _) _ _ s;refine cS (eM f c (x:=.ref t) rfl ?_);show dJ _ _ (if(cV.ref t==cV.none)=true then _ else _) _ _ s;rw[if_neg (show ¬((cV.ref t==cV.none)=true) from Bool.false_ne_true)];show dJ _ _ (field (.ref it) 1 >>= _) _ _ s;refine cS (eM f c (x:=.int i 0) rfl ?_);show dJ _ _ (seqItems? (.ref t) >>= _) _ _ s;refine cS (gU g d ?_);simp only[c8,l];refine cS (jC (cS (oR f c (by simp) ?_)));show dJ _ _ (newExc (.type "StopIteration") [] >>= _) _ _ _;refine cS ?_;simp only[newExc,newTuple];refine cS (fU ?_ (by size_fits));refine cS (m:=kS _ _) (i6 (a:=cV.none) (by first|rfl|(simp only[kS];rfl)) ?_)
 refine fU ?_ (by size_fits);simp only[raiseNew];refine cS (wpAny_handled ?_)
 first|rw[show A.in1.handled=none from h]|rw[h]
 refine cS (di (wpAny_throw ?_));exact j _ _ (((Heap.SameBut.update ..).extBut.push _).push _) ⟨_,dI _ rfl,rfl⟩
def x6{b:Bool}{it l:c7}{i:Nat}{xs:Array cV}{x:cV}{Q:Zz}(a:mE b s.heap it l i)(d:ky b s.heap l xs)(e:xs[i]?=some x)
  (c:∀h',mE b h' it l (i+1)->Heap.SameBut it s.heap h'->Q x {s with heap:=h'}):dJ (model prog w) A (dS.SmallTypes.nextOf (.ref it)) Q E s:=by
 cases b with
 |true=>exact vG a d e c
 |false=>exact wpAny_nextOf_list_item a d e c
def Ad{b:Bool}{it l:c7}{i:Nat}{xs:Array cV}{Q:Zz}(d:A.handled=none)(a:mE b s.heap it l i)(f:ky b s.heap l xs)(g:xs[i]?=none)
  (c:∀h' e,Heap.ExtBut it s.heap h'->(∃o,h'.get? e=some o/\o.cls=.type "StopIteration")->E (.ref e) {s with heap:=h'}):dJ (model prog w) A (dS.SmallTypes.nextOf (.ref it)) Q E s:=by
 cases b with
 |true=>exact xg d a f g c
 |false=>exact wpAny_nextOf_list_end d a f g c
end
abbrev DG(h:Heap)(z TI TO a:c7)(b:Bool):Prop:=
 h.get? z=some {cls:=.type "zip",dict:=none,data:=.fields #[oQ a,.bool b,.bool false,.ref TI,.ref TO],slots:=#[]}
section
variable{prog:dv}{w:dQ}{A:ef}{E:Zz}{s:da}{t1 t2:Bool}
def MR{a:c7}{Q:Option Obj->da->Prop}(h:Q (s.heap.get? a) s):dJ (model prog w) A (loadIfAlive a) Q E s:=λc p b=>by
 show wp _ c (Sem.loadIfAlive a Sem.pure) _ _ p s;rw[Sem.wp_loadIfAlive];exact di (M:=model prog w) (A:=A) (E:=E) h c p b
def PZ{z TI TO h g l r t:c7}{v k2:Nat}{xs ys:Array cV}{b:Bool}{L:Obj}{Q:Fin->da->Prop}(I:A.handled=none)(D:qo z TI TO g l r t)
  (hz:DG s.heap z TI TO h b) (n:kD s.heap TI (.ref g) (.ref l)) (m:s.heap.get? h=some L)
  (C:mE t1 s.heap g r v) (h2:mE t2 s.heap l t k2) (p:ky t1 s.heap r xs) (J:ky t2 s.heap t ys) (i:xs[v]?=none)
  (G:∀h' e,(∀c o,c≠z->c≠g->c≠l->s.heap.get? c=some o->h'.get? c=some o)->(∃o,h'.get? e=some o/\o.cls=.type "StopIteration")->E (.ref e) {s with heap:=h'}) :
  dJ (model prog w) A (dS.«zip.__next__» ⟨[.ref z],[]⟩) Q E s:=by
 show dJ _ _ (field (.ref z) 2 >>= _) _ _ _;refine cS (eM hz rfl (x:=.bool false) rfl ?_);show dJ _ _ (field (.ref z) 3 >>= _) _ _ _;refine cS (eM hz rfl (x:=.ref TI) rfl ?_);refine cS (gU n rfl ?_);show dJ _ _ (dS.SmallTypes.ownedTupleIsFree (.ref z) >>= _) _ _ _;refine cS ?_;unfold dS.SmallTypes.ownedTupleIsFree;refine cS (eM hz rfl (x:=oQ h) rfl ?_);show dJ _ _ (loadIfAlive (h:Int).toNat >>= _) _ _ _;have K:(h:Int).toNat=h:=by lia
 rw[K];refine cS (MR ?_);rw[m];show dJ _ _ (field (.ref z) 1 >>= _) _ _ _;refine cS (eM hz rfl (x:=.bool b) rfl ?_);have k:∀(d:Heap) (u:Zz),Heap.SameBut z s.heap d->dJ (model prog w) A (dS.SmallTypes.nextOf (.ref g)) u E {s with heap:=d}:=by
  intro d u a;refine Ad I (C.extBut a.extBut D.i1z) (p.extBut a.extBut D.l1z) i λj e f H=>?_;exact G j e (λc o y B _ x=>f _ _ B (a.extBut _ _ y x)) H
 cases b with
 |true=>
  rw[if_neg (by decide)];refine di ?_;rw[if_neg (by decide)];simp only[List.forIn_toArray,lI,oU];refine cS (cS (cS (gj ?_)));show dJ _ _ (dS.SmallTypes.nextOf (.ref g) >>= _) _ _ _;exact cS (k s.heap _ (Heap.SameBut.refl ..))
 |false=>
  rw[if_pos (by decide)];refine cS (jD hz (by simp) λd q a=>?_);refine di ?_;rw[if_neg (by decide)];simp only[List.forIn_toArray,lI,oU];refine cS (cS (cS (gj ?_)));show dJ _ _ (dS.SmallTypes.nextOf (.ref g) >>= _) _ _ _;exact cS (k d _ a)
end
structure Tz(z TI TO:c7)(f:cV)(b:Bool)(h h':Heap):Prop where
 at_:h'.get? z=some {cls:=.type "zip",dict:=none,data:=.fields #[f,.bool b,.bool false,.ref TI,.ref TO],slots:=#[]}
 sm:Heap.SameBut z h h'
section
variable{prog:dv}{w:dQ}{A:ef}{E:Zz}{s:da}{t1 t2:Bool}
def Ky{z TI TO:c7}{f c:cV}{b:Bool}{Q:Unit->da->Prop}(hz:s.heap.get? z=some {cls:=.type "zip",dict:=none,data:=.fields #[f,.bool b,.bool false,.ref TI,.ref TO],slots:=#[]})
  (k:∀h',Tz z TI TO c b s.heap h'->Q () {s with heap:=h'}):dJ (model prog w) A (setField (.ref z) 0 c) Q E s:=
 jD hz (by simp) λh' a e=>k h' ⟨a,e⟩
def MS{z TI TO h i u B:c7}{P k2:Nat}{xs ys:Array cV}{x y a b:cV}{Q:Zz}(D:qo z TI TO h i u B)
  (hz:IsZip s.heap z TI TO .none) (I:kD s.heap TI (.ref h) (.ref i)) (J:kD s.heap TO a b)
  (h1:mE t1 s.heap h u P) (h2:mE t2 s.heap i B k2) (K:ky t1 s.heap u xs) (L:ky t2 s.heap B ys) (hx:xs[P]?=some x) (hy:ys[k2]?=some y)
  (k:∀h',DG h' z TI TO s.heap.objs.size false->mE t1 h' h u (P+1)->mE t2 h' i B (k2+1)->kD h' s.heap.objs.size x y->kD h' TO x y->
   (∀c o,c≠z->c≠TO->c≠h->c≠i->s.heap.get? c=some o->h'.get? c=some o)->Q (.ref s.heap.objs.size) {s with heap:=h'}) :
  dJ (model prog w) A (dS.«zip.__next__» ⟨[.ref z],[]⟩) (λH s'=>∃v,H=.done (.ret v)/\Q v s') E s:=by
 refine cS (m:=field (.ref z) 2) (eM hz rfl (x:=.bool false) rfl ?_);refine cS (m:=field (.ref z) 3) (eM hz rfl (x:=.ref TI) rfl (cS (gU I rfl ?_)));refine cS (m:=dS.SmallTypes.ownedTupleIsFree (.ref z)) (cS (eM hz rfl (x:=.none) rfl (di ?_)));refine cS (jC (cS (eM hz rfl (x:=.ref TO) rfl (cS (Ky hz λg1 R=>?_)))));simp only[List.zipIdx_cons,List.zipIdx_nil,lI,oU];have g:=R.sm.extBut;refine cS (cS (cS (wpAny_onRaise (cS (m:=dS.SmallTypes.nextOf (.ref h)) (x6 (h1.extBut g D.i1z) (K.extBut g D.l1z) hx λg2 M s2=>di ?_)))));have j:=s2.extBut;have X:kD g2 TO a b:=j _ _ D.TOi1 (g _ _ D.TOz J);refine cS (gU X rfl (cS (wpAny_updateSeq_pair X λg3 T s3=>cS (wpAny_letGo (di ?_)))));have l:=s3.extBut
 replace T:kD g3 TO x b:=T
 refine cS (cS (wpAny_onRaise (cS (m:=dS.SmallTypes.nextOf (.ref i)) (x6 (((h2.extBut g D.i2z).extBut j D.i12.symm).extBut l D.TOi2.symm) (((L.extBut g D.l2z).extBut j D.l2i1).extBut l D.l2TO) hy λg4 O s4=>di ?_))));have q:=s4.extBut;have Y:kD g4 TO x b:=q _ _ D.TOi2 T;refine cS (gU Y rfl (cS (wpAny_updateSeq_pair Y λf C s5=>cS (wpAny_letGo (di (di ?_))))));have r:=s5.extBut
 replace C:kD f TO x y:=C
 refine cS (gU C rfl (cS (wpAny_newTuple ?_)));have d:f.objs.size=s.heap.objs.size:=(s5.1.trans (s4.1.trans (s3.1.trans (s2.1.trans R.sm.1))));have z5:=df {cls:=.type "tuple",data:=.seq #[x,y]} (r _ _ D.TOz.symm (q _ _ D.i2z.symm (l _ _ D.TOz.symm (j _ _ D.i1z.symm R.at_))));have zl:z≠f.objs.size:=by rw[d];exact eg (dD hz)
 refine cS (m:=dS.SmallTypes.ownedTupleHandOut (.ref z) (.ref f.objs.size)) (cS (Ky z5 λg6 S=>jD S.at_ (by simp) λt z7 s7=>di ⟨_,rfl,?_⟩));have G:∀c o,c≠z->f.get? c=some o->t.get? c=some o:=λc o n e=>s7.extBut _ _ n (S.sm.extBut _ _ n (df _ e));have Z:kD t f.objs.size x y:=s7.extBut _ _ (Ne.symm zl) (S.sm.extBut _ _ (Ne.symm zl) (dI _ rfl));rw[d] at Z;show Q (.ref f.objs.size) _;have p:DG t z TI TO f.objs.size false:=z7;rw[d] at p ⊢;refine k t p ?_ ?_ Z (G _ _ D.TOz C) λc o U W c3 c4 e=>G c o U (r _ _ W (q _ _ c4 (l _ _ W (j _ _ c3 (g _ _ U e)))))
 ·exact(((M.extBut l D.TOi1.symm).extBut q D.i12).extBut r D.TOi1.symm).at λo e=>G _ o D.i1z e
 ·exact(O.extBut r D.TOi2.symm).at λo e=>G _ o D.i2z e
def PY{z TI TO a h i H:c7}{n k2:Nat}{xs ys:Array cV}{Q:Fin->da->Prop}(C:A.handled=none)(D:qo z TI TO a h i H)
  (hz:IsZip s.heap z TI TO .none) (d:kD s.heap TI (.ref a) (.ref h)) (B:mE t1 s.heap a i n) (g:ky t1 s.heap i xs) (G:xs[n]?=none)
  (k:∀h' e,(∀c o,c≠z->c≠a->c≠h->s.heap.get? c=some o->h'.get? c=some o)->(∃o,h'.get? e=some o/\o.cls=.type "StopIteration")->E (.ref e) {s with heap:=h'}) :
  dJ (model prog w) A (dS.«zip.__next__» ⟨[.ref z],[]⟩) Q E s:=by
 refine cS (m:=field (.ref z) 2) (eM hz rfl (x:=.bool false) rfl ?_);refine cS (m:=field (.ref z) 3) (eM hz rfl (x:=.ref TI) rfl (cS (gU d rfl ?_)));refine cS (m:=dS.SmallTypes.ownedTupleIsFree (.ref z)) (cS (eM hz rfl (x:=.none) rfl (di ?_)));refine cS (jC (cS (eM hz rfl (x:=.ref TO) rfl (cS (Ky hz λK p=>?_)))));simp only[List.zipIdx_cons,List.zipIdx_nil,lI,oU];have b:=p.sm.extBut;refine cS (cS (cS (wpAny_onRaise (cS (m:=dS.SmallTypes.nextOf (.ref a)) (Ad C (B.extBut b D.i1z) (g.extBut b D.l1z) G λL e t ⟨J,f,l⟩=>?_)))));have u:=t _ _ D.i1z.symm p.at_;have I:e≠z:=λq=>by subst q;rw[u] at f;cases f;simp at l
 exact Ky u λy r=>k y e (λc o j v _ q=>r.sm.extBut _ _ j (t _ _ v (b _ _ j q))) ⟨J,r.sm.extBut _ _ I f,l⟩
end
abbrev Vs(t1:Bool)(h:Heap)(a:c7):Heap:=h.push (Gk t1 a)
abbrev WC(t1 t2:Bool)(h:Heap)(a b:c7):Heap:=(Vs t1 h a).push (Gk t2 b)
abbrev WD(t1 t2:Bool)(h:Heap)(a b:c7):Heap:=(WC t1 t2 h a b).push {cls:=.type "tuple",data:=.seq #[.ref h.objs.size,.ref (Vs t1 h a).objs.size]}
abbrev WE(t1 t2:Bool)(h:Heap)(a b:c7):Heap:=(WD t1 t2 h a b).push {cls:=.type "tuple",data:=.seq #[.none,.none]}
abbrev Vt(t1 t2:Bool)(h:Heap)(a b:c7):Heap:=(WE t1 t2 h a b).push {cls:=.type "zip",data:=.fields #[.none,.bool false,.bool false,.ref (WC t1 t2 h a b).objs.size,.ref (WD t1 t2 h a b).objs.size]}
def Ci{t1 t2:Bool}(a b:c7)(xs ys:Array cV) :
  Meets (dS.«zip.__new__» ⟨[.type "zip",.ref a,.ref b],[]⟩) (λ_ R s=>ky t1 s.heap a xs/\ky t2 s.heap b ys/\
   R (.ok (.ret (.ref (WE t1 t2 s.heap a b).objs.size))) {s with heap:=Vt t1 t2 s.heap a b}):=
 .of_wp λj w A R s h=>by
  obtain⟨c,g,d,k,i⟩:=s;obtain⟨l,m,h⟩:=h;have f:=sub_zip;have n:ky t1 (da.heap ⟨c,g,d,k,i⟩) a xs:=l;have p:ky t2 (da.heap ⟨c.push (Gk t1 a),g,d,k,i⟩) b ys:=m.at λo e=>df _ e
  wp_walk using Am n,Am p
  exact⟨_,rfl,h⟩
section
variable{prog:dv}{w:dQ}{A:ef}{R:Result->da->Prop}{t1 t2:Bool}{K:Type}[DecidableEq K]{knd:KeyKind prog w K}
structure Nr(t1 t2:Bool)(z TI TO i1 i2 l1 l2:c7)(xs ys:Array cV)(i:Nat)(h:Heap):Prop where
 ti:kD h TI (.ref i1) (.ref i2)
 a1:mE t1 h i1 l1 i
 a2:mE t2 h i2 l2 i
 s1:ky t1 h l1 xs
 s2:ky t2 h l2 ys
 st:(IsZip h z TI TO .none/\∃a b,kD h TO a b)\/∃T0 b o,DG h z TI TO T0 b/\h.get? T0=some o/\o.cls=.type "tuple"
def Nr.typeIs{z TI TO a b c d:c7}{xs ys:Array cV}{i:Nat}{s:da}(st:Nr t1 t2 z TI TO a b c d xs ys i s.heap):s.TypeIs (.ref z) "zip":=by
 rcases st.st with⟨h,_⟩|⟨_,_,_,h,_⟩<;>exact⟨_,h,rfl⟩
def P1{E:Zz}{z TI TO g h v x:c7}{xs ys:Array cV}{i:Nat}{s:da}{Q:Option cV->da->Prop}(r:A.handled=none)(D:qo z TI TO g h v x)(st:Nr t1 t2 z TI TO g h v x xs ys i s.heap)(u:xs[i]?=none)
  (k:∀h',(∀c o,c≠z->c≠g->c≠h->s.heap.get? c=some o->h'.get? c=some o)->Q none {s with heap:=h'}):dJ (model prog w) A (nN (.ref z)) Q E s:=by
 have n:=st.typeIs;have d:∀(h':Heap) (e:c7),(∀c o,c≠z->c≠g->c≠h->s.heap.get? c=some o->h'.get? c=some o)->(∃o,h'.get? e=some o/\o.cls=.type "StopIteration")->
   dJ (model prog w) A (uG (.ref e) (.type "StopIteration")) (λa m=>a=true/\Q none m) E {s with heap:=h'}:=λh' e f ⟨o,t,p⟩=>iz (T:="StopIteration") (b:=true) ⟨o,t,p⟩ oP ⟨rfl,k h' f⟩
 unfold nN;refine cS (jY (e8 (name:=Str.ofString "__next__") n F.slot_zip_next (e9 F.slot_zip_next n F.entry_zip_next ?_ (F.args_zip_next_1 _))));rcases st.st with⟨l,a,b,t⟩|⟨B,b,o,l,y,p⟩
 ·refine PY (ys:=ys) (k2:=0) r D l st.ti st.a1 st.s1 u λh' e f j=>cS (iI (d h' e f j) (λa m q=>?_) λ_ _ z=>z);obtain⟨rfl,q⟩:=q;exact di q
 ·refine PZ r D l st.ti y st.a1 st.a2 st.s1 st.s2 u λh' e f j=>cS (iI (d h' e f j) (λa m q=>?_) λ_ _ z=>z);obtain⟨rfl,q⟩:=q;exact di q
end
section
variable{prog:dv}{w:dQ}{A:ef}{E:Zz}{s:da}{t1 t2:Bool}{K:Type}[DecidableEq K]{knd:KeyKind prog w K}
def D8{a b:c7}{xs ys:Array cV}{Q:Zz}(i:ky t1 s.heap a xs)(j:ky t2 s.heap b ys)
  (h:∀h' z TI TO d f,s.heap.objs.size<=TI->qo z TI TO d f a b->s.heap.objs.size<=z->s.heap.objs.size<=TO->s.heap.objs.size<=d->s.heap.objs.size<=f->IsZip h' z TI TO .none->kD h' TO .none .none->kD h' TI (.ref d) (.ref f)->mE t1 h' d a 0->mE t2 h' f b 0->
   (∀c o,s.heap.get? c=some o->h'.get? c=some o)->Q (.ref z) {s with heap:=h'}) :
  dJ (model prog w) A (call (.type "zip") [.ref a,.ref b]) Q E s:=by
 refine callType_new F.called_zip (by decide) (F.typeCall_zip_2 _ _) (F.newCall_zip_2 _ _) (λg=>F.args_object_init_3 g _ _) F.entry_zip_new (Ci (t1:=t1) (t2:=t2) a b xs ys) ⟨i,j,?_⟩;have l:(Vs t1 s.heap a).objs.size=s.heap.objs.size+1:=ka ..;have m:(WC t1 t2 s.heap a b).objs.size=s.heap.objs.size+2:=(ka ..).trans (by rw[l]);have n:(WD t1 t2 s.heap a b).objs.size=s.heap.objs.size+3:=(ka ..).trans (by rw[m]);have x:(WE t1 t2 s.heap a b).objs.size=s.heap.objs.size+4:=(ka ..).trans (by rw[n]);have u:=i.lt;have v:=j.lt;have k:(Vt t1 t2 s.heap a b).get? (WE t1 t2 s.heap a b).objs.size=some _:=dI _ rfl;have t:(Vt t1 t2 s.heap a b).get? (WD t1 t2 s.heap a b).objs.size=some _:=df _ (dI _ rfl);have r:(Vt t1 t2 s.heap a b).get? (WC t1 t2 s.heap a b).objs.size=some _:=df _ (df _ (dI _ rfl));have q:mE t2 (Vt t1 t2 s.heap a b) (Vs t1 s.heap a).objs.size b 0:=(Gi (Vs t1 s.heap a)).at λo e=>df _ (df _ (df _ e));have p:mE t1 (Vt t1 t2 s.heap a b) s.heap.objs.size a 0:=(Gi s.heap).at λo e=>df _ (df _ (df _ (df _ e)));refine⟨⟨_,k,rfl⟩,h _ (WE t1 t2 s.heap a b).objs.size (WC t1 t2 s.heap a b).objs.size (WD t1 t2 s.heap a b).objs.size s.heap.objs.size (Vs t1 s.heap a).objs.size (by lia) ?_ (by lia) (by lia) (by lia) (by lia) k t r p q λc o e=>
  df _ (df _ (df _ (df _ (df _ e))))⟩
 rw[x,m,n,l];exact PyProof.Rows.zipApart_new u v
end
end PySem
namespace L2
open PySem PySem.Spec PyProof.Rows
section
variable{X:Cx}
end
section
variable{X:Cx}{C:c7}{m x:Str}{ps:List Str}{k:Nat}{sp:Sp}{e o:Expr}{es:List Expr}{ta:TE}{t:TA}{p pos apos:Pos}
end
section
variable{X:Cx}
end
section
variable{X:Cx}{pins:List (c7×Obj)}{σ:St}{H:Hp}{s:da}{d:c7}{kvs:List (pI×V)}{u u':HO}
end
section
variable{X:Cx}{tg:Expr}
end
end L2
namespace PySem
open Sem (wp)
section
variable{prog:dv}{w:dQ}{A:ef}{R:Result->da->Prop}{K:Type}[DecidableEq K]{knd:KeyKind prog w K}
end
section
variable{prog:dv}{w:dQ}{A:ef}{E:Zz}{s:da}{K:Type}[DecidableEq K]{knd:KeyKind prog w K}
end
end PySem
namespace L2
open PySem PySem.Spec PyProof.Rows
section
variable{X:Cx}
end
section
variable{X:Cx}{tg:Expr}
end
section
variable{X:Cx}{tg l o e f:Expr}{tl td ty tx:TE}{apos cpos:Pos}
end
def Io(K:Fg)(b:Bool)(H:Hp)(a:c7)(xs:List V):Prop:=match b with
 |true=>fA K H a xs
 |false=>fR K H a xs
def fW.seqB{X:Cx}{c:List (c7×Obj)}{e:St}{H:Hp}{s:da}{d:Bool}{a:c7}{xs:List V}(I:fW X c e H s)(h:Io X.K d H a xs):∃b:List cV,gy xs b/\ky d s.heap a b.toArray:=by
 cases d with
 |true=>obtain⟨b,r,p,_⟩:=I.tuple h;exact⟨b,r,p⟩
 |false=>obtain⟨b,r,p,_⟩:=I.list h;exact⟨b,r,p.isList⟩
def fW.seqB_inj{X:Cx}{b:List (c7×Obj)}{d:St}{H:Hp}{s:da}{c:Bool}{a:c7}{xs ys:List V}(I:fW X b d H s)(h:Io X.K c H a xs)(h':Io X.K c H a ys):xs=ys:=by
 cases c with
 |true=>exact I.tuple_inj h h'
 |false=>exact I.list_inj h h'
def Gj{a:Bool}{h:Heap}{i l:c7}{k:Nat}(x:mE a h i l k):∃o,h.get? i=some o/\∀v,o.data=.cell v->False:=by
 cases a with
 |true=>obtain⟨o,e,c,d⟩:=(show h.IsTupleIter i l k from x);exact⟨o,e,λv q=>by rw[d] at q;cases q⟩
 |false=>obtain⟨o,e,c,d⟩:=(show h.IsListIter i l k from x);exact⟨o,e,λv q=>by rw[d] at q;cases q⟩
def FE(K:Fg)(t1 t2:Bool)(a b:c7):It:=
 ⟨λi H=>∃c x d y,Io K t1 H a c/\c[i]?=some x/\Io K t2 H b d/\d[i]?=some y,
  λi H x e=>∃p v u,H p=none/\x=.ref p/\e=upd H p (.tup [v,u])/\(∀c,Io K t1 H a c->c[i]?=some v)/\∀d,Io K t2 H b d->d[i]?=some u,
  λi H=>∃c d,Io K t1 H a c/\Io K t2 H b d/\c.length<=i⟩
def MO{P:dv}{w:dQ}{K:Fg}{O:List Expr}{k:Nat}{pos:Pos}(t1 t2:Bool)(z TI TO C G l1 l2:c7)(D:qo z TI TO C G l1 l2) :
  BU P w K (.Tuple O k pos) (FE K t1 t2 l1 l2) [z,TI,TO,C,G] z (λi h=>IsZip h z TI TO .none/\kD h TI (.ref C) (.ref G)/\(∃a b,kD h TO a b)/\mE t1 h C l1 i/\mE t2 h G l2 i) where
 mem:=by simp
 obj:=λi h p b g=>by
  obtain⟨j,d,⟨L,M,f⟩,r,t⟩:=p;obtain⟨o1,e1,d1⟩:=Gj r;obtain⟨o2,e2,d2⟩:=Gj t;simp only[dW,gq,or_false] at g;rcases g with rfl|rfl|rfl|rfl|rfl
  ·exact⟨_,j,λv q=>by have S:Data.fields _=Data.cell v:=q;cases S⟩
  ·exact⟨_,d,λv q=>by have S:Data.seq _ _=Data.cell v:=q;cases S⟩
  ·exact⟨_,f,λv q=>by have S:Data.seq _ _=Data.cell v:=q;cases S⟩
  ·exact⟨o1,e1,λv q=>d1 v q⟩
  ·exact⟨o2,e2,λv q=>d2 v q⟩
 keep:=λi h h' p k=>by
  obtain⟨j,d,⟨L,M,f⟩,r,t⟩:=p;exact⟨k z (by simp) _ j,k TI (by simp) _ d,⟨L,M,k TO (by simp) _ f⟩,r.at λo q=>k C (by simp) o q,t.at λo q=>k G (by simp) o q⟩
 item:=by
  intro X hP hw hK Y i l s σ H E I Z p hg;subst hP hw hK;obtain⟨j,d,⟨L,M,f⟩,r,t⟩:=p;obtain⟨xs,x,ys,y,m,hx,n,hy⟩:=hg;obtain⟨Q,J,p1⟩:=I.seqB m;obtain⟨R,U,p2⟩:=I.seqB n;obtain⟨u,hu,ru⟩:=J.get hx;obtain⟨v,hv,rv⟩:=U.get hy;have hT:s.TypeIs (.ref z) "zip":=⟨_,j,rfl⟩;unfold nN;refine cS (jY (e8 (name:=Str.ofString "__next__") hT F.slot_zip_next (e9 F.slot_zip_next hT F.entry_zip_next ?_ (F.args_zip_next_1 _))));refine MS D j d f r t p1 p2 (x:=u) (y:=v) (by simpa using hu) (by simpa using hv) λh3 a1 a3 a4 a5 a2 hk=>di ?_;refine⟨_,rfl,?_⟩;have fT:uI X l H s.heap.objs.size:=I.fpOk (dk _) (I.hok.fresh (dk _));have lt:∀{c o},s.heap.get? c=some o->c≠s.heap.objs.size:=λe=>eg (dD e);refine wpAny_letOwnedTupleGo_zip a1 λh4 aa B=>?_;have I1:fW X l σ H {s with heap:=h4,toks:=s.toks}:=I.turnedL (t':=s.toks) (ch:=[z,TI,TO,C,G]) (λb o g q=>by
   have b1:b≠z:=λe=>g (by simp[e]);exact(B.2 b b1).trans (hk b o b1 (λe=>g (by simp[e])) (λe=>g (by simp[e])) (λe=>g (by simp[e])) q)) Z
  have gT:h4.get? s.heap.objs.size=some {cls:=.type "tuple",data:=.seq #[u,v]}:=(B.2 _ (Ne.symm (lt j))).trans a5;have I2:=I1.adopt (T:=s.heap.objs.size) (o:=.tup [x,y]) fT (ze (X:=X) gT ru rv);have ext:∀c o,c≠z->h3.get? c=some o->h4.get? c=some o:=λc o Y q=>(B.2 c Y).trans q;refine⟨.ref s.heap.objs.size,_,I2,rfl,⟨s.heap.objs.size,x,y,fT.1,rfl,rfl,λzs j=>by rw[I.seqB_inj j m];exact hx,λzs j=>by rw[I.seqB_inj j n];exact hy⟩,
   ⟨aa,ext _ _ D.TIz (hk _ _ D.TIz D.TITO D.TIi1 D.TIi2 d),⟨_,_,ext _ _ D.TOz a2⟩,a3.at λo q=>ext _ o D.i1z q,a4.at λo q=>ext _ o D.i2z q⟩,λb g=>?_⟩
  have nT:b≠s.heap.objs.size:=by
   simp only[dW,gq,or_false] at g;rcases g with rfl|rfl|rfl|rfl|rfl
   ·exact lt j
   ·exact lt d
   ·exact lt f
   ·exact eg r.lt
   ·exact eg t.lt
  rw[dC nT];exact(Z b g).1
 done:=by
  intro X hP hw hK Y i l s σ H E I Z p hg;subst hP hw hK;obtain⟨j,d,⟨L,M,f⟩,r,t⟩:=p;obtain⟨xs,ys,m,n,ab⟩:=hg;obtain⟨Q,J,p1⟩:=I.seqB m;obtain⟨R,U,p2⟩:=I.seqB n;have ae:=J.length;refine P1 (I.ok.hd Y) D ⟨d,r,t,p1,p2,.inl ⟨j,L,M,f⟩⟩ (by simp;lia) λh3 hk=>⟨rfl,?_⟩;exact I.turnedL (t':=s.toks) (ch:=[z,TI,TO,C,G]) (λb o g q=>hk b o (λe=>g (by simp[e])) (λe=>g (by simp[e])) (λe=>g (by simp[e])) q) Z
 self:=λ_ _ _ _ _ p h=>mL p.1 h
def Kq(K:Fg)(g:TA):TI:=λi H R=>g i H λh c=>∃e f a b,h=[.ref a,.ref b]/\(∃d,Io K e c a d)/\(∃d,Io K f c b d)/\R (FE K e f a b) c
section
variable{X:Cx}{elts:List Expr}{k:Nat}{tpos:Pos}
def Ru{a b:Expr}{C:TA}{p pos:Pos}(M:Gl X "zip")(P:X.mg "zip"=none)(L:PA X [a,b] C)(Q:dH [a,b] X.env=[(false,eval a X.env),(false,eval b X.env)]:=by rfl)(g:dH [b] X.env=[(false,eval b X.env)]:=by rfl) :
  PI X (.Tuple elts k tpos) (.Call (.Name "zip" p) [a,b] [] pos) (Kq X.K C):=by
 intro c s E H R I h;refine Call_ (pk I M P boot_zip (fL (kf (L pos c s E H _ I h) λus u ⟨vs,v,d,r1,q1⟩=>?_) (by rw[Q,g]) (by rw[g];rfl)));obtain⟨t1,t2,U,W,e,⟨xs,n⟩,⟨ys,o⟩,q⟩:=q1;subst e;cases r1 with
 |cons r t=>
  cases t with
  |cons r' t=>
   cases t;cases r;cases r';obtain⟨y,aa,Y⟩:=d.seqB n;obtain⟨B,ab,Z⟩:=d.seqB o;refine D8 (t1:=t1) (t2:=t2) Y Z λJ z TI TO S T gI D gz gO g1 g2 x j i l m O=>?_;refine mL x ?_;have G:fW X c E v {u with heap:=J}:=d.kept (t':=u.toks) O;refine⟨_,_,_,_,v,rfl,G,MO t1 t2 z TI TO S T U W D,⟨x,i,⟨_,_,j⟩,l,m⟩,λb w=>?_,q⟩;have f:u.heap.objs.size<=b:=by
    simp only[dW,gq,or_false] at w;rcases w with rfl|rfl|rfl|rfl|rfl<;>assumption
   exact d.fpOk f (d.hok.fresh f)
def KF{a b:Expr}{d:TA}{p pos:Pos}(f:Gl X "zip")(g:X.mg "zip"=none)(e:QA X [a,b] d)(h:dH [a,b] X.env=[(false,eval a X.env),(false,eval b X.env)]:=by rfl)(c:dH [b] X.env=[(false,eval b X.env)]:=by rfl):QI X (.Tuple elts k tpos) (.Call (.Name "zip" p) [a,b] [] pos) (Kq X.K d):=
 ⟨Ru f g e.up h c⟩
end
def NQ{K:Fg}{t1 t2:Bool}{a b:c7}{xs ys:List V}{g:TG}{q:TS}{D:pd}{c:St}{H:Hp}(J:xs.length<=ys.length)(d:Nat->St->Hp->Prop)(s:d 0 c H)(z:∀i c H,i<=xs.length->d i c H->Io K t1 H a xs/\Io K t2 H b ys)
  (B:∀i x y c H p,xs[i]?=some x->ys[i]?=some y->H p=none->d i c H->g (.ref p) c (upd H p (.tup [x,y])) λh H2=>q {D with nx:=d (i+1),ct:=d (i+1),bk:=D.nx} h H2) (t:∀c H,d xs.length c H->D.nx c H) :
  ∃W:Nat->Nat->St->Hp->Prop,(∃m,W 0 m c H)/\∀i m c H,W i m c H->
   ((FE K t1 t2 a b).stop i H/\D.nx c H)\/((FE K t1 t2 a b).go i H/\∃N:St->Hp->Prop,(∀f H',N f H'->∃o,o<m/\W (i+1) o f H')/\∀x H',(FE K t1 t2 a b).yld i H x H'->g x c H' λh H2=>q {D with nx:=N,ct:=N,bk:=D.nx} h H2):=by
 refine⟨λi m c H=>m=xs.length-i/\i<=xs.length/\d i c H,⟨xs.length,by simp,eV _,s⟩,?_⟩;rintro i m c H ⟨rfl,w,p⟩;obtain⟨l,n⟩:=z i c H w p;by_cases j:i<xs.length
 ·have k:i<ys.length:=by lia
  refine .inr ⟨⟨xs,xs[i],ys,ys[i],l,by simp[j],n,by simp[k]⟩,d (i+1),λf H' C=>⟨xs.length-(i+1),by lia,rfl,j,C⟩,λx H' y=>?_⟩;obtain⟨E,v,u,r,rfl,rfl,G,I⟩:=y;exact B i v u c H E (G xs l) (I ys n) r p
 ·have e:i=xs.length:=by lia
  subst e;exact .inl ⟨⟨xs,ys,l,n,dk _⟩,t c H p⟩
def C2{h:List Nat}{k:Nat}{K:Fg}{t1 t2:Bool}{a b:c7}{xs ys:List V}{g:TG}{l:TT}{n:TE}{R:Hp->Prop}{c:St}{H:Hp}{D:c7}(o:xs.length<=ys.length)(d:Nat->St->Hp->Prop)(q:d 0 (HQ h k c) (upd H D (.lst [])))(s:∀i c H,i<=xs.length->d i c H->Io K t1 H a xs/\Io K t2 H b ys)
  (t:∀i x y c H p,xs[i]?=some x->ys[i]?=some y->H p=none->d i c H->g (.ref p) c (upd H p (.tup [x,y])) λe H2=>vP D l n {nx:=d (i+1),rt:=λ_ _=>False,ct:=d (i+1),bk:=λ_ H'=>R H'} e H2) (r:∀c H,d xs.length c H->R H) :
  ∃W:Nat->Nat->St->Hp->Prop,(∃m,W 0 m (HQ h k c) (upd H D (.lst [])))/\∀i m c H,W i m c H->
   ((FE K t1 t2 a b).stop i H/\R H)\/((FE K t1 t2 a b).go i H/\∃N:St->Hp->Prop,(∀f H',N f H'->∃j,j<m/\W (i+1) j f H')/\∀x H',(FE K t1 t2 a b).yld i H x H'->g x c H' λe H2=>vP D l n {nx:=N,rt:=λ_ _=>False,ct:=N,bk:=λ_ H'=>R H'} e H2):=
 NQ (D:={nx:=λ_ H'=>R H',rt:=λ_ _=>False}) o d q s t r
end L2
namespace Bg
open PySem PySem.Spec PyProof.Rows L2
abbrev Ig:List Str:=["row"]
abbrev CQ:List Str:=["row","word"]
def Hg(K:Fg):TS:=(eY (eR dh))
def Hh(K:Fg):TS:=(dU (gc (eA (dF ((Ap K false)) (cU 1) (eR (cQ Zo (cQ Zj (cQ Zk dh)))))) (eY (eR (cQ (dF (eJ K) (cU 0) Zb) dh))) eO) (Hg K))
def Hi(K:Fg):TS:=(dU (gc (eA (dF (jL K) (cU 1) Ze)) (eY (iN (gK K) (cQ (dF (eJ K) (cU 0) Zd) dh))) eO) (Hh K))
def Hj(K:Fg):TS:=(dU (gc (eA (dF (jL K) (cU 1) Zg)) (eY (eR (cQ (dF (eJ K) (cU 0) Zd) (cQ (dF (eJ K) (cU 0) Zm) dh)))) eO) (Hi K))
def Dy(K:Fg):TS:=(dU (eF (dF (eJ K) (cU 0) Za) (dy 1)) (Hj K))
abbrev Lh:List Str:=["row"]
abbrev FK:List Str:=["row"]
def JU(K:Fg):TS:=(eY (tC .non))
def Hk(K:Fg):TS:=(dU (gc (eA (dF ((Ap K false)) (dF (eJ K) (cU 0) Za) (eR (cQ Zh (cQ Zg (cQ Ze dh)))))) (eY (dF (eJ K) (cU 0) Zb)) eO) (JU K))
abbrev FO:List Str:=["rows","n"]
abbrev zA:List Str:=["rows","n","at"]
def E5(K:Fg):TS:=(eY (cU 2))
def E6(K:Fg):TS:=(eF (dR (xy K) [] E0 (cQ (dF (eJ K) (cU 0) (cU 2)) dh)) (dy 2))
def E7(K:Fg):TS:=(dU (xE (eA (dF (jL K) (dF (eJ K) (dF (eJ K) (cU 0) (cU 2)) Za) Zf)) (E6 K)) (E5 K))
def Bc(K:Fg):TS:=(dU (eF (cU 1) (dy 2)) (E7 K))
abbrev lR:List Str:=["rows","unset"]
abbrev uK:List Str:=["rows","unset","found","waiting","n","to"]
def Fd(K:Fg):TS:=(eY (iN OT (cQ (cU 2) dh)))
def Fe(K:Fg):TS:=(ow (GZ K "list" j9 (cU 3) (cQ (cU 5) dh)))
def wa(K:Fg):TS:=(gc (eA (dF ((L9 true)) (cU 5) (cU 2))) (dU (eF (tC (.bl true)) (sG (cU 2) (cU 5) GJ)) (Fe K)) eO)
def Ff(K:Fg):TS:=(gc (Pn (eA (dF (OP) (cU 1) (tC .non))) (eA (dF (xk K) (dR (tQ K) [] E0 (cQ (dF (eJ K) (cU 0) (cU 4)) dh)) (cU 1)))) (oj (kz K (dR (rG K) [] E0 (cQ (cU 0) (cQ (cU 4) dh)))) (dy 5) (wa K)) eO)
def Fh(K:Fg):TS:=(dU (eF (Vo K "list" Wo (cU 3)) (dy 4)) (Ff K))
def Fi(K:Fg):TS:=(dU (xE (eA (dF (L8) (iN (iE K) (cQ (cU 3) dh)) Za)) (Fh K)) (Fd K))
def Fj(K:Fg):TS:=(dU (eF (oH (cQ Za dh)) (dy 3)) (Fi K))
def Be(K:Fg):TS:=(dU (eF (Pm [(Za ,(tC (.bl true)))]) (dy 2)) (Fj K))
abbrev DQ:List Str:=["rows"]
abbrev sr:List Str:=["rows"]
def ye(K:Fg):TS:=(eY (iq [] 1 (kz K (dR (lS K) [.non] E0 (cQ (cU 0) dh))) (dy 1) (eA (dF (xk K) (dF (eJ K) (dF (eJ K) (cU 0) (cU 1)) Za) Zf)) (cU 1)))
abbrev FN:List Str:=["belt","thing"]
abbrev zz:List Str:=["belt","thing"]
def A9(K:Fg):TS:=(eY (oz (Dj K) (dF (ig K) (eR (cQ (cU 1) dh)) (cU 0)) fo (gH (iN (iE K) (cQ (cU 0) dh)))))
abbrev Ie:List Str:=["places","args","empty"]
abbrev CP:List Str:=["places","args","empty","belt","arg"]
def yb(K:Fg):TS:=(eY (cU 3))
def yc(K:Fg):TS:=(eF (dR (nG K) [] E0 (cQ (cU 3) (cQ (cU 4) dh))) (dy 3))
def yd(K:Fg):TS:=(dU (oj (kz K (cU 1)) (dy 4) (yc K)) (yb K))
def Dx(K:Fg):TS:=(dU (eF (dF (kc K) (eR (cQ (cU 2) dh)) (cU 0)) (dy 3)) (yd K))
abbrev FQ:List Str:=["one","other"]
abbrev uL:List Str:=["one","other"]
def Bf(K:Fg):TS:=(eY (iN (ON K) (cQ (iq [] 2 (Kq K (cQ (cU 0) (cQ (cU 1) dh))) (tU K 2 (jw (dy 2) (jw (dy 3) sF))) kX (Po (dF (OP) (cU 2) (tC .non)) (dF (jL K) (cU 2) (cU 3)))) dh)))
abbrev FM:List Str:=["row","names","x"]
abbrev zx:List Str:=["row","names","x"]
def E4(K:Fg):TS:=(eY (cU 1))
def rN(K:Fg):TS:=(dU (gc (eA (dF ((Ap K false)) (dF (eJ K) (cU 0) Za) (eR (cQ Zh (cQ Zg (cQ Ze dh)))))) (eY (dR (qg K) [] E0 (cQ (cU 1) (cQ (cU 2) dh)))) eO) (E4 K))
def AX(K:Fg):TS:=(dU (gc (eA (dF (jL K) (dF (eJ K) (cU 0) Za) Zn)) (eY (dR (nG K) [] E0 (cQ (cU 1) (cQ (dF (eJ K) (cU 1) (dF (eJ K) (cU 0) Zb)) dh)))) eO) (rN K))
abbrev BQ:List Str:=["names","x"]
abbrev q5:List Str:=["names","x"]
def v9(K:Fg):TS:=(eY (dR (nG K) [] E0 (cQ (iN (gK K) (cQ (iq [] 1 (kz K (cU 0)) (dy 2) kX (WQ (eA (dF (jL K) (cU 2) (cU 1))) (tC .non) (cU 2))) dh)) (cQ (cU 1) dh))))
abbrev Lg:List Str:=["code"]
abbrev zy:List Str:=["code","places","parts"]
def JR(K:Fg):TS:=(eY (iN (ON K) (cQ (iq [] 1 (kz K (cU 2)) (dy 3) kX (dR (pC K) [] E0 (cQ (cU 1) (cQ (cU 2) (cQ (cU 3) dh))))) dh)))
def JS(K:Fg):TS:=(dU (gc (Pn (eA (dF (uS) (cU 1) Zb)) (eA (dF (L8) (cU 1) (tC (.int 16))))) (eY (tC (.bl false))) eO) (JR K))
def JT(K:Fg):TS:=(dU (eF (dF (eJ K) (cU 0) Zb) (dy 2)) (JS K))
def Hf(K:Fg):TS:=(dU (eF (dF (eJ K) (cU 0) Za) (dy 1)) (JT K))
abbrev zD:List Str:=["places","parts","part"]
abbrev pV:List Str:=["places","parts","part","many","rows"]
def yD(K:Fg):TS:=(eY (G0 (dR (qd K) [] E0 (cQ (cU 4) dh))))
def yE(K:Fg):TS:=(dU (gc (u2 (tB (iN (ON K) (cQ (iq [] 1 (kz K (cU 4)) (dy 5) kX (dR (qf K) [] E0 (cQ (cU 0) (cQ (cU 1) (cQ (cU 4) (cQ (cU 5) dh)))))) dh)))) (eY (tC (.bl false))) eO) (yD K))
def yF(K:Fg):TS:=(dU (gc (eA (dF ((Ap K true)) (dF (eJ K) (dF (eJ K) (cU 4) (Sf Jj Zb)) Za) (eR (cQ Zf (cQ Zk dh))))) (eY (tC (.bl false))) eO) (yE K))
def yG(K:Fg):TS:=(dU (gc (Pn (eA (dF (uS) (cU 3) Za)) (Pn (eA (dF (L8) (cU 3) Zm)) (eA (dF (jL K) (iN (iE K) (cQ (cU 4) dh)) Za)))) (eY (tC (.bl false))) eO) (yF K))
def yH(K:Fg):TS:=(dU (eF (dF (eJ K) (cU 2) Zb) (dy 4)) (yG K))
def uv(K:Fg):TS:=(dU (eF (dF (eJ K) (cU 2) Za) (dy 3)) (yH K))
abbrev BP:List Str:=["places","parts","rows","row"]
abbrev q4:List Str:=["places","parts","rows","row","to"]
def sZ(K:Fg):TS:=(eY (Po (dF (xk K) (dF (eJ K) (cU 3) Za) Ze) (dR (pB K) [] E0 (cQ (cU 1) (cQ (cU 3) dh)))))
def Ba(K:Fg):TS:=(dU (gc (u1 (eA (dF (OS) (cU 4) (tC .non))) (u2 (tB (dR (jW K) [] E0 (cQ (cU 4) (cQ (iN (iE K) (cQ (cU 2) dh)) dh)))))) (eY (tC (.bl false))) eO) (sZ K))
def Bb(K:Fg):TS:=(dU (eF (dR (xt K) [] E0 (cQ (cU 3) dh)) (dy 4)) (Ba K))
def v8(K:Fg):TS:=(dU (gc (u2 (tB (iN (ON K) (cQ (iq [] 1 (kz K (dR (lx K) [] E0 (cQ (cU 3) dh))) (dy 5) kX (dR (jW K) [] E0 (cQ (cU 5) (cQ (cU 0) dh)))) dh)))) (eY (tC (.bl false))) eO) (Bb K))
abbrev zC:List Str:=["parts","row"]
abbrev ub:List Str:=["parts","row","k"]
def yC(K:Fg):TS:=(eY (ya (dR (jW K) [] E0 (cQ (cU 2) (cQ (iN (iE K) (cQ (cU 0) dh)) dh))) (dF (jL K) (iN (iE K) (cQ (dF (eJ K) (cU 1) Zc) dh)) (dF (eJ K) (dF (eJ K) (cU 0) (cU 2)) Za))))
def uu(K:Fg):TS:=(dU (eF (dF (eJ K) (cU 1) Zb) (dy 2)) (yC K))
abbrev vr:List Str:=["number","many"]
abbrev qs:List Str:=["number","many"]
def qI(K:Fg):TS:=(eY (ya (dF (U9) (cU 0) Za) (dF (uS) (cU 0) (cU 1))))
abbrev wR:List Str:=["row"]
abbrev nW:List Str:=["row","word"]
def vZ(K:Fg):TS:=(eY (eR dh))
def v3(K:Fg):TS:=(dU (gc (eA (dF ((Ap K false)) (cU 1) (eR (cQ Zn (cQ Zo (cQ Zj (cQ Zk dh))))))) (eY (eR (cQ (dF (eJ K) (cU 0) Zb) dh))) eO) (vZ K))
def v5(K:Fg):TS:=(dU (gc (eA (dF (jL K) (cU 1) Ze)) (eY (iN (gK K) (cQ (dF (eJ K) (cU 0) Zc) dh))) eO) (v3 K))
def v7(K:Fg):TS:=(dU (gc (eA (dF (jL K) (cU 1) Zg)) (eY (eR (cQ (dF (eJ K) (cU 0) Zc) (cQ (dF (eJ K) (cU 0) Zd) dh)))) eO) (v5 K))
def om(K:Fg):TS:=(dU (eF (dF (eJ K) (cU 0) Za) (dy 1)) (v7 K))
abbrev BN:List Str:=["rows"]
abbrev vm:List Str:=["rows","cleared","n","passed","at"]
def sV(K:Fg):TS:=(eY (tC (.bl false)))
def sW(K:Fg):TS:=(ow (Pl (cU 1) (cU 3)))
def AY(K:Fg):TS:=(eF (dF (eJ K) (dR (uV K) [] E0 (cQ (cU 0) (cQ (cU 4) dh))) Za) (dy 4))
def AZ(K:Fg):TS:=(dU (eF (tC (.bl true)) (sG (cU 3) (cU 4) GJ)) (AY K))
def A0(K:Fg):TS:=(dU (gc (eA (dF ((L9 false)) (cU 4) (cU 3))) (eY (tC (.bl true))) eO) (AZ K))
def sX(K:Fg):TS:=(dU (xE (u1 (eA (dF ((Ap K false)) (dF (eJ K) (dF (eJ K) (cU 0) (cU 4)) Za) (eR (cQ Zn (cQ Zf dh))))) (eA (dF ((L9 true)) (cU 4) (cU 1)))) (A0 K)) (sW K))
def A1(K:Fg):TS:=(dU (eF (cU 2) (dy 4)) (sX K))
def A2(K:Fg):TS:=(dU (eF EZ (dy 3)) (A1 K))
def A3(K:Fg):TS:=(dU (oj (mu (cQ (iN (iE K) (cQ (cU 0) dh)) dh)) (dy 2) (A2 K)) (sV K))
def vX(K:Fg):TS:=(dU (eF EZ (dy 1)) (A3 K))
end Bg
namespace PySem
open Sem (wp)
open AutoSeq1 (wpAny_loadPart')
section
variable{prog:dv}{w:dQ}{A:ef}{E:Zz}{s:da}
def Ja{e d:c7}{i:Nat}{f:Array cV}{x:cV}{Q:Zz}(c:s.heap.IsTupleIter e d i)(k:s.heap.IsTuple d f)(m:f[i]?=some x)
  (l:∀h',h'.IsTupleIter e d (i+1)->Heap.SameBut e s.heap h'->Q x {s with heap:=h'}):dJ (model prog w) A (dS.SmallTypes.nextOf (.ref e)) Q E s:=by
 obtain⟨o,b,g,a⟩:=id c;obtain⟨p,j,_,n,h⟩:=k;unfold dS.SmallTypes.nextOf;refine cS (e8 (name:=Str.ofString "__next__") c.typeIs F.slot_tuple_iterator_next (e9 F.slot_tuple_iterator_next c.typeIs F.entry_tuple_iterator_next ?_ (F.args_tuple_iterator_next_1 _)));show dJ _ _ (field (.ref e) 0 >>= _) _ _ s;refine cS (eM b a (x:=.ref d) rfl ?_);show dJ _ _ (if(cV.ref d==cV.none)=true then _ else _) _ _ s;rw[if_neg (show ¬((cV.ref d==cV.none)=true) from Bool.false_ne_true)];show dJ _ _ (field (.ref e) 1 >>= _) _ _ s;refine cS (eM b a (x:=.int i 0) rfl ?_);show dJ _ _ (seqItems? (.ref d) >>= _) _ _ s;refine cS (gU j h ?_);simp only[c8,m];refine cS (oR b a (by simp) (di ⟨x,rfl,di (l _ ?_ (Heap.SameBut.update ..))⟩));exact⟨_,jG _ b (Obj.isFreed_of_fields (Obj.data_mapFields a _)),(Obj.cls_mapFields ..).trans g,by rw[Obj.data_mapFields a];simp[oQ]⟩
def Dc{g f:c7}{i:Nat}{h:Array cV}{Q:Zz}(n:A.handled=none)(c:s.heap.IsTupleIter g f i)(l:s.heap.IsTuple f h)(r:h[i]?=none)
  (p:∀h' e,Heap.ExtBut g s.heap h'->(∃o,h'.get? e=some o/\o.cls=.type "StopIteration")->E (.ref e) {s with heap:=h'}):dJ (model prog w) A (dS.SmallTypes.nextOf (.ref g)) Q E s:=by
 obtain⟨u,d,q,b⟩:=id c;obtain⟨v,k,_,t,j⟩:=l;unfold dS.SmallTypes.nextOf;refine cS (e8 (name:=Str.ofString "__next__") c.typeIs F.slot_tuple_iterator_next (e9 F.slot_tuple_iterator_next c.typeIs F.entry_tuple_iterator_next ?_ (F.args_tuple_iterator_next_1 _)));show dJ _ _ (field (.ref g) 0 >>= _) _ _ s;refine cS (eM d b (x:=.ref f) rfl ?_);show dJ _ _ (if(cV.ref f==cV.none)=true then _ else _) _ _ s;rw[if_neg (show ¬((cV.ref f==cV.none)=true) from Bool.false_ne_true)];show dJ _ _ (field (.ref g) 1 >>= _) _ _ s;refine cS (eM d b (x:=.int i 0) rfl ?_);show dJ _ _ (seqItems? (.ref f) >>= _) _ _ s;refine cS (gU k j ?_);simp only[c8,r];refine cS (jC (cS (oR d b (by simp) ?_)));show dJ _ _ (newExc (.type "StopIteration") [] >>= _) _ _ _;refine cS ?_;simp only[newExc,newTuple];refine cS (fU ?_ (by size_fits));refine cS (m:=kS _ _) (i6 (a:=cV.none) (by first|rfl|(simp only[kS];rfl)) ?_)
 refine fU ?_ (by size_fits);simp only[raiseNew];refine cS (wpAny_handled ?_)
 first|rw[show A.in1.handled=none from n]|rw[n]
 refine cS (di (wpAny_throw ?_));exact p _ _ (((Heap.SameBut.update ..).extBut.push _).push _) ⟨_,dI _ rfl,rfl⟩
end
def TX{prog:dv}{w:dQ}{A:ef}(t:A.handled=none)(f g:c7)(j:g≠f)(b:Array cV) :
  Draws prog w A f [f,g] b.size (λi v=>b[i]?=some v) (λi h=>h.IsTupleIter f g i/\h.IsTuple g b) where
 live:=λ_ _ a=>let⟨o,k,_⟩:=a.1;⟨o,k⟩
 frame:=λ_ _ _ a m=>⟨a.1.at λo e=>m f (by simp) o e,let⟨o,k,r⟩:=a.2;⟨o,m g (by simp) o k,r⟩⟩
 item:=λi s Q E l a q=>Ja a.1 a.2 (x:=b[i]) (by simp[l]) λn c d=>q _ n s.toks (by simp[l]) ⟨c,a.2.extBut d.extBut j⟩ d
 done:=λs Q E a p=>Dc t a.1 a.2 (by simp) p
def Gw(e:c7)(b:Array cV)(n:Nat)(f:Option c7)(sl:Array (Option cV)) :
  Meets (dS.«enumerate.__new__» ⟨[.type "enumerate",.ref e],[]⟩) (λ_ R s=>s.heap.get? e=some {cls:=.type "tuple",dict:=f,data:=.seq b n,slots:=sl}/\
   R (.ok (.ret (.ref (s.heap.push {cls:=.type "tuple_iterator",data:=.fields #[.ref e,.int 0 0]}).objs.size)))
    {s with heap:=(s.heap.push {cls:=.type "tuple_iterator",data:=.fields #[.ref e,.int 0 0]}).push {cls:=.type "enumerate",data:=.fields #[.none,.bool false,.ref s.heap.objs.size,oQ 0,.none,.none]}}):=
 .of_wp λk w A R s h=>by
  obtain⟨l,g,d,o,m⟩:=s;obtain⟨a,h⟩:=h;have j:=sub_enumerate;have i:Heap.IsTuple (da.heap ⟨l,g,d,o,m⟩) e b:=⟨_,a,rfl,n,rfl⟩
  wp_walk using wpAny_loadPart' a
  refine wpAny_stack_any λp=>di ?_;split
  ·rename_i c _ _ _ _ _;cases(c==cV.type "enumerate")
   ·wp_walk using wpAny_loadPart' a,kh i
    exact⟨_,rfl,h⟩
   ·wp_walk using wpAny_loadPart' a,kh i
    exact⟨_,rfl,h⟩
  ·wp_walk using wpAny_loadPart' a,kh i
   exact⟨_,rfl,h⟩
def Iu{prog:dv}{w:dQ}{A:ef}{E:Zz}{s:da}{d:c7}{a:Array cV}{Q:Zz}(m:s.heap.IsTuple d a)
  (h:∀h',IsEnum h' (s.heap.objs.size+1) s.heap.objs.size 0 .none->h'.IsTupleIter s.heap.objs.size d 0->h'.objs.size=s.heap.objs.size+2->(∀b o,s.heap.get? b=some o->h'.get? b=some o)->Q (.ref (s.heap.objs.size+1)) {s with heap:=h'}) :
  dJ (model prog w) A (call (.type "enumerate") [.ref d]) Q E s:=by
 obtain⟨⟨c,e,l,q⟩,p,f,n,g⟩:=m
 replace f:c=.type "tuple":=f
 replace g:l=.seq a n:=g
 subst f g;refine callType_new F.called_enumerate (by decide) (F.typeCall_enumerate_1 _) (F.newCall_enumerate_1 _) (λj=>F.args_object_init_2 j _) F.entry_enumerate_new (Gw d a n e q) ⟨p,?_⟩;have i:(s.heap.push {cls:=.type "tuple_iterator",data:=.fields #[.ref d,.int 0 0]}).objs.size=s.heap.objs.size+1:=ka ..;show _/\_;rw[i];have k:IsEnum ((s.heap.push {cls:=.type "tuple_iterator",data:=.fields #[.ref d,.int 0 0]}).push {cls:=.type "enumerate",data:=.fields #[.none,.bool false,.ref s.heap.objs.size,oQ 0,.none,.none]}) (s.heap.objs.size+1) s.heap.objs.size 0 .none:=by
  have:=dI (s.heap.push {cls:=.type "tuple_iterator",data:=.fields #[.ref d,.int 0 0]}) (o:={cls:=.type "enumerate",data:=.fields #[.none,.bool false,.ref s.heap.objs.size,oQ 0,.none,.none]}) rfl;rw[i] at this;exact this
 refine⟨⟨_,k,rfl⟩,h _ k ⟨_,df _ (dI _ rfl),rfl,rfl⟩ (by rw[ka,i]) λb o x=>df _ (df _ x)⟩
end PySem
namespace L2
open PySem PySem.Spec PyProof.Rows
def M4(K:Fg)(a:c7):It:=
 ⟨λi H=>∃b x,fA K H a b/\b[i]?=some x,λi H x c=>∃p v,H p=none/\x=.ref p/\c=upd H p (.tup [.int (i:Nat),v])/\∀b,fA K H a b->b[i]?=some v,λi H=>∃b,fA K H a b/\b.length<=i⟩
def J1{P:dv}{w:dQ}{K:Fg}{G:List Expr}{k:Nat}{pos:Pos}(a e it:c7)(t:e≠it) :
  BU P w K (.Tuple G k pos) (M4 K a) [e,it] e (λi h=>(∃j,IsEnum h e it (i:Nat) j)/\h.IsTupleIter it a i) where
 mem:=by simp
 obj:=λi h n b g=>by
  obtain⟨⟨j,l⟩,⟨o,B,c,d⟩⟩:=n;rcases dW.mp g with rfl|g
  ·exact⟨_,l,λv z=>by have z':Data.fields _=Data.cell v:=z;cases z'⟩
  ·rw[dc.mp g];exact⟨o,B,λv z=>by rw[d] at z;cases z⟩
 keep:=λi h h' n k=>⟨let⟨j,l⟩:=n.1;⟨j,k e (by simp) _ l⟩,n.2.at λo q=>k it (by simp) o q⟩
 item:=by
  intro X J hw Z hc i m s σ H E I Q n hg;subst J hw Z;obtain⟨⟨j,l⟩,hit⟩:=n;obtain⟨xs,x,R,hx⟩:=hg;obtain⟨f,rv,p,hz⟩:=I.tuple R;obtain⟨u,hu,ru⟩:=rv.get hx;have p':s.heap.IsTuple a f.toArray:=p;have ae:i<f.toArray.size:=by have:=(cR.mp hu).1;simpa using this
  have na:a≠it:=by
   intro z;subst z;obtain⟨o,L,U,_⟩:=p';obtain⟨o',M,c2,_⟩:=hit;rw[L] at M;cases M;rw[U] at c2;injection c2 with c3;exact absurd c3 (by decide)
  have nb:e≠a:=by
   intro z;subst z;obtain⟨o,L,U,_⟩:=p';rw[l] at L;cases L;injection U with c3;exact absurd c3 (by decide)
  have Dw:=TX (prog:=X.prog) (w:=X.w) (A:=X.A.in1) (show X.A.in1.handled=none from I.ok.hd hc) it a na f.toArray;refine wpAny_pyNext_enum_itemD Dw l ⟨hit,p'⟩ ae t (by simp[t,nb]) λy Y S J B ag O ah hk=>?_;have ey:y=u:=by
   have Y:f.toArray[i]?=some y:=J;have D:f[i]?=some y:=by simpa using Y
   rw[hu] at D;exact(Option.some.inj D).symm
  subst ey;refine⟨_,rfl,?_⟩;have fT:uI X m H s.heap.objs.size:=I.fpOk (dk _) (I.hok.fresh (dk _));refine wpAny_letOwnedTupleGo_enum B λD ab C=>?_;have r:e<s.heap.objs.size:=dD l;have I1:fW X m σ H {s with heap:=D,toks:=S+1}:=I.turnedL (t':=S+1) (ch:=[e,it]) (λb o g q=>by
   have b1:b≠e:=λz=>g (by simp[z]);have b2:b≠it:=λz=>g (by simp[z]);exact(C.2 b b1).trans (hk b o b1 b2 q)) Q
  have gT:D.get? s.heap.objs.size=some {cls:=.type "tuple",data:=.seq #[.int i S,y]}:=(C.2 _ (oB r)).trans O;have I2:=I1.adopt (T:=s.heap.objs.size) (o:=.tup [.int (i:Nat),x]) fT (ze (X:=X) gT ⟨S,rfl⟩ ru);refine⟨.ref s.heap.objs.size,_,I2,rfl,⟨s.heap.objs.size,x,fT.1,rfl,rfl,λys hy=>by rw[I.tuple_inj hy R];exact hx⟩,⟨⟨y,?_⟩,?_⟩,λb g=>?_⟩
  ·have M:(((i+1:Nat):Nat):Int)=(i:Int)+1:=by lia
   show IsEnum D e it (((i+1:Nat):Nat):Int) y;rw[M];exact ab
  ·obtain⟨o,q1,q2⟩:=ag.1;exact⟨o,(C.2 it (Ne.symm t)).trans q1,q2⟩
  ·have nT:b≠s.heap.objs.size:=by
    rcases dW.mp g with rfl|g
    ·exact eg r
    ·rw[dc.mp g];obtain⟨o,B,_⟩:=hit;exact eg (dD B)
   rw[dC nT];exact(Q b g).1
 done:=by
  intro X J hw Z hc i m s σ H E I Q n hg;subst J hw Z;obtain⟨⟨j,l⟩,hit⟩:=n;obtain⟨xs,R,hx⟩:=hg;obtain⟨f,rv,p,hz⟩:=I.tuple R;have hl:=rv.length;have O:s.TypeIs (.ref e) "enumerate":=⟨_,l,rfl⟩;unfold nN;refine cS (jY (e8 (name:=Str.ofString "__next__") O F.slot_enumerate_next
   (e9 F.slot_enumerate_next O F.entry_enumerate_next ?_ (F.args_enumerate_next_1 _))))
  show dJ _ _ (field (.ref e) 2 >>= _) _ _ _;refine cS (eM l rfl (x:=.ref it) rfl ?_);refine cS (Dc (show X.A.in1.handled=none from I.ok.hd hc) hit (show s.heap.IsTuple a f.toArray from p) (by simp;lia) λY x1 eb af=>?_);obtain⟨o,B,aa⟩:=af;refine cS (iz (T:="StopIteration") (b:=true) ⟨o,B,aa⟩ oP ?_);exact di ⟨rfl,I.turnedL (t':=s.toks) (ch:=[e,it]) (λb ob g q=>eb b ob (λz=>g (by simp[z])) q) Q⟩
 self:=λ_ _ _ _ _ n h=>let⟨_,l⟩:=n.1;lW l h
section
variable{X:Cx}{elts:List Expr}{k:Nat}{tpos:Pos}
def IK(K:Fg)(c:TA):TI:=λf H R=>c f H λd b=>∃a,d=[.ref a]/\(∃e,fA K b a e)/\R (M4 K a) b
def Oz{a:Expr}{t:TA}{p pos:Pos}(y:Gl X "enumerate")(B:X.mg "enumerate"=none)(x:PA X [a] t)(D:dH [a] X.env=[(false,eval a X.env)]:=by rfl) :
  PI X (.Tuple elts k tpos) (.Call (.Name "enumerate" p) [a] [] pos) (IK X.K t):=by
 intro c s u H R I h;refine Call_ (pk I y B boot_enumerate (fL (kf (x pos c s u H _ I h) λQ d ⟨S,n,g,L,J⟩=>?_) D rfl));obtain⟨l,e,⟨T,C⟩,q⟩:=J;subst e;cases L with
 |cons r M=>
  cases M;cases r;obtain⟨m,P,G,O⟩:=g.tuple C;refine Iu (show d.heap.IsTuple l m.toArray from G) λw o j E z=>?_;refine lW o ?_;have v:fW X c u n {d with heap:=w}:=g.kept (t':=d.toks) z;refine⟨d.heap.objs.size+1,[d.heap.objs.size+1,d.heap.objs.size],_,_,n,rfl,v,J1 l _ _ (Nat.succ_ne_self _),⟨⟨.none,o⟩,j⟩,λb i=>?_,q⟩;have f:d.heap.objs.size<=b:=by
   rcases dW.mp i with rfl|i
   ·lia
   ·rw[dc.mp i];exact dk _
  exact g.fpOk f (g.hok.fresh f)
def OL{a:Expr}{b:TA}{p pos:Pos}(d:Gl X "enumerate")(e:X.mg "enumerate"=none)(c:QA X [a] b)(f:dH [a] X.env=[(false,eval a X.env)]:=by rfl):QI X (.Tuple elts k tpos) (.Call (.Name "enumerate" p) [a] [] pos) (IK X.K b):=
 ⟨Oz d e c.1 f⟩
end
def LD{K:Fg}{a:c7}{xs:List V}{g:TG}{k:TS}{D:pd}{b:St}{H:Hp}(c:Nat->St->Hp->Prop)(n:c 0 b H)(s:∀i b H,i<=xs.length->c i b H->fA K H a xs)
  (t:∀i x b H p,xs[i]?=some x->H p=none->c i b H->g (.ref p) b (upd H p (.tup [.int (i:Nat),x])) λf H2=>k {D with nx:=c (i+1),ct:=c (i+1),bk:=D.nx} f H2) (o:∀b H,c xs.length b H->D.nx b H) :
  ∃W:Nat->Nat->St->Hp->Prop,(∃m,W 0 m b H)/\∀i m b H,W i m b H->
   ((M4 K a).stop i H/\D.nx b H)\/((M4 K a).go i H/\∃N:St->Hp->Prop,(∀d H',N d H'->∃j,j<m/\W (i+1) j d H')/\∀x H',(M4 K a).yld i H x H'->g x b H' λf H2=>k {D with nx:=N,ct:=N,bk:=D.nx} f H2):=by
 refine⟨λi m b H=>m=xs.length-i/\i<=xs.length/\c i b H,⟨xs.length,by simp,eV _,n⟩,?_⟩;rintro i m b H ⟨rfl,r,p⟩;have q:=s i b H r p;by_cases h:i<xs.length
 ·refine .inr ⟨⟨xs,xs[i],q,by simp[h]⟩,c (i+1),λd H' u=>⟨xs.length-(i+1),by lia,rfl,h,u⟩,λx H' y=>?_⟩;obtain⟨w,v,l,rfl,rfl,y⟩:=y;exact t i v b H w (y xs q) l p
 ·have e:i=xs.length:=by lia
  subst e;exact .inl ⟨⟨xs,q,dk _⟩,o b H p⟩
end L2
namespace Bg
open PySem PySem.Spec PyProof.Rows L2
abbrev wV:List Str:=["row"]
abbrev vn:List Str:=["row"]
def JV(K:Fg):TS:=(eY (tC .non))
def JW(K:Fg):TS:=(dU (gc (eA (dF (jL K) (dF (eJ K) (cU 0) Za) Zj)) (eY (dF (eJ K) (cU 0) Zc)) eO) (JV K))
def wq(K:Fg):TS:=(dU (gc (eA (dF (jL K) (dF (eJ K) (cU 0) Za) Zf)) (eY (dF (eJ K) (cU 0) Zb)) eO) (JW K))
abbrev uN:List Str:=["rows","n"]
abbrev tI:List Str:=["rows","n","word"]
def HC(K:Fg):TS:=(eY (eR (cQ (dF (ig K) (cU 1) Zb) dh)))
def HD(K:Fg):TS:=(dU (gc (eA (dF (jL K) (cU 2) Zj)) (eY (eR (cQ (dF (ig K) (cU 1) Zb) (cQ (dR (tR K) [] E0 (cQ (dF (eJ K) (cU 0) (cU 1)) dh)) dh)))) eO) (HC K))
def HE(K:Fg):TS:=(dU (gc (eA (dF (jL K) (cU 2) Zf)) (eY (eR (cQ (dR (tR K) [] E0 (cQ (dF (eJ K) (cU 0) (cU 1)) dh)) dh))) eO) (HD K))
def HG(K:Fg):TS:=(dU (gc (eA (dF (jL K) (cU 2) Zk)) (eY (eR dh)) eO) (HE K))
def tS(K:Fg):TS:=(dU (eF (dF (eJ K) (dF (eJ K) (cU 0) (cU 1)) Za) (dy 2)) (HG K))
abbrev Ih:List Str:=["program","code","papers"]
abbrev CS:List Str:=["program","code","papers","places","parts","k","part","row"]
def Hm(K:Fg):TS:=(eY (tC .non))
def Hn(K:Fg):TS:=(gc (eA (dF (OS) (cU 7) (tC .non))) (eY (eR (cQ (cU 5) (cQ (cU 7) dh)))) eO)
def Ho(K:Fg):TS:=(dU (eF (dR (pD K) [] E0 (cQ (cU 3) (cQ (cU 6) (cQ (dF (eJ K) (dF (eJ K) (cU 4) (cU 5)) Zb) (cQ (dF (eJ K) (cU 2) (cU 5)) dh))))) (dy 7)) (Hn K))
def Hq(K:Fg):TS:=(dU (oj (IK K (cQ (cU 0) dh)) (tU K 2 (jw (dy 5) (jw (dy 6) sF))) (Ho K)) (Hm K))
def Hr(K:Fg):TS:=(dU (gc (eA (dF (OS) (cU 5) (tC .non))) (eY (eR (cQ (cU 5) (cQ Za dh)))) eO) (Hq K))
def Hs(K:Fg):TS:=(dU (eF (dR (sS K) [] E0 (cQ (cU 0) (cQ (cU 4) dh))) (dy 5)) (Hr K))
def Ht(K:Fg):TS:=(dU (eF (dF (eJ K) (cU 1) Zb) (dy 4)) (Hs K))
def Dz(K:Fg):TS:=(dU (eF (dF (eJ K) (cU 1) Za) (dy 3)) (Ht K))
abbrev FP:List Str:=["program","parts"]
abbrev q9:List Str:=["program","parts","takes","many","k"]
def E8(K:Fg):TS:=(eY (tC .non))
def E9(K:Fg):TS:=(gc (eA (dF (xk K) (oz (Dj K) (cU 2) (gH (cU 4)) (gH (dF (ig K) (cU 4) Zb))) (oz (Dj K) (cU 3) (gH (cU 4)) (gH (dF (ig K) (cU 4) Zb))))) (eY (cU 4)) eO)
def Fb(K:Fg):TS:=(dU (oj (mu (cQ (iN (OR) (cQ (iN (iE K) (cQ (cU 2) dh)) (cQ (iN (iE K) (cQ (cU 3) dh)) dh))) dh)) (dy 4) (E9 K)) (E8 K))
def Fc(K:Fg):TS:=(dU (eF (iq [] 1 (kz K (cU 1)) (dy 5) kX (dF (eJ K) (cU 5) Za)) (dy 3)) (Fb K))
def Bd(K:Fg):TS:=(dU (eF (iq [] 1 (kz K (cU 0)) (dy 5) kX (iN (iE K) (cQ (dF (eJ K) (cU 5) Zb) dh))) (dy 2)) (Fc K))
abbrev zE:List Str:=["places","part","codes","papers"]
abbrev uc:List Str:=["places","part","codes","papers","m"]
def yI(K:Fg):TS:=(eY (tC .non))
def yJ(K:Fg):TS:=(gc (u2 (tB (dR (qe K) [] E0 (cQ (dF (eJ K) (cU 1) Zc) (cQ (cU 2) (cQ (cU 3) (cQ (cU 4) dh))))))) (eY (cU 4)) eO)
def yK(K:Fg):TS:=(dU (oj (mu (cQ (iN (iE K) (cQ (cU 2) dh)) dh)) (dy 4) (yJ K)) (yI K))
def uw(K:Fg):TS:=(dU (gc (u2 (tB (dR (jB K) [] E0 (cQ (dF (eJ K) (cU 3) Za) (cQ (dR (jA K) [] E0 (cQ (dF (eJ K) (cU 1) Zc) (cQ Za dh))) (cQ (dR (uW K) [] E0 (cQ (cU 0) (cQ (dF (eJ K) (cU 1) Zb) (cQ (tC .non) dh)))) dh)))))) (eY Za) eO) (yK K))
abbrev wQ:List Str:=["paper","n","names"]
abbrev rS:List Str:=["paper","n","names"]
def rW(K:Fg):TS:=(eY (ya (dF (jL K) (dF (eJ K) (cU 0) Za) (cU 1)) (dR (sT K) [] E0 (cQ (dF (eJ K) (cU 0) Zb) (cQ (cU 2) dh)))))
abbrev BO:List Str:=["rows","codes","papers","m"]
abbrev oC:List Str:=["rows","codes","papers","m","code_row","n","names","plain_next","told"]
def A4(K:Fg):TS:=(eY (iN (ON K) (cQ (iq [] 2 (Kq K (cQ (dR (pG K) [] E0 (cQ (cU 1) (cQ (cU 3) dh))) (cQ (cU 7) dh))) (tU K 2 (jw (dy 9) (jw (dy 10) sF))) kX (dR (jB K) [] E0 (cQ (dF (eJ K) (cU 2) (cU 9)) (cQ (cU 10) (cQ (cU 8) dh))))) dh)))
def sY(K:Fg):TS:=(dU (eF (dR (rE K) [] E0 (cQ (cU 4) (cQ (cU 6) (cQ (dR (tQ K) [] E0 (cQ (dF (eJ K) (cU 0) (cU 5)) dh)) dh)))) (dy 8)) (A4 K))
def A5(K:Fg):TS:=(dU (gc (eA (dF ((Ap K false)) (dF (eJ K) (cU 4) Za) (eR (cQ Zn (cQ Zf dh))))) (eF (eR (cQ (cU 5) dh)) (dy 7)) (gc (u2 (tB (dR (pE K) [] E0 (cQ (dF (eJ K) (cU 0) (cU 5)) (cQ (cU 4) (cQ (cU 6) dh)))))) (eY (tC (.bl false))) (eF (iN (gK K) (cQ (iq [] 1 (kz K (dR (pG K) [] E0 (cQ (cU 0) (cQ (cU 5) dh)))) (dy 9) kX (dR (jA K) [] E0 (cQ (cU 0) (cQ (cU 9) dh)))) dh)) (dy 7)))) (sY K))
def A7(K:Fg):TS:=(dU (eF (dF (eJ K) (dF (eJ K) (cU 2) (cU 3)) Zb) (dy 6)) (A5 K))
def A8(K:Fg):TS:=(dU (eF (dF (eJ K) (dF (eJ K) (cU 2) (cU 3)) Za) (dy 5)) (A7 K))
def vY(K:Fg):TS:=(dU (eF (dF (eJ K) (cU 1) (cU 3)) (dy 4)) (A8 K))
abbrev zF:List Str:=["row","code_row","names"]
abbrev pW:List Str:=["row","code_row","names"]
def rX(K:Fg):TS:=(eY (dF (jL K) (iN (gK K) (cQ (iq [] 1 (kz K (dR (lx K) [] E0 (cQ (cU 1) dh))) (dy 3) kX (dF (eJ K) (cU 2) (cU 3))) dh)) (dR (uX K) [] E0 (cQ (cU 0) dh))))
def yL(K:Fg):TS:=(dU (gc (u1 (eA (dF ((Ap K false)) (dF (eJ K) (cU 0) Za) (eR (cQ Zh (cQ Zg (cQ Ze dh)))))) (eA (dF (xk K) (dF (eJ K) (cU 0) Zc) (dF (eJ K) (cU 1) Zb)))) (eY (tC (.bl false))) eO) (rX K))
def ux(K:Fg):TS:=(dU (gc (eA (dF (xk K) (dF (eJ K) (cU 0) Za) (dF (eJ K) (cU 1) Za))) (eY (tC (.bl false))) eO) (yL K))
end Bg
namespace PySem.SeqAt
open AutoSeq1 (wpAny_loadPart')
open MeetsSeq MeetsSeq2 MeetsSeq3 SeqRoads2
def HN{M:Model}{A:ef}{E:Zz}{s:da}{j:Type}{n:Nat}{f:Nat->j->Sem (ForInStep j)}{b:j}(I:Nat->j->da->Prop){Q:j->da->Prop}
  (g:∀i b s,i<n->I i b s->dJ M A (f i b) (λr s'=>match r with|.done c=>Q c s'|.yield c=>I (i+1) c s') E s) (k:∀b s,I n b s->Q b s) (h:I 0 b s):dJ M A (forIn ([0:n]:Std.Legacy.Range) b f) Q E s:=by
 rw[Std.Legacy.Range.forIn_eq_forIn_range'];simp only[Std.Legacy.Range.size,va,Nat.add_sub_cancel,Nat.div_one];refine iU _ (λrest b s'=>∃i,rest=List.range' i (n-i)/\i<=n/\I i b s') _ ?_ ?_ _ _ ⟨0,by simp,eV _,h⟩
 ·rintro y rest b s' ⟨i,a,p,l⟩;have d:i<n:=by
   rcases Nat.lt_or_ge i n with z|z
   ·exact z
   ·rw[Nat.sub_eq_zero_of_le z] at a;simp at a
  have o:n-i=(n-(i+1))+1:=by lia
  rw[o,List.range'_succ] at a;obtain⟨rfl,rfl⟩:=List.cons.inj a;refine iI (g y b s' d l) (λr q m=>?_) λ_ _ z=>z;cases r with
  |done c=>exact m
  |yield c=>exact⟨y+1,rfl,d,m⟩
 ·rintro b s' ⟨i,a,p,l⟩;have:n-i=0:=by
   have:=congrArg i7 a;simpa using this.symm
  have e:i=n:=by lia
  subst e;exact k b s' l
def tuple_indexAt(l:c7)(items:Array cV)(n:Nat)(r:Option c7)(sl:Array (Option cV))(x:cV)(e:Nat->Bool)(j:Nat)(D:j<items.size)
  (o:e j=true) (p:∀m,m<j->e m=false) :
  Meets (dS.«tuple.index» ⟨[.ref l,x],[]⟩)
   (λA R s=>s.heap.get? l=some {cls:=.type "tuple",dict:=r,data:=.seq items n,slots:=sl}/\(∀i (h:i<items.size),EqAt A.in1 s items[i] x (e i))/\R (.ok (.ret (.int j s.toks))) {s with toks:=s.toks+1}):=
 .of_wp λf w A R s h=>by
  obtain⟨y,g,d,B,z⟩:=s;obtain⟨v,u,h⟩:=h
  wp_walk using wpAny_loadPart' v
  refine HN (n:=min items.size items.size) (λi b q=>b.1=none/\q=⟨y,g,d,B,z⟩/\i<=j) ?_ ?_ ⟨rfl,rfl,eV _⟩
  ·rintro i b q C ⟨t,rfl,k⟩;have a:i<items.size:=by lia
   dsimp only;rw[jI a];dsimp only;refine cS (u i a f w _ _ ?_);by_cases c:i=j
   ·subst c;rw[o]
    wp_walk
    exact⟨_,rfl,h⟩
   ·rw[p i (by lia)]
    wp_walk
    exact⟨rfl,rfl,by lia⟩
  ·rintro b q ⟨t,rfl,k⟩;lia
end PySem.SeqAt
namespace L2
open PySem PySem.Spec PyProof.Rows
def Pq(K:Fg)(e:TE)(t:TA):TE:=λd H Q=>e d H λx b=>∃p a,x=.ref p/\b p=some (.tup a)/\t d b λf c=>∃y,f=[y]/\iT y=true/\a.all iT=true/\fA K c p a/\
 ∃j:Nat,(∃z,a[j]?=some z/\qx z y=true)/\(∀m,m<j->∀z,a[m]?=some z->qx z y=false)/\Q (.int (j:Nat)) c
section
variable{X:Cx}{o e:Expr}{es:List Expr}{to ta tb:TE}{t:TA}{apos cpos:Pos}
def Rm(ho:PE X o to)(ha:PA X [e] t)
  (g:iY o "index" X.env (eval o X.env)=eval o X.env:=by rfl)
  (q:((iy cpos (dH [e] X.env)).all (λx=>!x.1)&&(oO cpos (kU [] X.env)).all (λx=>x.1.isSome)
   && decide (([e]).length+([]:List j6).length+(if([]:List j6).isEmpty then 0 else 1)<30))=true:=by rfl)
  (k:(apos.endLine==cpos.line)=true:=by rfl) (hs:dH [e] X.env=(false,eval e X.env)::dH [] X.env:=by rfl) (c:(iy cpos (dH [] X.env)).any (·.1)=false:=by rfl) :
  PE X (.Call (.Attribute o "index" apos) [e] [] cpos) (Pq X.K to t):=by
 intro f s σ H Q I h;refine wpAny_Call_method_late g q k rfl (kf (ho f s σ H _ I h) λv s1 ⟨x,P,R,r1,p,C,ex,hp,q1⟩=>?_);subst ex;cases r1;obtain⟨hz,aa,rv,ob,Y,⟨co,hd⟩,n,d⟩:=(show kb X.prog X.w P s1.heap p (.tup C) from R.hok p _ hp);refine⟨"tuple","tuple.index",PySem.F.plainAttrs_tuple,PySem.F.slot_tuple_index,PySem.F.type_tuple_index,⟨ob,Y,co⟩,λa e=>by cases e;exact⟨ob,Y,hd⟩,?_⟩;have Z:=ha cpos f s1 σ P _ R q1;rw[hs] at Z ⊢;refine Calls.callWith_builtin (by show(false || (iy cpos (dH [] X.env)).any (·.1))=false;rw[c]<;>rfl) (Calls.evalArgs_plain ?_);refine kf Z λus s2 ⟨vs,H2,S,r2,y,ey,fy,fx,G,j,⟨z,l,L⟩,E,q2⟩=>?_;subst ey;obtain⟨u,rfl,ru⟩:=uE r2;obtain⟨b,B,M,_⟩:=S.tuple G;obtain⟨⟨cls,dd,data,sl⟩,W,T,n2,U⟩:=M;simp only at T U;subst T U;have l2:=B.length;have hj:j<b.length:=by have:=(cR.mp l).1;lia
 refine kQ PySem.F.slot_tuple_index ⟨_,W,rfl⟩ PySem.F.entry_tuple_index (PySem.F.args_tuple_index_2 _ _)
  (SeqAt.tuple_indexAt p b.toArray n2 dd sl u (λi=>qx ((C[i]?).getD .non) y) j (by simpa using hj) ?_ ?_) ⟨W,λi hi=>?_,⟨.int (j:Nat),H2,S.tok _,⟨_,rfl⟩,q2⟩⟩
 ·rw[l,iB];exact L
 ·intro m hm;have r:m<C.length:=by have:=(cR.mp l).1;lia
  have:=E m hm _ (cP r);rw[cP r,iB];exact this
 ·have D:i<b.length:=by simpa using hi
  have J:i<C.length:=by lia
  obtain⟨w,hw,O⟩:=B.get (cP J);have ew:b.toArray[i]=w:=by
   rw[cP D] at hw;simpa using Option.some.inj hw
  rw[ew,cP J,iB];exact Ei O ru (gd.mp fx _ (gg J)) fy
def RL(g:QE X o to)(f:QA X [e] t)
  (b:iY o "index" X.env (eval o X.env)=eval o X.env:=by rfl)
  (d:((iy cpos (dH [e] X.env)).all (λx=>!x.1)&&(oO cpos (kU [] X.env)).all (λx=>x.1.isSome)
   && decide (([e]).length+([]:List j6).length+(if([]:List j6).isEmpty then 0 else 1)<30))=true:=by rfl)
  (c:(apos.endLine==cpos.line)=true:=by rfl) (h:dH [e] X.env=(false,eval e X.env)::dH [] X.env:=by rfl) (a:(iy cpos (dH [] X.env)).any (·.1)=false:=by rfl) :
  QE X (.Call (.Attribute o "index" apos) [e] [] cpos) (Pq X.K to t):=⟨Rm g.up f.up b d c h a⟩
end
section
variable{X:Cx}{C:c7}{m x:Str}{ps:List Str}{k:Nat}{sp:Sp}{e:Expr}{es:List Expr}{t:TA}{p pos apos:Pos}
end
section
variable{prog:dv}{w:dQ}{K:Type}[DecidableEq K]{knd:KeyKind prog w K}{A:ef}{E:Zz}{s:da}
inductive xW:cV->Prop
 |int (i:Int) (t:Tok):xW (.int i t)
 |str (x:Str) (t:Tok):xW (.str x t)
def Ek{u:cV}(h:xW u):kR u=true:=by cases h<;>rfl
def HJ{h:Heap}{ks:List K}{b:c7}(x:jX knd h ks b):∃items,h.IsTuple b items:=by
 obtain⟨o,items,n,d,a,c,_⟩:=x;exact⟨items,o,d,a,n,c⟩
def Kn{ks:List K}{b:c7}{u:cV}{Q:Bool->da->Prop}(c:A.units<cLine)(x:jX knd s.heap ks b)(f:xW u)(h:Q false s):dJ (model prog w) A (eqBool (.ref b) u) Q E s:=by
 obtain⟨items,a⟩:=HJ x;cases f with
 |int i t=>exact SeqAt.EqAt.tuple_int i t a c prog w E Q h
 |str y t=>exact SeqAt.EqAt.tuple_str y t a c prog w E Q h
def DC{u:cV}{a:List cV}{Q:Bool->da->Prop}(f:xW u)(d:∀v∈a,∃c b,v=.ref b/\jX knd s.heap c b)(h:Q false s):dJ (model prog w) A (tableMayTell u a) Q E s:=by
 unfold tableMayTell;split
 ·exact di h
 ·rw[eqIsQuiet_byValue _ (Ek f)];refine cS (di ?_);simp only[Bool.not_true,Bool.false_eq_true,if_false];refine cS ?_;refine iU _ (λrest r e=>e=s/\r=(none,())/\∀v∈rest,∃c b,v=.ref b/\jX knd s.heap c b) _ ?_ ?_ _ _ ⟨rfl,rfl,d⟩
  ·rintro x rest r e ⟨rfl,rfl,g⟩;obtain⟨c,b,rfl,i⟩:=g x eG;refine cS (wpAny_eqIsQuiet_tuple i ?_);simp only[Bool.not_true,Bool.false_eq_true,if_false];exact di ⟨rfl,rfl,λv j=>g v (fc _ j)⟩
  ·rintro r e ⟨rfl,rfl,_⟩;exact di h
def LC{d:c7}{o:Obj}{es ep}{xs:List (List K×c7×cV)}{u:cV}{c:Int}{Q:Option Nat->da->Prop}(T:A.units<cLine)(f:xW u)(G:s.heap.get? d=some o)(q:o.data=.dict es ep)(R:es.toList=xs.map (qU (lb knd)))(O:∀x∈xs,jX knd s.heap x.1 x.2.1)(X:xs≠[])
  (h:Q none s):dJ (model prog w) A (dictFind d u c) Q E s:=by
 have C:∀e∈es,∃x∈xs,e=qU (lb knd) x:=by
  intro e M;have:e∈xs.map (qU (lb knd)):=R ▸ Array.mem_toList_iff.mpr M;obtain⟨x,P,rfl⟩:=jS.mp this;exact⟨x,P,rfl⟩
 have k:∀i∈i5 es.size (λi=>es[i]?.map (·.hash)) c,∃g b v,es[i]?=some ⟨c,.ref b,v⟩/\jX knd s.heap g b:=λi j=>by
  unfold i5 at j;obtain⟨n,p⟩:=ir.mp j;have n:=ja.mp n;obtain⟨x,P,e⟩:=C es[i] (Array.getElem_mem n);refine⟨x.1,x.2.1,x.2.2,?_,O x P⟩;have U:es[i]?=some es[i]:=jI n;dsimp only at p;rw[U] at p ⊢;have p:es[i].hash=c:=by simpa using p
  rw[e] at p ⊢;rw[<-p];rfl
 have l:∀v∈(i5 es.size (λi=>es[i]?.map (·.hash)) c).filterMap (λi=>es[i]?.map (·.key)),∃g b,v=.ref b/\jX knd s.heap g b:=by
  intro v W;obtain⟨i,n,j⟩:=ki.mp W;obtain⟨g,b,Y,e,B⟩:=k i n;rw[e] at j;exact⟨g,b,(by simpa using j.symm),B⟩
 unfold dictFind
 try with_reducible refine gj ?_
 refine cS (wpAny_dictEntries G q ?_);have H:((u::(i5 es.size (λi=>es[i]?.map (·.hash)) c).filterMap (λi=>es[i]?.map (·.key))).all kR)=true->i5 es.size (λi=>es[i]?.map (·.hash)) c=[]:=λa=>by
  cases S:i5 es.size (λi=>es[i]?.map (·.hash)) c with
  |nil=>rfl
  |cons i r=>
   exfalso;obtain⟨g,b,v,e,_⟩:=k i (by rw[S];exact eG);rw[gd] at a;have:=a (.ref b) (fc _ (ki.mpr ⟨i,by rw[S];exact eG,by rw[e];rfl⟩));cases this
 have D:¬(((i5 es.size (λi=>es[i]?.map (·.hash)) c).filterMap (λi=>es[i]?.map (·.key)))==[u])=true:=λz=>by
  have z:=eq_of_beq z;obtain⟨g,b,e,_⟩:=l u (by rw[z];exact eG);rw[e] at f;cases f
 have L:¬(es.all λe=>isExactStrKey e.key)=true:=λz=>by
  obtain⟨x,r,rfl⟩:∃x r,xs=x::r:=by
   cases xs with
   |nil=>exact absurd rfl X
   |cons x r=>exact⟨x,r,rfl⟩
  rw[<-Array.all_toList,R,gu,pU] at z;cases z
 have J:=f;cases f with
 |int i t=>
  dsimp only;by_cases a:((cV.int i t::(i5 es.size (λi=>es[i]?.map (·.hash)) c).filterMap (λi=>es[i]?.map (·.key))).all kR)=true
  ·rw[if_pos a,H a];unfold dictWalkPlain;exact cS (di (di h))
  ·rw[if_neg a,if_neg D];refine cS (DC J l ?_);rw[if_neg (by simp)];refine cS ?_;refine iU _ (λrest r m=>m=s/\r=(none,none)/\∀i∈rest,∃g b v,es[i]?=some ⟨c,.ref b,v⟩/\jX knd s.heap g b) _ ?_ ?_ _ _ ⟨rfl,rfl,k⟩
   ·rintro x rest r m ⟨rfl,rfl,I⟩;obtain⟨g,b,v,e,B⟩:=I x eG;rw[e];dsimp only;rw[if_pos (by simp)];refine cS (nO G q (cS (Kn T B J (cS (nO G q ?_)))));rw[if_neg (by simp)];simp only[Bool.false_eq_true,if_false];refine cS (jC ?_)
    first|rw[if_neg (by simp)]|skip
    exact di ⟨rfl,rfl,λi j=>I i (fc _ j)⟩
   ·rintro r m ⟨rfl,rfl,_⟩;exact di h
 |str y t=>
  dsimp only;rw[if_neg L];by_cases a:((cV.str y t::(i5 es.size (λi=>es[i]?.map (·.hash)) c).filterMap (λi=>es[i]?.map (·.key))).all kR)=true
  ·rw[if_pos a,H a];unfold dictWalkPlain;exact cS (di (di h))
  ·rw[if_neg a,if_neg D];refine cS (DC J l ?_);rw[if_neg (by simp)];refine cS ?_;refine iU _ (λrest r m=>m=s/\r=(none,none)/\∀i∈rest,∃g b v,es[i]?=some ⟨c,.ref b,v⟩/\jX knd s.heap g b) _ ?_ ?_ _ _ ⟨rfl,rfl,k⟩
   ·rintro x rest r m ⟨rfl,rfl,I⟩;obtain⟨g,b,v,e,B⟩:=I x eG;rw[e];dsimp only;rw[if_pos (by simp)];refine cS (nO G q (cS (Kn T B J (cS (nO G q ?_)))));rw[if_neg (by simp)];simp only[Bool.false_eq_true,if_false];refine cS (jC ?_)
    first|rw[if_neg (by simp)]|skip
    exact di ⟨rfl,rfl,λi j=>I i (fc _ j)⟩
   ·rintro r m ⟨rfl,rfl,_⟩;exact di h
end
section
variable{prog:dv}{w:dQ}{K:Type}[DecidableEq K]{knd:KeyKind prog w K}
def Ab(d:c7)(q:(d==jm)=false){u:cV}(f:xW u)(b:cV) :
  MeetsIn prog w (dS.«dict.get» ⟨[.ref d,u,b],[]⟩) (λA R s=>A.in1.units<cLine/\∃xs:List (List K×c7×cV),xs≠[]/\s.heap.DictOfH (lb knd) d xs/\∀a,R (.ok (.ret b)) {s with toks:=a}):=
 .of_wp λA R s ⟨D,xs,E,⟨o,n,G,B,H,j,z,l,I⟩,h⟩=>by
  have m:dJ (model prog w) A.in1 (dictGet d u) (λr g=>r=none/\∃a,g={s with toks:=a}) (λ_ _=>False) s:=by
   unfold dictGet
   try with_reducible refine gj ?_
   have c:∀(p:Int) (a:Nat),dJ (model prog w) A.in1 (dictFind d u p >>= λr=>match r with
     |some i=>do let n <-dictEntries d (keyPart u);pure ((n[i]?).map (·.val))
     |none=>pure none) (λr g=>r=none/\∃a,g={s with toks:=a}) (λ_ _=>False) {s with toks:=a}:=λp a=>by
    refine cS (LC (knd:=knd) (s:={s with toks:=a}) D f B j z l E ?_);exact di ⟨rfl,a,rfl⟩
   cases f with
   |int i t=>exact cS ((jk prog w).pyHash (k:=.inl i) (v:=.int i t) (x4 (k:=.inl i) ⟨t,rfl⟩) (c _ _))
   |str y t=>exact cS ((jk prog w).pyHash (k:=.inr y) (v:=.str y t) (x4 (k:=.inr y) ⟨t,rfl⟩) (c _ _))
  show dJ _ _ (dictGet d u >>= _) _ _ s;refine cS (iI m (λr g C=>?_) (λe g x=>False.elim x));obtain⟨rfl,a,rfl⟩:=C;show dJ _ _ (dS.Dict.missed d u >>= _) _ _ _;exact cS (wpAny_missed_other q (di ⟨b,rfl,h a⟩))
end
def Vw(H:Hp)(a:c7)(y:V):Prop:=∃b:List (List iC×V),b≠[]/\H a=some (.dT b)/\((∃i,y=.int i)\/∃x,y=.str x)
def zd(f h g:TE):TE:=λc H Q=>f c H λx d=>∃a,x=.ref a/\WT d a/\h c d λy e=>g c e λz b=>(∃o,vi b a y o/\Q (o.getD z) b)\/(Vw b a y/\Q z b)
section
variable{X:Cx}{o e f:Expr}{apos cpos:Pos}{td ty tx:TE}
def QD{b:List (c7×Obj)}{l:St}{H:Hp}{s:da}{a:c7}{y d:V}{u r:cV}{A:ef}{E:Zz}{Q:Zz}(o:A.units+1<cLine)(I:fW X b l H s)(g:Vw H a y)(j:hV y u)(B:hV d r)(h:∀s',fW X b l H s'->Q r s') :
  dJ (model X.prog X.w) A (call (.builtin "dict.get") [.ref a,u,r]) Q E s:=by
 obtain⟨p,v,e,m⟩:=g;obtain⟨z,n,k,rel,c⟩:=SQ I.hok e;have f:xW u:=by
  rcases m with⟨i,rfl⟩|⟨x,rfl⟩
  ·obtain⟨t,rfl⟩:=j;exact .int i t
  ·obtain⟨t,rfl⟩:=j;exact .str x t
 have nx:k≠[]:=λq=>v (by have:=Paired.length rel;rw[q] at this;exact fG.mp this);exact qT kF c.typeIs mh (lP _ _ _) (Ab (knd:=m9 X.prog X.w) a n f r) ⟨o,k,nx,c,λC=>h _ (I.tok _)⟩
def L7(r:X.A.units+1<cLine)(E:QE X o td)(C:QE X e ty)(D:QE X f tx)(m:M2 X o "get" apos e f cpos):QE X (.Call (.Attribute o "get" apos) [e,f] [] cpos) (zd td ty tx):=⟨by
 intro b s l H Q I h;refine wpAny_Call_method m.base m.few m.line PySem.F.plainAttrs_dict kF PySem.F.type_dict_get (kf (E.up b s l H _ I h) λu L ⟨x,v,p,K,a,ex,d,G⟩=>?_);subst ex;obtain rfl:u=cV.ref a:=K;obtain⟨P,R,_⟩:=N3 p d;refine⟨P,R,?_⟩;rw[m.trees];refine Calls.callWith_builtin rfl (Calls.evalArgs_plain (Calls.spliced_cons (kf (C.up b L l v _ p G) λT M ⟨y,w,B,t,J⟩=>
  Calls.spliced_cons (kf (D.up b M l w _ B J) λS W ⟨z,n,q,k,c⟩=>Calls.spliced_nil ?_))))
 rcases c with⟨U,g,c⟩|⟨g,c⟩
 ·exact TQ r q g t k λY O i j=>⟨_,n,i,j,c⟩
 ·exact QD r q g t k λO i=>⟨_,n,i,k,c⟩⟩
end
end L2
namespace BgRev
open PySem
def Au:Manifest.owners.lookup (String.ofList ['d','e','s','r','e','v','e','r'].reverse)=some Manifest.sig_reversed:=by kernel_rfl
def vN:Slot "reversed" "__next__" "reversed.__next__":=
 .of (owner:="reversed") (n:="__next__") (by rw[ku,iR];kernel_rfl) (by decide +kernel) (by decide +kernel)
  (by decide +kernel) (by first|exact .inl (by decide +kernel)|exact .inr (by decide +kernel))
  (by rw[kT];kernel_rfl)
def uj:entryFor table "reversed.__next__"=some dS.«reversed.__next__»:=entryFor_of_tree (by kernel_rfl)
def vO(v:cV):argsOk "reversed.__next__" ⟨[v],[]⟩:=by
 unfold argsOk;rw[signature?_of (id:="reversed.__next__") (n:=['_','_','t','x','e','n','_','_']) (o:=['d','e','s','r','e','v','e','r']) (by kernel_rfl) Au]
 kernel_rfl
def KI:Slot "reversed" "__iter__" "reversed.__iter__":=
 .of (owner:="reversed") (n:="__iter__") (by rw[ku,iR];kernel_rfl) (by decide +kernel) (by decide +kernel)
  (by decide +kernel) (by first|exact .inl (by decide +kernel)|exact .inr (by decide +kernel))
  (by rw[kT];kernel_rfl)
def Cs:entryFor table "reversed.__iter__"=some dS.«dict_keyiterator.__iter__»:=
 entryFor_alias (id':="dict_keyiterator.__iter__") (by kernel_rfl) rfl (by decide +kernel) (by kernel_rfl)
def EM(v:cV):argsOk "reversed.__iter__" ⟨[v],[]⟩:=by
 unfold argsOk;rw[signature?_of (id:="reversed.__iter__") (n:=['_','_','r','e','t','i','_','_']) (o:=['d','e','s','r','e','v','e','r']) (by kernel_rfl) Au]
 kernel_rfl
def R7:Slot "reversed" "__init__" "object.__init__":=
 .of (owner:="object") (n:="__init__") (by rw[ku,iR];kernel_rfl) (by decide +kernel) (by decide +kernel)
  (by decide +kernel) (by first|exact .inl (by decide +kernel)|exact .inr (by decide +kernel))
  (by rw[kT];kernel_rfl)
def xp:TypeCalled "reversed" "reversed.__new__" "object.__init__":=
 ⟨by decide +kernel,by decide +kernel,⟨_,_,F.mro_reversed⟩,F.made_reversed,by decide +kernel,by rw[kT];kernel_rfl,R7⟩
def SC:typeLookup (.type "tuple") "__reversed__"=pure none:=by rw[ku,iR];kernel_rfl
end BgRev
namespace BgRev
open PySem PyProof.Rows
section
variable{prog:dv}{w:dQ}{A:ef}{E:Zz}{s:da}
def rvObj(l:c7)(i:Int):Obj:={cls:=.type "reversed",data:=.fields #[.ref l,oQ i]}
def Q8{l:c7}{d:Array cV}{Q:Zz}(f:mG s.heap l d)(hz:(d.size:Int)<2 ^ 63)
  (h:Q (.ref s.heap.objs.size) {s with heap:=s.heap.push (rvObj l ((d.size:Int)-1)),toks:=s.toks+1+1}) :
  mZ (model prog w) A (.call (.builtin "reversed.__new__") ⟨[.type "reversed",.ref l],[]⟩) (wants Q E) s:=by
 refine codeAny_of_tree ?_;show dJ _ A.in1 (checkBuiltinCall "reversed.__new__" ⟨[.type "reversed",.ref l],[]⟩ >>= λ_=>again (.builtin "reversed.__new__" ⟨[.type "reversed",.ref l],[]⟩)) _ _ s;refine cS (i6 (F.newCall_reversed_1 _) (di ⟨m5 F.plain_reversed_new _,nK F.entry_reversed_new ?_⟩));rw[ef.under_plainId F.plain_reversed_new _];unfold dS.«reversed.__new__»;refine cS (i6 (newClass_reversed _) ?_)
 try dsimp only
 refine cS (i6 (a:=()) (by first|rfl|kernel_rfl) ?_)
 refine cS (i6 (a:=()) (by first|rfl|kernel_rfl) ?_)
 try dsimp only
 have e:s.TypeIs (.ref l) "tuple":=f.typeIs;refine cS (gJ e SC ?_);refine cS ?_
 wp_delta
 refine cS (iz (T:="tuple") (b:=false) e F.sub_tuple_dict ?_);simp only[Bool.false_eq_true,if_false];refine cS (gJ e F.slot_tuple_getitem.lookup ?_);refine kv (λ_=>?_) (λc=>absurd (by decide +kernel) c);refine di ?_;simp only[Bool.not_true,Bool.false_eq_true,if_false];refine cS (len_tuple f hz ?_);refine cS (i6 (a:=some (d.size:Int)) rfl ?_);dsimp only;refine cS ?_;unfold dS.SmallTypes.newRecord;exact fU (di h)
def RvAt(h:Heap)(it l:c7)(i:Int):Prop:=h.get? it=some {cls:=.type "reversed",dict:=none,data:=.fields #[.ref l,.int i 0],slots:=#[]}
def RvAt.type{it l:c7}{i:Int}(x:RvAt s.heap it l i):s.TypeIs (.ref it) "reversed":=⟨_,x,rfl⟩
def call_rev{l:c7}{a:Array cV}{Q:Zz}(d:mG s.heap l a)(hz:(a.size:Int)<2 ^ 63)
  (h:∀e,Q (.ref s.heap.objs.size) {s with heap:=s.heap.push (rvObj l ((a.size:Int)-1)),toks:=e}):dJ (model prog w) A (call (.type "reversed") [.ref l]) Q E s:=by
 refine callType_codes (Q₁:=λv c=>v=.ref s.heap.objs.size/\c={s with heap:=s.heap.push (rvObj l ((a.size:Int)-1)),toks:=s.toks+1+1}) xp (F.typeCall_reversed_1 _) F.entry_object_init
  (Q8 d hz ⟨rfl,rfl⟩) ?_
 rintro obj c ⟨rfl,rfl⟩;have b:da.TypeIs {s with heap:=s.heap.push (rvObj l ((a.size:Int)-1)),toks:=s.toks+1+1} (.ref s.heap.objs.size) "reversed":=⟨_,dI _ rfl,rfl⟩;exact⟨b,F.args_object_init_2 _ _,object_init_meets xp.init.lookup xp.made (by decide) prog w A.in1 _ _ ⟨b,rfl,h _⟩⟩
def next_rev{it l:c7}{i:Nat}{b:Array cV}{x:cV}{Q:Option cV->da->Prop}(a:RvAt s.heap it l (i:Int))(d:mG s.heap l b)
  (hz:(b.size:Int)<2 ^ 63) (e:b[i]?=some x) (h:∀h' o,RvAt h' it l ((i:Int)-1)->Heap.SameBut it s.heap h'->Q (some x) {s with heap:=h',toks:=o}):dJ (model prog w) A (nN (.ref it)) Q E s:=by
 unfold nN;refine cS (jY (e8 (name:=Str.ofString "__next__") a.type vN (e9 vN a.type uj ?_ (vO _))));unfold dS.«reversed.__next__»;refine cS (m:=slotArgs _ _ _) (di ?_);refine cS (eM a rfl (x:=.ref l) rfl ?_);refine cS (eM a rfl (x:=.int (i:Int) 0) rfl ?_);dsimp only;rw[if_neg (by omega)];have n:s.TypeIs (.ref l) "tuple":=d.typeIs;refine cS (gJ n F.slot_tuple_getitem.lookup ?_);simp only[Option.isNone_some,Bool.false_eq_true,if_false];have k:i<b.size:=(Array.getElem?_eq_some_iff.mp e).1;refine cS (wpAny_mkInt ?_);refine cS (jY (getItem_tuple (s:={s with toks:=s.toks+1}) (j:=i) d (by omega) (by omega) (by unfold seqIndex?;rw[if_neg (show ¬((i:Int)<0) by omega)];simp;omega) e ?_));dsimp only;refine cS (eM a rfl (x:=.int (i:Int) 0) rfl ?_);dsimp only;refine cS (jD (s:={s with toks:=s.toks+1}) a (by simp) λg f c=>?_);refine di ⟨_,rfl,di (h g _ ?_ c)⟩;unfold RvAt;rw[f];simp[oQ]
def stop_rev{it l:c7}{Q:Option cV->da->Prop}(h:A.handled=none)(c:RvAt s.heap it l (-1))(g:∀h',Heap.ExtBut it s.heap h'->Q none {s with heap:=h'}):dJ (model prog w) A (nN (.ref it)) Q E s:=by
 unfold nN;refine cS (jY (e8 (name:=Str.ofString "__next__") c.type vN (e9 vN c.type uj ?_ (vO _))));unfold dS.«reversed.__next__»;refine cS (m:=slotArgs _ _ _) (di ?_);refine cS (eM c rfl (x:=.ref l) rfl ?_);refine cS (eM c rfl (x:=.int (-1) 0) rfl ?_);dsimp only;rw[if_pos (by decide)];refine cS (jC ?_);refine cS ?_
 wp_delta
 refine cS (jD c (by simp) λj f d=>?_);refine jD f (by simp) λk i e=>?_;refine cS ?_;unfold dS.SmallTypes.stopIteration;refine cS ?_;simp only[newExc,newTuple];refine cS (fU ?_ (by size_fits));refine cS (m:=kS _ _) (i6 (a:=cV.none) (by first|rfl|(simp only[kS];rfl)) ?_)
 refine fU ?_ (by size_fits);simp only[raiseNew];refine cS (wpAny_handled ?_);rw[show A.in1.handled=none from h];refine cS (di (wpAny_throw ?_));refine cS (iz (T:="StopIteration") (b:=true) ⟨_,dI _ rfl,rfl⟩ oP ?_);exact di (g _ (((d.trans e).extBut.push _).push _))
def self_rev{it l:c7}{i:Int}{Q:Zz}(a:RvAt s.heap it l i)(h:Q (.ref it) s):dJ (model prog w) A (pyIter (.ref it)) Q E s:=by
 refine wpAny_pyIter_slot a.type KI (e9 KI a.type Cs ?_ (EM _));show dJ _ _ (ret (.ref it)) _ _ s;exact di ⟨_,rfl,"reversed",_,a.type,vN.lookup,h⟩
end
end BgRev
namespace L2
open PySem PySem.Spec PyProof.Rows
def M5(K:Fg)(a:c7)(xs:List V):It:=
 ⟨λi H=>fA K H a xs/\i<xs.length,λi H x b=>b=H/\xs.reverse[i]?=some x,λi H=>fA K H a xs/\xs.length<=i⟩
def PP{P:dv}{w:dQ}{K:Fg}{tg:Expr}(a it:c7)(xs:List V)(aa:xs.length<=c6):BU P w K tg (M5 K a xs) [it] it (λi h=>BgRev.RvAt h it a ((xs.length:Int)-1-(i:Int))/\i<=xs.length) where
 mem:=by simp
 obj:=λi h c b g=>by
  have e:b=it:=by simpa using g
  subst e;exact⟨_,c.1,λv z=>by have z':Data.fields _=Data.cell v:=z;cases z'⟩
 keep:=λi h m c k=>⟨k it (by simp) _ c.1,c.2⟩
 item:=by
  intro X D L C R i f s Y H E I n c G;subst D L C;obtain⟨T,S⟩:=G;obtain⟨j,U,p,hz⟩:=I.tuple T;have rl:=U.length;obtain⟨x,M⟩:∃x,xs[xs.length-1-i]?=some x:=⟨_,cP (by lia)⟩;obtain⟨u,hu,ru⟩:=U.get M;obtain⟨q,r,f2,t,y,B⟩:=n it (by simp);have d:=c.1;rw[show(xs.length:Int)-1-(i:Int)=((xs.length-1-i:Nat):Int) by lia] at d;have O:(j.toArray.size:Int)<2 ^ 63:=by
   have:j.toArray.size<=c6:=by rw[dq,<-rl];exact hz
   have h2:c6<2 ^ 63:=by decide
   lia
  refine BgRev.next_rev d p O (x:=u) (by simpa using hu) λm Q l sb=>?_;have Z:fW X f Y H {s with heap:=m,toks:=Q}:=I.turned (t':=Q) (λb o g e=>(sb.2 b g).trans e) q r t y B;have J:xs.reverse[i]?=some x:=by
   rw[List.getElem?_reverse S];exact M
  refine⟨u,rfl,Kp (s:={s with heap:=m,toks:=Q}) l rfl rfl (by decide) ⟨x,H,Z,ru,⟨rfl,J⟩,⟨?_,S⟩,λb g=>(n b g).1⟩⟩;rw[show(xs.length:Int)-1-((i+1:Nat):Int)=((xs.length-1-i:Nat):Int)-1 by lia];exact l
 done:=by
  intro X D L C R i f s Y H E I n c G;subst D L C;obtain⟨T,M⟩:=G;obtain⟨q,r,f2,t,y,B⟩:=n it (by simp);have d:=c.1;have ab:=c.2;rw[show(xs.length:Int)-1-(i:Int)=-1 by lia] at d;exact BgRev.stop_rev (I.ok.hd R) d λm eb=>⟨rfl,I.turned (t':=s.toks) (λb o g e=>eb b o g e) q r t y B⟩
 self:=λ_ _ _ _ _ c h=>BgRev.self_rev c.1 h
section
variable{X:Cx}{tg:Expr}
def N0(K:Fg)(d:TA):TI:=λf H R=>d f H λe b=>∃a c,e=[.ref a]/\fA K b a c/\R (M5 K a c) b
def Rt{a:Expr}{n:TA}{p pos:Pos}(y:Gl X "reversed")(z:X.mg "reversed"=none)(w:PA X [a] n)(C:dH [a] X.env=[(false,eval a X.env)]:=by rfl) :
  PI X tg (.Call (.Name "reversed" p) [a] [] pos) (N0 X.K n):=by
 intro g s L H R I h;refine Call_ (pk I y z boot_reversed (fL (kf (w pos g s L H _ I h) λO d ⟨P,v,i,E,D⟩=>?_) C rfl));obtain⟨l,u,e,B,q⟩:=D;subst e;cases E with
 |cons r G=>
  cases G;cases r;obtain⟨c,J,p,k⟩:=i.tuple B;have m:=J.length;have j:(c.toArray.size:Int)<2 ^ 63:=by
   have:c.toArray.size<=c6:=by rw[dq,<-m];exact k
   have M:c6<2 ^ 63:=by decide
   lia
  refine BgRev.call_rev p j λt=>?_;have f:BgRev.RvAt (d.heap.push (BgRev.rvObj l ((c.toArray.size:Int)-1))) d.heap.objs.size l ((u.length:Int)-1-((0:Nat):Int)):=by
   have:(d.heap.push (BgRev.rvObj l ((c.toArray.size:Int)-1))).get? d.heap.objs.size=some (BgRev.rvObj l ((c.toArray.size:Int)-1)):=dI _ rfl;unfold BgRev.RvAt;rw[this,dq,<-m];simp[BgRev.rvObj,oQ]
  refine BgRev.self_rev (s:={d with heap:=d.heap.push (BgRev.rvObj l ((c.toArray.size:Int)-1)),toks:=t}) f ?_;refine⟨d.heap.objs.size,[d.heap.objs.size],_,_,v,rfl,i.kept (t':=t) λb o e=>df _ e,PP l _ u k,⟨f,eV _⟩,λb x=>?_,q⟩;have e:b=d.heap.objs.size:=by simpa using x
  subst e;exact i.fpOk (dk _) (i.hok.fresh (dk _))
def RP{a:Expr}{b:TA}{p pos:Pos}(d:Gl X "reversed")(e:X.mg "reversed"=none)(c:QA X [a] b)(f:dH [a] X.env=[(false,eval a X.env)]:=by rfl) :
  QI X tg (.Call (.Name "reversed" p) [a] [] pos) (N0 X.K b):=⟨Rt d e c.up f⟩
end
def QQ{K:Fg}{a:c7}{xs:List V}{g:TG}{k:TS}{D:pd}{b:St}{H:Hp}(c:Nat->St->Hp->Prop)(l:c 0 b H)(r:∀i b H,i<=xs.length->c i b H->fA K H a xs)
  (s:∀i x b H,xs.reverse[i]?=some x->c i b H->g x b H λf H2=>k {D with nx:=c (i+1),ct:=c (i+1),bk:=D.nx} f H2) (n:∀b H,c xs.length b H->D.nx b H) :
  ∃W:Nat->Nat->St->Hp->Prop,(∃m,W 0 m b H)/\∀i m b H,W i m b H->
   ((M5 K a xs).stop i H/\D.nx b H)\/((M5 K a xs).go i H/\∃N:St->Hp->Prop,(∀d H',N d H'->∃j,j<m/\W (i+1) j d H')/\∀x H',(M5 K a xs).yld i H x H'->g x b H' λf H2=>k {D with nx:=N,ct:=N,bk:=D.nx} f H2):=by
 refine⟨λi m b H=>m=xs.length-i/\i<=xs.length/\c i b H,⟨xs.length,by simp,eV _,l⟩,?_⟩;rintro i m b H ⟨rfl,o,p⟩;have q:=r i b H o p;by_cases h:i<xs.length
 ·refine .inr ⟨⟨q,h⟩,c (i+1),λd H' t=>⟨xs.length-(i+1),by lia,rfl,h,t⟩,λx H' y=>?_⟩;obtain⟨e,y⟩:=y;subst e;exact s i x b _ y p
 ·have e:i=xs.length:=by lia
  subst e;exact .inl ⟨⟨q,dk _⟩,n b H p⟩
end L2
namespace BgRev
open PySem PySem.Calls PyProof.Rows PyProof.V PySem.Spec
def Mn:typeLookup (.type "reversed") "__len__"=pure none:=by rw[ku,iR];kernel_rfl
def EK:Slot "reversed" "__length_hint__" "reversed.__length_hint__":=
 .of (owner:="reversed") (n:="__length_hint__") (by rw[ku,iR];kernel_rfl) (by decide +kernel) (by decide +kernel)
  (by decide +kernel) (by first|exact .inl (by decide +kernel)|exact .inr (by decide +kernel))
  (by rw[kT];kernel_rfl)
def Cr:entryFor table "reversed.__length_hint__"=some dS.«reversed.__length_hint__»:=entryFor_of_tree (by kernel_rfl)
def EL(v:cV):argsOk "reversed.__length_hint__" ⟨[v],[]⟩:=by
 unfold argsOk;rw[signature?_of (id:="reversed.__length_hint__") (n:=['_','_','t','n','i','h','_','h','t','g','n','e','l','_','_']) (o:=['d','e','s','r','e','v','e','r']) (by kernel_rfl) Au]
 kernel_rfl
section
variable{prog:dv}{w:dQ}{A:ef}{E:Zz}{s:da}{r l:c7}
def RvAt.at{h h':Heap}{it l:c7}{i:Int}(x:RvAt h it l i)(e:∀o,h.get? it=some o->h'.get? it=some o):RvAt h' it l i:=e _ x
def NX{c:Array cV}{Q:Bool->da->Prop}(n:mG s.heap l c)(e:RvAt s.heap r l ((c.size:Int)-1))(o:c.size<=c6)(h:∀b p,Q b {s with toks:=p}):dJ (model prog w) A (dS.List.listLengthHint (.ref r)) Q E s:=by
 unfold dS.List.listLengthHint;refine cS (gJ e.type Mn ?_);refine kv (λd=>absurd d (by decide)) (λ_=>?_);refine kv (λd=>absurd d (by decide)) (λ_=>?_);refine cS (gJ e.type EK.lookup ?_);generalize f:("reversed.__length_hint__":String)=g
 wp_delta
 rw[show splitId g=some ("reversed","__length_hint__") from by subst f;decide +kernel];subst f;refine cS (iz (T:="reversed") (b:=true) e.type (by rw[kT];kernel_rfl) ?_);refine kv (λd=>absurd d (by decide)) (λ_=>?_);refine kv (λd=>absurd d (by decide +kernel)) (λ_=>?_);refine cS (jC ?_);refine cS (i6 (EK.bind _) ?_);refine cS (jY (e9 EK e.type Cr ?_ (EL _)));unfold dS.«reversed.__length_hint__»;have i:(c.size:Int)<2 ^ 63:=by
  have q:c6<2 ^ 63:=by decide
  lia
 refine cS (i6 (a:=cV.ref r) rfl ?_);refine cS (eM e rfl (x:=.ref l) rfl ?_);rw[if_neg (show ¬(cV.ref l==cV.none)=true from λz=>nomatch eq_of_beq z)];refine cS (len_tuple n i ?_);refine cS (i6 (a:=some (c.size:Int)) rfl ?_);dsimp only;refine cS (eM e rfl (x:=.int ((c.size:Int)-1) 0) rfl ?_);dsimp only;rw[if_neg (by lia)];refine cS (wpAny_mkInt ?_);refine di ⟨_,rfl,?_⟩;rw[show(c.size:Int)-1+1=(c.size:Int) by lia];have j:dS.List.listFitsIndex (c.size:Int)=true:=by
  unfold dS.List.listFitsIndex;rw[Bool.and_eq_true,decide_eq_true_iff,decide_eq_true_iff];exact⟨by lia,i⟩
 have k:dS.List.listTooLong (c.size:Int).toNat=false:=by
  unfold dS.List.listTooLong;rw[decide_eq_false_iff_not,c8];exact Nat.not_lt.mpr o
 have m:¬((c.size:Int)<0):=by lia
 simp only[asInt?,pure_bind,j,k,m,Bool.not_true,Bool.false_eq_true,if_false];exact di (h _ _)
def Walks.tupRev(y:A.handled=none)(I l:c7)(n:l≠I)(items:Array cV)(hz:(items.size:Int)<2 ^ 63) :
  Walks prog w A I [I,l] [I] items.size (λi v=>items[items.size-1-i]?=some v) (λi h=>i<=items.size/\RvAt h I l ((items.size:Int)-1-(i:Int))/\mG h l items) where
 sub:=λb d=>by simp at d;simp[d]
 frame:=λ_ _ _ x r=>⟨x.1,r I (by simp) _ x.2.1,let⟨o,q,p⟩:=x.2.2;⟨o,r l (by simp) o q,p⟩⟩
 item:=λi s Q E z x f=>by
  have e:(items.size:Int)-1-(i:Int)=((items.size-1-i:Nat):Int):=by lia
  have a:=x.2.1;rw[e] at a;have t:items[items.size-1-i]?=some (items[items.size-1-i]'(by lia)):=jI (by lia);refine next_rev a x.2.2 hz t λk B c g=>?_;have u:((items.size-1-i:Nat):Int)-1=(items.size:Int)-1-((i+1:Nat):Int):=by lia
  rw[u] at c;exact f _ k B t ⟨z,c,let⟨o,q,p⟩:=x.2.2;⟨o,(g.2 l n).trans q,p⟩⟩ λb o d j=>g.extBut b o (λh=>d (by simp[h])) j
 done:=λs Q E x f=>by
  have e:(items.size:Int)-1-(items.size:Int)=-1:=by lia
  have a:=x.2.1;rw[e] at a;exact stop_rev y a λk m=>f k s.toks λb o d j=>m b o (λh=>d (by simp[h])) j
 self:=λ_ _ _ _ x f=>self_rev x.2.1 f
def Ju{items:Array cV}{R:Result->da->Prop}(hh:A.handled=none)(O:mG s.heap l items)(j:RvAt s.heap r l ((items.size:Int)-1))(J:l≠r)(S:c7)(u:S≠r)(H:S≠l)(res:cV)(k:Nat)(E:s.heap.get? S=some {cls:=.type "list",data:=.seq #[] k})
  (Z:∀h' C a q,(∀b o,b≠S->b≠r->s.heap.get? b=some o->h'.get? b=some o)->h'.get? S=some {cls:=.type "list",dict:=none,data:=.seq a q,slots:=#[]}->ItemsOf (λi v=>items[items.size-1-i]?=some v) a items.size->R (.ok (.ret res)) {s with heap:=h',toks:=C}) (Q:items.size<=c6) :
  dJ (model prog w) A.in1 (dS.List.listExtendWith (.ref S) (.ref r) res)
   (λD s'=>match D with|.done f=>R (.ok f) s'|.again q=>q.quiet=true/\mZ (model prog w) A q R s') (λe s'=>R (.error e) s') s:=by
 have t:S∉[r,l]:=by simp only[dW,gq,or_false,not_or];exact⟨u,H⟩
 have hz:(items.size:Int)<2 ^ 63:=by
  have M:c6<2 ^ 63:=by decide
  lia
 have W:=Walks.tupRev (prog:=prog) (w:=w) (A:=A.in1) hh r l J items hz;have z:∀(h:Heap) (c C:Nat),(0<=items.size/\RvAt h r l ((items.size:Int)-1-((0:Nat):Int))/\mG h l items)->(∀b o,b≠S->s.heap.get? b=some o->h.get? b=some o)->
   h.get? S=some {cls:=.type "list",data:=.seq #[] c}->mZ (model prog w) A (.builtin "list.extend.loop" ⟨[.ref S,.ref r,res],[]⟩) R {s with heap:=h,toks:=C}:=by
  intro h c C K hk m;refine codeAny_extend_loopS W.toS Q S t res items.size 0 _ #[] c rfl (eV _) K m (ItemsOf.nil _) λs' a q P G x=>?_;rw[Moved.eq_with P];refine Z s'.heap s'.toks a q (λb o p I e=>P.heap b o (λg=>?_) (hk b o p e)) G x;rcases dW.mp g with U|g
  ·exact p U
  ·exact I (dc.mp g)
 have B:0<=items.size/\RvAt s.heap r l ((items.size:Int)-1-((0:Nat):Int))/\mG s.heap l items:=⟨eV _,(by have e:(items.size:Int)-1-((0:Nat):Int)=(items.size:Int)-1:=(by lia);rw[e];exact j),O⟩;unfold dS.List.listExtendWith;refine cS (oA (T:="reversed") j.type ?_);have X:dS.List.listSameRef (.ref S) (.ref r)=false:=by simp[dS.List.listSameRef,u]
 have M:(cV.type "reversed"==cV.type "list")=false:=by decide
 have Y:(cV.type "reversed"==cV.type "tuple")=false:=by decide
 simp only[X,M,Y,Bool.or_false,Bool.false_eq_true,if_false];refine cS (self_rev j ?_);refine cS (gj (NX O j Q λbb L=>?_));refine kv (λ_=>?_) (λ_=>di ⟨m5 PySem.F.plain_extend_loop _,z _ k _ B (λb o _ e=>e) E⟩);refine cS (jC ?_);refine cS ?_;show dJ _ _ (updateSeq S (·.push .none) >>= λ_=>updateSeq S (·.pop)) _ _ _;refine cS (wpAny_updateSeq (s:={s with toks:=L}) E rfl ?_);have d:=jG (Obj.mapSeq (·.push cV.none)) E rfl;refine wpAny_updateSeq (hz:=by seq_fits) d rfl ?_;have n:=jG (Obj.mapSeq (·.pop)) d rfl;refine di ⟨m5 PySem.F.plain_extend_loop _,z _ _ _ ?_ (λb o p e=>?_) n⟩
 ·refine W.frame 0 _ _ B λb p o e=>?_;have y:b≠S:=λh=>t (h ▸ p);exact(iJ _ _ (Ne.symm y)).trans ((iJ _ _ (Ne.symm y)).trans e)
 ·exact(iJ _ _ (Ne.symm p)).trans ((iJ _ _ (Ne.symm p)).trans e)
end
end BgRev
namespace L2
open PySem PySem.Spec PyProof.Rows
section
variable{X:Cx}
end
end L2
namespace PySem.W
open PySem PySem.Calls PyProof.Rows PyProof.V PySem.Spec Builtin Builtin.Str Builtin.Int
section
variable{prog:dv}{w:dQ}{A:ef}{E:Zz}{s:da}{r l:c7}
end
end PySem.W
namespace L2
open PySem PySem.Spec PyProof.Rows
section
variable{X:Cx}
end
end L2
namespace BgRev
open PySem PySem.Calls PyProof.Rows PyProof.V PySem.Spec
section
variable{prog:dv}{w:dQ}{A:ef}{E:Zz}{s:da}{r l:c7}
def F5{items:Array cV}{Q:List cV->da->Prop}(t:A.handled=none)(k:mG s.heap l items)(d:RvAt s.heap r l ((items.size:Int)-1))(g:l≠r)(x:items.size<=c6)
  (m:∀(h':Heap) j (a:Array cV),(∀b o,b≠r->s.heap.get? b=some o->h'.get? b=some o)->ItemsOf (λi v=>items[items.size-1-i]?=some v) a items.size->Q a.toList {s with heap:=h',toks:=j}) :
  dJ (model prog w) A (collect (.ref r)) Q E s:=by
 unfold collect;refine cS (wpAny_runValue (nK PySem.F.entry_proto_collect ?_));rw[ef.under_plainId PySem.F.plain_proto_collect _];show dJ _ A.in1 (newList [] >>= λl=>again (.builtin "list.__iadd__" ⟨[l,.ref r],[]⟩)) _ _ s;refine cS (fU (di ⟨m5 PySem.F.plain_list_iadd _,nK PySem.F.entry_list_iadd ?_⟩));rw[ef.under_plainId PySem.F.plain_list_iadd _];have z:r<s.heap.objs.size:=dD d;have y:l<s.heap.objs.size:=let⟨_,h,_⟩:=k;dD h;have n:(s.heap.push {cls:=.type "list",data:=.seq ([]:List cV).toArray}).get? s.heap.objs.size=some {cls:=.type "list",data:=.seq #[]}:=dI _ rfl;show dJ _ A.in1 (dS.List.listExtendWith (.ref s.heap.objs.size) (.ref r) (.ref s.heap.objs.size)) _ _ {s with heap:=s.heap.push {cls:=.type "list",data:=.seq ([]:List cV).toArray}};refine Ju (prog:=prog) (w:=w) (A:=A) (R:=wants _ E) (s:={s with heap:=s.heap.push {cls:=.type "list",data:=.seq ([]:List cV).toArray}}) (items:=items) t (let⟨o,h,p⟩:=k;⟨o,df _ h,p⟩) (d.at λo e=>df _ e) g _ (oB z) (oB y) _ 0 n (λh' j a B u f c=>?_) x;show dJ _ A (load s.heap.objs.size >>= _) _ _ _;refine cS (wpAny_load f (di ?_));exact m h' j a (λb o q e=>u b o (eg (dD e)) q (df _ e)) c
def zN{items:Array cV}{Q₁:Zz}(p:A.handled=none)(t:mG s.heap l items)(d:RvAt s.heap r l ((items.size:Int)-1))(j:l≠r)(m:items.size<=c6)
  (h:∀(h':Heap) k (a:Array cV),(∀b o,b≠r->s.heap.get? b=some o->h'.get? b=some o)->ItemsOf (λi v=>items[items.size-1-i]?=some v) a items.size->Q₁ (.ref h'.objs.size) {s with heap:=h'.push {cls:=.type "tuple",data:=.seq a},toks:=k}) :
  mZ (model prog w) A (.call (.builtin "tuple.__new__") ⟨[.type "tuple",.ref r],[]⟩) (wants Q₁ E) s:=by
 refine codeAny_of_tree ?_;show dJ _ A.in1 (do checkBuiltinCall "tuple.__new__" ⟨[.type "tuple",.ref r],[]⟩;again (.builtin "tuple.__new__" ⟨[.type "tuple",.ref r],[]⟩)) _ _ s;refine cS (i6 (PySem.F.newCall_tuple_1 _) (di ⟨m5 PySem.F.plain_tuple_new _,nK PySem.F.entry_tuple_new ?_⟩));rw[ef.under_plainId PySem.F.plain_tuple_new _];have n:=sub_tuple_self;have g:=init_tuple_lookup;have u:=madeHere_tuple;have f:=d.type
 wp_walk using oA f,F5 (A:=A.in1) (items:=items) p t d j m
 intro h' k a q c;show dJ _ _ (dS.Tuple.tupleExact a.toList.toArray >>= λv=>ret v) _ _ _;unfold dS.Tuple.tupleExact;refine cS (fU ?_ (by show a.toList.toArray.size<=c6;simp only[nu];rw[c.1];exact m));refine di ?_;have e:a.toList.toArray=a:=by simp
 rw[e];exact h h' k a q c
def call_tuple_rvt{items:Array cV}{Q:Zz}(m:A.handled=none)(p:mG s.heap l items)(g:RvAt s.heap r l ((items.size:Int)-1))(h:l≠r)(q:items.size<=c6)
  (k:∀(h':Heap) j (d:Array cV),(∀b o,b≠r->s.heap.get? b=some o->h'.get? b=some o)->ItemsOf (λi v=>items[items.size-1-i]?=some v) d items.size->Q (.ref h'.objs.size) {s with heap:=h'.push {cls:=.type "tuple",data:=.seq d},toks:=j}) :
  dJ (model prog w) A (call (.type "tuple") [.ref r]) Q E s:=by
 refine callType_codes (Q₁:=λe a=>a.TypeIs e "tuple"/\Q e a) PySem.F.called_tuple (PySem.F.typeCall_tuple_1 _) PySem.F.entry_object_init
  (zN (A:=A.in1) m p g h q λh' j d n f=>⟨⟨_,dI _ rfl,rfl⟩,k h' j d n f⟩) λe a c=>?_
 exact⟨c.1,PySem.F.args_object_init_2 e _,object_init_meets PySem.F.called_tuple.init.lookup PySem.F.called_tuple.made (by decide) prog w A.in1 _ a ⟨c.1,rfl,c.2⟩⟩
end
end BgRev
namespace L2
open PySem PySem.Spec PyProof.Rows
def vV(K:Fg)(t:TA):TE:=λd H Q=>t d H λc a=>∃p b,c=[.ref p]/\fA K a p b/\∀l,a l=none->Q (.ref l) (upd a l (.tup b.reverse))
section
variable{X:Cx}
def Jd{a:Expr}{O:TA}{p1 k pos d:Pos}(U:Gl X "tuple")(v:Gl X "reversed")(Y:X.mg "tuple"=none)(x:X.mg "reversed"=none)(T:X.calm=true)(S:PA X [a] O)
  (z:dH [a] X.env=[(false,eval a X.env)]:=by rfl) (L:dH [.Call (.Name "reversed" k) [a] [] d] X.env=[(false,eval (.Call (.Name "reversed" k) [a] [] d) X.env)]:=by rfl) :
  PE X (.Call (.Name "tuple" p1) [.Call (.Name "reversed" k) [a] [] d] [] pos) (vV X.K O):=by
 intro i s P H Q I h;refine kg (pk I U Y fZ ?_);refine fL ?_ L rfl;rw[L];show dJ _ _ (spliced ((false,eval (.Call (.Name "reversed" k) [a] [] d) X.env)::iy pos [])) _ _ s;refine Calls.spliced_cons ?_;refine kg (pk I v x boot_reversed ?_);refine fL (kf (S d i s P H _ I h) λus f ⟨vs,R,m,r1,q1⟩=>?_) z rfl;obtain⟨l,ys,rfl,Z,q⟩:=q1;obtain⟨u,rfl,rx⟩:=uE r1;cases rx;obtain⟨c,M,D,B⟩:=m.tuple Z;have ll:l<f.heap.objs.size:=let⟨_,y,_⟩:=D;dD y;have g:=M.length;have C:(c.toArray.size:Int)<2 ^ 63:=by
  have:c.toArray.size<=c6:=by rw[dq,<-g];exact B
  have h2:c6<2 ^ 63:=by decide
  lia
 refine BgRev.call_rev D C λG=>Calls.spliced_nil ?_;have r:BgRev.RvAt (f.heap.push (BgRev.rvObj l ((c.toArray.size:Int)-1))) f.heap.objs.size l ((c.toArray.size:Int)-1):=by
  have:(f.heap.push (BgRev.rvObj l ((c.toArray.size:Int)-1))).get? f.heap.objs.size=some (BgRev.rvObj l ((c.toArray.size:Int)-1)):=dI _ rfl;unfold BgRev.RvAt;rw[this];simp[BgRev.rvObj,oQ]
 refine BgRev.call_tuple_rvt (s:={f with heap:=f.heap.push (BgRev.rvObj l ((c.toArray.size:Int)-1)),toks:=G}) (items:=c.toArray) (m.ok.hd T) (let⟨o,y,p⟩:=D;⟨o,df _ y,p⟩) r (eg ll) (by rw[dq,<-g];exact B) λt E n W j=>?_;have kp:∀b o,f.heap.get? b=some o->t.get? b=some o:=λb o e=>W b o (eg (dD e)) (df _ e);have J:fW X i P R {f with heap:=t,toks:=E}:=m.kept (t':=E) kp;refine⟨.ref t.objs.size,_,J.laid (t':=E) (λb o e=>df _ e) (dk _) (show kb X.prog X.w _ _ _ (.tup ys.reverse) from⟨by rw[e6];exact B,n.toList,O8 M j,?_⟩),rfl,q _ (J.hok.fresh (dk _))⟩;rw[nu];exact pe.new _ _
def Ao{a:Expr}{g:TA}{m f pos b:Pos}(j:Gl X "tuple")(c:Gl X "reversed")(k:X.mg "tuple"=none)(d:X.mg "reversed"=none)(i:X.calm=true)(h:QA X [a] g)
  (e:dH [a] X.env=[(false,eval a X.env)]:=by rfl) (l:dH [.Call (.Name "reversed" f) [a] [] b] X.env=[(false,eval (.Call (.Name "reversed" f) [a] [] b) X.env)]:=by rfl) :
  QE X (.Call (.Name "tuple" m) [.Call (.Name "reversed" f) [a] [] b] [] pos) (vV X.K g):=⟨Jd j c k d i h.up e l⟩
end
section
variable{prog:dv}{w:dQ}{A:ef}{E:Zz}{s:da}{it d:c7}{i ep:Nat}{es:Array DictEntry}
end
section
variable{X:Cx}{pins:List (c7×Obj)}{σ:St}{H:Hp}{s:da}{d:c7}{kvs:List (List iC×V)}{o:Obj}
end
section
variable{X:Cx}{tg:Expr}
end
section
variable{prog:dv}{w:dQ}{A:ef}{R:Result->da->Prop}
end
section
variable{prog:dv}{w:dQ}{A:ef}{E:Zz}{s:da}
end
section
variable{X:Cx}
end
section
variable{X:Cx}{o e:Expr}{td ty:TE}{pos apos cpos:Pos}
def OJ:QE X (.Dict [] [] pos) Jy:=⟨Ov⟩
end
end L2
namespace Bg
open PySem PySem.Spec PyProof.Rows L2
abbrev sx:List Str:=["_law_rows","_law_names_here","_law_params"]
abbrev lG:List Str:=["_law_rows","_law_names_here","_law_params","_law_known","_law_more","_law_n","_law_left","_law_m","_law_kept"]
def yU(K:Fg):TS:=(eY (cU 3))
def yV(K:Fg):TS:=(eF (tC (.bl true)) (dy 4))
def yW(K:Fg):TS:=(gc (eA (dF (uS) (iN (iE K) (cQ (cU 8) dh)) (iN (iE K) (cQ (dF (eJ K) (cU 3) (cU 7)) dh)))) (dU (eF (cU 8) (sG (cU 3) (cU 7) pP)) (yV K)) eO)
def rZ(K:Fg):TS:=(dU (eF (iq [] 1 (kz K (dF (eJ K) (cU 3) (cU 7))) (dy 9) (eA (dF ((Ap K false)) (cU 9) (cU 6))) (cU 9)) (dy 8)) (yW K))
def r3(K:Fg):TS:=(oj (kz K (dR (pG K) [] E0 (cQ (cU 0) (cQ (cU 5) dh)))) (dy 7) (rZ K))
def yX(K:Fg):TS:=(dU (gc (eA (dF ((Ap K false)) (dF (eJ K) (dF (eJ K) (cU 0) (cU 5)) Za) (eR (cQ Zh (cQ Zg (cQ Ze dh)))))) (eF (dF (ig K) (cU 6) (oH (cQ (dF (eJ K) (dF (eJ K) (cU 0) (cU 5)) Zb) dh))) (dy 6)) eO) (r3 K))
def r4(K:Fg):TS:=(dU (eF (dF (eJ K) (cU 3) (cU 5)) (dy 6)) (yX K))
def yY(K:Fg):TS:=(oj (mu (cQ (iN (iE K) (cQ (cU 0) dh)) dh)) (dy 5) (r4 K))
def yZ(K:Fg):TS:=(dU (eF (tC (.bl false)) (dy 4)) (yY K))
def qP(K:Fg):TS:=(dU (xE (tB (cU 4)) (yZ K)) (yU K))
def qQ(K:Fg):TS:=(dU (eF (tC (.bl true)) (dy 4)) (qP K))
def mY(K:Fg):TS:=(dU (eF (iN (vM K) (cQ (cU 2) dh)) (sG (cU 3) Za pP)) (qQ K))
def qk(K:Fg):TS:=(dU (eF (iq [] 1 (kz K (cU 0)) (dy 9) kX (iN (vM K) (cQ (cU 1) dh))) (dy 3)) (mY K))
abbrev VJ:List Str:=["_law_belt","_law_thing"]
abbrev VF:List Str:=["_law_belt","_law_thing"]
def Wy(K:Fg):TS:=(eY (dF (ig K) (eR (cQ (cU 1) dh)) (oz (Dj K) (cU 0) fo (gH (Sf Jj Zb)))))
abbrev Ib:List Str:=["_law_out","_law_n","_law_belt","_law_due_here"]
abbrev CO:List Str:=["_law_out","_law_n","_law_belt","_law_due_here","_law_name","_law_i"]
def G3(K:Fg):TS:=(eY (cU 2))
def G4(K:Fg):TS:=(eF (dR (AI K) [] E0 (cQ (cU 2) (cQ (dF (eJ K) (cU 2) (cU 5)) dh))) (dy 2))
def G5(K:Fg):TS:=(dU (ow (GZ K "list" j9 (cU 0) (cQ (eR (cQ (eR (cQ Zn (cQ (cU 5) dh))) (cQ (eR (cQ (cU 1) (cQ (cU 2) dh))) dh))) dh))) (G4 K))
def G6(K:Fg):TS:=(dU (eF (Pq K (cU 2) (cQ (cU 4) dh)) (dy 5)) (G5 K))
def Ds(K:Fg):TS:=(dU (oj (N0 K (cQ (cU 3) dh)) (dy 4) (G6 K)) (G3 K))
abbrev Nj:List Str:=["_law_state","_law_belt","_law_name"]
abbrev DP:List Str:=["_law_state","_law_belt","_law_name","_law_some"]
def MI(K:Fg):TS:=(eY (dF (eJ K) (cU 3) (dR (eN K) [] E0 (cQ (cU 0) (cQ (iN (iE K) (cQ (cU 3) dh)) dh)))))
def KS(K:Fg):TS:=(dU (eF (iq [] 1 (mu (cQ (iN (iE K) (cQ (cU 1) dh)) dh)) (dy 4) (eA (dF (jL K) (dF (eJ K) (cU 1) (cU 4)) (cU 2))) (cU 4)) (dy 3)) (MI K))
abbrev Le:List Str:=["_law_state","_law_belt"]
abbrev FI:List Str:=["_law_state","_law_belt","_law_i"]
def AQ(K:Fg):TS:=(eY (cU 1))
def JK(K:Fg):TS:=(dU (gc (eA (dF ((Ap K false)) (dF (eJ K) (cU 1) (cU 2)) (oz (Dj K) (cU 1) fo (gH (cU 2))))) (eY (dF (ig K) (dF (ig K) (oz (Dj K) (cU 1) fo (gH (cU 2))) (eR (cQ (tC .non) dh))) (oz (Dj K) (cU 1) (gH (dF (ig K) (cU 2) Zb)) fo))) eO) (AQ K))
def Hc(K:Fg):TS:=(dU (eF (dR (eN K) [] E0 (cQ (cU 0) (cQ (iN (iE K) (cQ (cU 1) dh)) dh))) (dy 2)) (JK K))
abbrev BS:List Str:=["_law_state","_law_row","_law_belt"]
abbrev rb:List Str:=["_law_state","_law_row","_law_belt"]
def Bw(K:Fg):TS:=(eY (eR (cQ (dF (eJ K) (cU 1) Za) (cQ (dR (pF K) [] E0 (cQ (cU 0) (cQ (cU 2) (cQ (dF (eJ K) (cU 1) Zb) dh)))) dh))))
def Bx(K:Fg):TS:=(dU (gc (eA (dF (jL K) (dF (eJ K) (cU 1) Za) Zj)) (eY (eR (cQ Zj (cQ (dR (pF K) [] E0 (cQ (cU 0) (cQ (cU 2) (cQ (dF (eJ K) (cU 1) Zb) dh)))) (cQ (tC (.str "land")) dh))))) eO) (Bw K))
def By(K:Fg):TS:=(dU (gc (eA (dF (jL K) (dF (eJ K) (cU 1) Za) Ze)) (eY (eR (cQ Ze (cQ (dF (eJ K) (cU 1) Zc) (cQ (iN (gK K) (cQ (iq [] 1 (kz K (dF (eJ K) (cU 1) Zd)) (dy 3) kX (dR (pF K) [] E0 (cQ (cU 0) (cQ (cU 2) (cQ (cU 3) dh))))) dh)) dh))))) eO) (Bx K))
def Bz(K:Fg):TS:=(dU (gc (eA (dF (jL K) (dF (eJ K) (cU 1) Za) Zg)) (eY (eR (cQ Zg (cQ (dF (eJ K) (cU 1) Zc) (cQ (dR (pF K) [] E0 (cQ (cU 0) (cQ (cU 2) (cQ (dF (eJ K) (cU 1) Zd) dh)))) (cQ (dR (pF K) [] E0 (cQ (cU 0) (cQ (cU 2) (cQ (dF (eJ K) (cU 1) Zm) dh)))) dh)))))) eO) (By K))
def wz(K:Fg):TS:=(dU (gc (eA (dF (jL K) (dF (eJ K) (cU 1) Za) Zh)) (eY (eR (cQ Zh (cQ (dF (eJ K) (cU 1) Zc) dh)))) eO) (Bz K))
abbrev Ng:List Str:=["_law_state","_law_out","_law_rows","_law_n","_law_known","_law_places","_law_times"]
abbrev DN:List Str:=["_law_state","_law_out","_law_rows","_law_n","_law_known","_law_places","_law_times","_law_belt","_law_i","_law_row","_law_here","_law_after","_law_m","_law_to"]
def Mt(K:Fg):TS:=(ow (GZ K "list" j9 (cU 1) (cQ (eR (cQ (eR (cQ Zf (cQ (eR (cQ Zp (cQ (cU 13) (cQ (dR (eN K) [] E0 (cQ (cU 0) (cQ (cU 6) dh))) dh)))) dh))) (cQ (eR (cQ (cU 13) (cQ (cU 7) dh))) dh))) dh)))
def Mu(K:Fg):TS:=(dU (eF (dR (mW K) [] E0 (cQ (cU 1) (cQ (cU 13) (cQ (cU 7) (cQ (dF (eJ K) (cU 4) (cU 13)) dh))))) (dy 7)) (Mt K))
def Mv(K:Fg):TS:=(dU (eF (dR (jA K) [] E0 (cQ (cU 2) (cQ (dF (eJ K) (cU 9) Zc) dh))) (dy 13)) (Mu K))
def Mw(K:Fg):TS:=(gc (eA (dF (pA K) (dF (eJ K) (cU 9) Za) Zj)) (dU (eF (eR (cQ (dF (gD K) (oz (jH K) (dF (eJ K) (dF (eJ K) (cU 1) (cU 10)) Za) fo (gH Zc)) (eR (cQ (iN (iE K) (cQ (cU 1) dh)) dh))) (cQ (dF (eJ K) (dF (eJ K) (cU 1) (cU 10)) Zb) dh))) (sG (cU 1) (cU 10) pP)) (Mv K)) eO)
def Mx(K:Fg):TS:=(dU (ow (GZ K "list" j9 (cU 1) (cQ (eR (cQ (eR (cQ Zf (cQ (eR (cQ Zp (cQ (cU 12) (cQ (dR (eN K) [] E0 (cQ (cU 0) (cQ (cU 6) dh))) dh)))) dh))) (cQ (eR (cQ (cU 12) (cQ (cU 11) dh))) dh))) dh))) (Mw K))
def My(K:Fg):TS:=(dU (eF (dR (mW K) [] E0 (cQ (cU 1) (cQ (cU 12) (cQ (cU 11) (cQ (dF (eJ K) (cU 4) (cU 12)) dh))))) (dy 11)) (Mx K))
def xF(K:Fg):TS:=(dU (eF (dR (jA K) [] E0 (cQ (cU 2) (cQ (dF (gD K) (cU 3) Zb) dh))) (dy 12)) (My K))
def Mz(K:Fg):TS:=(dU (gc (eA (dF ((Ap K false)) (dF (eJ K) (cU 9) Za) (eR (cQ Zh (cQ Zg (cQ Ze dh)))))) (eF (dR (AI K) [] E0 (cQ (iN (gK K) (cQ (iq [] 1 (kz K (cU 7)) (dy 14) kX (WQ (eA (dF (pA K) (cU 14) (dF (eJ K) (cU 9) Zb))) (tC .non) (cU 14))) dh)) (cQ (dF (eJ K) (cU 9) Zb) dh))) (dy 11)) eO) (xF K))
def MA(K:Fg):TS:=(dU (eF (cU 7) (dy 11)) (Mz K))
def JA(K:Fg):TS:=(dU (gc (eA (dF (pA K) (dF (eJ K) (cU 9) Za) Zk)) Pp eO) (MA K))
def JB(K:Fg):TS:=(dU (ow (GZ K "list" j9 (cU 1) (cQ (eR (cQ (dR (qh K) [] E0 (cQ (cU 0) (cQ (cU 9) (cQ (cU 7) dh)))) (cQ (eR (cQ (cU 3) (cQ (cU 7) dh))) dh))) dh))) (JA K))
def JC(K:Fg):TS:=(dU (eF (iN (iE K) (cQ (cU 1) dh)) (dy 10)) (JB K))
def JD(K:Fg):TS:=(dU (eF (dF (eJ K) (cU 2) (cU 3)) (dy 9)) (JC K))
def AK(K:Fg):TS:=(dU (eF (dR (xw K) [] E0 (cQ (cU 0) (cQ (cU 7) dh))) (dy 7)) (JD K))
def JE(K:Fg):TS:=(eF (dR (AI K) [] E0 (cQ (cU 7) (cQ (dF (eJ K) (cU 7) (cU 8)) dh))) (dy 7))
def JF(K:Fg):TS:=(dU (ow (GZ K "list" j9 (cU 1) (cQ (eR (cQ (eR (cQ Zn (cQ (cU 8) dh))) (cQ (eR (cQ (cU 3) (cQ (cU 7) dh))) dh))) dh))) (JE K))
def JG(K:Fg):TS:=(dU (gc (eA (dF (pA K) (dR (eN K) [] E0 (cQ (cU 0) (cQ Zd dh))) Zb)) (dU (eF (dR (eN K) [] E0 (cQ (cU 0) (cQ (cU 5) dh))) (dy 8)) (JF K)) eO) (AK K))
def KQ(K:Fg):TS:=(dU (eF (oz (jH K) (dF (gD K) (iN (gK K) (cQ (dF (eJ K) (cU 4) (cU 3)) dh)) (dF (kc K) (eR (cQ (tC .non) dh)) (cU 5))) fo (gH (cU 5))) (dy 7)) (JG K))
abbrev DR:List Str:=["_law_state","_law_part_here","_law_names_here","_law_places"]
abbrev nv:List Str:=["_law_state","_law_part_here","_law_names_here","_law_places","_law_rows","_law_known","_law_belt","_law_out","_law_seats","_law_first","_law_times","_law_n","_law_code"]
def uy(K:Fg):TS:=(eY (eR (cQ (eR (cQ (iN (iE K) (cQ (dF (eJ K) (cU 1) Zb) dh)) (cQ (iN (gK K) (cQ (cU 12) dh)) dh))) (cQ (iN (gK K) (cQ (iq [] 2 (kz K (cU 7)) (tU K 2 (jw (dy 13) (jw (dy 14) sF))) kX (cU 14)) dh)) dh))))
def qi(K:Fg):TS:=(dU (eF (iq [] 2 (kz K (cU 7)) (tU K 2 (jw (dy 13) (jw (dy 14) sF))) kX (dF (gD K) (oz (jH K) (cU 13) fo (gH Zb)) (iN (gK K) (cQ (iq [] 1 (kz K (oz (jH K) (cU 13) (gH Zb) fo)) (dy 15) kX (zd (cU 8) (cU 15) (cU 15))) dh)))) (dy 12)) (uy K))
def uz(K:Fg):TS:=(ow (dR (AH K) [] E0 (cQ (cU 0) (cQ (cU 7) (cQ (cU 4) (cQ (cU 11) (cQ (cU 5) (cQ (cU 3) (cQ (cU 10) dh)))))))))
def uA(K:Fg):TS:=(dU (eF (iN (iE K) (cQ (cU 7) dh)) (sG (cU 8) (eR (cQ Zp (cQ (cU 11) (cQ (iN (Di) (cQ (dF ((L9 false)) (eR (cQ Zp (cQ (cU 11) (cQ Za dh)))) (cU 8)) dh)) dh)))) GJ)) (uz K))
def uB(K:Fg):TS:=(dU (oj (kz K (dF (Wp) (dR (rF K) [] E0 (cQ (cU 4) dh)) (cU 10))) (dy 11) (uA K)) (qi K))
def Cu(K:Fg):TS:=(dU (eF (dF (gD K) Zb (iN (Di) (cQ (ya (dF (uS) (iN (iE K) (cQ (cU 4) dh)) Zi) (dF (pA K) (dR (eN K) [] E0 (cQ (cU 0) (cQ Zc dh))) Zb)) dh))) (dy 10)) (uB K))
def Cv(K:Fg):TS:=(dU (ow (GZ K "list" j9 (cU 7) (cQ (eR (cQ (eR (cQ Zf (cQ (eR (cQ Zp (cQ (cU 9) (cQ Za dh)))) dh))) (cQ (eR (cQ (cU 9) (cQ (cU 6) dh))) dh))) dh))) (Cu K))
def Cw(K:Fg):TS:=(dU (eF (dR (mW K) [] E0 (cQ (cU 7) (cQ (cU 9) (cQ (cU 6) (cQ (dF (eJ K) (cU 5) (cU 9)) dh))))) (dy 6)) (Cv K))
def Cy(K:Fg):TS:=(dU (eF (dR (jA K) [] E0 (cQ (cU 4) (cQ Za dh))) (dy 9)) (Cw K))
def Bh(K:Fg):TS:=(dU (eF Jy (dy 8)) (Cy K))
def Bi(K:Fg):TS:=(dU (eF (oH dh) (dy 7)) (Bh K))
def Bj(K:Fg):TS:=(dU (eF (oz (jH K) (dF (gD K) (vV K (cQ (dF (eJ K) (cU 1) Zb) dh)) (dF (kc K) (eR (cQ (tC .non) dh)) (cU 3))) fo (gH (cU 3))) (dy 6)) (Bi K))
def Bk(K:Fg):TS:=(dU (eF (iq [] 1 (kz K (dR (pH K) [] E0 (cQ (cU 4) (cQ (cU 2) (cQ (dF (eJ K) (cU 1) Zb) dh))))) (dy 13) kX (iN (gK K) (cQ (cU 13) dh))) (dy 5)) (Bj K))
def yf(K:Fg):TS:=(dU (eF (dF (eJ K) (cU 1) Zc) (dy 4)) (Bk K))
abbrev FL:List Str:=["_law_program_here"]
abbrev qZ:List Str:=["_law_program_here","_law_found","_law_word","_law_params","_law_rows"]
def E1(K:Fg):TS:=(eY (iq [] 1 (mu (cQ (iN (iE K) (cQ (cU 1) dh)) dh)) (dy 5) (eA (dF ((Ap K true)) (dF (eJ K) (cU 1) (cU 5)) (oz (Dj K) (cU 1) fo (gH (cU 5))))) (dF (eJ K) (cU 1) (cU 5))))
def E2(K:Fg):TS:=(eF (dF (ig K) (dF (ig K) (cU 1) (iN (vM K) (cQ (cU 3) dh))) (iq [] 1 (kz K (cU 4)) (dy 5) (eA (dF ((Ap K false)) (dF (eJ K) (cU 5) Za) (eR (cQ Zh (cQ Zg (cQ Ze dh)))))) (dF (eJ K) (cU 5) Zb))) (dy 1))
def E3(K:Fg):TS:=(dU (oj (kz K (cU 0)) (tU K 3 (jw (dy 2) (jw (dy 3) (jw (dy 4) sF)))) (E2 K)) (E1 K))
def AW(K:Fg):TS:=(dU (eF (oH dh) (dy 1)) (E3 K))
abbrev Qo:List Str:=["_law_state","_law_program_here"]
abbrev zw:List Str:=["_law_state","_law_program_here","_law_names_here","_law_places","_law_some"]
def PB(K:Fg):TS:=(eY (eR (cQ (eR (cQ (cU 3) (cQ (iN (gK K) (cQ (iq [] 1 (kz K (cU 4)) (dy 5) kX (dF (eJ K) (cU 5) Za)) dh)) dh))) (cQ (iN (gK K) (cQ (iq [] 1 (kz K (cU 4)) (dy 5) kX (dF (eJ K) (cU 5) Zb)) dh)) dh))))
def Hd(K:Fg):TS:=(dU (eF (iq [] 1 (kz K (cU 1)) (dy 5) kX (dR (rJ K) [] E0 (cQ (cU 0) (cQ (cU 5) (cQ (cU 2) (cQ (cU 3) dh)))))) (dy 4)) (PB K))
def PD(K:Fg):TS:=(dU (eF (dF (ig K) (dF (ig K) (dF (kc K) Zc (iN (iE K) (cQ (cU 2) dh))) Zc) (dR (eN K) [] E0 (cQ (cU 0) (cQ Zd dh)))) (dy 3)) (Hd K))
def Pz(K:Fg):TS:=(dU (eF (dR (pQ K) [] E0 (cQ (cU 1) dh)) (dy 2)) (PD K))
abbrev Ij:List Str:=["_law_state"]
abbrev CT:List Str:=["_law_state","_law_some","_law_wide"]
def yi(K:Fg):TS:=(eY (dF (eJ K) (oH (cQ (cU 2) (cQ (dF (eJ K) (cU 1) (dR (eN K) [] E0 (cQ (cU 0) (cQ Zm dh)))) dh))) (dR (eN K) [] E0 (cQ (cU 0) (cQ Zc dh)))))
def HH(K:Fg):TS:=(dU (eF (dF (ig K) (dF (kc K) (dR (eN K) [] E0 (cQ (cU 0) (cQ (dF (GI) Zc (tC (.int 31))) dh))) (dF (GI) Zc (tC (.int 33)))) (dR (eN K) [] E0 (cQ (cU 0) (cQ (dF (GI) Zc (tC (.int 31))) dh)))) (dy 2)) (yi K))
def DB(K:Fg):TS:=(dU (eF (oH (cQ Za (cQ Zb (cQ (dF (KG) (dF (KG) (dF (GI) Zc (tC (.int 64))) Zb) (dR (eN K) [] E0 (cQ (cU 0) (cQ Zd dh)))) (cQ (dR (eN K) [] E0 (cQ (cU 0) (cQ Zq dh))) dh))))) (dy 1)) (HH K))
abbrev zG:List Str:=["_law_state","_law_names_here","_law_many","_law_counts"]
abbrev ud:List Str:=["_law_state","_law_names_here","_law_many","_law_counts","_law_x","_law_sort","_law_k"]
def yM(K:Fg):TS:=(eY (dF (eJ K) (oH (cQ (eR (cQ Zf (cQ (dR (eN K) [] E0 (cQ (cU 0) (cQ (cU 2) dh))) dh))) (cQ (eR (cQ Zk (cQ Zl dh))) dh))) (dF (KG) (cU 5) (tC (.int 10)))))
def yN(K:Fg):TS:=(dU (gc (eA (dF (uS) (cU 5) (tC (.int 10)))) (eY (eR (cQ Zj (cQ Zl (cQ (dR (eN K) [] E0 (cQ (cU 0) (cQ (cU 2) dh))) dh))))) eO) (yM K))
def yO(K:Fg):TS:=(dU (gc (eA (dF (uS) (cU 5) Zr)) (eY (eR (cQ Zo (cQ Zl dh)))) eO) (yN K))
def yP(K:Fg):TS:=(eY (eR (cQ Ze (cQ (cU 4) (cQ (cU 6) (cQ (dF (kc K) (eR (cQ Zl dh)) (dF (eJ K) (cU 3) (cU 6))) dh))))))
def yQ(K:Fg):TS:=(dU (gc (eA (dF (jL K) (cU 5) (tC (.int 6)))) (dU (eF (dR (eN K) [] E0 (cQ (cU 0) (cQ (iN (iE K) (cQ (cU 3) dh)) dh))) (dy 6)) (yP K)) eO) (yO K))
def yR(K:Fg):TS:=(dU (gc (eA (dF (uS) (cU 5) (tC (.int 6)))) (eY (eR (cQ Zg (cQ (cU 4) (cQ (dF (eJ K) (tC (.str "+-*<=")) (dR (eN K) [] E0 (cQ (cU 0) (cQ Zi dh)))) (cQ Zl (cQ Zl dh))))))) eO) (yQ K))
def yS(K:Fg):TS:=(dU (gc (eA (dF (uS) (cU 5) Zc)) (eY (eR (cQ Zh (cQ (cU 4) (cQ (dR (uZ K) [] E0 (cQ (cU 0) dh)) dh))))) eO) (yR K))
def yT(K:Fg):TS:=(dU (eF (dR (eN K) [] E0 (cQ (cU 0) (cQ Zq dh))) (dy 5)) (yS K))
def uD(K:Fg):TS:=(dU (eF (dF (eJ K) (cU 1) (dR (eN K) [] E0 (cQ (cU 0) (cQ (iN (iE K) (cQ (cU 1) dh)) dh)))) (dy 4)) (yT K))
end Bg
namespace L2
open PySem PySem.Spec PyProof.Rows
inductive SI(K:Fg)(H:Hp):V->V->Bool->Prop where
 |flat {x y:V} (hx:iT x=true) (hy:iT y=true):SI K H x y (qx x y)
 |tups {a b:c7} {us vs:List V} (n:a≠b) (ha:fA K H a us) (hb:fA K H b vs) (fu:us.all iT=true) (fv:vs.all iT=true):SI K H (.ref a) (.ref b) (lM us vs)
 |tupF {a:c7} {us:List V} {y:V} (ha:fA K H a us) (hy:iT y=true):SI K H (.ref a) y false
 |fTup {a:c7} {us:List V} {x:V} (ha:fA K H a us) (hx:iT x=true):SI K H x (.ref a) false
section
variable{X:Cx}
def TY{j:List (c7×Obj)}{E:St}{H:Hp}{s:da}(I:fW X j E H s){x y:V}{b:Bool}(h:SI X.K H x y b){A:ef}{u v:cV}(d:A.units<cLine)(e:hV x u)(f:hV y v):SeqAt.EqAt A s u v b:=by
 cases h with
 |flat m o=>exact Ei e f m o
 |@tups a b r G n i C w B=>
  cases e;cases f;obtain⟨g,l,c,_⟩:=I.tuple i;obtain⟨p,q,D,_⟩:=I.tuple C;have:=SeqAt.EqAt.of_refs n (SeqAt.RcAt.tuples (A:=A) (show s.heap.IsTuple a g.toArray from c) (show s.heap.IsTuple b p.toArray from D) d (FZ l q w B));unfold lM;rw[dq,dq,<-l.length,<-q.length] at this;exact this
 |@tupF a r y i o=>
  cases e;obtain⟨g,l,c,_⟩:=I.tuple i;cases y with
  |non=>cases f;exact SeqAt.EqAt.tuple_none c d
  |bl k=>cases f;exact SeqAt.EqAt.tuple_bool _ c d
  |int z=>obtain⟨t,rfl⟩:=f;exact SeqAt.EqAt.tuple_int _ t c d
  |str z=>obtain⟨t,rfl⟩:=f;exact SeqAt.EqAt.tuple_str _ t c d
  |_=>cases o
 |@fTup a r x i m=>
  cases f;obtain⟨g,l,c,_⟩:=I.tuple i;cases x with
  |non=>cases e;exact SeqAt.EqAt.none_tuple c d
  |bl k=>cases e;exact SeqAt.EqAt.bool_tuple _ c d
  |int z=>obtain⟨t,rfl⟩:=e;exact SeqAt.EqAt.int_tuple _ t c d
  |str z=>obtain⟨t,rfl⟩:=e;exact SeqAt.EqAt.str_tuple _ t c d
  |_=>cases m
def Wn(K:Fg):R2:=λx y H Q=>∃(p q:c7) (c d:List V) (f:Nat->Bool),x=.ref p/\y=.ref q/\fA K H p c/\fA K H q d/\(∀(j:Nat) a b,c[j]?=some a->d[j]?=some b->SI K H a b (f j))/\Q (.bl (!((jr (min c.length d.length)).all f&&c.length==d.length))) H
def UA(z:X.A.units+1<cLine):oD X (gi .NotEq) (Wn X.K):=by
 intro l s T H x y v u Q I G J h;obtain⟨p,q,O,P,f,rfl,rfl,a,b,t,C⟩:=h;cases G;cases J;obtain⟨m,d,L,_⟩:=I.tuple a;obtain⟨n,g,M,_⟩:=I.tuple b;have R:=d.length;have S:=g.length;refine SeqAt.RcNeAt.tuples (e:=f) (show s.heap.IsTuple p m.toArray from L) (show s.heap.IsTuple q n.toArray from M) (by lia) (λj a b=>?_) X.prog X.w X.xe _ ⟨.bl _,H,I,?_,C⟩
 ·rw[dq] at a b;have i:j<O.length:=by lia
  have k:j<P.length:=by lia
  obtain⟨u,c,D⟩:=d.get (cP i);obtain⟨v,B,E⟩:=g.get (cP k);have o:m.toArray[j]=u:=by
   have:=cP a;rw[c] at this;simpa using(Option.some.inj this).symm
  have r:n.toArray[j]=v:=by
   have:=cP b;rw[B] at this;simpa using(Option.some.inj this).symm
  rw[o,r];exact TY I (t j _ _ (cP i) (cP k)) (show X.A.units+1<cLine from z) D E
 ·show cV.bool _=cV.bool _;rw[dq,dq,d.length,g.length]
end
end L2
namespace Bg
open PySem L2
def SB{t:TA}{b:St}{H:Hp}{Q:VK}(xs:List V)(a:∀R:List V->Hp->Prop,R xs H->t b H R)(c:xs.length<=100)(q:∀p H',H' p=some (.tup xs)->du H H'->Q (.ref p) H'):eR t b H Q:=
 a _ ⟨fq c (by decide),λp d=>q p _ cW ((du.refl H).new d)⟩
def fj{t:TA}{b:St}{H:Hp}{Q:VK}(h:t b H λxs a=>xs.length<=c6/\∀p,a p=none->Q (.ref p) (upd a p (.tup xs))):eR t b H Q:=h
def vw{b:TE}{g:TG}{u:TS}{D:pd}{a:St}{H:Hp}(h:b a H λx c=>g x a c (u D)):dU (eF b g) u D a H:=h
def nC{a:TE}{D:pd}{b:St}{H:Hp}(h:a b H D.rt):eY a D b H:=h
def d7{b:TE}{c:TA}{a:St}{H:Hp}{Q:List V->Hp->Prop}(h:b a H λx d=>c a d λxs H2=>Q (x::xs) H2):cQ b c a H Q:=h
def nY{v:V}{a:TA}{b:St}{H:Hp}{Q:List V->Hp->Prop}(h:a b H λxs H2=>Q (v::xs) H2):cQ (tC v) a b H Q:=h
def pX{i:Nat}{v:V}{b:TA}{a:St}{H:Hp}{Q:List V->Hp->Prop}(e:a[i]?=some (some v))(h:b a H λxs H2=>Q (v::xs) H2):cQ (cU i) b a H Q:=⟨v,e,h⟩
def jv{t c:TA}{b:St}{H:Hp}{Q:List V->Hp->Prop}(xs:List V)(a:∀R:List V->Hp->Prop,R xs H->t b H R)(d:xs.length<=100)(q:∀p H',H' p=some (.tup xs)->du H H'->c b H' λys H2=>Q (.ref p::ys) H2):cQ (eR t) c b H Q:=SB xs a d q
def dZ.cons{c:Type}{R:V->c->Prop}{vs:List V}{rs:List c}{v:V}{r:c}(q:R v r)(h:dZ R vs rs):dZ R (v::vs) (r::rs):=⟨by simp[h.len],λi e d a b=>by
 match i with
 |0=>cases a;cases b;exact q
 |i+1=>exact h.at_ i e d a b⟩
def vF{t:TA}{b:St}{H:Hp}{Q:VK}(h:t b H λxs a=>xs.length<=c6/\∀p,a p=none->Q (.ref p) (upd a p (.lst xs))):oH t b H Q:=h
end Bg
namespace Bg
open PySem PySem.Spec PyProof.Rows L2
abbrev Ic:List Str:=["_law_paper","_law_n","_law_names_here"]
abbrev wN:List Str:=["_law_paper","_law_n","_law_names_here"]
def Hb(K:Fg):TS:=(eY (dF (jL K) (iq [] 1 (mu (cQ (iN (iE K) (cQ (cU 2) dh)) dh)) (dy 3) (eA (dF ((Ap K true)) (dF (eJ K) (dF (eJ K) (cU 0) Zb) (cU 3)) (eR (cQ (tC .non) (cQ (dF (eJ K) (cU 2) (cU 3)) dh))))) (cU 3)) (oH dh)))
def Dt(K:Fg):TS:=(dU (gc (eA (dF (xk K) (dF (eJ K) (cU 0) Za) (cU 1))) (eY (tC (.bl false))) eO) (Hb K))
abbrev Li:List Str:=["_law_row","_law_names_here"]
abbrev vo:List Str:=["_law_row","_law_names_here"]
def JX(K:Fg):TS:=(eY (eR (cQ (dF (eJ K) (cU 0) Za) (cQ (dF (eJ K) (cU 1) (dF (eJ K) (cU 0) Zb)) dh))))
def JY(K:Fg):TS:=(dU (gc (eA (dF (jL K) (dF (eJ K) (cU 0) Za) Ze)) (eY (eR (cQ Ze (cQ (dF (eJ K) (cU 0) Zb) (cQ (iN (gK K) (cQ (iq [] 1 (kz K (dF (eJ K) (cU 0) Zc)) (dy 2) kX (dF (eJ K) (cU 1) (cU 2))) dh)) dh))))) eO) (JX K))
def JZ(K:Fg):TS:=(dU (gc (eA (dF (jL K) (dF (eJ K) (cU 0) Za) Zg)) (eY (eR (cQ Zg (cQ (dF (eJ K) (cU 0) Zb) (cQ (dF (eJ K) (cU 1) (dF (eJ K) (cU 0) Zc)) (cQ (dF (eJ K) (cU 1) (dF (eJ K) (cU 0) Zd)) dh)))))) eO) (JY K))
def Bm(K:Fg):TS:=(dU (gc (eA (dF (jL K) (dF (eJ K) (cU 0) Za) Zh)) (eY (cU 0)) eO) (JZ K))
abbrev yo:List Str:=["_law_row"]
abbrev su:List Str:=["_law_row"]
def xG(K:Fg):TS:=(eY (oz (jH K) (cU 0) fo (gH Zc)))
def tf(K:Fg):TS:=(dU (gc (eA (dF ((Ap K false)) (dF (eJ K) (cU 0) Za) (eR (cQ Zh (cQ Zg (cQ Ze dh)))))) (eY (dF (gD K) (oz (jH K) (cU 0) fo (gH Zb)) (oz (jH K) (cU 0) (gH Zc) fo))) eO) (xG K))
abbrev FR:List Str:=["_law_rows","_law_code","_law_papers","_law_at"]
abbrev uM:List Str:=["_law_rows","_law_code","_law_papers","_law_at","_law_n","_law_names_here","_law_row","_law_x"]
def Fk(K:Fg):TS:=(eY (Po (dF (xk K) (dF (eJ K) (cU 6) Za) Zj) (dR (lN K) [] E0 (cQ (dF (eJ K) (cU 2) (dF (eJ K) (cU 6) Zc)) (cQ (dR (jA K) [] E0 (cQ (cU 0) (cQ (dF (eJ K) (dF (eJ K) (cU 0) (cU 4)) Zc) dh))) (cQ (cU 5) dh))))))
def wt(K:Fg):TS:=(dU (gc (u2 (tB (dR (lN K) [] E0 (cQ (dF (eJ K) (cU 2) (dF (ig K) (cU 3) Zb)) (cQ (dR (jA K) [] E0 (cQ (cU 0) (cQ (dF (ig K) (cU 4) Zb) dh))) (cQ (cU 5) dh)))))) (eY (tC (.bl false))) eO) (Fk K))
def Fl(K:Fg):TS:=(eF (dR (AI K) [] E0 (cQ (iN (gK K) (cQ (iq [] 1 (kz K (cU 5)) (dy 8) kX (dF (eJ K) (oH (cQ (cU 8) (cQ (tC .non) dh))) (iN (Di) (cQ (dF (jL K) (cU 8) (cU 7)) dh)))) dh)) (cQ (cU 7) dh))) (dy 5))
def Fm(K:Fg):TS:=(dU (gc (eA (dF ((Ap K false)) (dF (eJ K) (cU 6) Za) (eR (cQ Zh (cQ Zg (cQ Ze dh)))))) (dU (eF (dF (eJ K) (dF (eJ K) (cU 0) (cU 4)) Zb) (dy 7)) (Fl K)) eO) (wt K))
def Fn(K:Fg):TS:=(dU (gc (eA (dF (jL K) (dF (eJ K) (cU 6) Za) Zk)) (eY (tC (.bl true))) eO) (Fm K))
def Fo(K:Fg):TS:=(dU (gc (eA (dF (Wn K) (dR (xB K) [] E0 (cQ (cU 6) (cQ (cU 5) dh))) (dR (oh K) [] E0 (cQ (dF (eJ K) (cU 0) (cU 4)) dh)))) (eY (tC (.bl false))) eO) (Fn K))
def Fp(K:Fg):TS:=(dU (gc (eA (dF (jL K) (dF (eJ K) (cU 6) Za) Zf)) (eY (dR (lN K) [] E0 (cQ (dF (eJ K) (cU 2) (dF (eJ K) (cU 6) Zb)) (cQ (cU 4) (cQ (cU 5) dh))))) eO) (Fo K))
def Fq(K:Fg):TS:=(dU (gc (eA (dF (jL K) (dF (eJ K) (cU 6) Za) Zn)) (eY (dR (lN K) [] E0 (cQ (dF (eJ K) (cU 2) (dF (ig K) (cU 3) Zb)) (cQ (cU 4) (cQ (dR (AI K) [] E0 (cQ (cU 5) (cQ (dF (eJ K) (cU 5) (dF (eJ K) (cU 6) Zb)) dh))) dh))))) eO) (Fp K))
def Fs(K:Fg):TS:=(dU (eF (dF (eJ K) (cU 1) (cU 3)) (dy 6)) (Fq K))
def Bl(K:Fg):TS:=(dU (eF (dF (eJ K) (cU 2) (cU 3)) (tU K 2 (jw (dy 4) (jw (dy 5) sF)))) (Fs K))
abbrev TC:List Str:=["_law_program_here","_law_code","_law_papers"]
abbrev SL:List Str:=["_law_program_here","_law_code","_law_papers","_law_k","_law_rows","_law_belt","_law_at"]
def Sg(K:Fg):TS:=(eY (tC .non))
def Sh(K:Fg):TS:=(gc (u2 (tB (dR (sU K) [] E0 (cQ (cU 4) (cQ (dF (eJ K) (dF (eJ K) (dF (eJ K) (cU 1) Zb) (cU 3)) Zb) (cQ (dF (eJ K) (cU 2) (cU 3)) (cQ (cU 6) dh))))))) (eY (eR (cQ (cU 3) (cQ (cU 6) dh)))) eO)
def Sj(K:Fg):TS:=(oj (mu (cQ (iN (iE K) (cQ (dF (eJ K) (dF (eJ K) (dF (eJ K) (cU 1) Zb) (cU 3)) Zb) dh)) dh)) (dy 6) (Sh K))
def Sk(K:Fg):TS:=(dU (gc (u2 (tB (dR (lN K) [] E0 (cQ (dF (eJ K) (dF (eJ K) (cU 2) (cU 3)) Za) (cQ (dR (jA K) [] E0 (cQ (cU 4) (cQ Za dh))) (cQ (cU 5) dh)))))) (eY (eR (cQ (cU 3) (cQ Za dh)))) eO) (Sj K))
def Sl(K:Fg):TS:=(dU (eF (oz (jH K) (dF (gD K) (vV K (cQ (dF (eJ K) (dF (eJ K) (cU 0) (cU 3)) Zb) dh)) (dF (kc K) (eR (cQ (tC .non) dh)) (dF (eJ K) (cU 1) Za))) fo (gH (dF (eJ K) (cU 1) Za))) (dy 5)) (Sk K))
def Sm(K:Fg):TS:=(dU (eF (dF (eJ K) (dF (eJ K) (cU 0) (cU 3)) Zc) (dy 4)) (Sl K))
def Sn(K:Fg):TS:=(dU (oj (mu (cQ (iN (iE K) (cQ (cU 0) dh)) dh)) (dy 3) (Sm K)) (Sg K))
def So(K:Fg):TS:=(gc (Pn (eA (dF (U9) (cU 3) (iN (iE K) (cQ (cU 0) dh)))) (Pn (eA (dF (U9) (cU 3) (iN (iE K) (cQ (dF (eJ K) (cU 1) Zb) dh)))) (eA (dF (xk K) (iN (iE K) (cQ (dF (eJ K) (dF (eJ K) (cU 0) (cU 3)) Zb) dh)) (dF (eJ K) (dF (eJ K) (dF (eJ K) (cU 1) Zb) (cU 3)) Za))))) (eY (eR (cQ (cU 3) (cQ Za dh)))) eO)
def Tj(K:Fg):TS:=(dU (oj (mu (cQ (iN (OR) (cQ (iN (iE K) (cQ (cU 0) dh)) (cQ (iN (iE K) (cQ (dF (eJ K) (cU 1) Zb) dh)) dh))) dh)) (dy 3) (So K)) (Sn K))
abbrev wU:List Str:=["_law_state","_law_rows","_law_names_here","_law_paper"]
abbrev nX:List Str:=["_law_state","_law_rows","_law_names_here","_law_paper","_law_n","_law_there","_law_some","_law_way","_law_i","_law_j","_law_swapped"]
def pR(K:Fg):TS:=(eY (eR (cQ (cU 4) (cQ (iN (gK K) (cQ (cU 10) dh)) dh))))
def wb(K:Fg):TS:=(dU (eF (dF (eJ K) (cU 5) (cU 8)) (sG (cU 10) (cU 9) pP)) (pR K))
def wc(K:Fg):TS:=(dU (eF (dF (eJ K) (cU 5) (cU 9)) (sG (cU 10) (cU 8) pP)) (wb K))
def we(K:Fg):TS:=(dU (eF (iN (vM K) (cQ (cU 5) dh)) (dy 10)) (wc K))
def wg(K:Fg):TS:=(dU (eF (dR (eN K) [] E0 (cQ (cU 0) (cQ (iN (iE K) (cQ (cU 5) dh)) dh))) (dy 9)) (we K))
def wh(K:Fg):TS:=(dU (gc (eA (dF (pA K) (cU 7) Zd)) (eY (eR (cQ (cU 4) (cQ (oz (jH K) (dF (gD K) (cU 5) (oz (jH K) (cU 5) fo (gH Zb))) (gH Zb) fo) dh)))) eO) (wg K))
def wj(K:Fg):TS:=(dU (gc (eA (dF (pA K) (cU 7) Zc)) (eY (eR (cQ (cU 4) (cQ (dF (gD K) (dF (gD K) (oz (jH K) (cU 5) fo (gH (cU 8))) (eR (cQ (dF (eJ K) (cU 2) (dR (eN K) [] E0 (cQ (cU 0) (cQ (iN (iE K) (cQ (cU 2) dh)) dh)))) dh))) (oz (jH K) (cU 5) (gH (dF (gD K) (cU 8) Zb)) fo)) dh)))) eO) (wh K))
def wm(K:Fg):TS:=(dU (gc (eA (dF (pA K) (cU 7) Zb)) (eY (eR (cQ (cU 4) (cQ (dF (gD K) (dF (gD K) (oz (jH K) (cU 5) fo (gH (cU 8))) (eR (cQ (tC .non) dh))) (oz (jH K) (cU 5) (gH (dF (gD K) (cU 8) Zb)) fo)) dh)))) eO) (wj K))
def wo(K:Fg):TS:=(dU (gc (eA (dF (pA K) (cU 7) Za)) (eY (eR (cQ (dF (eJ K) (cU 6) (dR (eN K) [] E0 (cQ (cU 0) (cQ (iN (iE K) (cQ (cU 6) dh)) dh)))) (cQ (cU 5) dh)))) eO) (wm K))
def u3(K:Fg):TS:=(dU (eF (dR (eN K) [] E0 (cQ (cU 0) (cQ (iN (iE K) (cQ (cU 5) dh)) dh))) (dy 8)) (wo K))
def u4(K:Fg):TS:=(dU (eF (dR (eN K) [] E0 (cQ (cU 0) (cQ Zi dh))) (dy 7)) (u3 K))
def u5(K:Fg):TS:=(dU (eF (iq [] 1 (mu (cQ (iN (iE K) (cQ (cU 1) dh)) dh)) (dy 11) (eA (dF (xk K) (dF (eJ K) (dF (eJ K) (cU 1) (cU 11)) Za) Zf)) (cU 11)) (dy 6)) (u4 K))
def rY(K:Fg):TS:=(dU (eF (cU 3) (tU K 2 (jw (dy 4) (jw (dy 5) sF)))) (u5 K))
abbrev yp:List Str:=["_law_state","_law_code","_law_row","_law_many"]
abbrev sv:List Str:=["_law_state","_law_code","_law_row","_law_many","_law_i","_law_sign","_law_k"]
def qJ(K:Fg):TS:=(eY (dF (gD K) (eR (cQ (dF (eJ K) (cU 2) Za) (cQ (cU 4) dh))) (oz (jH K) (cU 2) (gH Zc) fo)))
def qK(K:Fg):TS:=(dU (gc (eA (dF (pA K) (dR (eN K) [] E0 (cQ (cU 0) (cQ (tC (.int 6)) dh))) Za)) (eY (dF (eJ K) (oH (cQ (eR (cQ Zo (cQ (cU 4) dh))) (cQ (eR (cQ Zn (cQ (cU 4) dh))) (cQ (eR (cQ Zh (cQ (cU 4) dh))) dh)))) (dF (nB) (cU 4) Zd))) eO) (qJ K))
def qL(K:Fg):TS:=(dU (gc (u1 (eA (dF (pA K) (dF (eJ K) (cU 2) Za) Zj)) (eA (dF (pA K) (dR (eN K) [] E0 (cQ (cU 0) (cQ Zc dh))) Za))) (eY (eR (cQ Zj (cQ (dF (eJ K) (cU 2) Zb) (cQ (dR (eN K) [] E0 (cQ (cU 0) (cQ (cU 3) dh))) dh))))) eO) (qK K))
def xH(K:Fg):TS:=(dU (gc (eA (dF (pA K) (dF (eJ K) (cU 2) Za) Zf)) (eY (eR (cQ Zf (cQ (dR (eN K) [] E0 (cQ (cU 0) (cQ (cU 3) dh))) dh)))) eO) (qL K))
def qM(K:Fg):TS:=(eY (dF (eJ K) (oH (cQ (eR (cQ Ze (cQ (cU 6) (cQ (dF (eJ K) (cU 2) Zc) dh)))) (cQ (eR (cQ Ze (cQ (dF (eJ K) (cU 2) Zb) (cQ (oz (jH K) (dF (gD K) (dF (eJ K) (cU 2) Zc) (eR (cQ (cU 4) dh))) (gH Zb) fo) dh)))) dh))) (dR (eN K) [] E0 (cQ (cU 0) (cQ Zc dh)))))
def xI(K:Fg):TS:=(dU (gc (eA (dF (pA K) (dF (eJ K) (cU 2) Za) Ze)) (dU (eF (dR (eN K) [] E0 (cQ (cU 0) (cQ (iN (iE K) (cQ (dF (eJ K) (cU 1) Zb) dh)) dh))) (dy 6)) (qM K)) eO) (xH K))
def qN(K:Fg):TS:=(eY (dF (eJ K) (oH (cQ (eR (cQ Zg (cQ (cU 5) (cQ (dF (eJ K) (cU 2) Zc) (cQ (dF (eJ K) (cU 2) Zd) dh))))) (cQ (eR (cQ Zg (cQ (dF (eJ K) (cU 2) Zb) (cQ (cU 4) (cQ (dF (eJ K) (cU 2) Zd) dh))))) (cQ (eR (cQ Zg (cQ (dF (eJ K) (cU 2) Zb) (cQ (dF (eJ K) (cU 2) Zd) (cQ (dF (eJ K) (cU 2) Zc) dh))))) dh)))) (dF (nB) (cU 4) Zd)))
def xJ(K:Fg):TS:=(dU (gc (eA (dF (pA K) (dF (eJ K) (cU 2) Za) Zg)) (dU (eF (dF (eJ K) (tC (.str "+-*<=")) (dR (eN K) [] E0 (cQ (cU 0) (cQ Zi dh)))) (dy 5)) (qN K)) eO) (xI K))
def qO(K:Fg):TS:=(dU (gc (eA (dF (pA K) (dF (eJ K) (cU 2) Za) Zh)) (eY (eR (cQ Zh (cQ (dF (nB) (dF (gD K) (dF (eJ K) (cU 2) Zb) Zb) (dF (GI) Zc (tC (.int 64)))) dh)))) eO) (xJ K))
def tq(K:Fg):TS:=(dU (eF (dR (eN K) [] E0 (cQ (cU 0) (cQ (dF (eJ K) (cU 1) Za) dh))) (dy 4)) (qO K))
abbrev TF:List Str:=["_law_some","_law_at","_law_thing"]
abbrev SN:List Str:=["_law_some","_law_at","_law_thing"]
def To(K:Fg):TS:=(eY (dF (gD K) (dF (gD K) (oz (jH K) (cU 0) fo (gH (cU 1))) (eR (cQ (cU 2) dh))) (oz (jH K) (cU 0) (gH (dF (gD K) (cU 1) Zb)) fo)))
abbrev DS:List Str:=["_law_state","_law_program_here","_law_names_here","_law_pair"]
abbrev xX:List Str:=["_law_state","_law_program_here","_law_names_here","_law_pair","_law_code","_law_papers","_law_way","_law_k","_law_more","_law_count","_law_rows","_law_at","_law_paper","_law_other"]
def Cz(K:Fg):TS:=(eY (cU 3))
def CA(K:Fg):TS:=(dU (gc (tB (dR (qH K) [] E0 (cQ (cU 13) dh))) (eY (eR (cQ (cU 13) (cQ (cU 5) dh)))) eO) (Cz K))
def qj(K:Fg):TS:=(dU (eF (eR (cQ (dF (eJ K) (cU 4) Za) (cQ (dR (xA K) [] E0 (cQ (dF (eJ K) (cU 4) Zb) (cQ (cU 7) (cQ (eR (cQ (cU 9) (cQ (cU 13) dh))) dh)))) dh))) (dy 13)) (CA K))
def uC(K:Fg):TS:=(eF (dF (eJ K) (oH (cQ (dF (gD K) (cU 9) Zb) (cQ Za dh))) (dR (eN K) [] E0 (cQ (cU 0) (cQ Zc dh)))) (dy 9))
def CB(K:Fg):TS:=(dU (gc (u1 (eA (dF (pA K) (cU 6) Zm)) (eA (dF (pA K) (dR (eN K) [] E0 (cQ (cU 0) (cQ Zd dh))) Za))) (dU (eF (cU 10) (dy 13)) (uC K)) eO) (qj K))
def CC(K:Fg):TS:=(dU (eF (dR (xA K) [] E0 (cQ (cU 10) (cQ (cU 11) (cQ (dR (oi K) [] E0 (cQ (cU 0) (cQ (cU 4) (cQ (dF (eJ K) (cU 10) (cU 11)) (cQ (iN (iE K) (cQ (cU 10) dh)) dh))))) dh)))) (dy 13)) (CB K))
def CD(K:Fg):TS:=(eY (eR (cQ (cU 4) (cQ (dR (xA K) [] E0 (cQ (cU 5) (cQ (cU 7) (cQ (dR (xA K) [] E0 (cQ (dF (eJ K) (cU 5) (cU 7)) (cQ (cU 11) (cQ (cU 12) dh)))) dh)))) dh))))
def CF(K:Fg):TS:=(dU (gc (eA (dF (uS) (cU 6) Zm)) (dU (eF (dR (mX K) [] E0 (cQ (cU 0) (cQ (dF (eJ K) (dF (eJ K) (cU 1) (cU 7)) Zc) (cQ (cU 2) (cQ (dF (eJ K) (dF (eJ K) (cU 5) (cU 7)) (cU 11)) dh))))) (dy 12)) (CD K)) eO) (CC K))
def CG(K:Fg):TS:=(dU (eF (dR (eN K) [] E0 (cQ (cU 0) (cQ (iN (iE K) (cQ (cU 10) dh)) dh))) (dy 11)) (CF K))
def tj(K:Fg):TS:=(dU (eF (dF (eJ K) (dF (eJ K) (cU 4) Zb) (cU 7)) (tU K 2 (jw (dy 9) (jw (dy 10) sF)))) (CG K))
def Br(K:Fg):TS:=(eY (eR (cQ (eR (cQ (dF (eJ K) (cU 4) Za) (cQ (dF (gD K) (dF (eJ K) (cU 4) Zb) (eR (cQ (cU 8) dh))) dh))) (cQ (dF (gD K) (cU 5) (eR (cQ (dF (gD K) (oz (jH K) (dF (eJ K) (cU 5) Za) fo (gH Zb)) (oz (jH K) (dF (eJ K) (cU 5) Za) fo (gH Zb))) dh))) dh))))
def tm(K:Fg):TS:=(dU (gc (u1 (eA (dF (pA K) (cU 6) Za)) (u1 (eA (dF (uS) (iN (iE K) (cQ (cU 1) dh)) Zi)) (eA (dF (pA K) (dR (eN K) [] E0 (cQ (cU 0) (cQ Zd dh))) Za)))) (dU (eF (eR (cQ Za (cQ (eR (cQ (eR (cQ Zh (cQ Zb dh))) (cQ (eR (cQ Zk (cQ Za dh))) dh))) dh))) (dy 8)) (Br K)) eO) (tj K))
def Bs(K:Fg):TS:=(dU (gc (u1 (eA (dF (pA K) (cU 6) Za)) (u1 (eA (dF (L8) (cU 7) Za)) (tB (dR (qH K) [] E0 (cQ (eR (cQ (dF (eJ K) (cU 4) Za) (cQ (oz (jH K) (dF (eJ K) (cU 4) Zb) fo (gH (Sf Jj Zb))) dh))) dh))))) (eY (eR (cQ (eR (cQ (dF (eJ K) (cU 4) Za) (cQ (oz (jH K) (dF (eJ K) (cU 4) Zb) fo (gH (Sf Jj Zb))) dh))) (cQ (oz (jH K) (cU 5) fo (gH (Sf Jj Zb))) dh)))) eO) (tm K))
def Bu(K:Fg):TS:=(dU (eF (dR (eN K) [] E0 (cQ (cU 0) (cQ (iN (iE K) (cQ (cU 1) dh)) dh))) (dy 7)) (Bs K))
def Bv(K:Fg):TS:=(dU (eF (dR (eN K) [] E0 (cQ (cU 0) (cQ Zr dh))) (dy 6)) (Bu K))
def yh(K:Fg):TS:=(dU (eF (cU 3) (tU K 2 (jw (dy 4) (jw (dy 5) sF)))) (Bv K))
abbrev BR:List Str:=["_law_program_here","_law_pair"]
abbrev vp:List Str:=["_law_program_here","_law_pair","_law_found","_law_due_here"]
def Bn(K:Fg):TS:=(eY (ya (dF (jL K) (cU 2) (cU 3)) (ya (G0 (iN (RX K) (cQ (dF (eJ K) (cU 2) Za) (cQ (tC (.ty "bool")) dh)))) (G0 (iN (RX K) (cQ (dF (eJ K) (cU 2) Zb) (cQ (tC (.ty "bool")) dh)))))))
def Bo(K:Fg):TS:=(dU (gc (Pn (u2 (tB (iN (RX K) (cQ (cU 2) (cQ (tC (.ty "tuple")) dh))))) (eA (dF (xk K) (iN (iE K) (cQ (cU 2) dh)) Zc))) (eY (tC (.bl false))) eO) (Bn K))
def Bp(K:Fg):TS:=(dU (gc (eA (dF (OP) (cU 3) (tC .non))) (eY (dF (OP) (cU 2) (tC .non))) eO) (Bo K))
def Bq(K:Fg):TS:=(dU (eF (dR (Jx K) [] E0 (cQ (cU 0) (cQ (dF (eJ K) (cU 1) Za) (cQ (dF (eJ K) (cU 1) Zb) dh)))) (dy 3)) (Bp K))
def wu(K:Fg):TS:=(dU (eF (dR (rH K) [] E0 (cQ (cU 0) (cQ (dF (eJ K) (cU 1) Za) (cQ (dF (eJ K) (cU 1) Zb) dh)))) (dy 2)) (Bq K))
end Bg
namespace L2
open PySem PySem.Spec PyProof.Rows
section
variable{M:Model}{A:ef}{E:Zz}{s:da}{base:Heap}{env:Env}{outer:List Env}{L e T:c7}{oe:Obj}{vs:Array cV}
end
open Builtin Builtin.ObjectAttr
section
variable{prog:dv}{w:dQ}{A:ef}{E:Zz}{h:Heap}{g:Array GenState}{d:Drawn}{t:Nat}{os:OsState}
variable{nm q:Str}{C N B:c7}{bs:List cV}{hdct:Bool}{sn:List Str}{sub:List cV}{ab:Bool}{col:Option Bool}{dd:Option c7}{k0 k1 k2 k3 k5:Option cV}
end
end L2
namespace L2
open PySem PySem.Spec PyProof.Rows PySem.W
section
variable{prog:dv}{w:dQ}{A:ef}{E:Zz}{s:da}{K:Fg}{x C D:c7}{ox od:Obj}{odo:Option Obj}{name:Str}
end
end L2
namespace L2
open PySem PySem.Spec PyProof.Rows
open Builtin Builtin.ObjectAttr
section
variable{P:dv}{w:dQ}{H:Hp}{h:Heap}{x C T dx:c7}{od:Option c7}{fs:List (Str×V)}
end
section
variable{prog:dv}{w:dQ}{A:ef}{E:Zz}{K:Fg}{C x:c7}{s:da}{R:Result->da->Prop}
end
section
variable{X:Cx}{pins:List (c7×Obj)}{σ:St}{H:Hp}{s:da}{x C dx:c7}{fs:List (Str×V)}{f:Str}{v y:V}{u:cV}{A:ef}{E:Zz}
end
section
variable{X:Cx}{pins:List (c7×Obj)}{σ:St}{H:Hp}{s:da}{x C T T':c7}{od:Option c7}{M:Model}{E:Zz}
end
section
variable{P:dv}{w:dQ}{K:Fg}{mg:Str->Option cV}{base:Heap}{N:List Str}{qual:Str}{scope:Scope}{f:c7}{cd:cV}{A:ef}{outer:List Env}{s:da}{H:Hp}{E:XK}
end
section
variable{X:Cx}{k:Nat}{f C:c7}{fd:iQ}{ps:List Str}{sp:Sp}{x:Str}{p pos apos:Pos}{e o value:Expr}{es:List Expr}{ta tv:TE}{t:TA}
end
section
variable{X:Cx}{pins pins':List (c7×Obj)}{σ:St}{H:Hp}{s:da}{E:Zz}{x:c7}
end
section
variable{X:Cx}
end
section
variable{prog:dv}{w:dQ}{A:ef}{E:Zz}{s:da}{K:Fg}{x C D:c7}{ox od:Obj}
end
end L2
namespace BgSet
open PySem
section
variable{prog:dv}{w:dQ}{K:Type}[DecidableEq K]
variable{kd:KeyKind prog w K}{A:ef}{E:Zz}{s:da}
end
section
variable{prog:dv}{w:dQ}{A:ef}{E:Zz}{s:da}
end
section
variable{prog:dv}{w:dQ}{A:ef}{E:Zz}{s:da}{I a:c7}{i n ep:Nat}{es:Array (Int×cV)}{t:SetTable}
end
end BgSet
namespace BgSet
open PySem PyProof.Rows
section
variable{prog:dv}{w:dQ}{A:ef}{R:Result->da->Prop}{I:c7}{fp wr:List c7}{G:Array GenState->Array GenState->Prop}{n:Nat}{P:Nat->cV->Prop}{St:Nat->da->Prop}
variable{K:Type}[DecidableEq K]{kd:KeyKind prog w K}
end
section
variable{prog:dv}{w:dQ}{A:ef}{E:Zz}{s:da}{K:Type}[DecidableEq K]{kd:KeyKind prog w K}
end
section
variable{prog:dv}{w:dQ}{A:ef}{E:Zz}{s:da}{K:Type}[DecidableEq K][Inhabited K]{kd:KeyKind prog w K}
end
section
variable{prog:dv}{w:dQ}{A:ef}{E:Zz}{s:da}{a:c7}{es:Array (Int×cV)}{ep:Nat}{t:SetTable}
end
end BgSet
namespace L2
open PySem PySem.Spec PyProof.Rows
section
variable{X:Cx}
end
section
variable{prog:dv}{w:dQ}{A:ef}{R:Result->da->Prop}{I:c7}{fp wr:List c7}{n:Nat}{P:Nat->cV->Prop}{St:Nat->Heap->Prop}
end
section
variable{prog:dv}{w:dQ}{A:ef}{E:Zz}{s:da}{l:c7}{xs:Array (Int×Tok)}
end
section
variable{X:Cx}
end
section
variable{prog:dv}{w:dQ}{A:ef}{E:Zz}{s:da}
end
section
variable{X:Cx}
end
section
variable{X:Cx}{k:Nat}{C:c7}{ps:List Str}{sp:Sp}{x:Str}{p pos:Pos}{e o value:Expr}{es:List Expr}{ta tv te:TE}{t:TA}{E:XK}
end
section
variable{P:dv}{w:dQ}{K:Fg}{mg:Str->Option cV}{base:Heap}{N:List Str}{qual:Str}{scope:Scope}{f:c7}{cd:cV}{A:ef}{outer:List Env}{s:da}{H:Hp}{E:XK}
end
section
variable{X:Cx}
end
end L2
namespace HT
open PySem PySem.Spec PyProof.Rows
section
variable{prog:dv}{w:dQ}{A:ef}{E:Zz}{s:da}
end
end HT
namespace L2
open PySem PySem.Spec PyProof.Rows
section
variable{X:Cx}{e st:Expr}{te ts:TE}{pos p2:Pos}
end
end L2
namespace Bg
open PySem PySem.Spec PyProof.Rows L2
end Bg
namespace L2
open PySem PySem.Spec PyProof.Rows
section
variable{X:Cx}
def eS(c:QE X a ta)(d:QE X b tb)(h:DT b:=by exact λ_ _=>rfl):QE X (.Subscript a b pos) (dF (eJ X.K) ta tb):=Wg Uc c d h
def gP{x:Str}(c:fh X.prog X.w X.K X.mg X.base x ps k sp)(d:QA X (e::es) t)(g:mn k X.A:=by exact mn.mono (by assumption) (by decide))(f:Gl X x:=by rfl)(a:(x==("__debug__":Str))=false:=by decide)
  (h2:dH (e::es) X.env=(false,eval e X.env)::dH es X.env:=by rfl) (b:(iy pos (dH es X.env)).any (·.1)=false:=by rfl):QE X (.Call (.Name x p) (e::es) [] pos) (dR sp [] E0 t):=Wf c g f d a h2 b
def iM(B:mC X.mg)(b:QA X (e::es) t)(c:Gl X "len":=by rfl)(h2:dH (e::es) X.env=(false,eval e X.env)::dH es X.env:=by rfl)(a:(iy pos (dH es X.env)).any (·.1)=false:=by rfl):QE X (.Call (.Name "len" p) (e::es) [] pos) (iN (iE X.K) t):=jh Ny c B.len_ boot_len b (by decide) (by decide) h2 a
def iG(i:Nat){x:Str}(b:QE X e te)(d:X.N[i]?=some x:=by rfl)(a:X.N.Nodup:=by assumption)(g:Nd X.env.scope x:=by first|exact Or.inl rfl|exact Or.inr rfl)(f:mK e (some (.Name x pos')) pos.line X.env=pure false:=by rfl)
  (c:X.fn x=true\/X.env.scope.names.lookup x=some .local:=by first|exact .inl rfl|exact .inr rfl|assumption):QS X (.Assign [.Name x pos'] e pos) (eF te (dy i)):=U8 a d g b f c
def kH(i:Nat){x:Str}(c:X.N[i]?=some x:=by rfl)(a:X.N.Nodup:=by first|assumption|(dsimp only[gA];decide +kernel))(d:Nd X.env.scope x:=by first|exact Or.inl rfl|exact Or.inr rfl)
  (b:X.fn x=true\/X.env.scope.names.lookup x=some .local:=by first|exact .inl rfl|exact .inr rfl|assumption):QG X (.Name x pos) (dy i):=RM a c d b
def kr{s1:Stmt}(b:QT X c tc)(a:QS X s1 t):QS X (.If c [s1] [] pos) (gc tc t eO):=nA b (dM a) lu
def dY(a:QE X e te)(b:dH [e] X.env=(false,eval e X.env)::dH [] X.env:=by rfl):QA X [e] (cQ te dh):=cX a px b
def An(g:QE X o to)(f:QE X e te)(a:iY o "append" X.env (eval o X.env)=eval o X.env:=by rfl)
  (c:((iy cpos (dH [e] X.env)).all (λx=>!x.1)&&(oO cpos (kU [] X.env)).all (λx=>x.1.isSome)&&decide (([e]:List Expr).length+([]:List j6).length+(if([]:List j6).isEmpty then 0 else 1)<30))=true:=by rfl)
  (b:(apos.endLine==cpos.line)=true:=by rfl) (d:dH [e] X.env=(false,eval e X.env)::dH [] X.env:=by rfl) (h:(iy cpos (dH [] X.env)).any (·.1)=false:=by rfl) :
  QE X (.Call (.Attribute o "append" apos) [e] [] cpos) (GZ X.K "list" j9 to (cQ te dh)):=SZ PySem.F.plainAttrs_list PySem.F.slot_list_append PySem.F.type_list_append Da g (dY f d) a c b d h
def XQ(g:QE X o to)(f:QE X e te)(a:iY o "join" X.env (eval o X.env)=eval o X.env:=by rfl)
  (c:((iy cpos (dH [e] X.env)).all (λx=>!x.1)&&(oO cpos (kU [] X.env)).all (λx=>x.1.isSome)&&decide (([e]:List Expr).length+([]:List j6).length+(if([]:List j6).isEmpty then 0 else 1)<30))=true:=by rfl)
  (b:(apos.endLine==cpos.line)=true:=by rfl) (d:dH [e] X.env=(false,eval e X.env)::dH [] X.env:=by rfl) (h:(iy cpos (dH [] X.env)).any (·.1)=false:=by rfl) :
  QE X (.Call (.Attribute o "join" apos) [e] [] cpos) (GZ X.K "str" (OQ X.K) to (cQ te dh)):=SZ PySem.F.plainAttrs_str PySem.F.slot_str_join PySem.F.type_str_join Q6 g (dY f d) a c b d h
def Dg(st:Stmt)(N ext:List Str)(c:List Nat)(it:QI X target iter wi)(i:∀{a C s₀ H₀ b},QG (gA X (N++ext) scope a C s₀ H₀ b) target g)(j:∀{a C s₀ H₀ b},Il (gA X (N++ext) scope a C s₀ H₀ b) ifs tc)(h:∀{a C s₀ H₀ b},QE (gA X (N++ext) scope a C s₀ H₀ b) elt te)
  (m:nU (gk st) N scope (N++ext) c:=by exact⟨rfl,by decide +kernel,by decide +kernel,by decide +kernel,rfl,by decide +kernel⟩) (d:X.env.scope=gk st:=by rfl) (h2:X.N=N:=by rfl) (e:(N++ext).length=N.length+k:=by rfl) (f:X.calm=true:=by rfl)
  (l:∀x,ia iter X.env x=pure x:=by intro _;rfl):QE X (.ListComp elt [⟨target,iter,ifs,0⟩] scope pos) (iq c k wi g tc te):=KD m d h2 e f it (λ_ _ _ _ _=>i) (λ_ _ _ _ _=>j) (λ_ _ _ _ _=>h) l
def MT(st:Stmt)(N ext:List Str)(c:List Nat)(i:Nat){y:Str}(it:QI X target iter wi)(l:∀{a C s₀ H₀ b},QG (gA X (N++ext) scope a C s₀ H₀ b) target g)(m:∀{a C s₀ H₀ b},Il (gA X (N++ext) scope a C s₀ H₀ b) ifs tc)(h:∀{a C s₀ H₀ b},QE (gA X (N++ext) scope a C s₀ H₀ b) elt te)
  (s:nU (gk st) N scope (N++ext) c:=by exact⟨rfl,by decide +kernel,by decide +kernel,by decide +kernel,rfl,by decide +kernel⟩) (d:X.env.scope=gk st:=by rfl) (h2:X.N=N:=by rfl) (e:(N++ext).length=N.length+k:=by rfl) (f:X.calm=true:=by rfl)
  (r:X.N.Nodup:=by assumption) (q:X.N[i]?=some y:=by rfl) (n:Nd X.env.scope y:=by first|exact Or.inl rfl|exact Or.inr rfl) (p:mK (.ListComp elt [⟨target,iter,ifs,0⟩] scope pos) (some (.Name y py)) spos.line X.env=pure true:=by rfl)
  (o:∀x,ia iter X.env x=pure x:=by intro _;rfl) (j:X.fn y=true\/X.env.scope.names.lookup y=some .local:=by first|exact .inl rfl|exact .inr rfl|assumption):QS X (.Assign [.Name y py] (.ListComp elt [⟨target,iter,ifs,0⟩] scope pos) spos) (eF (iq c k wi g tc te) (dy i)):=RS s d h2 e f it (λ_ _ _ _ _=>l) (λ_ _ _ _ _=>m) (λ_ _ _ _ _=>h) r q n p o j
end
end L2
namespace Bg
open PySem PySem.Spec PyProof.Rows L2
def gx(K:Fg)(x:Str)(st:Stmt):Prop:=∃(f:c7) (e:cV) (g:Option c7) (kV b h:cV) (d:Option c7) (a ct:cV) (c:Array (Option cV)),
 fz K eB x=some (some (.ref f))/\K.lookup f=some ⟨e,g,.func (hH x x (lJ st) (j8 st) (gk st) .none kV b h d a ct),c⟩/\jE K a x=true/\iL K (.ref f)=true
def defAt{K:Fg}{x:Str}{st:Stmt}{f:c7}{h:cV}{od:Option c7}{kV d i:cV}{g:Option c7}{b ct:cV}{e:Array (Option cV)}(a:fz K eB x=some (some (.ref f)))(l:K.lookup f=some ⟨h,od,.func (hH x x (lJ st) (j8 st) (gk st) .none kV d i g b ct),e⟩)(c:jE K b x=true)(k:iL K (.ref f)=true):gx K x st:=⟨f,h,od,kV,d,i,g,b,ct,e,a,l,c,k⟩
def mD(P:dv)(w:dQ)(K:Fg)(c:Str->Option cV)(a:Heap)(N:List Str)(q:Str)(st:Stmt)(k:Nat)(t:TS):Prop:=
 ∀{f:c7} {b:cV} {A:ef} {outer:List Env} {s:da} {H:Hp} {E:XK},mn k (A.deeper (mJ q (gk st) s.heap.objs.size f b))->HP (Eb J5 P w K c a N q (gk st) f b A outer s H E).nox (j8 st) t
section
variable{P:dv}{w:dQ}{K:Fg}{mg:Str->Option cV}{base h:Heap}{x q:Str}{N ps:List Str}{st:Stmt}{k:Nat}{sp:Sp}
def m8{t:TS}(d:∀{f:c7} {a:cV} {A:ef} {outer:List Env} {s:da} {H:Hp} {E:XK},N.Nodup->(A.deeper (mJ q (gk st) s.heap.objs.size f a)).units<cLine->(A.deeper (mJ q (gk st) s.heap.objs.size f a)).units+1<cLine->mn k (A.deeper (mJ q (gk st) s.heap.objs.size f a))->
  Qr (Eb J5 P w K mg base N q (gk st) f a A outer s H E).nox (j8 st) t) (c:N.Nodup:=by decide +kernel):mD P w K mg base N q st k t:=λb=>(d c b.units0 (VS b) b).up
structure Xh(x:Str)(N ps:List Str)(st:Stmt)(sp:Sp):Prop where
 S:tH N ps (gk st):=by exact⟨rfl,rfl,rfl,by decide +kernel,rfl,by decide +kernel,by decide +kernel⟩
 len:∀vs H Q E,sp vs H Q E->vs.length=ps.length:=by(intro _ _ _ _ h;(repeat first|exact congrArg i7 h.1|obtain⟨_,h⟩:=h))
 bd:∀(kV doc pm:cV) (an:Option c7) (cdv ct:cV) (us:List cV),us.length=ps.length->bindArgs (hH x x (lJ st) (j8 st) (gk st) .none kV doc pm an cdv ct) ⟨us,[]⟩=pure (ps.zip us):=by
   (intro _ _ _ _ _ _ us hl;first|(obtain⟨_,rfl⟩:=Xl (us:=us) hl;rfl)|(obtain⟨_,_,rfl⟩:=XB (us:=us) hl;rfl)|(obtain⟨_,_,_,rfl⟩:=XC (us:=us) hl;rfl)|(obtain⟨_,_,_,_,rfl⟩:=XE (us:=us) hl;rfl)|(obtain⟨_,_,_,_,_,rfl⟩:=le5 (us:=us) hl;rfl)|(obtain⟨_,_,_,_,_,_,rfl⟩:=XG (us:=us) hl;rfl)|(obtain⟨_,_,_,_,_,_,_,rfl⟩:=XH (us:=us) hl;rfl)|(obtain rfl:=le0 (us:=us) hl;rfl))
def mF{t:TS}(X:K.In h)(G:h.Ns eB mg)(l:gx K x st)(d:mD P w K mg base N x st k t)(r:∀vs H Q E,sp vs H Q E->t {nx:=λ_ H'=>Q .non H',rt:=Q} (fQ N vs) H)(z:Xh x N ps st sp:=by exact{}):fh P w K mg base x ps (k+1) sp:=by
 obtain⟨f,n,o,kV,doc,p,m,b,ct,j,a,i,c,e⟩:=l;have F:=NS i c e;exact⟨⟨f,_,tV X G a,e,F.binds (ps:=ps) z.bd,F.ok z.S z.len λb A outer s H vs Q E g z=>⟨t,d g,r vs H Q E z⟩⟩⟩
def V1{p:Str}{i:c7}{t:TS}(X:K.In h)(G:h.Ns eB mg)(g:mg "law"=some (.ref i))(l:gx K "law" st)(d:∀base,mD P w K mg base N "law" st k t)(r:∀vs H Q E,sp vs H Q E->t {nx:=λ_ H'=>Q .non H',rt:=Q} (fQ N vs) H)(z:Xh "law" N [p] st sp:=by exact{}) :
  ∃fd:iQ,(∀(s:da) (v:cV),tw s fd ⟨[v],[]⟩ [(p,v)])/\∀base:Heap,K.In base->base.Ns eB mg->wK P w K mg base J5 (k+1) i fd [p] sp:=by
 obtain⟨f,x,y,kV,doc,u,j,b,ct,q,a,o,c,n⟩:=l;have e:=g.symm.trans (tV X G a);cases e;have F:=NS o c n;exact⟨_,λs v=>.of_eq (z.bd kV doc u j b ct [v] rfl),λbase _ _=>F.ok z.S z.len λb A outer s H vs Q E m z=>⟨t,d base m,r vs H Q E z⟩⟩
end
end Bg
namespace L2
open PySem PySem.Spec PyProof.Rows
section
variable{X0:Cx}{NY0:List Str}{sc0 scope:Scope}{cl:List (Str×c7)}{C:c7}{s₀:da}{H₀:Hp}{fp:List c7}{elt target iter:Expr}{ifs:List Expr}{pos:Pos}{wi:TI}{g:TG}{tc:TT}{te:TE}{k:Nat}
theorem C9{env:Env}:∀{names:List (Str×eQ)} {x:Str},(names.lookup x=some .cell\/names.lookup x=some .free)->
  (names.map λ(n,k)=>if(k==eQ.free&&env.scope.kind==.function&&env.kindOf n==some .cell) then(n,eQ.cell) else(n,k)).lookup x=some .cell\/(names.map λ(n,k)=>if(k==eQ.free&&env.scope.kind==.function&&env.kindOf n==some .cell) then(n,eQ.cell) else(n,k)).lookup x=some .free
 |[],_,h=>by simp at h
 |(n,k)::r,x,h=>by
  have c:=@C9 env r x;show xO x ((if(k==eQ.free&&env.scope.kind==.function&&env.kindOf n==some .cell)=true then(n,eQ.cell) else(n,k))::_)=_\/xO x ((if(k==eQ.free&&env.scope.kind==.function&&env.kindOf n==some .cell)=true then(n,eQ.cell) else(n,k))::_)=_;by_cases b:(k==eQ.free&&env.scope.kind==.function&&env.kindOf n==some .cell)=true
  ·rw[if_pos b];cases a:x==n with
   |true=>exact .inl (by simp only[gL,a])
   |false=>simp only[gL,a] at h ⊢;exact c h
  ·rw[if_neg b];cases a:x==n with
   |true=>simp only[gL,a] at h ⊢;exact h
   |false=>simp only[gL,a] at h ⊢;exact c h
def nU.inn{c scope:Scope}{N a:List Str}{b:List Nat}(env:Env)(h:nU c N scope a b):nU (relabel c env) N scope a b:=⟨h.kind,h.cell,h.names,λx e d=>C9 (h.free x e d),h.pre,h.cap⟩
def XP(ext:List Str)(d:List Nat)(it:QI (gA X0 NY0 sc0 cl C s₀ H₀ fp) target iter wi)(i:∀{a c s' H' b},QG (gA (gA X0 NY0 sc0 cl C s₀ H₀ fp) (NY0++ext) scope a c s' H' b) target g)(j:∀{a c s' H' b},Il (gA (gA X0 NY0 sc0 cl C s₀ H₀ fp) (NY0++ext) scope a c s' H' b) ifs tc)(h:∀{a c s' H' b},QE (gA (gA X0 NY0 sc0 cl C s₀ H₀ fp) (NY0++ext) scope a c s' H' b) elt te)
  (m:nU sc0 NY0 scope (NY0++ext) d:=by exact⟨rfl,by decide +kernel,by decide +kernel,by decide +kernel,rfl,by decide +kernel⟩) (e:(NY0++ext).length=NY0.length+k:=by rfl) (f:(gA X0 NY0 sc0 cl C s₀ H₀ fp).calm=true:=by rfl)
  (l:∀x,ia iter (gA X0 NY0 sc0 cl C s₀ H₀ fp).env x=pure x:=by intro _;rfl):QE (gA X0 NY0 sc0 cl C s₀ H₀ fp) (.ListComp elt [⟨target,iter,ifs,0⟩] scope pos) (iq d k wi g tc te):=KD (nU.inn X0.env m) rfl rfl e f it (λ_ _ _ _ _=>i) (λ_ _ _ _ _=>j) (λ_ _ _ _ _=>h) l
end
end L2
namespace Bg
open PySem PySem.Spec PyProof.Rows L2
def lU(i:Nat):Stmt:=PySem.Challenge.pw_beltgarth_k53_the_first_wrong_row.main.body.getD i (.Pass ⟨0,0,0,0⟩)
abbrev Az:Stmt:=lU 1
abbrev Dl:Stmt:=lU 2
abbrev Dm:Stmt:=lU 4
abbrev GR:Stmt:=lU 5
abbrev GS:Stmt:=lU 6
abbrev Do:Stmt:=lU 7
abbrev AA:Stmt:=lU 8
abbrev j4:Stmt:=lU 9
def GT:tH uK lR (gk j4):=⟨rfl,rfl,rfl,by decide +kernel,rfl,by decide +kernel,by decide +kernel⟩
abbrev sP:Stmt:=lU 10
abbrev Ay:Stmt:=lU 12
abbrev qb:Stmt:=lU 13
abbrev rA:Stmt:=lU 14
abbrev uk:Stmt:=lU 15
abbrev qE:Stmt:=lU 16
abbrev rV:Stmt:=lU 17
abbrev vQ:Stmt:=lU 18
abbrev uT:Stmt:=lU 20
abbrev Ax:Stmt:=lU 21
abbrev rB:Stmt:=lU 22
abbrev Dn:Stmt:=lU 24
abbrev rC:Stmt:=lU 25
abbrev uo:Stmt:=lU 26
abbrev rT:Stmt:=lU 27
abbrev oF:Stmt:=lU 28
abbrev qc:Stmt:=lU 29
abbrev Pe:Stmt:=lU 31
abbrev EO:Stmt:=lU 32
abbrev Dp:Stmt:=lU 33
abbrev uq:Stmt:=lU 34
abbrev GQ:Stmt:=lU 35
abbrev ni:Stmt:=lU 36
abbrev Av:Stmt:=lU 37
abbrev Jv:Stmt:=lU 38
abbrev xr:Stmt:=lU 39
abbrev Ww:Stmt:=lU 40
abbrev Dk:Stmt:=lU 41
abbrev ER:Stmt:=lU 42
abbrev GP:Stmt:=lU 43
abbrev rD:Stmt:=lU 44
abbrev EN:Stmt:=lU 45
abbrev nF:Stmt:=lU 46
abbrev rz:Stmt:=lU 47
abbrev Aw:Stmt:=lU 48
abbrev xq:Stmt:=lU 49
abbrev AB:Stmt:=lU 50
abbrev sQ:Stmt:=lU 51
abbrev uU:Stmt:=lU 52
abbrev Tg:Stmt:=lU 53
abbrev og:Stmt:=lU 54
abbrev sR:Stmt:=lU 55
abbrev Ti:Stmt:=lU 56
abbrev x9:Stmt:=lU 57
abbrev vR:Stmt:=lU 58
abbrev Th:Stmt:=lU 59
abbrev Nh:List Str:=["_law_script"]
abbrev SM:List Str:=["_law_script","_law_state","_law_program_here","_law_names_here","_law_pair","_law_turn","_law_other","_law_change"]
def Sq(K:Fg):TS:=(eY (dF (OP) (dR (rH K) [] E0 (cQ (cU 2) (cQ (dF (eJ K) (cU 4) Za) (cQ (dF (eJ K) (cU 4) Zb) dh)))) (tC .non)))
def Sr(K:Fg):TS:=(gc (u2 (tB (dR (nq K) [] E0 (cQ (cU 2) (cQ (cU 6) dh))))) (eY (tC (.bl false))) eO)
def Ss(K:Fg):TS:=(gc (eA (dF (pA K) (iN (iE K) (cQ (dF (eJ K) (dF (eJ K) (cU 6) Za) Zb) dh)) (iN (iE K) (cQ (cU 2) dh)))) (eF (dR (rM K) [] E0 (cQ (cU 1) (cQ (cU 2) (cQ (cU 3) (cQ (cU 6) dh))))) (dy 6)) eO)
def Su(K:Fg):TS:=(dU (oj (mu (cQ (dF (gD K) Zb (dR (eN K) [] E0 (cQ (cU 1) (cQ Zd dh)))) dh)) (dy 7) (Ss K)) (Sr K))
def Sv(K:Fg):TS:=(dU (eF (cU 4) (dy 6)) (Su K))
def Sw(K:Fg):TS:=(dU (oj (mu (cQ Zd dh)) (dy 5) (Sv K)) (Sq K))
def Sx(K:Fg):TS:=(dU (gc (Pn (u2 (tB (dR (qH K) [] E0 (cQ (dF (eJ K) (cU 4) Za) dh)))) (u2 (tB (dR (nq K) [] E0 (cQ (cU 2) (cQ (cU 4) dh)))))) (eY (tC (.bl false))) eO) (Sw K))
def Sy(K:Fg):TS:=(dU (eF (dR (EV K) [] E0 (cQ (cU 1) (cQ (cU 2) dh))) (dy 4)) (Sx K))
def Sz(K:Fg):TS:=(dU (eF (dR (pQ K) [] E0 (cQ (cU 2) dh)) (dy 3)) (Sy K))
def Py(K:Fg):TS:=(dU (eF (dR (uY K) [] E0 (cQ (cU 1) (cQ Zi dh))) (dy 2)) (Sz K))
def Tn(K:Fg):TS:=(dU (eF (oH (cQ (cU 0) (cQ Za (cQ Za dh)))) (dy 1)) (Py K))
section
variable(P:dv)(w:dQ)(K:Fg)(mg:Str->Option cV)(base:Heap)
abbrev qX:=fh P w K mg base "pushed" FN HU (nG K)
abbrev FC:=fh P w K mg base "goal" wV zr (tR K)
abbrev FB:=fh P w K mg base "goal" wV zr (xy K)
abbrev wG:=fh P w K mg base "leads" uN wM (rG K)
abbrev vf:=fh P w K mg base "sets" Lh Nb (tQ K)
abbrev tY:=fh P w K mg base "part_fits" zD BJ (pC K)
abbrev vb:=fh P w K mg base "has_ring" BN DH (qd K)
abbrev vd:=fh P w K mg base "row_fits" BP DJ (qf K)
abbrev Fw:=fh P w K mg base "goal" wV zr (xt K)
abbrev tX:=fh P w K mg base "call_fits" zC BI (pB K)
abbrev mO:=fh P w K mg base "is_number_of" vr wL (jW K)
abbrev nS:=fh P w K mg base "places_read" wR yk (lx K)
abbrev CI:=fh P w K mg base "leads" uN wM (uV K)
abbrev ve:=fh P w K mg base "set_anew" BQ DK (qg K)
abbrev tZ:=fh P w K mg base "row_wrong" zE BK (pD K)
abbrev zk:=fh P w K mg base "unlike" FP HW (sS K)
abbrev vc:=fh P w K mg base "is_right" BO DI (qe K)
abbrev lL:=fh P w K mg base "stands" FO HV (jA K)
abbrev CJ:=fh P w K mg base "begun" Ie K7 (uW K)
abbrev nR:=fh P w K mg base "fits_behind" wQ yj (jB K)
abbrev zm:=fh P w K mg base "weaker" FQ HX (sT K)
abbrev xQ:=fh P w K mg base "behind" FM HS (rE K)
abbrev wI:=fh P w K mg base "leads" uN wM (pG K)
abbrev t5:=fh P w K mg base "same_work" zF BL (pE K)
abbrev CK:=fh P w K mg base "reads" Ig K8 (uX K)
abbrev lA:=fh P w K mg base "_law_draw" Qn Tv (eN K)
abbrev CM:=fh P w K mg base "_law_worth" Ij Lb (uZ K)
abbrev xU:=fh P w K mg base "_law_set_names" sx ua (rL K)
abbrev xT:=fh P w K mg base "_law_rough_row" zG BM (rK K)
abbrev Fx:=fh P w K mg base "_law_filled" Ld M6 (xu K)
abbrev FA:=fh P w K mg base "_law_mended" Lf M9 (xx K)
abbrev MY:=fh P w K mg base "_law_part" Qp Tx (EW K)
abbrev J7:=fh P w K mg base "_law_names" Ni Qk (vU K)
abbrev Qc:=fh P w K mg base "_law_in" VJ WU (AI K)
abbrev J8:=fh P w K mg base "_law_place" Nj Ql (pF K)
abbrev wD:=fh P w K mg base "_law_brought" Ib KY (mW K)
abbrev vh:=fh P w K mg base "_law_code_row" BS DM (qh K)
abbrev Fy:=fh P w K mg base "_law_forgot" Le M7 (xw K)
abbrev xR:=fh P w K mg base "come_to" DQ FF (rF K)
abbrev J6:=fh P w K mg base "_law_block" Ng Qj (AH K)
abbrev t8:=fh P w K mg base "_law_set_names" sx ua (pH K)
abbrev xS:=fh P w K mg base "_law_part_made" DR FG (rJ K)
abbrev uH:=fh P w K mg base "_law_names_of" FL HR (pQ K)
abbrev wF:=fh P w K mg base "_law_follows" Ic K6 (lN K)
abbrev FD:=fh P w K mg base "_law_spoken" Li Nc (xB K)
abbrev sj:=fh P w K mg base "_law_plain_spoken" yo zq (oh K)
abbrev zo:=fh P w K mg base "_law_row_good" FR HY (sU K)
abbrev zj:=fh P w K mg base "fits" Lg Na (qH K)
abbrev SG:=fh P w K mg base "_law_put" TF VB (xA K)
abbrev so:=fh P w K mg base "_law_work_changed" yp zt (oi K)
abbrev rP:=fh P w K mg base "_law_paper_changed" wU ym (mX K)
abbrev SF:=fh P w K mg base "_law_due" TC VA (Jx K)
abbrev wH:=fh P w K mg base "wrong" Ih K9 (rH K)
abbrev vg:=fh P w K mg base "_law_told_right" BR DL (nq K)
abbrev xV:=fh P w K mg base "_law_changed" DS FH (rM K)
abbrev MX:=fh P w K mg base "_law_made" Qo Tw (EV K)
abbrev CL:=fh P w K mg base "_law_program" Ii La (uY K)
end
def Iz{P:dv}{w:dQ}{K:Fg}{b:Str->Option cV}{a:Heap}(B:mC b) :mD P w K b a zz "pushed" Az IQ (A9 K):=m8 λf e c d=>by exact
 (dM (dO (ff kK (eE fX (dN (dY (qv 1))) (qv 0)) f9 (fP (iM B (dY (qv 0)))))))
def Ef{P:dv}{w:dQ}{K:Fg}{c:Str->Option cV}{b:Heap}(B:mC c)(a:qX P w K c b):mD P w K c b q5 "set_anew" rB Es (v9 K):=m8 λg d e f=>by exact
 (dM (dO (gP a (cX (fH e7 rfl B.tuple_ fZ (dY (Dg rB q5 ["name"] [] (ip (qv 0)) (kH 2) ie (GG (dE (gw d) (qv 2) (qv 1) rfl) jy (qv 2))))) (dY (qv 1))))))
def Iy{P:dv}{w:dQ}{K:Fg}{d:Str->Option cV}{c:Heap}(B:mC d)(a:ve P w K d c)(b:qX P w K d c):mD P w K d c zx "behind" Ax IP (AX K):=m8 λh e f g=>by exact
 (cZ (kr (dE (gw e) (eS (qv 0) cY) dG rfl) (dO (gP b (cX (qv 1) (dY (eS (qv 1) (eS (qv 0) cY))))))) (cZ (kr (dE iX (eS (qv 0) cY) (dN (cX dG (cX dG (dY dG)))) rfl) (dO (gP a (cX (qv 1) (dY (qv 2)))))) (dM (dO (qv 1)))))
def zQ{P:dv}{w:dQ}{K:Fg}{c:Str->Option cV}{a:Heap}(B:mC c) :mD P w K c a vn "goal" GS Ob (wq K):=m8 λf b d e=>by exact
 (cZ (kr (dE (gw b) (eS (qv 0) cY) dG rfl) (dO (eS (qv 0) cY))) (cZ (kr (dE (gw b) (eS (qv 0) cY) dG rfl) (dO (eS (qv 0) cY))) (dM (dO jy))))
def xb{P:dv}{w:dQ}{K:Fg}{d:Str->Option cV}{b:Heap}(B:mC d)(a:FC P w K d b):mD P w K d b tI "leads" Do LO (tS K):=m8 λg c e f=>by exact
 (cZ (iG 2 (eS (eS (qv 0) (qv 1)) cY)) (cZ (kr (dE (gw c) (qv 2) dG rfl) (dO (dN px))) (cZ (kr (dE (gw c) (qv 2) dG rfl) (dO (dN (dY (gP a (dY (eS (qv 0) (qv 1)))))))) (cZ (kr (dE (gw c) (qv 2) dG rfl) (dO (dN (cX (eE fX (qv 1) cY) (dY (gP a (dY (eS (qv 0) (qv 1))))))))) (dM (dO (dN (dY (eE fX (qv 1) cY)))))))))
def ID{P:dv}{w:dQ}{K:Fg}{b:Str->Option cV}{a:Heap}(B:mC b) :mD P w K b a uL "weaker" uT IU (Bf K):=m8 λf c d e=>by exact
 (dM (dO (jh (ny rfl) rfl B.all_ boot_all (dY (Dg uT uL ["name","fellow"] [] (KF rfl B.zip_ (cX (qv 0) (dY (qv 1)))) (mT rfl (gr (kH 2) (gr (kH 3) kP))) ie (OK (i4 Ag (qv 2) jy rfl) (sO (i4 (gw c) (qv 2) (qv 3) rfl))))))))
def yq{P:dv}{w:dQ}{K:Fg}{c:Str->Option cV}{b:Heap}(B:mC c)(a:zm P w K c b):mD P w K c b rS "fits_behind" rT yw (rW K):=m8 λg d e f=>by exact
 (dM (dO (xj (i4 (gw d) (eS (qv 0) cY) (qv 1) rfl) (sO (gP a (cX (eS (qv 0) cY) (dY (qv 2))))))))
def NG{P:dv}{w:dQ}{K:Fg}{b:Str->Option cV}{a:Heap}(B:mC b) :mD P w K b a FK "sets" GR Oa (Hk K):=m8 λf e c d=>by exact
 (cZ (kr (dE iX (eS (qv 0) cY) (dN (cX dG (cX dG (dY dG)))) rfl) (dO (eS (qv 0) cY))) (dM (dO jy)))
def yt{P:dv}{w:dQ}{K:Fg}{c:Str->Option cV}{a:Heap}(B:mC c) :mD P w K c a nW "places_read" rV yx (om K):=m8 λf b d e=>by exact
 (cZ (iG 1 (eS (qv 0) cY)) (cZ (kr (dE (gw b) (qv 1) dG rfl) (dO (dN (cX (eS (qv 0) cY) (dY (eS (qv 0) cY)))))) (cZ (kr (dE (gw b) (qv 1) dG rfl) (dO (fH e7 rfl B.tuple_ fZ (dY (eS (qv 0) cY))))) (cZ (kr (dE iX (qv 1) (dN (cX dG (cX dG (cX dG (dY dG))))) rfl) (dO (dN (dY (eS (qv 0) cY))))) (dM (dO (dN px)))))))
def Lv{P:dv}{w:dQ}{K:Fg}{c:Str->Option cV}{a:Heap}(B:mC c) :mD P w K c a CQ "reads" Dm LL (Dy K):=m8 λf b d e=>by exact
 (cZ (iG 1 (eS (qv 0) cY)) (cZ (kr (dE (gw b) (qv 1) dG rfl) (dO (dN (cX (eS (qv 0) cY) (dY (eS (qv 0) cY)))))) (cZ (kr (dE (gw b) (qv 1) dG rfl) (dO (fH e7 rfl B.tuple_ fZ (dY (eS (qv 0) cY))))) (cZ (kr (dE iX (qv 1) (dN (cX dG (cX dG (dY dG)))) rfl) (dO (dN (dY (eS (qv 0) cY))))) (dM (dO (dN px)))))))
def B0{P:dv}{w:dQ}{K:Fg}{d:Str->Option cV}{c:Heap}(B:mC d)(a:nS P w K d c)(b:CK P w K d c):mD P w K d c pW "same_work" qc Ce (ux K):=m8 λh e f g=>by exact
 (cZ (kr (dE (oa e) (eS (qv 0) cY) (eS (qv 1) cY) rfl) (dO kO)) (cZ (kr (QW.pt (mV (dE iX (eS (qv 0) cY) (dN (cX dG (cX dG (dY dG)))) rfl) (nh (dE (oa e) (eS (qv 0) cY) (eS (qv 1) cY) rfl)))) (dO kO)) (dM (dO (i4 (gw e) (fH e7 rfl B.tuple_ fZ (dY (Dg qc pW ["place"] [] (ip (gP a (dY (qv 1)))) (kH 3) ie (eS (qv 2) (qv 3))))) (gP b (dY (qv 0))) rfl)))))
def IA{P:dv}{w:dQ}{K:Fg}{c:Str->Option cV}{b:Heap}(B:mC c)(a:FB P w K c b):mD P w K c b zA "stands" AA IR (Bc K):=m8 λg d e f=>by exact
 (cZ (iG 2 (qv 1)) (cZ (vK fS.never (dE (gw d) (eS (eS (qv 0) (qv 2)) cY) dG rfl) (dM (iG 2 (gP a (dY (eS (qv 0) (qv 2))))))) (dM (dO (qv 2)))))
def Ed{P:dv}{w:dQ}{K:Fg}{h:Str->Option cV}{b:Heap}(B:mC h)(e:xQ P w K h b)(d:wI P w K h b)(a:nR P w K h b)(g:vf P w K h b)(c:t5 P w K h b)(f:lL P w K h b):mD P w K h b oC "is_right" oF Ep (vY K):=m8 λl k i j=>by exact
 (cZ (iG 4 (eS (qv 1) (qv 3))) (cZ (iG 5 (eS (eS (qv 2) (qv 3)) cY)) (cZ (iG 6 (eS (eS (qv 2) (qv 3)) cY)) (cZ (nA (dE iX (eS (qv 4) cY) (dN (cX dG (dY dG))) rfl) (dM (iG 7 (dN (dY (qv 5))))) (dM (nA (mU (kI (gP c (cX (eS (qv 0) (qv 5)) (cX (qv 4) (dY (qv 6))))))) (dM (dO kO)) (dM (iG 7 (fH e7 rfl B.tuple_ fZ (dY (Dg oF oC ["to"] [] (ip (gP d (cX (qv 0) (dY (qv 5))))) (kH 9) ie (gP f (cX (qv 0) (dY (qv 9)))))))))))) (cZ (iG 8 (gP e (cX (qv 4) (cX (qv 6) (dY (gP g (dY (eS (qv 0) (qv 5))))))))) (dM (dO (jh (ny rfl) rfl B.all_ boot_all (dY (Dg oF oC ["to","row"] [] (KF rfl B.zip_ (cX (gP d (cX (qv 1) (dY (qv 3)))) (dY (qv 7)))) (mT rfl (gr (kH 9) (gr (kH 10) kP))) ie (gP a (cX (eS (qv 2) (qv 9)) (cX (qv 10) (dY (qv 8)))))))))))))))
def Lu{P:dv}{w:dQ}{K:Fg}{c:Str->Option cV}{b:Heap}(B:mC c)(a:qX P w K c b):mD P w K c b CP "begun" Dl LK (Dx K):=m8 λg f d e=>by exact
 (cZ (iG 3 (eE jx (dN (dY (qv 2))) (qv 0))) (cZ (jK fS.never rfl (ip (qv 1)) (kH 4) (dM (iG 3 (gP a (cX (qv 3) (dY (qv 4))))))) (dM (dO (qv 3)))))
def BZ{P:dv}{w:dQ}{K:Fg}{f:Str->Option cV}{c:Heap}(B:mC f)(b:vc P w K f c)(d:lL P w K f c)(e:CJ P w K f c)(a:nR P w K f c):mD P w K f c uc "row_wrong" uo Cd (uw K):=m8 λj i g h=>by exact
 (cZ (kr (mU (kI (gP a (cX (eS (qv 3) cY) (cX (gP d (cX (eS (qv 1) cY) (dY cY))) (dY (gP e (cX (qv 0) (cX (eS (qv 1) cY) (dY jy)))))))))) (dO cY)) (cZ (jK fS.never rfl (iD rfl B.range_ (dY (iM B (dY (qv 2))))) (kH 4) (dM (kr (mU (kI (gP b (cX (eS (qv 1) cY) (cX (qv 2) (cX (qv 3) (dY (qv 4)))))))) (dO (qv 4))))) (dM (dO jy))))
def IB{P:dv}{w:dQ}{K:Fg}{b:Str->Option cV}{a:Heap}(B:mC b) :mD P w K b a q9 "unlike" rC IS (Bd K):=m8 λf c d e=>by exact
 (cZ (MT rC q9 ["part"] [] 2 (ip (qv 0)) (kH 5) ie (iM B (dY (eS (qv 5) cY)))) (cZ (MT rC q9 ["part"] [] 3 (ip (qv 1)) (kH 5) ie (eS (qv 5) cY)) (cZ (jK fS.never rfl (iD rfl B.range_ (dY (jh (w5 rfl) rfl B.max_ boot_max (cX (iM B (dY (qv 2))) (dY (iM B (dY (qv 3)))))))) (kH 4) (dM (kr (dE (oa c) (ff kK (qv 2) (fP (qv 4)) (fP (eE fX (qv 4) cY))) (ff kK (qv 3) (fP (qv 4)) (fP (eE fX (qv 4) cY))) rfl) (dO (qv 4))))) (dM (dO jy)))))
def Lw{P:dv}{w:dQ}{K:Fg}{d:Str->Option cV}{c:Heap}(B:mC d)(a:tZ P w K d c)(b:zk P w K d c):mD P w K d c CS "wrong" Dn LM (Dz K):=m8 λh g e f=>by exact
 (cZ (iG 3 (eS (qv 1) cY)) (cZ (iG 4 (eS (qv 1) cY)) (cZ (iG 5 (gP b (cX (qv 0) (dY (qv 4))))) (cZ (kr (dE EA (qv 5) jy rfl) (dO (dN (cX (qv 5) (dY cY))))) (cZ (jK fS.never rfl (OL rfl B.enumerate_ (dY (qv 0))) (mT rfl (gr (kH 5) (gr (kH 6) kP))) (cZ (iG 7 (gP a (cX (qv 3) (cX (qv 6) (cX (eS (eS (qv 4) (qv 5)) cY) (dY (eS (qv 2) (qv 5)))))))) (dM (kr (dE EA (qv 7) jy rfl) (dO (dN (cX (qv 5) (dY (qv 7))))))))) (dM (dO jy)))))))
def Ls{P:dv}{w:dQ}{K:Fg}{c:Str->Option cV}{a:Heap}(B:mC c) :mD P w K c a wN "_law_follows" xq LJ (Dt K):=m8 λf b d e=>by exact
 (cZ (kr (dE (oa b) (eS (qv 0) cY) (qv 1) rfl) (dO kO)) (dM (dO (i4 (gw b) (Dg xq wN ["_law_i"] [] (iD rfl B.range_ (dY (iM B (dY (qv 2))))) (kH 3) (rq (dE my (eS (eS (qv 0) cY) (qv 3)) (dN (cX jy (dY (eS (qv 2) (qv 3))))) rfl)) (qv 3)) (j3 px) rfl))))
def TR{P:dv}{w:dQ}{K:Fg}{b:Str->Option cV}{a:Heap}(B:mC b) :mD P w K b a VF "_law_in" Ww W4 (Wy K):=m8 λf e c d=>by exact
 (dM (dO (eE fX (dN (dY (qv 1))) (ff kK (qv 0) f9 (fP (Dh xM cY))))))
def NH{P:dv}{w:dQ}{K:Fg}{c:Str->Option cV}{a:Heap}(B:mC c) :mD P w K c a vo "_law_spoken" AB Oc (Bm K):=m8 λf b d e=>by exact
 (cZ (kr (dE (gw b) (eS (qv 0) cY) dG rfl) (dO (qv 0))) (cZ (kr (dE (gw b) (eS (qv 0) cY) dG rfl) (dO (dN (cX dG (cX (eS (qv 0) cY) (cX (eS (qv 1) (eS (qv 0) cY)) (dY (eS (qv 1) (eS (qv 0) cY))))))))) (cZ (kr (dE (gw b) (eS (qv 0) cY) dG rfl) (dO (dN (cX dG (cX (eS (qv 0) cY) (dY (fH e7 rfl B.tuple_ fZ (dY (Dg AB vo ["_law_i"] [] (ip (eS (qv 0) cY)) (kH 2) ie (eS (qv 1) (qv 2))))))))))) (dM (dO (dN (cX (eS (qv 0) cY) (dY (eS (qv 1) (eS (qv 0) cY))))))))))
def zP{P:dv}{w:dQ}{K:Fg}{b:Str->Option cV}{a:Heap}(B:mC b) :mD P w K b a su "_law_plain_spoken" sQ z3 (tf K):=m8 λf e c d=>by exact
 (cZ (kr (dE iX (eS (qv 0) cY) (dN (cX dG (cX dG (dY dG)))) rfl) (dO (eE gF (ff iF (qv 0) f9 (fP cY)) (ff iF (qv 0) (fP cY) f9)))) (dM (dO (ff iF (qv 0) f9 (fP cY)))))
def IE{P:dv}{w:dQ}{K:Fg}{g:Str->Option cV}{d:Heap}(B:mC g)(b:lL P w K g d)(a:wF P w K g d)(f:Qc P w K g d)(e:FD P w K g d)(c:sj P w K g d):mD P w K g d uM "_law_row_good" uU IV (Bl K):=m8 λk h i j=>by exact
 (cZ (kj (eS (qv 2) (qv 3)) (mT rfl (gr (kH 4) (gr (kH 5) kP)))) (cZ (iG 6 (eS (qv 1) (qv 3))) (cZ (kr (dE (gw h) (eS (qv 6) cY) dG rfl) (dO (gP a (cX (eS (qv 2) (eE fX (qv 3) cY)) (cX (qv 4) (dY (gP f (cX (qv 5) (dY (eS (qv 5) (eS (qv 6) cY))))))))))) (cZ (kr (dE (gw h) (eS (qv 6) cY) dG rfl) (dO (gP a (cX (eS (qv 2) (eS (qv 6) cY)) (cX (qv 4) (dY (qv 5))))))) (cZ (kr (dE (UA i) (gP e (cX (qv 6) (dY (qv 5)))) (gP c (dY (eS (qv 0) (qv 4)))) rfl) (dO kO)) (cZ (kr (dE (gw h) (eS (qv 6) cY) dG rfl) (dO kO)) (cZ (nA (dE iX (eS (qv 6) cY) (dN (cX dG (cX dG (dY dG)))) rfl) (cZ (iG 7 (eS (eS (qv 0) (qv 4)) cY)) (dM (iG 5 (gP f (cX (fH e7 rfl B.tuple_ fZ (dY (Dg uU uM ["_law_name"] [] (ip (qv 5)) (kH 8) ie (eS (j3 (cX (qv 8) (dY jy))) (fH oM rfl B.int_ se (dY (i4 (gw h) (qv 8) (qv 7) rfl))))))) (dY (qv 7))))))) lu) (cZ (kr (mU (kI (gP a (cX (eS (qv 2) (eE fX (qv 3) cY)) (cX (gP b (cX (qv 0) (dY (eE fX (qv 4) cY)))) (dY (qv 5))))))) (dO kO)) (dM (dO (OK (i4 (oa h) (eS (qv 6) cY) dG rfl) (sO (gP a (cX (eS (qv 2) (eS (qv 6) cY)) (cX (gP b (cX (qv 0) (dY (eS (eS (qv 0) (qv 4)) cY)))) (dY (qv 5)))))))))))))))))
def VP{P:dv}{w:dQ}{K:Fg}{e:Str->Option cV}{d:Heap}(B:mC e)(b:zo P w K e d)(a:lL P w K e d)(c:wF P w K e d):mD P w K e d SL "_law_due" Tg VX (Tj K):=m8 λi f g h=>by exact
 (cZ (jK fS.never rfl (iD rfl B.range_ (dY (jh (w5 rfl) rfl B.max_ boot_max (cX (iM B (dY (qv 0))) (dY (iM B (dY (eS (qv 1) cY)))))))) (kH 3) (dM (kr (QW.pt (vL (dE Oo (qv 3) (iM B (dY (qv 0))) rfl) (vL (dE Oo (qv 3) (iM B (dY (eS (qv 1) cY))) rfl) (uR (dE (oa f) (iM B (dY (eS (eS (qv 0) (qv 3)) cY))) (eS (eS (eS (qv 1) cY) (qv 3)) cY) rfl))))) (dO (dN (cX (qv 3) (dY cY))))))) (cZ (jK fS.never rfl (iD rfl B.range_ (dY (iM B (dY (qv 0))))) (kH 3) (cZ (iG 4 (eS (eS (qv 0) (qv 3)) cY)) (cZ (iG 5 (ff iF (eE gF (Ao rfl rfl B.tuple_ B.reversed_ rfl (dY (eS (eS (qv 0) (qv 3)) cY))) (eE jx (dN (dY jy)) (eS (qv 1) cY))) f9 (fP (eS (qv 1) cY)))) (cZ (kr (mU (kI (gP c (cX (eS (eS (qv 2) (qv 3)) cY) (cX (gP a (cX (qv 4) (dY cY))) (dY (qv 5))))))) (dO (dN (cX (qv 3) (dY cY))))) (dM (jK fS.never rfl (iD rfl B.range_ (dY (iM B (dY (eS (eS (eS (qv 1) cY) (qv 3)) cY))))) (kH 6) (dM (kr (mU (kI (gP b (cX (qv 4) (cX (eS (eS (eS (qv 1) cY) (qv 3)) cY) (cX (eS (qv 2) (qv 3)) (dY (qv 6)))))))) (dO (dN (cX (qv 3) (dY (qv 6))))))))))))) (dM (dO jy))))
def Eg{P:dv}{w:dQ}{K:Fg}{d:Str->Option cV}{b:Heap}(B:mC d)(c:SF P w K d b)(a:wH P w K d b):mD P w K d b vp "_law_told_right" vR Et (wu K):=m8 λh e f g=>by exact
 (cZ (iG 2 (gP a (cX (qv 0) (cX (eS (qv 1) cY) (dY (eS (qv 1) cY)))))) (cZ (iG 3 (gP c (cX (qv 0) (cX (eS (qv 1) cY) (dY (eS (qv 1) cY)))))) (cZ (kr (dE Ag (qv 3) jy rfl) (dO (i4 Ag (qv 2) jy rfl))) (cZ (kr (QW.pt (vL (mU (kI (jh vy rfl B.isinstance_ nJ (cX (qv 2) (dY (zb rfl B.tuple_ fZ (v:=.ty "tuple") rfl)))))) (uR (dE (oa e) (iM B (dY (qv 2))) cY rfl)))) (dO kO)) (dM (dO (xj (i4 (gw e) (qv 2) (qv 3) rfl) (xj (Jg (jh vy rfl B.isinstance_ nJ (cX (eS (qv 2) cY) (dY (zb rfl B.bool_ boot_bool (v:=.ty "bool") rfl))))) (sO (Jg (jh vy rfl B.isinstance_ nJ (cX (eS (qv 2) cY) (dY (zb rfl B.bool_ boot_bool (v:=.ty "bool") rfl))))))))))))))
def TN{P:dv}{w:dQ}{K:Fg}{c:Str->Option cV}{a:Heap}(B:mC c) :mD P w K c a Nf "_law_draw" Pe Ug (Pr K):=m8 λf b d e=>by exact
 (cZ (kj (ff kK (qv 0) f9 (fP cY)) (RN rfl (gr (kH 2) (gr (kH 3) kP)))) (cZ (kj (eE fX (qv 3) cY) (mz (qv 0) cY kW)) (cZ (nA (QW.pt (mV (dE pO (eE fX (eE Ez (qv 3) cY) cY) (iM B (dY (qv 2))) rfl) (nh (dE (gw b) (eE lD (eS (qv 2) cY) cY) cY rfl)))) (cZ (kr (dE (gw b) (eE lD (qv 3) cY) cY rfl) (kj (eS (qv 2) (eE fX (eE Ez (qv 3) cY) cY)) (mz (qv 0) cY kW))) (dM (nA (dE my (eS (qv 0) cY) (dN (cX cY (dY (Dh xM cY)))) rfl) (cZ (kj (jh D6 rfl B.divmod_ boot_divmod (cX (eS (qv 0) cY) (dY (qv 1)))) (mT rfl (gr (mz (qv 0) cY kW) (gr (kH 4) kP)))) (dM (dO (qv 4)))) lu))) (dM (kr (dE pO (qv 3) (iM B (dY (qv 2))) rfl) (dO (eE lD (eS (qv 2) (qv 3)) (qv 1)))))) (cZ (iG 5 (eE fX (eE jx (qv 3) cY) cY)) (cZ (kr (dE Dd (iM B (dY (qv 2))) cY rfl) (iG 5 (eE fX (qv 5) (eE jx (eS (qv 2) (eE lD (eE jx (qv 3) cY) (iM B (dY (qv 2))))) (eE fX cY (qv 3)))))) (cZ (iG 5 (eE lD (eE jx (eE lD (qv 5) cY) (eE fX (qv 3) cY)) cY)) (cZ (iG 5 (eE lD (eE jx (qv 5) (qv 5)) cY)) (dM (dO (eE lD (eE lD (eE jx (qv 5) (qv 5)) cY) (qv 1)))))))))))
def Ec{P:dv}{w:dQ}{K:Fg}{d:Str->Option cV}{b:Heap}(B:mC d)(a:CI P w K d b):mD P w K d b vm "has_ring" vQ Eo (vX K):=m8 λg f c e=>by exact
 (cZ (iG 1 GF) (cZ (jK fS.never rfl (iD rfl B.range_ (dY (iM B (dY (qv 0))))) (kH 2) (cZ (iG 3 GF) (cZ (iG 4 (qv 2)) (cZ (vK fS.never (QW.pt (mV (dE iX (eS (eS (qv 0) (qv 4)) cY) (dN (cX dG (dY dG))) rfl) (nh (dE (De c) (qv 4) (qv 1) rfl)))) (cZ (kr (dE (Oq c) (qv 4) (qv 3) rfl) (dO kO)) (cZ (kj kO (mz (qv 3) (qv 4) (AD c))) (dM (iG 4 (eS (gP a (cX (qv 0) (dY (qv 4)))) cY)))))) (dM (lq (RK (qv 1) (qv 3) ⟨rfl,rfl,rfl,rfl⟩))))))) (dM (dO kO))))
def xa{P:dv}{w:dQ}{K:Fg}{b:Str->Option cV}{a:Heap}(B:mC b) :mD P w K b a qs "is_number_of" qE xf (qI K):=m8 λf e c d=>by exact
 (dM (dO (xj (i4 Oo (qv 0) cY rfl) (sO (i4 pO (qv 0) (qv 1) rfl)))))
def BX{P:dv}{w:dQ}{K:Fg}{c:Str->Option cV}{b:Heap}(B:mC c)(a:mO P w K c b):mD P w K c b ub "call_fits" uk Cb (uu K):=m8 λg d e f=>by exact
 (cZ (iG 2 (eS (qv 1) cY)) (dM (dO (xj (gP a (cX (qv 2) (dY (iM B (dY (qv 0)))))) (sO (i4 (gw d) (iM B (dY (eS (qv 1) cY))) (eS (eS (qv 0) (qv 2)) cY) rfl))))))
def Ee{P:dv}{w:dQ}{K:Fg}{f:Str->Option cV}{d:Heap}(B:mC f)(e:Fw P w K f d)(c:tX P w K f d)(a:mO P w K f d)(b:nS P w K f d):mD P w K f d q4 "row_fits" rA Er (v8 K):=m8 λj g h i=>by exact
 (cZ (kr (mU (kI (jh (ny rfl) rfl B.all_ boot_all (dY (Dg rA q4 ["place"] [] (ip (gP b (dY (qv 3)))) (kH 5) ie (gP a (cX (qv 5) (dY (qv 0))))))))) (dO kO)) (cZ (iG 4 (gP e (dY (qv 3)))) (cZ (kr (QW.pt (mV (dE EA (qv 4) jy rfl) (nh (mU (kI (gP a (cX (qv 4) (dY (iM B (dY (qv 2))))))))))) (dO kO)) (dM (dO (OK (i4 (oa g) (eS (qv 3) cY) dG rfl) (sO (gP c (cX (qv 1) (dY (qv 3)))))))))))
def BY{P:dv}{w:dQ}{K:Fg}{d:Str->Option cV}{c:Heap}(B:mC d)(a:vb P w K d c)(b:vd P w K d c):mD P w K d c pV "part_fits" qb Cc (uv K):=m8 λh e f g=>by exact
 (cZ (iG 3 (eS (qv 2) cY)) (cZ (iG 4 (eS (qv 2) cY)) (cZ (kr (QW.pt (vL (dE pO (qv 3) cY rfl) (vL (dE Dd (qv 3) cY rfl) (uR (dE (gw e) (iM B (dY (qv 4))) cY rfl))))) (dO kO)) (cZ (kr (dE my (eS (eS (qv 4) (Dh xM cY)) cY) (dN (cX dG (dY dG))) rfl) (dO kO)) (cZ (kr (mU (kI (jh (ny rfl) rfl B.all_ boot_all (dY (Dg qb pV ["row"] [] (ip (qv 4)) (kH 5) ie (gP b (cX (qv 0) (cX (qv 1) (cX (qv 4) (dY (qv 5))))))))))) (dO kO)) (dM (dO (Jg (gP a (dY (qv 4)))))))))))
def NF{P:dv}{w:dQ}{K:Fg}{c:Str->Option cV}{b:Heap}(B:mC c)(a:tY P w K c b):mD P w K c b zy "fits" Ay N9 (Hf K):=m8 λg f d e=>by exact
 (cZ (iG 1 (eS (qv 0) cY)) (cZ (iG 2 (eS (qv 0) cY)) (cZ (kr (QW.pt (vL (dE pO (qv 1) cY rfl) (uR (dE Dd (qv 1) cY rfl)))) (dO kO)) (dM (dO (jh (ny rfl) rfl B.all_ boot_all (dY (Dg Ay zy ["part"] [] (ip (qv 2)) (kH 3) ie (gP a (cX (qv 1) (cX (qv 2) (dY (qv 3)))))))))))))
def VR{P:dv}{w:dQ}{K:Fg}{b:Str->Option cV}{a:Heap}(B:mC b) :mD P w K b a SN "_law_put" Ti VY (To K):=m8 λf e c d=>by exact
 (dM (dO (eE gF (eE gF (ff iF (qv 0) f9 (fP (qv 1))) (dN (dY (qv 2)))) (ff iF (qv 0) (fP (eE gF (qv 1) cY)) f9))))
def zR{P:dv}{w:dQ}{K:Fg}{d:Str->Option cV}{b:Heap}(B:mC d)(a:lA P w K d b):mD P w K d b sv "_law_work_changed" sR z6 (tq K):=m8 λg c e f=>by exact
 (cZ (iG 4 (gP a (cX (qv 0) (dY (eS (qv 1) cY))))) (cZ (kr (dE (jJ c) (eS (qv 2) cY) dG rfl) (dO (dN (cX dG (dY (eE lD (eE gF (eS (qv 2) cY) cY) (eE Ai cY cY))))))) (cZ (nA (dE (jJ c) (eS (qv 2) cY) dG rfl) (cZ (iG 5 (eS dG (gP a (cX (qv 0) (dY cY))))) (dM (dO (eS (j3 (cX (dN (cX dG (cX (qv 5) (cX (eS (qv 2) cY) (dY (eS (qv 2) cY)))))) (cX (dN (cX dG (cX (eS (qv 2) cY) (cX (qv 4) (dY (eS (qv 2) cY)))))) (dY (dN (cX dG (cX (eS (qv 2) cY) (cX (eS (qv 2) cY) (dY (eS (qv 2) cY)))))))))) (eE lD (qv 4) cY))))) lu) (cZ (nA (dE (jJ c) (eS (qv 2) cY) dG rfl) (cZ (iG 6 (gP a (cX (qv 0) (dY (iM B (dY (eS (qv 1) cY))))))) (dM (dO (eS (j3 (cX (dN (cX dG (cX (qv 6) (dY (eS (qv 2) cY))))) (dY (dN (cX dG (cX (eS (qv 2) cY) (dY (ff iF (eE gF (eS (qv 2) cY) (dN (dY (qv 4)))) (fP cY) f9)))))))) (gP a (cX (qv 0) (dY cY))))))) lu) (cZ (kr (dE (jJ c) (eS (qv 2) cY) dG rfl) (dO (dN (cX dG (dY (gP a (cX (qv 0) (dY (qv 3))))))))) (cZ (kr (QW.pt (mV (dE (jJ c) (eS (qv 2) cY) dG rfl) (nh (dE (jJ c) (gP a (cX (qv 0) (dY cY))) cY rfl)))) (dO (dN (cX dG (cX (eS (qv 2) cY) (dY (gP a (cX (qv 0) (dY (qv 3)))))))))) (cZ (kr (dE (jJ c) (gP a (cX (qv 0) (dY cY))) cY rfl) (dO (eS (j3 (cX (dN (cX dG (dY (qv 4)))) (cX (dN (cX dG (dY (qv 4)))) (dY (dN (cX dG (dY (qv 4)))))))) (eE lD (qv 4) cY)))) (dM (dO (eE gF (dN (cX (eS (qv 2) cY) (dY (qv 4)))) (ff iF (qv 2) (fP cY) f9)))))))))))
def yu{P:dv}{w:dQ}{K:Fg}{d:Str->Option cV}{b:Heap}(B:mC d)(a:lA P w K d b):mD P w K d b nX "_law_paper_changed" og yy (rY K):=m8 λg c e f=>by exact
 (cZ (kj (qv 3) (mT rfl (gr (kH 4) (gr (kH 5) kP)))) (cZ (MT og nX ["_law_m"] [] 6 (iD rfl B.range_ (dY (iM B (dY (qv 1))))) (kH 11) (rq (dE (oa c) (eS (eS (qv 1) (qv 11)) cY) dG rfl)) (qv 11)) (cZ (iG 7 (gP a (cX (qv 0) (dY cY)))) (cZ (iG 8 (gP a (cX (qv 0) (dY (iM B (dY (qv 5))))))) (cZ (kr (dE (jJ c) (qv 7) cY rfl) (dO (dN (cX (eS (qv 6) (gP a (cX (qv 0) (dY (iM B (dY (qv 6))))))) (dY (qv 5)))))) (cZ (kr (dE (jJ c) (qv 7) cY rfl) (dO (dN (cX (qv 4) (dY (eE gF (eE gF (ff iF (qv 5) f9 (fP (qv 8))) (dN (dY jy))) (ff iF (qv 5) (fP (eE gF (qv 8) cY)) f9))))))) (cZ (kr (dE (jJ c) (qv 7) cY rfl) (dO (dN (cX (qv 4) (dY (eE gF (eE gF (ff iF (qv 5) f9 (fP (qv 8))) (dN (dY (eS (qv 2) (gP a (cX (qv 0) (dY (iM B (dY (qv 2)))))))))) (ff iF (qv 5) (fP (eE gF (qv 8) cY)) f9))))))) (cZ (kr (dE (jJ c) (qv 7) cY rfl) (dO (dN (cX (qv 4) (dY (ff iF (eE gF (qv 5) (ff iF (qv 5) f9 (fP cY))) (fP cY) f9)))))) (cZ (iG 9 (gP a (cX (qv 0) (dY (iM B (dY (qv 5))))))) (cZ (iG 10 (fH oE rfl B.list_ boot_list (dY (qv 5)))) (cZ (kj (eS (qv 5) (qv 9)) (mz (qv 10) (qv 8) kW)) (cZ (kj (eS (qv 5) (qv 8)) (mz (qv 10) (qv 9) kW)) (dM (dO (dN (cX (qv 4) (dY (fH e7 rfl B.tuple_ fZ (dY (qv 10))))))))))))))))))))
def Ga{P:dv}{w:dQ}{K:Fg}{g:Str->Option cV}{d:Heap}(B:mC g)(e:zj P w K g d)(f:SG P w K g d)(a:lA P w K g d)(c:so P w K g d)(b:rP P w K g d):mD P w K g d xX "_law_changed" x9 Gs (yh K):=m8 λk h i j=>by exact
 (cZ (kj (qv 3) (mT rfl (gr (kH 4) (gr (kH 5) kP)))) (cZ (iG 6 (gP a (cX (qv 0) (dY cY)))) (cZ (iG 7 (gP a (cX (qv 0) (dY (iM B (dY (qv 1))))))) (cZ (kr (QW.pt (mV (dE (jJ h) (qv 6) cY rfl) (mV (dE Dd (qv 7) cY rfl) (nh (kI (gP e (dY (dN (cX (eS (qv 4) cY) (dY (ff iF (eS (qv 4) cY) f9 (fP (Dh xM cY))))))))))))) (dO (dN (cX (dN (cX (eS (qv 4) cY) (dY (ff iF (eS (qv 4) cY) f9 (fP (Dh xM cY)))))) (dY (ff iF (qv 5) f9 (fP (Dh xM cY)))))))) (cZ (nA (QW.pt (mV (dE (jJ h) (qv 6) cY rfl) (mV (dE pO (iM B (dY (qv 1))) cY rfl) (nh (dE (jJ h) (gP a (cX (qv 0) (dY cY))) cY rfl))))) (cZ (iG 8 (dN (cX cY (dY (dN (cX (dN (cX dG (dY cY))) (dY (dN (cX dG (dY cY)))))))))) (dM (dO (dN (cX (dN (cX (eS (qv 4) cY) (dY (eE gF (eS (qv 4) cY) (dN (dY (qv 8))))))) (dY (eE gF (qv 5) (dN (dY (eE gF (ff iF (eS (qv 5) cY) f9 (fP cY)) (ff iF (eS (qv 5) cY) f9 (fP cY)))))))))))) lu) (cZ (kj (eS (eS (qv 4) cY) (qv 7)) (mT rfl (gr (kH 9) (gr (kH 10) kP)))) (cZ (iG 11 (gP a (cX (qv 0) (dY (iM B (dY (qv 10))))))) (cZ (nA (dE pO (qv 6) cY rfl) (cZ (iG 12 (gP b (cX (qv 0) (cX (eS (eS (qv 1) (qv 7)) cY) (cX (qv 2) (dY (eS (eS (qv 5) (qv 7)) (qv 11)))))))) (dM (dO (dN (cX (qv 4) (dY (gP f (cX (qv 5) (cX (qv 7) (dY (gP f (cX (eS (qv 5) (qv 7)) (cX (qv 11) (dY (qv 12))))))))))))))) lu) (cZ (iG 13 (gP f (cX (qv 10) (cX (qv 11) (dY (gP c (cX (qv 0) (cX (qv 4) (cX (eS (qv 10) (qv 11)) (dY (iM B (dY (qv 10))))))))))))) (cZ (nA (QW.pt (mV (dE (jJ h) (qv 6) cY rfl) (nh (dE (jJ h) (gP a (cX (qv 0) (dY cY))) cY rfl)))) (cZ (iG 13 (qv 10)) (dM (iG 9 (eS (j3 (cX (eE gF (qv 9) cY) (dY cY))) (gP a (cX (qv 0) (dY cY))))))) lu) (cZ (iG 13 (dN (cX (eS (qv 4) cY) (dY (gP f (cX (eS (qv 4) cY) (cX (qv 7) (dY (dN (cX (qv 9) (dY (qv 13)))))))))))) (cZ (kr (kI (gP e (dY (qv 13)))) (dO (dN (cX (qv 13) (dY (qv 5)))))) (dM (dO (qv 3)))))))))))))))
def IC{P:dv}{w:dQ}{K:Fg}{e:Str->Option cV}{c:Heap}(B:mC e)(a:wG P w K e c)(b:vf P w K e c):mD P w K e c uK "walked" j4 IT (Be K):=m8 λh f d g=>by exact
 (cZ (iG 2 (RJ (OM cY kO RQ) rfl rfl (by simp) (by decide))) (cZ (iG 3 (j3 (dY cY))) (cZ (vK fS.never (dE Dd (iM B (dY (qv 3))) cY rfl) (cZ (iG 4 (U5 PySem.F.plainAttrs_list PySem.F.slot_list_pop PySem.F.type_list_pop Ur (qv 3))) (dM (kr (QW.pt (vL (dE Ag (qv 1) jy rfl) (uR (dE (oa f) (gP b (dY (eS (qv 0) (qv 4)))) (qv 1) rfl)))) (jK fS.never rfl (ip (gP a (cX (qv 0) (dY (qv 4))))) (kH 5) (dM (nA (dE (De d) (qv 5) (qv 2) rfl) (cZ (kj kO (mz (qv 2) (qv 5) (AD d))) (dM (lq (An (qv 3) (qv 5))))) lu))))))) (dM (dO (jh (Iv rfl) rfl B.sorted_ boot_sorted (dY (qv 2))))))))
def F8{P:dv}{w:dQ}{K:Fg}{c:Str->Option cV}{b:Heap}(B:mC c)(a:y0 P w K c b "walked" lR uJ [.non] (lS K)):mD P w K c b sr "come_to" sP Gq (ye K):=m8 λg e f d=>by exact
 (dM (dO (Dg sP sr ["n"] [] (ip (U6 a (d.mono (by decide)) rfl (dY (qv 0)))) (kH 1) (rq (dE (oa e) (eS (eS (qv 0) (qv 1)) cY) dG rfl)) (qv 1))))
def Lr{P:dv}{w:dQ}{K:Fg}{c:Str->Option cV}{a:Heap}(B:mC c)(b:Qc P w K c a):mD P w K c a CO "_law_brought" Dk LI (Ds K):=m8 λg f d e=>by exact
 (cZ (jK fS.never rfl (RP rfl B.reversed_ (dY (qv 3))) (kH 4) (cZ (iG 5 (RL (qv 2) (dY (qv 4)))) (cZ (lq (An (qv 0) (dN (cX (dN (cX dG (dY (qv 5)))) (dY (dN (cX (qv 1) (dY (qv 2))))))))) (dM (iG 2 (gP b (cX (qv 2) (dY (eS (qv 2) (qv 5)))))))))) (dM (dO (qv 2))))
def QJ{P:dv}{w:dQ}{K:Fg}{c:Str->Option cV}{b:Heap}(B:mC c)(a:lA P w K c b):mD P w K c b DP "_law_place" ER Q3 (KS K):=m8 λg d e f=>by exact
 (cZ (MT ER DP ["_law_i"] [] 3 (iD rfl B.range_ (dY (iM B (dY (qv 1))))) (kH 4) (rq (dE (gw d) (eS (qv 1) (qv 4)) (qv 2) rfl)) (qv 4)) (dM (dO (eS (qv 3) (gP a (cX (qv 0) (dY (iM B (dY (qv 3))))))))))
def Eh{P:dv}{w:dQ}{K:Fg}{d:Str->Option cV}{b:Heap}(B:mC d)(a:J8 P w K d b):mD P w K d b rb "_law_code_row" rD Eu (wz K):=m8 λg c e f=>by exact
 (cZ (kr (dE (gw c) (eS (qv 1) cY) dG rfl) (dO (dN (cX dG (dY (eS (qv 1) cY)))))) (cZ (kr (dE (gw c) (eS (qv 1) cY) dG rfl) (dO (dN (cX dG (cX (eS (qv 1) cY) (cX (gP a (cX (qv 0) (cX (qv 2) (dY (eS (qv 1) cY))))) (dY (gP a (cX (qv 0) (cX (qv 2) (dY (eS (qv 1) cY)))))))))))) (cZ (kr (dE (gw c) (eS (qv 1) cY) dG rfl) (dO (dN (cX dG (cX (eS (qv 1) cY) (dY (fH e7 rfl B.tuple_ fZ (dY (Dg rD rb ["_law_name"] [] (ip (eS (qv 1) cY)) (kH 3) ie (gP a (cX (qv 0) (cX (qv 2) (dY (qv 3)))))))))))))) (cZ (kr (dE (gw c) (eS (qv 1) cY) dG rfl) (dO (dN (cX dG (cX (gP a (cX (qv 0) (cX (qv 2) (dY (eS (qv 1) cY))))) (dY dG)))))) (dM (dO (dN (cX (eS (qv 1) cY) (dY (gP a (cX (qv 0) (cX (qv 2) (dY (eS (qv 1) cY))))))))))))))
def NC{P:dv}{w:dQ}{K:Fg}{c:Str->Option cV}{b:Heap}(B:mC c)(a:lA P w K c b):mD P w K c b FI "_law_forgot" GP N7 (Hc K):=m8 λg f d e=>by exact
 (cZ (iG 2 (gP a (cX (qv 0) (dY (iM B (dY (qv 1))))))) (cZ (kr (dE iX (eS (qv 1) (qv 2)) (ff kK (qv 1) f9 (fP (qv 2))) rfl) (dO (eE fX (eE fX (ff kK (qv 1) f9 (fP (qv 2))) (dN (dY jy))) (ff kK (qv 1) (fP (eE fX (qv 2) cY)) f9)))) (dM (dO (qv 1)))))
def QC{P:dv}{w:dQ}{K:Fg}{h:Str->Option cV}{c:Heap}(B:mC h)(b:lA P w K h c)(d:wD P w K h c)(a:lL P w K h c)(g:Qc P w K h c)(e:vh P w K h c)(f:Fy P w K h c):mD P w K h c DN "_law_block" EN Q1 (KQ K):=m8 λl i j k=>by exact
 (cZ (iG 7 (ff iF (eE gF (fH e7 rfl B.tuple_ fZ (dY (eS (qv 4) (qv 3)))) (eE jx (dN (dY jy)) (qv 5))) f9 (fP (qv 5)))) (cZ (nA (dE (jJ i) (gP b (cX (qv 0) (dY cY))) cY rfl) (cZ (iG 8 (gP b (cX (qv 0) (dY (qv 5))))) (cZ (lq (An (qv 1) (dN (cX (dN (cX dG (dY (qv 8)))) (dY (dN (cX (qv 3) (dY (qv 7))))))))) (dM (iG 7 (gP g (cX (qv 7) (dY (eS (qv 7) (qv 8))))))))) lu) (cZ (iG 7 (gP f (cX (qv 0) (dY (qv 7))))) (cZ (iG 9 (eS (qv 2) (qv 3))) (cZ (iG 10 (iM B (dY (qv 1)))) (cZ (lq (An (qv 1) (dN (cX (gP e (cX (qv 0) (cX (qv 9) (dY (qv 7))))) (dY (dN (cX (qv 3) (dY (qv 7))))))))) (cZ (kr (dE (jJ i) (eS (qv 9) cY) dG rfl) RT) (cZ (iG 11 (qv 7)) (cZ (kr (dE iX (eS (qv 9) cY) (dN (cX dG (cX dG (dY dG)))) rfl) (iG 11 (gP g (cX (fH e7 rfl B.tuple_ fZ (dY (Dg EN DN ["_law_name"] [] (ip (qv 7)) (kH 14) ie (GG (dE (jJ i) (qv 14) (eS (qv 9) cY) rfl) jy (qv 14))))) (dY (eS (qv 9) cY)))))) (cZ (iG 12 (gP a (cX (qv 2) (dY (eE gF (qv 3) cY))))) (cZ (iG 11 (gP d (cX (qv 1) (cX (qv 12) (cX (qv 11) (dY (eS (qv 4) (qv 12)))))))) (cZ (lq (An (qv 1) (dN (cX (dN (cX dG (dY (dN (cX dG (cX (qv 12) (dY (gP b (cX (qv 0) (dY (qv 6))))))))))) (dY (dN (cX (qv 12) (dY (qv 11))))))))) (dM (nA (dE (jJ i) (eS (qv 9) cY) dG rfl) (cZ (kj (dN (cX (eE gF (ff iF (eS (eS (qv 1) (qv 10)) cY) f9 (fP cY)) (dN (dY (iM B (dY (qv 1)))))) (dY (eS (eS (qv 1) (qv 10)) cY)))) (mz (qv 1) (qv 10) kW)) (cZ (iG 13 (gP a (cX (qv 2) (dY (eS (qv 9) cY))))) (cZ (iG 7 (gP d (cX (qv 1) (cX (qv 13) (cX (qv 7) (dY (eS (qv 4) (qv 13)))))))) (dM (lq (An (qv 1) (dN (cX (dN (cX dG (dY (dN (cX dG (cX (qv 13) (dY (gP b (cX (qv 0) (dY (qv 6))))))))))) (dY (dN (cX (qv 13) (dY (qv 7))))))))))))) lu))))))))))))))
def ug{P:dv}{w:dQ}{K:Fg}{c:Str->Option cV}{b:Heap}(B:mC c)(a:wI P w K c b):mD P w K c b lG "_law_set_names" ni Cg (qk K):=m8 λg f d e=>by exact
 (cZ (MT ni lG ["_law_row"] [] 3 (ip (qv 0)) (kH 9) ie (fH oE rfl B.list_ boot_list (dY (qv 1)))) (cZ (kj (fH oE rfl B.list_ boot_list (dY (qv 2))) (mz (qv 3) cY kW)) (cZ (iG 4 kO) (cZ (vK fS.never (kI (qv 4)) (cZ (iG 4 kO) (dM (jK fS.never rfl (iD rfl B.range_ (dY (iM B (dY (qv 0))))) (kH 5) (cZ (iG 6 (eS (qv 3) (qv 5))) (cZ (kr (dE iX (eS (eS (qv 0) (qv 5)) cY) (dN (cX dG (cX dG (dY dG)))) rfl) (iG 6 (eE fX (qv 6) (j3 (dY (eS (eS (qv 0) (qv 5)) cY)))))) (dM (jK fS.never rfl (ip (gP a (cX (qv 0) (dY (qv 5))))) (kH 7) (cZ (MT ni lG ["_law_name"] [] 8 (ip (eS (qv 3) (qv 7))) (kH 9) (rq (dE iX (qv 9) (qv 6) rfl)) (qv 9)) (dM (nA (dE pO (iM B (dY (qv 8))) (iM B (dY (eS (qv 3) (qv 7)))) rfl) (cZ (kj (qv 8) (mz (qv 3) (qv 7) kW)) (dM (iG 4 kO))) lu))))))))))) (dM (dO (qv 3)))))))
def F9{P:dv}{w:dQ}{K:Fg}{h:Str->Option cV}{a:Heap}(B:mC h)(c:xR P w K h a)(f:J6 P w K h a)(g:lA P w K h a)(e:wD P w K h a)(d:lL P w K h a)(b:t8 P w K h a):mD P w K h a nv "_law_part_made" nF Gr (yf K):=m8 λl j i k=>by exact
 (cZ (iG 4 (eS (qv 1) cY)) (cZ (MT nF nv ["_law_some"] [] 5 (ip (gP b (cX (qv 4) (cX (qv 2) (dY (eS (qv 1) cY)))))) (kH 13) ie (fH e7 rfl B.tuple_ fZ (dY (qv 13)))) (cZ (iG 6 (ff iF (eE gF (Ao rfl rfl B.tuple_ B.reversed_ rfl (dY (eS (qv 1) cY))) (eE jx (dN (dY jy)) (qv 3))) f9 (fP (qv 3)))) (cZ (iG 7 (j3 px)) (cZ (iG 8 OJ) (cZ (iG 9 (gP d (cX (qv 4) (dY cY)))) (cZ (iG 6 (gP e (cX (qv 7) (cX (qv 9) (cX (qv 6) (dY (eS (qv 5) (qv 9)))))))) (cZ (lq (An (qv 7) (dN (cX (dN (cX dG (dY (dN (cX dG (cX (qv 9) (dY cY))))))) (dY (dN (cX (qv 9) (dY (qv 6))))))))) (cZ (iG 10 (eE gF cY (fH oM rfl B.int_ se (dY (xj (i4 pO (iM B (dY (qv 4))) cY rfl) (sO (i4 (jJ j) (gP g (cX (qv 0) (dY cY))) cY rfl))))))) (cZ (jK fS.never rfl (ip (eE UC (gP c (dY (qv 4))) (qv 10))) (kH 11) (cZ (kj (iM B (dY (qv 7))) (mz (qv 8) (dN (cX dG (cX (qv 11) (dY (fH oM rfl B.int_ se (dY (i4 (Oq i) (dN (cX dG (cX (qv 11) (dY cY)))) (qv 8) rfl))))))) (AD i))) (dM (lq (gP f (cX (qv 0) (cX (qv 7) (cX (qv 4) (cX (qv 11) (cX (qv 5) (cX (qv 3) (dY (qv 10))))))))))))) (cZ (MT nF nv ["_law_row","_law_paper"] [] 12 (ip (qv 7)) (mT rfl (gr (kH 13) (gr (kH 14) kP))) ie (eE gF (ff iF (qv 13) f9 (fP cY)) (fH e7 rfl B.tuple_ fZ (dY (XP ["_law_thing"] [] (ip (ff iF (qv 13) (fP cY) f9)) (kH 15) ie (L7 i (qv 8) (qv 15) (qv 15) ⟨rfl,rfl,rfl,rfl⟩)))))) (dM (dO (dN (cX (dN (cX (iM B (dY (eS (qv 1) cY))) (dY (fH e7 rfl B.tuple_ fZ (dY (qv 12)))))) (dY (fH e7 rfl B.tuple_ fZ (dY (Dg nF nv ["_law_row","_law_paper"] [] (ip (qv 7)) (mT rfl (gr (kH 13) (gr (kH 14) kP))) ie (qv 14))))))))))))))))))))
def Iw{P:dv}{w:dQ}{K:Fg}{b:Str->Option cV}{a:Heap}(B:mC b) :mD P w K b a qZ "_law_names_of" rz IM (AW K):=m8 λf e c d=>by exact
 (cZ (iG 1 (j3 px)) (cZ (jK fS.never rfl (ip (qv 0)) (mT rfl (gr (kH 2) (gr (kH 3) (gr (kH 4) kP)))) (dM (iG 1 (eE fX (eE fX (qv 1) (fH oE rfl B.list_ boot_list (dY (qv 3)))) (Dg rz qZ ["_law_row"] [] (ip (qv 4)) (kH 5) (rq (dE iX (eS (qv 5) cY) (dN (cX dG (cX dG (dY dG)))) rfl)) (eS (qv 5) cY)))))) (dM (dO (Dg rz qZ ["_law_k"] [] (iD rfl B.range_ (dY (iM B (dY (qv 1))))) (kH 5) (rq (dE my (eS (qv 1) (qv 5)) (ff kK (qv 1) f9 (fP (qv 5))) rfl)) (eS (qv 1) (qv 5)))))))
def TU{P:dv}{w:dQ}{K:Fg}{e:Str->Option cV}{c:Heap}(B:mC e)(a:xS P w K e c)(d:lA P w K e c)(b:uH P w K e c):mD P w K e c zw "_law_made" Aw Uh (Pz K):=m8 λi h f g=>by exact
 (cZ (iG 2 (gP b (dY (qv 1)))) (cZ (iG 3 (eE fX (eE fX (eE jx cY (iM B (dY (qv 2)))) cY) (gP d (cX (qv 0) (dY cY))))) (cZ (MT Aw zw ["_law_part_here"] [] 4 (ip (qv 1)) (kH 5) ie (gP a (cX (qv 0) (cX (qv 5) (cX (qv 2) (dY (qv 3))))))) (dM (dO (dN (cX (dN (cX (qv 3) (dY (fH e7 rfl B.tuple_ fZ (dY (Dg Aw zw ["_law_one"] [] (ip (qv 4)) (kH 5) ie (eS (qv 5) cY))))))) (dY (fH e7 rfl B.tuple_ fZ (dY (Dg Aw zw ["_law_one"] [] (ip (qv 4)) (kH 5) ie (eS (qv 5) cY))))))))))))
def Lz{P:dv}{w:dQ}{K:Fg}{c:Str->Option cV}{b:Heap}(B:mC c)(a:lA P w K c b):mD P w K c b CT "_law_worth" Dp LP (DB K):=m8 λg f d e=>by exact
 (cZ (iG 1 (j3 (cX cY (cX cY (cX (eE EB (eE EB (eE Ai cY cY) cY) (gP a (cX (qv 0) (dY cY)))) (dY (gP a (cX (qv 0) (dY cY))))))))) (cZ (iG 2 (eE fX (eE jx (gP a (cX (qv 0) (dY (eE Ai cY cY)))) (eE Ai cY cY)) (gP a (cX (qv 0) (dY (eE Ai cY cY)))))) (dM (dO (eS (j3 (cX (qv 2) (dY (eS (qv 1) (gP a (cX (qv 0) (dY cY))))))) (gP a (cX (qv 0) (dY cY))))))))
def Ca{P:dv}{w:dQ}{K:Fg}{d:Str->Option cV}{c:Heap}(B:mC d)(a:lA P w K d c)(b:CM P w K d c):mD P w K d c ud "_law_rough_row" uq Cf (uD K):=m8 λh e f g=>by exact
 (cZ (iG 4 (eS (qv 1) (gP a (cX (qv 0) (dY (iM B (dY (qv 1)))))))) (cZ (iG 5 (gP a (cX (qv 0) (dY cY)))) (cZ (kr (dE pO (qv 5) cY rfl) (dO (dN (cX dG (cX (qv 4) (dY (gP b (dY (qv 0))))))))) (cZ (kr (dE pO (qv 5) cY rfl) (dO (dN (cX dG (cX (qv 4) (cX (eS dG (gP a (cX (qv 0) (dY cY)))) (cX dG (dY dG)))))))) (cZ (nA (dE (gw e) (qv 5) cY rfl) (cZ (iG 6 (gP a (cX (qv 0) (dY (iM B (dY (qv 3))))))) (dM (dO (dN (cX dG (cX (qv 4) (cX (qv 6) (dY (eE jx (dN (dY dG)) (eS (qv 3) (qv 6))))))))))) lu) (cZ (kr (dE pO (qv 5) cY rfl) (dO (dN (cX dG (dY dG))))) (cZ (kr (dE pO (qv 5) cY rfl) (dO (dN (cX dG (cX dG (dY (gP a (cX (qv 0) (dY (qv 2)))))))))) (dM (dO (eS (j3 (cX (dN (cX dG (dY (gP a (cX (qv 0) (dY (qv 2))))))) (dY (dN (cX dG (dY dG)))))) (eE EB (qv 5) cY)))))))))))
def NB{P:dv}{w:dQ}{K:Fg}{c:Str->Option cV}{b:Heap}(B:mC c)(a:lA P w K c b):mD P w K c b zv "_law_filled" Av N6 (Ha K):=m8 λg d e f=>by exact
 (cZ (iG 3 (j3 px)) (cZ (jK fS.never rfl (RO rfl B.enumerate_ (dY (qv 1))) (mT rfl (gr (kH 4) (gr (kH 5) kP))) (cZ (iG 6 (j3 px)) (cZ (jK fS.never rfl (ip (ff kK (qv 5) (fP cY) f9)) (kH 7) (cZ (nA (dE (gw d) (qv 7) dG rfl) (dM (iG 7 (eS (eS (qv 2) (qv 4)) (gP a (cX (qv 0) (dY (iM B (dY (eS (qv 2) (qv 4)))))))))) (dM (kr (kI (jh vy rfl B.isinstance_ nJ (cX (qv 7) (dY (zb rfl B.tuple_ fZ (v:=.ty "tuple") rfl))))) (iG 7 (fH e7 rfl B.tuple_ fZ (dY (Dg Av zv ["_law_one"] [] (ip (qv 7)) (kH 8) ie (eS (eS (qv 2) (qv 4)) (gP a (cX (qv 0) (dY (iM B (dY (eS (qv 2) (qv 4))))))))))))))) (dM (lq (An (qv 6) (qv 7)))))) (dM (lq (An (qv 3) (eE fX (dN (dY (eS (qv 5) cY))) (fH e7 rfl B.tuple_ fZ (dY (qv 6)))))))))) (dM (dO (fH e7 rfl B.tuple_ fZ (dY (qv 3)))))))
def ND{P:dv}{w:dQ}{K:Fg}{c:Str->Option cV}{a:Heap}(B:mC c) :mD P w K c a FJ "_law_mended" GQ N8 (He K):=m8 λf b d e=>by exact
 (cZ (iG 3 (eE EB (iM B (dY (qv 0))) cY)) (cZ (kr (dE my (eS (eS (qv 0) (qv 3)) cY) (dN (cX dG (dY dG))) rfl) (kj (dN (cX dG (dY dG))) (mz (qv 0) (qv 3) kW))) (cZ (kr (QW.pt (mV (kI (qv 2)) (mV (dE (oa b) (eS (eS (qv 0) cY) cY) dG rfl) (nh (dE Dd (qv 3) cY rfl))))) (kj (dN (cX dG (cX (eS (qv 1) cY) (dY cY)))) (mz (qv 0) cY kW))) (cZ (jK fS.never rfl (iD rfl B.range_ (dY (iM B (dY (qv 0))))) (kH 4) (cZ (iG 5 (qv 4)) (cZ (jK fS.never rfl (ip (qv 0)) (kH 6) (dM (kr (dE (gw b) (eS (eS (qv 0) (qv 5)) cY) dG rfl) (iG 5 (eS (eS (qv 0) (qv 5)) cY))))) (dM (kr (dE (gw b) (eS (eS (qv 0) (qv 5)) cY) dG rfl) (kj (eS (j3 (cX (dN (cX dG (dY dG))) (dY (dN (cX dG (dY dG)))))) (fH oM rfl B.int_ se (dY (i4 (gw b) (qv 4) (qv 3) rfl)))) (mz (qv 0) (qv 4) kW))))))) (dM (dO (qv 0)))))))
def TV{P:dv}{w:dQ}{K:Fg}{g:Str->Option cV}{a:Heap}(B:mC g)(c:xU P w K g a)(b:xT P w K g a)(d:Fx P w K g a)(e:FA P w K g a)(f:lA P w K g a):mD P w K g a Ia "_law_part" Jv Ui (PF K):=m8 λk h i j=>by exact
 (cZ (iG 6 (jh (w5 rfl) rfl B.max_ boot_max (cX (eE fX cY (fH oM rfl B.int_ se (dY (i4 (gw h) (iM B (dY (qv 3))) cY rfl)))) (dY (eE fX cY (gP f (cX (qv 0) (dY (qv 5))))))))) (cZ (MT Jv Ia ["_law_n"] [] 7 (iD rfl B.range_ (dY (qv 6))) (kH 9) ie (gP b (cX (qv 0) (cX (qv 2) (cX (qv 6) (dY (qv 4))))))) (cZ (iG 7 (gP e (cX (qv 7) (cX (qv 2) (dY (i4 (gw h) (iM B (dY (qv 3))) cY rfl)))))) (cZ (iG 8 (gP c (cX (qv 7) (cX (qv 2) (dY (qv 3)))))) (dM (dO (dN (cX (qv 1) (cX (fH e7 rfl B.tuple_ fZ (dY (qv 3))) (dY (gP d (cX (qv 0) (cX (qv 7) (dY (qv 8)))))))))))))))
def QF{P:dv}{w:dQ}{K:Fg}{c:Str->Option cV}{b:Heap}(B:mC c)(a:lA P w K c b):mD P w K c b DO "_law_names" EO Q2 (KR K):=m8 λg d e f=>by exact
 (cZ (iG 2 dG) (cZ (iG 3 (eE fX cY (gP a (cX (qv 0) (dY cY))))) (cZ (iG 4 (gP a (cX (qv 0) (dY (qv 3))))) (cZ (iG 5 (gP a (cX (qv 0) (dY cY)))) (cZ (MT EO DO ["_law_j"] [] 6 (iD rfl B.range_ (dY (qv 3))) (kH 11) ie (eS (qv 2) (eE lD (eE fX (qv 5) (eE jx (eE jx cY (qv 11)) (gP a (cX (qv 0) (dY cY))))) cY))) (cZ (iG 7 (j3 px)) (cZ (jK fS.never rfl (iD rfl B.range_ (dY (qv 1))) (kH 8) (cZ (iG 9 (eE fX (eE fX (ff kK (qv 6) f9 (fP (qv 4))) (j3 (dY (eS (qv 2) (eE lD (eE fX (qv 5) (eE jx cY (qv 8))) cY))))) (ff kK (qv 6) (fP (eE fX (qv 4) cY)) f9))) (cZ (iG 10 (XQ dG (qv 9))) (cZ (kr (QW.pt (vL (dE iX (qv 10) (dN (cX dG (cX dG (cX dG (cX dG (cX dG (dY dG))))))) rfl) (uR (QW.pt (mV (dE pO (qv 3) cY rfl) (nh (dE (gw d) (eE lD (eE fX (qv 3) (qv 8)) cY) cY rfl))))))) (iG 10 (eE fX (qv 10) dG))) (dM (lq (An (qv 7) (qv 10)))))))) (dM (dO (qv 7))))))))))
def Lx{P:dv}{w:dQ}{K:Fg}{e:Str->Option cV}{c:Heap}(B:mC e)(d:MY P w K e c)(a:lA P w K e c)(b:J7 P w K e c):mD P w K e c wO "_law_program" xr LN (DA K):=m8 λi f g h=>by exact
 (cZ (iG 2 (fH oM rfl B.int_ se (dY (i4 (gw f) (eE lD (eE Ez (jh (D7 rfl) rfl B.sum_ boot_sum (dY (ff kK (eS (qv 0) cY) f9 (fP cY)))) cY) cY) cY rfl)))) (cZ (iG 3 (ff kK (gP b (cX (qv 0) (dY cY))) f9 (fP (eS (j3 (cX (eE fX cY (gP a (cX (qv 0) (dY cY)))) (dY cY))) (qv 2))))) (cZ (iG 4 (gP b (cX (qv 0) (dY (eE fX cY (gP a (cX (qv 0) (dY cY)))))))) (cZ (MT xr wO [] [7] 5 (ip (qv 3)) (kH 7) ie (gP a (cX (qv 0) (dY (eE fX (jh (Lq rfl) rfl B.min_ boot_min (cX cY (dY (iM B (dY (qv 4)))))) cY))))) (cZ (iG 6 (j3 px)) (cZ (jK fS.never rfl (U7 rfl B.zip_ (cX (qv 3) (dY (qv 5)))) (mT rfl (gr (kH 7) (gr (kH 8) kP))) (cZ (iG 9 (gP a (cX (qv 0) (dY (iM B (dY (qv 4))))))) (cZ (iG 10 (ff kK (eE fX (ff kK (qv 4) (fP (qv 9)) f9) (ff kK (qv 4) f9 (fP (qv 9)))) f9 (fP (qv 8)))) (dM (lq (An (qv 6) (gP d (cX (qv 0) (cX (qv 7) (cX (qv 4) (cX (qv 10) (cX (qv 5) (dY (qv 1)))))))))))))) (dM (dO (fH e7 rfl B.tuple_ fZ (dY (qv 6)))))))))))
def VQ{P:dv}{w:dQ}{K:Fg}{h:Str->Option cV}{b:Heap}(B:mC h)(e:wH P w K h b)(a:vg P w K h b)(i:lA P w K h b)(c:xV P w K h b)(g:zj P w K h b)(j:MX P w K h b)(d:uH P w K h b)(f:CL P w K h b):mD P w K h b SM "law" Th SU (Tn K):=m8 λn k l m=>by exact
 (cZ (iG 1 (j3 (cX (qv 0) (cX cY (dY cY))))) (cZ (iG 2 (gP f (cX (qv 1) (dY cY)))) (cZ (iG 3 (gP d (dY (qv 2)))) (cZ (iG 4 (gP j (cX (qv 1) (dY (qv 2))))) (cZ (kr (QW.pt (vL (mU (kI (gP g (dY (eS (qv 4) cY))))) (uR (mU (kI (gP a (cX (qv 2) (dY (qv 4))))))))) (dO kO)) (cZ (jK fS.never rfl (iD rfl B.range_ (dY cY)) (kH 5) (cZ (iG 6 (qv 4)) (cZ (jK fS.never rfl (iD rfl B.range_ (dY (eE gF cY (gP i (cX (qv 1) (dY cY)))))) (kH 7) (dM (kr (dE (jJ k) (iM B (dY (eS (eS (qv 6) cY) cY))) (iM B (dY (qv 2))) rfl) (iG 6 (gP c (cX (qv 1) (cX (qv 2) (cX (qv 3) (dY (qv 6)))))))))) (dM (kr (mU (kI (gP a (cX (qv 2) (dY (qv 6)))))) (dO kO)))))) (dM (dO (i4 Ag (gP e (cX (qv 2) (cX (eS (qv 4) cY) (dY (eS (qv 4) cY))))) jy rfl)))))))))
end Bg
namespace Bg
open PySem L2
def x8{K:Fg}{st b:c7}{m:Int}{k:Nat}{ns:List Int}{c:Int}{H H2:Hp}{Q:VK}{j w:Option V}{nx:St->Hp->Prop}(J:k<=1000000)(i:0<m)
  (q:∀(d:Int) (H':Hp),0<=d->d<m->j5 K H' st (k+1)->iO st H H'->Q (.int d) H') (p:H2 st=some (.lst [.ref b,.int ((k:Int)+1),.int c])) (a:pM K H2 b ns) (e:ns.length<=63) (o:iO st H H2) :
  vW K {nx:=nx,rt:=Q} [XU st,XX m,XU b,XW k,j,w] H2:=by
 have n:(((k+1:Nat):Nat):Int)=(k:Int)+1:=by lia
 have l:j5 K H2 st (k+1):=⟨b,ns,c,by rw[n];exact p,a,e⟩;refine⟨_,rfl,.inl ⟨_,_,rfl,rfl,.inr ⟨by decide,by decide⟩,.inl ⟨_,_,rfl,rfl,?_⟩⟩⟩;have rest:∀z:Int,G7 K {nx:=nx,rt:=Q} [XU st,XX m,XU b,XW k,j,XX z] H2:=λz=>by
  have B:0<=z % 2147483629:=gY _ (by decide);have C:z % 2147483629<2147483629:=gW _ (by decide);refine⟨_,rfl,_,_,rfl,rfl,(by show(0:Int)<2147483629;decide),_,rfl,.inl ⟨_,_,rfl,rfl,.inl ⟨_,_,rfl,rfl,.inl ⟨by lia,by lia⟩,_,_,rfl,rfl,(by show(0:Int)<2147483629;decide),?_⟩⟩⟩;generalize g:z % 2147483629*((k:Int)+3) % 2147483629=y;have D:0<=y:=by rw[<-g];exact gY _ (by decide)
  have E:y<2147483629:=by rw[<-g];exact gW _ (by decide)
  refine⟨_,rfl,_,rfl,.inl ⟨_,_,rfl,rfl,.inl ⟨by lia,by lia⟩,_,_,rfl,rfl,(by show(0:Int)<2147483587;decide),?_⟩⟩;generalize f:y*y % 2147483587=x;have G:0<=x:=by rw[<-f];exact gY _ (by decide)
  have I:x<2147483587:=by rw[<-f];exact gW _ (by decide)
  refine⟨_,rfl,_,rfl,.inl ⟨_,_,rfl,rfl,.inl ⟨by lia,by lia⟩,_,_,rfl,rfl,(by show(0:Int)<1999999973;decide),_,rfl,_,_,rfl,rfl,i,?_⟩⟩;exact q _ H2 (gY _ (by lia)) (gW _ i) l o
 refine⟨_,rfl,_,_,rfl,.inl ⟨_,a.sq,rfl⟩,_,_,rfl,rfl,_,rfl,fM (λr=>?_) (λ_=>rest _)⟩;rw[cT] at r;have s:0<ns.length:=by lia
 refine⟨_,rfl,_,rfl,_,rfl,.inl ⟨_,_,rfl,rfl,.inr ⟨by decide,by decide⟩,_,rfl,_,_,rfl,.inl ⟨_,a.sq,rfl⟩,_,_,rfl,rfl,(by rw[cT];lia),?_⟩⟩;have h:0<=(k:Int)*7 % ((ns.map V.int).length:Nat):=gY _ (by rw[cT];lia);have t:(k:Int)*7 % ((ns.map V.int).length:Nat)<((ns.map V.int).length:Nat):=gW _ (by rw[cT];lia);rw[cT] at h t;have u:((k:Int)*7 % (ns.length:Nat)).toNat<ns.length:=by lia
 refine nI a.sq (by rw[cT];exact h) (v:=.int ns[((k:Int)*7 % (ns.length:Nat)).toNat]) (by simp only[cT];rw[dw,cP u];rfl) ?_;exact⟨_,rfl,.inl ⟨_,_,rfl,rfl,.inl ⟨_,_,rfl,rfl,.inr ⟨by lia,by lia⟩,.inl ⟨_,_,rfl,rfl,rest _⟩⟩⟩⟩
def Va{K:Fg}{vs:List V}{H:Hp}{Q:VK}{E:XK}(h:eN K vs H Q E):Pr K {nx:=λ_ H'=>Q .non H',rt:=Q} (fQ Nf vs) H:=by
 obtain⟨b,m,k,rfl,S,U,u,m1,q⟩:=h;obtain⟨a,d,c,j,B,i⟩:=S;refine⟨_,rfl,_,rfl,.inl ⟨b,_,rfl,fR.of j,λp X=>?_⟩⟩;refine⟨p,_,rfl,fR.of cW,rfl,_,_,rfl,_,_,rfl,rfl,?_⟩;have np:b≠p:=de j X;have I:iO b H (upd H p (.lst (ph [V.ref a,V.int (k:Nat),V.int c] none (some 2)))):=(iO.refl b H).new X;have L:(upd H p (.lst (ph [V.ref a,V.int (k:Nat),V.int c] none (some 2)))) b=some (.lst [.ref a,.int (k:Nat),.int c]):=by rw[dC np];exact j
 have Z:pM K (upd H p (.lst (ph [V.ref a,V.int (k:Nat),V.int c] none (some 2)))) a d:=B.mono (.of_but I j);generalize upd H p (.lst (ph [V.ref a,V.int (k:Nat),V.int c] none (some 2)))=x at I L Z ⊢;refine⟨_,rfl,.inl ⟨_,_,rfl,rfl,_,rfl,ES L (by decide) (by show 1<3;decide) ?_⟩⟩;have w:iO b H (upd x b (.lst [.ref a,.int ((k:Int)+1),.int c])):=I.trans .upd_at;have s:(upd x b (.lst [.ref a,.int ((k:Int)+1),.int c])) b=some (.lst [.ref a,.int ((k:Int)+1),.int c]):=cW;have g:pM K (upd x b (.lst [.ref a,.int ((k:Int)+1),.int c])) a d:=Z.mono (.of_but .upd_at L);show G9 K _ [XU b,XX m,XU a,XW k,none,none] (upd x b (.lst [.ref a,.int ((k:Int)+1),.int c]));generalize upd x b (.lst [.ref a,.int ((k:Int)+1),.int c])=D at w s g ⊢;have C:=@x8 K b a m k d c H D Q none none (λ_ H'=>Q .non H') U u q s g i w;have y:∀(f:Int) (e:Hp),e b=some (.lst [.ref a,.int ((k:Int)+1),.int f])->pM K e a d->iO b H e->
   G8 K {nx:=vW K {nx:=λ_ H'=>Q .non H',rt:=Q},rt:=Q} [XU b,XX m,XU a,XW k,none,none] e:=λf e M s3 B3=>by
  refine⟨_,rfl,nI (fR.of M) (by decide) rfl ?_⟩;refine⟨_,rfl,Zw,λt P=>⟨t,_,rfl,.inr (fA.of cW),rfl,rfl,_,rfl,?_⟩⟩;have n3:b≠t:=de M P;have T:iO b H (upd e t (.tup [.int 0,.int (-1)])):=B3.new P;have z:(upd e t (.tup [.int 0,.int (-1)])) b=some (.lst [.ref a,.int ((k:Int)+1),.int f]):=by rw[dC n3];exact M
  have s4:pM K (upd e t (.tup [.int 0,.int (-1)])) a d:=s3.mono (.of_same ((du.refl e).new P));refine jU (λ_=>?_) (λ_=>?_)
  ·-- _law_state[2],_law_digit=divmod(_law_state[2],_law_many)
   refine⟨_,rfl,.inl ⟨b,_,_,_,rfl,rfl,fR.of z,D1 (by decide) rfl,_,rfl,_,_,rfl,⟨u,m1⟩,λG r=>?_⟩⟩;have Y:b≠G:=de z r;refine⟨G,_,rfl,fA.of cW,rfl,_,_,rfl,_,rfl,ES (by rw[dC Y];exact z) (by decide) (by show 2<3;decide) ?_⟩;refine⟨_,_,rfl,rfl,_,rfl,?_⟩;have B5:=(T.new (o:=.tup [.int (f / m),.int (f % m)]) r);have s5:pM K (upd (upd e t (.tup [.int 0,.int (-1)])) G (.tup [.int (f / m),.int (f % m)])) a d:=s4.mono (.of_same ((du.refl _).new r));have h5:(upd (upd e t (.tup [.int 0,.int (-1)])) G (.tup [.int (f / m),.int (f % m)])) b=some (.lst [.ref a,.int ((k:Int)+1),.int f]):=by rw[dC Y];exact z
   refine q _ _ (gY _ (by lia)) (gW _ u) ⟨a,d,f / m,?_,s5.mono (.of_but .upd_at h5),i⟩ (B5.trans .upd_at);have J:(((k+1:Nat):Nat):Int)=(k:Int)+1:=by lia
   rw[cW,J];rfl
  ·exact x8 U u q z s4 i T
 have J:(((k+1:Nat):Nat):Int)=(k:Int)+1:=by lia
 have l:gc (eA (dF uS (cU 3) (iN (iE K) (cQ (cU 2) dh)))) (eY (dF nB (dF (eJ K) (cU 2) (cU 3)) (cU 1))) eO
   {nx:=vW K {nx:=λ_ H'=>Q V.non H',rt:=Q},rt:=Q} [some (V.ref b),some (V.int m),some (V.ref a),some (V.int (k:Nat)),none,none] D:=by
  refine⟨_,rfl,_,rfl,_,_,rfl,.inl ⟨_,g.sq,rfl⟩,_,_,rfl,rfl,_,rfl,fM (λn=>?_) (λ_=>C)⟩;rw[cT] at n;have R:((k:Nat):Int).toNat<d.length:=by lia
  refine⟨_,rfl,_,rfl,nI g.sq (by lia) (v:=.int d[((k:Nat):Int).toNat]) (by rw[dw,cP R];rfl) ?_⟩;refine⟨_,rfl,_,_,rfl,rfl,u,?_⟩;exact q _ D (gY _ (by lia)) (gW _ u) ⟨a,d,c,by rw[J];exact s,g,i⟩ w
 refine⟨_,rfl,_,_,rfl,rfl,⟨by decide,by decide⟩,.inl ⟨_,_,rfl,rfl,_,rfl,_,_,rfl,.inl ⟨_,g.sq,rfl⟩,_,_,rfl,rfl,_,rfl,fM (λn=>?_) (λ_=>?_)⟩⟩
 ·rw[cT] at n;have O:0<d.length:=by lia
  have i0:(d.map V.int)[(0:Int).toNat]?=some (.int d[0]):=by
   show(d.map V.int)[0]?=_;rw[dw,cP O];rfl
  refine⟨_,rfl,nI g.sq (by decide) i0 ⟨_,_,rfl,rfl,(by show(0:Int)<2;decide),.inl ⟨rfl,_,rfl,fM (λ_=>?_) (λ_=>?_)⟩⟩⟩
  ·-- if _law_k % 12==0
   refine⟨_,rfl,_,_,rfl,rfl,(by show(0:Int)<12;decide),.inl ⟨rfl,_,rfl,fM (λ_=>?_) (λ_=>y c D s g w)⟩⟩;have R:((k:Int) / 12+1).toNat<d.length:=by lia
   refine⟨_,rfl,_,rfl,_,_,rfl,rfl,⟨by decide,by decide⟩,.inl ⟨_,_,rfl,rfl,nI g.sq (by lia) (v:=.int d[((k:Int) / 12+1).toNat]) (by rw[dw,cP R];rfl) ?_⟩⟩;refine⟨_,rfl,ES s (by decide) (by show 2<3;decide) ?_⟩;exact y _ _ cW (g.mono (.of_but .upd_at s)) (w.trans .upd_at)
  ·exact l
 ·exact lT l
def Mf{K:Fg}{vs:List V}{H:Hp}{Q:VK}{E:XK}(h:uX K vs H Q E):Dy K {nx:=λ_ H'=>Q .non H',rt:=Q} (fQ CQ vs) H:=by
 obtain⟨v,r,rfl,f,q⟩:=h;cases r with
 |num x z=>
  obtain⟨p,rfl,h⟩:=f;refine⟨_,rfl,Zt h rfl ?_⟩;refine⟨_,rfl,.inl ⟨rfl,_,rfl,Zs ?_⟩⟩;refine⟨_,rfl,.inl ⟨rfl,_,rfl,Zs ?_⟩⟩;refine⟨_,rfl,Zx,λt d=>⟨t,_,rfl,.inr (fA.of cW),rfl,rfl,_,rfl,Gg (by decide +kernel) ?_⟩⟩;have g:p≠t:=de h d;exact⟨Zu,λe c=>q e _ cW (((du.refl H).new d).new c)⟩
 |op x s a b=>
  obtain⟨p,rfl,h⟩:=f;refine⟨_,rfl,Zt h rfl ?_⟩;refine⟨_,rfl,.inl ⟨rfl,_,rfl,yes ?_⟩⟩;exact⟨_,rfl,Zt h rfl ⟨_,rfl,Zt h rfl ⟨Zw,λt d=>q t _ cW ((du.refl H).new d)⟩⟩⟩
 |call x k l=>
  obtain⟨p,m,rfl,h,i⟩:=f;refine⟨_,rfl,Zt h rfl ?_⟩;refine⟨_,rfl,.inl ⟨rfl,_,rfl,Zs ?_⟩⟩;refine⟨_,rfl,.inl ⟨rfl,_,rfl,yes ?_⟩⟩;exact⟨_,rfl,Zt h rfl ⟨_,_,rfl,.inr ⟨fA.of i,q _ _ i (du.refl H)⟩⟩⟩
 |say a=>
  obtain⟨p,rfl,h⟩:=f;refine⟨_,rfl,Zt h rfl ?_⟩;refine⟨_,rfl,.inl ⟨rfl,_,rfl,Zs ?_⟩⟩;refine⟨_,rfl,.inl ⟨rfl,_,rfl,Zs ?_⟩⟩;refine⟨_,rfl,Zx,λt d=>⟨t,_,rfl,.inr (fA.of cW),rfl,rfl,_,rfl,Gh (by decide +kernel) ?_⟩⟩;have g:p≠t:=de h d;exact⟨_,rfl,Zt (by rw[dC g];exact h) rfl ⟨Zv,λe c=>q e _ cW (((du.refl H).new d).new c)⟩⟩
 |jump j=>
  obtain⟨p,rfl,h⟩:=f;refine⟨_,rfl,Zt h rfl ?_⟩;refine⟨_,rfl,.inl ⟨rfl,_,rfl,Zs ?_⟩⟩;refine⟨_,rfl,.inl ⟨rfl,_,rfl,Zs ?_⟩⟩;refine⟨_,rfl,Zx,λt d=>⟨t,_,rfl,.inr (fA.of cW),rfl,rfl,_,rfl,Gg (by decide +kernel) ?_⟩⟩;have g:p≠t:=de h d;exact⟨Zu,λe c=>q e _ cW (((du.refl H).new d).new c)⟩
 |test a j=>
  obtain⟨p,rfl,h⟩:=f;refine⟨_,rfl,Zt h rfl ?_⟩;refine⟨_,rfl,.inl ⟨rfl,_,rfl,Zs ?_⟩⟩;refine⟨_,rfl,.inl ⟨rfl,_,rfl,Zs ?_⟩⟩;refine⟨_,rfl,Zx,λt d=>⟨t,_,rfl,.inr (fA.of cW),rfl,rfl,_,rfl,Gh (by decide +kernel) ?_⟩⟩;have g:p≠t:=de h d;exact⟨_,rfl,Zt (by rw[dC g];exact h) rfl ⟨Zv,λe c=>q e _ cW (((du.refl H).new d).new c)⟩⟩
 |give a=>
  obtain⟨p,rfl,h⟩:=f;refine⟨_,rfl,Zt h rfl ?_⟩;refine⟨_,rfl,.inl ⟨rfl,_,rfl,Zs ?_⟩⟩;refine⟨_,rfl,.inl ⟨rfl,_,rfl,Zs ?_⟩⟩;refine⟨_,rfl,Zx,λt d=>⟨t,_,rfl,.inr (fA.of cW),rfl,rfl,_,rfl,Gh (by decide +kernel) ?_⟩⟩;have g:p≠t:=de h d;exact⟨_,rfl,Zt (by rw[dC g];exact h) rfl ⟨Zv,λe c=>q e _ cW (((du.refl H).new d).new c)⟩⟩
def OY{K:Fg}{vs:List V}{H:Hp}{Q:VK}{E:XK}(h:tQ K vs H Q E):Hk K {nx:=λ_ H'=>Q .non H',rt:=Q} (fQ FK vs) H:=by
 obtain⟨v,r,rfl,e,q⟩:=h;cases r with
 |num x z=>
  obtain⟨p,rfl,h⟩:=e;refine⟨_,rfl,Zt h rfl ?_⟩;refine⟨Zx,λt c=>⟨t,_,rfl,.inr (fA.of cW),rfl,rfl,_,rfl,Gh (by decide +kernel) ?_⟩⟩;have d:p≠t:=de h c;exact⟨_,rfl,Zt (by rw[dC d];exact h) rfl (q _ ((du.refl H).new c))⟩
 |op x s a b=>
  obtain⟨p,rfl,h⟩:=e;refine⟨_,rfl,Zt h rfl ?_⟩;refine⟨Zx,λt c=>⟨t,_,rfl,.inr (fA.of cW),rfl,rfl,_,rfl,Gh (by decide +kernel) ?_⟩⟩;have d:p≠t:=de h c;exact⟨_,rfl,Zt (by rw[dC d];exact h) rfl (q _ ((du.refl H).new c))⟩
 |call x k g=>
  obtain⟨p,j,rfl,h,i⟩:=e;refine⟨_,rfl,Zt h rfl ?_⟩;refine⟨Zx,λt c=>⟨t,_,rfl,.inr (fA.of cW),rfl,rfl,_,rfl,Gh (by decide +kernel) ?_⟩⟩;have d:p≠t:=de h c;exact⟨_,rfl,Zt (by rw[dC d];exact h) rfl (q _ ((du.refl H).new c))⟩
 |say a=>
  obtain⟨p,rfl,h⟩:=e;refine⟨_,rfl,Zt h rfl ?_⟩;refine⟨Zx,λt c=>⟨t,_,rfl,.inr (fA.of cW),rfl,rfl,_,rfl,Gg (by decide +kernel) ?_⟩⟩;have d:p≠t:=de h c;exact q _ ((du.refl H).new c)
 |jump f=>
  obtain⟨p,rfl,h⟩:=e;refine⟨_,rfl,Zt h rfl ?_⟩;refine⟨Zx,λt c=>⟨t,_,rfl,.inr (fA.of cW),rfl,rfl,_,rfl,Gg (by decide +kernel) ?_⟩⟩;have d:p≠t:=de h c;exact q _ ((du.refl H).new c)
 |test a f=>
  obtain⟨p,rfl,h⟩:=e;refine⟨_,rfl,Zt h rfl ?_⟩;refine⟨Zx,λt c=>⟨t,_,rfl,.inr (fA.of cW),rfl,rfl,_,rfl,Gg (by decide +kernel) ?_⟩⟩;have d:p≠t:=de h c;exact q _ ((du.refl H).new c)
 |give a=>
  obtain⟨p,rfl,h⟩:=e;refine⟨_,rfl,Zt h rfl ?_⟩;refine⟨Zx,λt c=>⟨t,_,rfl,.inr (fA.of cW),rfl,rfl,_,rfl,Gg (by decide +kernel) ?_⟩⟩;have d:p≠t:=de h c;exact q _ ((du.refl H).new c)
def qz{a:List Nat}{j:Nat}{x:V}(h:(eU a)[j]?=some x):∃m,a[j]?=some m/\x=.int (m:Nat):=by
 unfold eU at h;rw[dw] at h;cases e:a[j]? with
 |none=>rw[e] at h;cases h
 |some m=>rw[e] at h;exact⟨m,rfl,(Option.some.inj h).symm⟩
def Ml{b:Type}(n:Nat)(a:b):dm (n+1) a=dm n a++[a]:=by
 exact List.replicate_succ'
def Xy(st nm l fd q:c7)(m:Nat)(f:Int)(r ys:List Str)(h:List Nat)(H:Hp)(K:Fg)(k i:Nat):St->Hp->Prop:=λg d=>∃(c:List V) (a:List gQ) (j:Nat) (n o p e:Option V),g=[XU st,XW m,XX f,XU q,XU nm,XU l,XU fd,n,o,p,e]/\
 d fd=some (.lst c)/\dZ (mP d) c a/\a.length=i/\(∀b∈a,pf ys h b/\b.rows.length<=m+1)/\a.map (·.name)=r.take i/\a.map (·.params.length)=h.take i/\j5 K d st j/\j<=k+1001*i/\BD st fd H d
def Mh{K:Fg}{vs:List V}{H:Hp}{Q:VK}{E:XK}(h:uY K vs H Q E):DA K {nx:=λ_ H'=>Q .non H',rt:=Q} (fQ wO vs) H:=by
 obtain⟨r,m,k,rfl,S,hk,m1,bg,q⟩:=h;obtain⟨bu,ns,c,bb,aL,bD⟩:=id S;refine⟨_,rfl,nI (fR.of bb) (by decide) rfl ⟨_,rfl,.inl ⟨bu,_,rfl,aL.sq,λp hp=>?_⟩⟩⟩;rw[show((1:Int))=((1:Nat):Int) from rfl,lH,<-gv];refine⟨p,ns.take 1,rfl,fR.of cW,λz=>⟨_,_,rfl,rfl,⟨by decide,by decide⟩,_,_,rfl,rfl,(by show(0:Int)<16;decide),.inl ⟨rfl,.inr ⟨_,rfl,?_⟩⟩⟩⟩;have S1:=S.new (o:=.lst ((ns.take 1).map V.int)) hp;have B1:=(iO.refl r H).new (o:=.lst ((ns.take 1).map V.int)) hp;generalize upd H p (.lst ((ns.take 1).map V.int))=H1 at S1 B1 ⊢;obtain⟨f,hf,a4⟩:∃f:Int,(if decide (V.int (z / 4 % 16)=V.int 5)=true then(1:Int) else 0)=f/\(f=0\/f=1):=by
  cases decide (V.int (z / 4 % 16)=V.int 5) with
  |true=>exact⟨1,rfl,.inr rfl⟩
  |false=>exact⟨0,rfl,.inl rfl⟩
 rw[hf];refine⟨_,rfl,r,5,k,rfl,S1,by lia,by decide,λl ws k1 H2 hl wl bx bz h2 S2 l2 B2=>?_⟩;have nl:l≠r:=λz=>by obtain⟨_,e⟩:=S1.lst;rw[z,e] at hl;cases hl
 refine⟨_,rfl,r,3,k1,rfl,S2,by lia,by decide,by decide,λd H3 d0 d1 S3 B3=>.inl ⟨_,_,rfl,rfl,Zw,λl4 az=>?_⟩⟩;have h3:=B3 l _ nl h2;have S4:=S3.new (o:=.lst [V.int (1+d),V.int 5]) az;have B4:=(((B1.trans B2).trans B3).new (o:=.lst [V.int (1+d),V.int 5]) az);have h4:(upd H3 l4 (.lst [V.int (1+d),V.int 5])) l=some (.lst (ws.map V.str)):=by rw[dC (de h3 az)];exact h3
 have g4:(upd H3 l4 (.lst [V.int (1+d),V.int 5])) l4=some (.lst [V.int (1+d),V.int 5]):=cW;have ag:∀s:Nat,1<=s->s<=5->Dj K (V.ref l) none (some (s:Int)) (upd H3 l4 (.lst [V.int (1+d),V.int 5])) λx H1=>yg K {nx:=λ_ H'=>Q .non H',rt:=Q} [XU r,XW m,XX f,some x,none,none,none,none,none,none,none] H1:=λs c1 c2=>by
  generalize upd H3 l4 (.lst [V.int (1+d),V.int 5])=H4 at S4 B4 h4;refine .inl ⟨l,_,rfl,fR.of h4,λC aj=>?_⟩;rw[lH,<-gv];have aR:(ws.take s).length=s:=by rw[dB];lia
  have S5:=S4.new (o:=.lst ((ws.take s).map V.str)) aj;have B5:=B4.new (o:=.lst ((ws.take s).map V.str)) aj;have h5:(upd H4 C (.lst ((ws.take s).map V.str))) C=some (.lst ((ws.take s).map V.str)):=cW;have X:C≠r:=λz=>by obtain⟨_,e⟩:=S4.lst;rw[z,e] at aj;cases aj
  have au:(ws.take s).Nodup:=(pK s ws).nodup bx;have av:∀y∈ws.take s,Nm y:=λy hy=>bz y (i9 hy);generalize ws.take s=ww at aR S5 B5 h5 au av ⊢;generalize upd H4 C (.lst (ww.map V.str))=H5 at S5 B5 h5 ⊢;refine⟨_,rfl,_,rfl,r,5,k1+1,rfl,S5,by lia,by decide,by decide,λe H6 e0 e1 S6 B6=>.inl ⟨_,_,rfl,rfl,?_⟩⟩;obtain⟨n,hn,n2,n6⟩:∃n:Nat,(2:Int)+e=(n:Int)/\2<=n/\n<=6:=⟨(2+e).toNat,by lia,by lia,by lia⟩;refine⟨r,n,k1+2,by show[V.ref r,V.int (2+e)]=_;rw[hn],S6,by lia,by lia,λO ys k7 H7 aA yl aS aT h7 S7 l7 B7=>?_⟩;have af:O≠r:=λz=>by obtain⟨_,e⟩:=S6.lst;rw[z,e] at aA;cases aA
  have bH:C≠O:=de (B6 C _ X h5) aA;have w7:=B7 C _ X (B6 C _ X h5);have aV:=(B5.trans B6).trans B7;have bA:∀y∈ys,y≠"":=λy hy=>(aT y hy).ne;have aU:ys≠[]:=λz=>by rw[z] at yl;simp at yl;lia
  refine .inl ⟨_,rfl,C,rfl,⟨_,fR.of w7⟩,λY G=>?_⟩;have U:Y≠r:=λz=>by obtain⟨_,e⟩:=S7.lst;rw[z,e] at G;cases G
  have bG:C≠Y:=de w7 G;have bF:O≠Y:=de h7 G;refine lg (xs:=ww.map V.str) (λi L H'=>∃(Z:List Nat) (k':Nat) (o:Option V),L=[XU r,XW m,XX f,XU C,XU O,none,none,o,none,none,none]/\H' Y=some (.lst (eU Z))/\Z.length=i/\(∀x∈Z,x<=4/\x<=ys.length)/\j5 K H' r k'/\k'<=k7+i/\iO r H7 H') ?_ ?_ ?_ ?_
  ·exact⟨[],k7,none,rfl,cW,rfl,by simp,S7.new G,by lia,(iO.refl r H7).new G⟩
  ·rintro i L H' _ ⟨_,_,_,_,_,_,_,_,_,B⟩;exact fR.of (B C _ X w7)
  ·rintro i x L H' hx ⟨Z,k',o,rfl,hc,cl,c4,S',ay,B'⟩;have il:i<ww.length:=by have:=(cR.mp hx).1;rw[cT] at this;exact this
   refine ib ⟨_,rfl,_,rfl,_,_,rfl,.inl ⟨_,fR.of (B' O _ af h7),rfl⟩,_,_,rfl,.inl ⟨_,_,rfl,rfl,?_⟩⟩;rw[cT];refine⟨r,_,k',rfl,S',by lia,?_,?_,λg H8 g0 g1 S8 B8=>?_⟩
   ·by_cases z:((ys.length:Nat):Int)<4
    ·rw[if_pos z];lia
    ·rw[if_neg z];lia
   ·by_cases z:((ys.length:Nat):Int)<4
    ·rw[if_pos z];lia
    ·rw[if_neg z];lia
   obtain⟨gn,rfl⟩:∃j:Nat,g=(j:Int):=⟨g.toNat,by lia⟩;have g4:gn<=4/\gn<=ys.length:=by
    by_cases z:((ys.length:Nat):Int)<4
    ·rw[if_pos z] at g1;lia
    ·rw[if_neg z] at g1;lia
   have h8:=B8 Y _ U hc;refine⟨_,h8,fE (by rw[hW];lia),Z++[gn],k'+1,_,rfl,?_,by simp[cl],λx hx=>?_,S8.mono .upd_at h8 (Ne.symm U),by lia,?_⟩
   ·rw[cW];unfold eU;rw[dt];rfl
   ·rcases d9.mp hx with z|z
    ·exact c4 x z
    ·rw[dc.mp z];exact g4
   ·exact iO.past (B'.trans B8) G .upd_at
  ·rintro L H8 ⟨Z,k8,o,_,hc,cl,c4,S8,a9,B8⟩;rw[cT] at cl a9;have aF:Z≠[]:=λz=>by rw[z] at cl;simp at cl;lia
   have w8:=B8 C _ X w7;have n8:=B8 O _ af h7;have aC:=aV.trans B8;refine⟨Zu,λD I=>?_⟩;have ak:D≠r:=λz=>by obtain⟨_,e⟩:=S8.lst;rw[z,e] at I;cases I
   have s9:du H8 (upd H8 D (.lst [])):=(du.refl H8).new I;have g9:(upd H8 D (.lst [])) D=some (.lst []):=cW;have HF:H D=none:=aC.free ak I;have bq:C≠D:=de w8 I;have bj:O≠D:=de n8 I;have aM:Y≠D:=de hc I;generalize upd H8 D (.lst [])=H9 at s9 g9 ⊢;refine⟨_,rfl,_,rfl,C,Y,rfl,⟨_,fR.of (s9 _ _ w8)⟩,⟨_,fR.of (s9 _ _ hc)⟩,QR (xs:=ww.map V.str) (ys:=eU Z) (by rw[cT,hW,cl]) (Xy r O Y D C m f ww ys Z H9 K k8) ?_ ?_ ?_ ?_⟩
   ·exact⟨[],[],k8,none,none,none,none,rfl,g9,.nil,rfl,by simp,rfl,rfl,S8.same s9,by lia,.refl _ _ _⟩
   ·rintro i L H' _ ⟨_,_,_,_,_,_,_,_,_,_,_,_,_,_,_,_,B⟩;exact⟨fR.of (B C _ X bq (s9 _ _ w8)),fR.of (B Y _ U aM (s9 _ _ hc))⟩
   ·rintro i x y L H' tp hx hy bc ⟨ao,bs,k',o7,o8,o9,bt,rfl,aB,hA,bl,M,T,ab,S',ay,B'⟩;have il:i<ww.length:=by have:=(cR.mp hx).1;rw[cT] at this;exact this
    obtain⟨c,aK,rfl⟩:=qz hy;rw[dw,cP il] at hx;obtain⟨w,hw,rfl⟩:∃w:Str,ww[i]?=some w/\x=.str w:=⟨ww[i],cP il,(Option.some.inj hx).symm⟩;have s2:du H' (upd H' tp (.tup [.str w,.int (c:Nat)])):=(du.refl H').new bc;have g2:(upd H' tp (.tup [.str w,.int (c:Nat)])) tp=some (.tup [.str w,.int (c:Nat)]):=cW;generalize upd H' tp (.tup [.str w,.int (c:Nat)])=bB at s2 g2 ⊢;refine⟨tp,_,rfl,fA.of g2,rfl,_,_,rfl,_,_,rfl,rfl,?_⟩;have ar:=s2 _ _ (B' O _ af bj (s9 _ _ n8));have aD:=s2 _ _ (B' Y _ U aM (s9 _ _ hc));have aG:=s2 _ _ aB;refine⟨_,rfl,_,rfl,_,_,rfl,.inl ⟨_,fR.of ar,rfl⟩,r,_,k',rfl,S'.same s2,by lia,by rw[cT];lia,by rw[cT];lia,λt R t0 t1 aW aa=>?_⟩;obtain⟨a,rfl⟩:∃j:Nat,t=(j:Int):=⟨t.toNat,by lia⟩;have P:=aa O _ af ar;have aE:=aa Y _ U aD;have aH:=aa D _ ak aG;refine⟨_,rfl,_,rfl,_,rfl,.inl ⟨O,_,rfl,fR.of P,λa1 aI=>?_⟩⟩;rw[vz,<-kA];have aN:(upd R a1 (.lst ((ys.drop a).map V.str))) O=some (.lst (ys.map V.str)):=by rw[dC (de P aI)];exact P
    refine⟨_,rfl,_,rfl,_,rfl,.inl ⟨O,_,rfl,fR.of aN,λa2 aJ=>?_⟩⟩;rw[lH,<-gv];have bh:a1≠a2:=de cW aJ;refine .inr (.inr (.inl ⟨a1,a2,_,_,rfl,rfl,by rw[dC bh,cW],cW,?_,λa3 a5=>?_⟩))
    ·have:=fE (n:=100) (by decide);rw[cT,cT,gm,dB];lia
    rw[<-dt];refine⟨_,rfl,_,rfl,.inl ⟨a3,_,rfl,fR.of cW,λpr ba=>?_⟩⟩;rw[lH,<-gv];have aO:∀y∈(ys.drop a++ys.take a).take c,y∈ys:=λy hy=>by
     rcases d9.mp (i9 hy) with z|z
     ·exact List.mem_of_mem_drop z
     ·exact i9 z
    have aP:((ys.drop a++ys.take a).take c).Nodup:=by
     refine(pK c _).nodup ?_;have z:(ys.take a++ys.drop a).Nodup:=by rw[List.take_append_drop];exact aS
     exact(List.perm_append_comm.nodup_iff).mp z
    have plc:((ys.drop a++ys.take a).take c).length=c:=by
     have:=(c4 c (dg aK)).2;rw[dB,c9,gm,dB];lia
    have pl:((ys.drop a++ys.take a).take c).length<=100:=by
     rw[dB,c9,gm,dB];lia
    have J:du R (upd (upd (upd (upd R a1 (.lst ((ys.drop a).map V.str))) a2 (.lst ((ys.take a).map V.str))) a3 (.lst ((ys.drop a++ys.take a).map V.str))) pr (.lst (((ys.drop a++ys.take a).take c).map V.str))):=((((du.refl R).new aI).new aJ).new a5).new ba;have ai:(upd (upd (upd (upd R a1 (.lst ((ys.drop a).map V.str))) a2 (.lst ((ys.take a).map V.str))) a3 (.lst ((ys.drop a++ys.take a).map V.str))) pr (.lst (((ys.drop a++ys.take a).take c).map V.str))) pr=some (.lst (((ys.drop a++ys.take a).take c).map V.str)):=cW;generalize upd (upd (upd (upd R a1 (.lst ((ys.drop a).map V.str))) a2 (.lst ((ys.take a).map V.str))) a3 (.lst ((ys.drop a++ys.take a).map V.str))) pr (.lst (((ys.drop a++ys.take a).take c).map V.str))=bC at J ai ⊢;generalize (ys.drop a++ys.take a).take c=ps at aO pl aP plc ai;have ax:=aW.same J;have bo:pr≠r:=λz=>by
     have:=KU ax (v:=.ref pr) ⟨pr,rfl,ai⟩;exact this (by rw[z])
    have aq:=J _ _ aH;refine⟨_,rfl,.inl ⟨rfl,_,fR.of aq⟩,_,rfl,_,rfl,_,rfl,_,rfl,_,rfl,_,rfl,r,O,pr,Y,w,m,k'+1,ys,ps,Z,rfl,ax,by lia,J _ _ P,aU,by lia,bA,ai,pl,aP,aO,J _ _ aE,aF,by lia,λx hx=>(c4 x hx).1,m1,bg,af,bo,U,λv b bf ah hv a7 a8 aY br aX bE aw=>?_⟩;have ae:=aw D _ ak aq;obtain⟨_,aZ⟩:=(S'.same s2).lst;obtain⟨_,a0⟩:=ax.lst;have bw:Tp H' ah:=(((Tp.of_same s2).trans (.of_but aa aZ)).trans (.of_same J)).trans (.of_but aw a0);have aQ:Tp ah (upd ah D (.lst (ao++[v]))):=(Tp.refl ah).lst ae;refine⟨D,_,_,rfl,rfl,ae,fE (by rw[hA.len];lia),?_⟩;refine⟨ao++[v],bs++[b],bf,_,_,_,_,rfl,cW,(hA.imp λ_ _ z=>(z.mono bw).mono aQ).snoc (hv.mono aQ),by simp[bl],λb' a6=>(d9.mp a6).elim (M b') (λz=>by rw[dc.mp z];exact⟨aY,br⟩),by rw[dt,T,jT,hw,List.map_singleton,a7];rfl,by rw[dt,ab,jT,aK,List.map_singleton,a8,plc];rfl,aX.mono .upd_at ae (Ne.symm ak),by lia,?_⟩;exact λe u n1 n2 h=>by rw[dC n2];exact aw e u n1 (J _ _ (aa e u n1 (s2 _ _ (B' e u n1 n2 h))))
   ·rintro L H' ⟨ao,bs,k',o7,o8,o9,bt,rfl,aB,hA,bl,M,T,ab,S',ay,B'⟩;rw[cT] at bl ay;refine⟨_,rfl,D,_,rfl,.inl ⟨fR.of aB,λl hl=>?_⟩⟩;rw[cT,<-cl] at ab;rw[cT] at T;rw[fV] at T ab;have ok:DU ys Z bs:=⟨aS,aT,by lia,by lia,by lia,by lia,by rw[T];exact au,λb hb=>av _ (by rw[<-T];exact List.mem_map_of_mem hb),ab,λx hx=>(c4 x hx).1,λb hb=>(M b hb).1⟩;refine q l ao bs ys Z k' _ cW (hA.imp λ_ _ z=>z.mono ((Tp.refl H').new hl)) ok (λb hb=>(M b hb).2) (S'.new hl) (by lia) (iO.new ?_ hl);exact λe u n1 h=>B' e u n1 (de h HF) (s9 _ _ (aC e u n1 h))
 rcases a4 with rfl|rfl
 ·refine⟨_,rfl,nI (fR.of g4) (by decide) rfl ⟨_,rfl,?_⟩⟩;obtain⟨s,h5,c1,c2⟩:∃s:Nat,(1:Int)+d=(s:Int)/\1<=s/\s<=5:=⟨(1+d).toNat,by lia,by lia,by lia⟩;have z:=ag s c1 c2;rw[<-h5] at z;exact z
 ·refine⟨_,rfl,nI (fR.of g4) (by decide) rfl ⟨_,rfl,?_⟩⟩;exact ag 5 (by decide) (by decide)
def mq{H c:Hp}{a:c7}{o:HO}(s:du H c)(h:H a=none):du H (upd c a o):=λb u e=>by
 rw[dC (de e h)];exact s b u e
def Jo{K:Fg}{vs:List V}{H:Hp}{Q:VK}{E:XK}(h:jA K vs H Q E):Bc K {nx:=λ_ H'=>Q .non H',rt:=Q} (fQ zA vs) H:=by
 obtain⟨rt,n,s,rs,rfl,i,x,g,t,q⟩:=h;refine⟨_,rfl,?_⟩;refine⟨λm a H'=>∃k,k<=rs.length/\m=rs.length-k/\a=[XU rt,XW n,some (.int (runJ rs k n:Nat))]/\H'=H,⟨_,0,eV _,rfl,rfl,rfl⟩,?_⟩;rintro m a H' ⟨k,y,rfl,rfl,rfl⟩;have D:=rr g k t;obtain⟨v,r,w,l,f⟩:=x.get D;obtain⟨p,L,rfl,B⟩:=f.ref;have b:s[((runJ rs k n:Nat):Int).toNat]?=some (.ref p):=by simpa using w
 refine⟨_,rfl,_,rfl,eP i (by lia) b (Zt B rfl (.inl ⟨rfl,_,rfl,fM (λo=>?_) (λo=>?_)⟩))⟩
 ·obtain⟨u,rfl⟩:=xN (zc o);have C:k<rs.length:=by
   by_cases c:k<rs.length
   ·exact c
   ·have:k=rs.length:=by lia
    subst this;have:=g.ring n t _ l;cases this
  refine⟨λa j=>a=[XU rt,XW n,some (.int (runJ rs (k+1) n:Nat))]/\j=H',?_,?_⟩
  ·rintro G I ⟨rfl,rfl⟩;exact⟨rs.length-(k+1),by lia,k+1,C,rfl,rfl,rfl⟩
  ·refine⟨_,rfl,_,rfl,eP i (by lia) b ⟨.ref p,.jump u,rfl,f,?_⟩⟩;have e:runJ rs (k+1) n=u:=by rw[tP];unfold stp;rw[l]
   rw[e];exact⟨rfl,rfl⟩
 ·have e:=Pc (rs:=rs) (k:=k) (n:=n) y λJ d=>by
   rw[l] at d;cases d;exact Ae λz=>o (by rw[z])
  rw[e] at q;exact⟨_,rfl,q⟩
def j2(F:List Nat):List (pI×V):=F.map λ(n:Nat)=>(Sum.inl ((n:Nat):Int),V.bl true)
theorem PU:∀(F:List Nat) (m:Nat),(kq (j2 F) (Sum.inl (m:Int))).isSome=decide (m∈F)
 |[],m=>rfl
 |a::r,m=>by
  unfold kq j2;rw[gu,jN];by_cases c:m=a
  ·subst c;rw[decide_eq_true (by rfl:((Sum.inl (m:Int),V.bl true):pI×V).1=Sum.inl (m:Int))];rw[decide_eq_true eG];rfl
  ·have e:decide (((Sum.inl (a:Int),V.bl true):pI×V).1=Sum.inl (m:Int))=false:=decide_eq_false λz=>c (by injection z with z;lia);rw[e];have b:=PU r m;unfold kq j2 at b;refine Eq.trans b ?_;rw[Bool.eq_iff_iff,decide_eq_true_eq,decide_eq_true_eq,dW];exact⟨.inr,λz=>z.resolve_left c⟩
def U1{F:List Nat}{m:Nat}(h:m∉F):lj (j2 F) (Sum.inl (m:Int)) (V.bl true)=j2 (F++[m]):=by
 have e:kq (j2 F) (Sum.inl (m:Int))=none:=by
  have:=PU F m;rw[decide_eq_false h] at this;cases q:kq (j2 F) (Sum.inl (m:Int)) with
  |none=>rfl
  |some v=>rw[q] at this;cases this
 rw[GE _ e];unfold j2;rw[dt];rfl
def vD(F:List Nat):(j2 F).length=F.length:=by unfold j2;rw[cT]
def Qd(rs:List ed)(a:Option Str)(F:List Nat)(n:Nat):Prop:=∀r,rs[n]?=some r->(∀y,a=some y->kJ r≠.str y)->∀m∈fK n r,m∈F
def Qd.mono{rs:List ed}{b:Option Str}{F a:List Nat}{n:Nat}(h:Qd rs b F n)(s:∀x∈F,x∈a):Qd rs b a n:=λr e d m c=>s m (h r e d m c)
structure WI(rs:List ed)(un:Option Str)(F W:List Nat)(now:Nat->Prop):Prop where
 nd:F.Nodup
 way:∀x∈F,Fv rs un x
 zero:0∈F
 sub:∀x∈W,x∈F
 cl:∀x∈F,x∈W\/now x\/Qd rs un F x
def WI.add{rs:List ed}{d:Option Str}{F W:List Nat}{c:Nat->Prop}{m:Nat}(i:WI rs d F W c)(h:m∉F)(w:Fv rs d m):WI rs d (F++[m]) (W++[m]) c:=by
 refine⟨y9 i.nd h,λx b=>?_,gX _ i.zero,λx b=>?_,λx b=>?_⟩
 ·rcases d9.mp b with z|z
  ·exact i.way x z
  ·rw[dc.mp z];exact w
 ·rcases d9.mp b with z|z
  ·exact gX _ (i.sub x z)
  ·exact eW _ z
 ·rcases d9.mp b with z|z
  ·rcases i.cl x z with a|a|a
   ·exact .inl (gX _ a)
   ·exact .inr (.inl a)
   ·exact .inr (.inr (a.mono λy e=>gX _ e))
  ·exact .inl (eW _ z)
def WZ(rt fd d:c7)(H:Hp)(rs:List ed)(c:Option Str)(m:Nat):St->Hp->Prop:=λb a=>∃(F W:List Nat) (e f:Option V),b=[XU rt,some (WS c),XU fd,XU d,e,f]/\a fd=some (.dK (j2 F))/\a d=some (.lst (eU W))/\WI rs c F W (λ_=>False)/\du H a/\2*(rs.length-F.length)+W.length<=m
def Xz(rt fd e g:c7)(H:Hp)(rs:List ed)(d:Option Str)(c:List Nat)(n m j:Nat):St->Hp->Prop:=λb a=>∃(F W:List Nat) (f:Option V),b=[XU rt,some (WS d),XU fd,XU e,XW n,f]/\a fd=some (.dK (j2 F))/\a e=some (.lst (eU W))/\a g=some (.tup (eU c))/\WI rs d F W (λx=>x=n)/\du H a/\2*(rs.length-F.length)+W.length<=m/\∀i,i<j->∀x,c[i]?=some x->x∈F
def zW(ns:List Nat)(n:Nat):eU (ns++[n])=eU ns++[V.int (n:Nat)]:=by unfold eU;rw[dt];rfl
def WI.done{rs:List ed}{a:Option Str}{F:List Nat}(i:WI rs a F [] (λ_=>False))(m:Nat):m∈F↔Fv rs a m:=by
 refine⟨i.way m,λh=>?_⟩
 induction h with
 |zero=>exact i.zero
 |step _ e c b d=>
  rcases i.cl _ d with z|z|z
  ·cases z
  ·exact z.elim
  ·exact z _ e c _ b
def WI.len{rs:List ed}{c:Option Str}{F W:List Nat}{a:Nat->Prop}(g:gE rs)(i:WI rs c F W a):F.length<=rs.length:=mw i.nd λx b=>(i.way x b).lt g
def Tq{K:Fg}{rt fd l:c7}{H O:Hp}{u:List V}{rs:List ed}{B:Option Str}{F W:List Nat}{n m:Nat}{r:ed}{v:V}{o5:Option V}{D:pd}(U:H rt=some (.tup u))(S:H fd=none)(X:H l=none)(M:fd≠l)(g:gE rs)
  (e1:u[n]?=some v) (e2:rs[n]?=some r) (T:gR H v r) (hy:∀y,B=some y->kJ r≠.str y) (hn:Fv rs B n) (h1:O fd=some (.dK (j2 F))) (h2:O l=some (.lst (eU W))) (i:WI rs B F W (λx=>x=n)) (s:du H O) (hm:2*(rs.length-F.length)+W.length<=m) (ah:m<=1000)
  (q:∀(h:St) (H':Hp),WZ rt fd l H rs B m h H'->D.nx h H') :
  oj (kz K (dR (rG K) [] E0 (cQ (cU 0) (cQ (cU 4) dh)))) (dy 5) (wa K) D [XU rt,some (WS B),XU fd,XU l,XW n,o5] O:=by
 refine .inr ⟨_,rfl,_,rfl,rt,n,u,v,r,rfl,s _ _ U,e1,T.mono (.of_same s),λR H2 L s2=>⟨R,rfl,⟨_,fA.of L⟩,tM (xs:=eU (fK n r)) (Xz rt fd l R H rs B (fK n r) n m) ?_ ?_ ?_ ?_⟩⟩
 ·exact⟨F,W,_,rfl,s2 _ _ h1,s2 _ _ h2,L,i,s.trans s2,hm,λi hi=>absurd hi (fN _)⟩
 ·rintro j h H' _ ⟨_,_,_,_,_,_,o,_⟩;exact fA.of o
 ·rintro j x h H' Y ⟨C,E,p5,rfl,o,G,p,f,Q,d,J⟩;obtain⟨w,t,rfl⟩:=qz Y;have hw:Fv rs B w:=.step hn e2 hy (dg t);have fl:=f.len g;have ag:=g.few;refine⟨_,rfl,_,rfl,fd,_,rfl,vi.k (k:=Sum.inl (w:Int)) o,_,rfl,?_⟩;show if(!(kq (j2 C) (Sum.inl (w:Int))).isSome)=true then _ else _;rw[PU];refine pj (λb=>?_) (λb=>?_)
  ·have aa:=mw (y9 f.nd b) (n:=rs.length) λy Z=>by
    rcases d9.mp Z with z|z
    ·exact(f.way y z).lt g
    ·rw[dc.mp z];exact hw.lt g
   rw[c9,d4] at aa;refine⟨_,rfl,_,rfl,fd,_,rfl,DF.k (k:=Sum.inl (w:Int)) o (fE (by rw[vD];lia)),?_⟩;rw[U1 b];have I:(upd H' fd (.dK (j2 (C++[w])))) l=some (.lst (eU E)):=by rw[dC (Ne.symm M)];exact G
   have af:E.length<=100000:=by lia
   refine⟨_,rfl,.inl ⟨rfl,_,fR.of I⟩,_,rfl,l,_,_,rfl,rfl,I,fE (by rw[hW];exact af),?_⟩;have ab:R≠fd:=λz=>by rw[z,o] at p;cases p
   have ae:R≠l:=λz=>by rw[z,G] at p;cases p
   refine⟨C++[w],E++[w],_,rfl,by rw[dC M,cW],by rw[cW,zW],by rw[dC ae,dC ab];exact p,f.add b hw,mq (mq Q S) X,?_,λk P x a=>?_⟩
   ·simp only[c9,d4];lia
   ·by_cases c:k<j
    ·exact gX _ (J k c x a)
    ·have:k=j:=by lia
     subst this;rw[t] at a;cases a;exact eW _ (dc.mpr rfl)
  ·refine⟨C,E,_,rfl,o,G,p,f,Q,d,λk P x a=>?_⟩;by_cases c:k<j
   ·exact J k c x a
   ·have:k=j:=by lia
    subst this;rw[t] at a;cases a;exact b
 ·rintro h H' ⟨C,E,p5,rfl,o,G,p,f,Q,d,J⟩;rw[hW] at J;refine q _ _ ⟨C,E,_,_,rfl,o,G,⟨f.nd,f.way,f.zero,f.sub,λx Y=>?_⟩,Q,d⟩;rcases f.cl x Y with z|z|z
  ·exact .inl z
  ·subst z;refine .inr (.inr λr' e _ m' d=>?_);rw[e2] at e;cases e;obtain⟨k,P,ek⟩:=eH.mp d;exact J k P m' (by rw[cP P,ek])
  ·exact .inr (.inr z)
def Jq{K:Fg}{vs:List V}{H:Hp}{Q:VK}{E:XK}(h:lS K vs H Q E):Be K {nx:=λ_ H'=>Q .non H',rt:=Q} (fQ uK vs) H:=by
 obtain⟨rt,R,aa,I,rfl,w,hA,g,q⟩:=h;refine λd p=>⟨cW,[(Sum.inl 0,V.bl true)],rfl,by decide,?_⟩;have e0:upd (upd H d (.dK [])) d (.dK (mS [] [(Sum.inl 0,V.bl true)]))=upd H d (.dK (j2 [0])):=by
  rw[Ft];have:mS [] [((Sum.inl 0:pI),V.bl true)]=j2 [0]:=by
   show lj [] (Sum.inl 0) (V.bl true)=_;rw[GE _ PV];rfl
  rw[this]
 rw[e0];refine⟨Zv,λa o=>?_⟩;have c:d≠a:=de cW o;have k:H a=none:=by
  have:(upd H d (.dK (j2 [0]))) a=H a:=dC (Ne.symm c);rw[<-this];exact o
 have ab:=g.few;refine⟨λm J H'=>m<=1000/\WZ rt d a H I R m J H',⟨2*(I.length-1)+1,by lia,[0],[0],none,none,rfl,by rw[dC c,cW],cW,⟨by simp,λx b=>by rw[dc.mp b];exact .zero,by simp,λx b=>b,λx b=>.inl b⟩,mq (mq (du.refl H) p) k,by simp⟩,?_⟩;rintro m J M ⟨af,F,W,o4,o5,rfl,h1,O,i,s,hm⟩;refine⟨_,rfl,_,_,rfl,.inl ⟨_,fR.of O,rfl⟩,_,_,rfl,rfl,_,rfl,fM (λP=>?_) (λP=>?_)⟩
 ·rw[hW] at P;obtain⟨L,n,rfl⟩:∃L n,W=L++[n]:=by
   rcases List.eq_nil_or_concat W with z|⟨L,n,z⟩
   ·subst z;simp at P
   ·exact⟨L,n,by rw[z,List.concat_eq_append]⟩
  have Y:=i.sub n (eW _ (dc.mpr rfl));have X:=i.way n Y;have nl:=X.lt g;obtain⟨v,r,S,U,u⟩:=hA.get nl;have t:2*(I.length-F.length)+L.length<=m-1:=by rw[c9,d4] at hm;lia
  have m0:0<m:=by rw[c9,d4] at hm;lia
  refine⟨WZ rt d a H I R (m-1),λah H4 h4=>⟨m-1,by lia,by lia,h4⟩,?_⟩;rw[zW] at O;refine⟨_,rfl,.inl ⟨rfl,_,fR.of O⟩,a,_,V.int (n:Nat),rfl,rfl,O,?_,?_⟩
  ·rw[c9,d4,Nat.add_sub_cancel,dA (dk _),iv];rfl
  rw[List.dropLast_concat];have f:(upd M a (.lst (eU L))) d=some (.dK (j2 F)):=by rw[dC c];exact h1
  have j:(upd M a (.lst (eU L))) a=some (.lst (eU L)):=cW;have C:du H (upd M a (.lst (eU L))):=mq s k;generalize upd M a (.lst (eU L))=H2 at f j C;have B:WI I R F L (λx=>x=n):=⟨i.nd,i.way,i.zero,λx b=>i.sub x (gX _ b),λx b=>by
   rcases i.cl x b with z|z|z
   ·rcases d9.mp z with z|z
    ·exact .inl z
    ·exact .inr (.inl (dc.mp z))
   ·exact z.elim
   ·exact .inr (.inr z)⟩
  have T:aa[((n:Nat):Int).toNat]?=some v:=by simpa using S
  cases R with
  |none=>
   refine⟨_,rfl,rfl,_,rfl,sH (sH ?_)⟩;exact Tq w p k c g S U u (λy z=>by cases z) X f j B C t (by lia) λ_ _ z=>z
  |some y=>
   refine⟨_,rfl,rfl,_,rfl,lT ?_⟩;refine⟨_,rfl,_,rfl,eP (C _ _ w) (by lia) T ⟨v,r,rfl,u.mono (.of_same C),λH3 D=>⟨_,rfl,.inl ⟨?_,_,rfl,?_⟩⟩⟩⟩
   ·cases r<;>rfl
   ·refine pj (λZ=>?_) (λhe=>?_)
    ·exact Tq w p k c g S U u (λy' z=>by cases z;exact Z) X (D _ _ f) (D _ _ j) B (C.trans D) t (by lia) λ_ _ z=>z
    ·refine⟨F,L,_,_,rfl,D _ _ f,D _ _ j,⟨B.nd,B.way,B.zero,B.sub,λx b=>?_⟩,C.trans D,t⟩;rcases B.cl x b with z|z|z
     ·exact .inl z
     ·subst z;refine .inr (.inr λr' e hy=>?_);rw[U] at e;cases e;exact absurd he (hy y rfl)
     ·exact .inr (.inr z)
 ·rw[hW] at P;have:W=[]:=fG.mp (by lia);subst this;have fl:=i.len g;have ae:=g.few;refine⟨_,rfl,d,_,F.map (λn=>((n:Nat):Int)),rfl,h1,?_,by rw[cT];lia,λl ag G hp hs=>?_⟩
  ·unfold j2;rw[gZ,gZ];rfl
  ·obtain⟨ks,rfl,hk,hr⟩:=L3 hp hs i.nd;have e:(ks.map λn=>((n:Nat):Int)).map V.int=eU ks:=by unfold eU;rw[gZ];rfl
   rw[e];refine q l ks _ (λm=>(hk m).trans (i.done m)) hr cW (s.free G) (s.new G)
def Us(rs:List ed)(m:Nat):Bool:=match rs[m]? with
 |some r=>!je r
 |none=>false
def Kz{rs:List ed}{m:Nat}(h:m<rs.length):Us rs m=true↔∀r,rs[m]?=some r->je r=false:=by
 unfold Us;rw[cP h];constructor
 ·intro z r e;cases e;simpa using z
 ·intro z;simpa using z _ rfl
def PX{r:ed}{rs:List ed}{m:Nat}(e:rs[m]?=some r):(!decide (V.str (gG r)=V.str "jump"))=Us rs m:=by
 unfold Us;rw[e];cases r with
 |jump t=>show(!decide (V.str "jump"=V.str "jump"))=false;decide +kernel
 |num x z=>show(!decide (V.str "num"=V.str "jump"))=true;decide +kernel
 |op x s a b=>show(!decide (V.str "op"=V.str "jump"))=true;decide +kernel
 |call x k c=>show(!decide (V.str "call"=V.str "jump"))=true;decide +kernel
 |say a=>show(!decide (V.str "say"=V.str "jump"))=true;decide +kernel
 |test a t=>show(!decide (V.str "test"=V.str "jump"))=true;decide +kernel
 |give a=>show(!decide (V.str "give"=V.str "jump"))=true;decide +kernel
def En(a b:List Nat):eU (a++b)=eU a++eU b:=by unfold eU;rw[dt]
def GL{K:Fg}{vs:List V}{H:Hp}{Q:VK}{E:XK}(h:rF K vs H Q E):ye K {nx:=λ_ H'=>Q .non H',rt:=Q} (fQ sr vs) H:=by
 obtain⟨rt,s,f,rfl,e,L,g,q⟩:=h;refine .inl ⟨_,rfl,rt,none,s,f,rfl,e,L,g,λl a P d O C X t=>⟨l,rfl,⟨_,fR.of C⟩,λD k=>?_⟩⟩;have nD:l≠D:=de C k;have b:∀m∈a,m<f.length:=λm n=>((d m).mp n).lt g;refine lg (xs:=eU a) (λj c H'=>∃o,c=[XU rt,o]/\H'=upd P D (.lst (eU ((a.take j).filter (Us f))))) ?_ ?_ ?_ ?_
 ·exact⟨none,rfl,rfl⟩
 ·rintro j c H' _ ⟨o,_,rfl⟩;exact fR.of (by rw[dC nD];exact C)
 ·rintro j x c H' Y ⟨o,rfl,rfl⟩;obtain⟨m,n,rfl⟩:=qz Y;have Z:=b m (dg n);obtain⟨v,r,R,S,G⟩:=(L.imp λ_ _ z=>z.mono (Tp.of_same t)).get Z;have nj:j<a.length:=(cR.mp n).1;have U:=g.few;have aa:a.length<=f.length:=mw (O.imp λh=>eg h) b;have J:=x3 (Us f) a j m n;have fl:((a.take j).filter (Us f)).length<=100:=fq (iS _ _) (by rw[dB];lia);obtain⟨p,xs,rfl,M⟩:=G.ref;have w:s[((m:Nat):Int).toNat]?=some (.ref p):=by simpa using R
  have I:rt≠D:=de (t _ _ e) k;have np:p≠D:=de M k;refine⟨_,rfl,_,rfl,eP (by rw[dC I];exact t _ _ e) (by lia) w (Zt (by rw[dC np];exact M) rfl (.inl ⟨rfl,_,rfl,?_⟩))⟩;rw[PX S];refine jU (λB=>?_) (λB=>?_)
  ·refine⟨_,rfl,_,cW,fE (by rw[hW];lia),_,rfl,?_⟩;rw[Ft,J,if_pos B,En];rfl
  ·refine⟨_,rfl,?_⟩;rw[J,if_neg (by rw[B];decide),fF]
 ·rintro c H2 ⟨o,_,rfl⟩;have T:a.take (eU a).length=a:=eK (by rw[hW];exact dk _);rw[T];refine q D _ _ (λm=>?_) (O.filter _) cW (t.free k) (t.new k);rw[ir];constructor
  ·rintro⟨u,y⟩;exact⟨(d m).mp u,(Kz (b m u)).mp y⟩
  ·rintro⟨u,y⟩;have i:=(d m).mpr u;exact⟨i,(Kz (b m i)).mpr y⟩
def Df(b:List V)(x:V):(nz b x).length=b.length:=by
 unfold nz;rw[dB,fB];omega
theorem MK(x:V)(l:List V):∀n,(x::l.take n).take n=(x::l).take n
 |0=>rfl
 |n+1=>by
  rw[ot,ot,List.take_take,nQ (Nat.le_succ n)]
theorem C4(n:Nat):∀(args ys b:List V),n<=b.length->args.foldl nz ((ys++b).take n)=(args.reverse++(ys++b)).take n
 |[],ys,b,_=>rfl
 |x::r,ys,b,a=>by
  have c:((ys++b).take n).length=n:=by rw[dB,c9];omega
  have e:nz ((ys++b).take n) x=((x::ys)++b).take n:=by
   unfold nz;rw[c];exact MK x (ys++b) n
  rw[kx,e,C4 n r (x::ys) b a,ma,eu];rfl
def Nu(n:Nat)(args:List V)(e:V):Ir n args e=(args.reverse++dm n e).take n:=by
 have h:=C4 n args [] (dm n e) (by rw[d3];exact dk _);have a:([]++dm n e).take n=dm n e:=by rw[jq];exact eK (by rw[d3];exact dk _)
 rw[a] at h;exact h
def NA{xs:List V}(h:xs≠[]):ph xs none (some (-1))=xs.dropLast:=by
 have a:0<xs.length:=eL.mpr h;have e:HT.sIx xs.length xs.length (some (-1))=xs.length-1:=by
  show(if(-1:Int)<0 then((-1:Int)+(xs.length:Int)).toNat else min (-1:Int).toNat xs.length)=xs.length-1;rw[if_pos (by decide)];omega
 unfold ph;rw[HT.sIx_none,e,oT,va,kE]
def KH(n:Nat)(x:V):(dm n [x]).flatten=dm n x:=by
 induction n with
 |zero=>rfl
 |succ n a=>rw[gM,jQ,a,gM];rfl
def Jn{K:Fg}{vs:List V}{H:Hp}{Q:VK}{E:XK}(h:nG K vs H Q E):A9 K {nx:=λ_ H'=>Q .non H',rt:=Q} (fQ zz vs) H:=by
 obtain⟨b,x,c,rfl,g,e,l,q⟩:=h;refine⟨_,rfl,Zv,λt j=>⟨_,rfl,?_⟩⟩;have a:(upd H t (.tup [x])) b=some (.tup c):=by rw[dC (de g j)];exact g
 refine .inr (.inr (.inr ⟨t,b,[x],c,rfl,rfl,fA.of cW,fA.of a,by simp,?_,λz=>absurd z e,λ_ p i=>?_⟩))
 ·exact g7 (fE (by rw[d4];omega))
 have d:(upd (upd H t (.tup [x])) p (.tup ([x]++c))) b=some (.tup c):=by rw[dC (de a i)];exact a
 refine⟨_,rfl,_,_,rfl,.inr ⟨c,fA.of d,rfl⟩,_,rfl,.inr ⟨p,_,rfl,fA.of cW,?_,λk f=>?_⟩⟩
 ·rintro⟨_,z⟩;rw[HT.sIx_nat] at z;simp at z
 ·refine q k _ ?_ (((du.refl H).new j).new i |>.new f);rw[cW,lH];rfl
def Md{K:Fg}{vs:List V}{H:Hp}{Q:VK}{E:XK}(h:uW K vs H Q E):Dx K {nx:=λ_ H'=>Q .non H',rt:=Q} (fQ CP vs) H:=by
 obtain⟨n,a,e,xs,rfl,l,Y,T,q⟩:=h;have L:(dm n [e]).flatten=dm n e:=KH n e;have j:∀(p:c7) (B:Hp),B p=some (.tup (dm n e))->du H B->yd K {nx:=λ_ H'=>Q .non H',rt:=Q} [XW n,XU a,some e,XU p,none] B:=λp B M C=>by
  have k:∀(i:Nat) x (c:St) (H':Hp) (D:pd),xs[i]?=some x->(∃d o,c=[XW n,XU a,some e,XU d,o]/\H' d=some (.tup ((xs.take i).foldl nz (dm n e)))/\du H H')->
    (∀f g,(∃d o,f=[XW n,XU a,some e,XU d,o]/\g d=some (.tup ((xs.take (i+1)).foldl nz (dm n e)))/\du H g)->D.nx f g)->
    dy 4 x c H' λf g=>yc K D f g:=by
   rintro i x c H' D w ⟨d,o,rfl,u,m⟩ S;refine⟨_,rfl,_,rfl,d,x,_,rfl,u,?_,?_,λU g R X=>?_⟩
   ·intro z;have J:∀(s b:List V),(s.foldl nz b).length=b.length:=λs=>by
     induction s with
     |nil=>intro b;rfl
     |cons y r I=>intro b;rw[kx,I,Df]
    have:=J (xs.take i) (dm n e);rw[z,d3] at this;simp at this;omega
   ·have J:∀(s b:List V),(s.foldl nz b).length=b.length:=λs=>by
     induction s with
     |nil=>intro b;rfl
     |cons y r I=>intro b;rw[kx,I,Df]
    rw[J,d3];exact T
   ·refine S _ _ ⟨U,_,rfl,?_,m.trans X⟩;rw[R];have P:xs.take (i+1)=xs.take i++[x]:=by
     rw[jT,w];rfl
    rw[P,List.foldl_append];rfl
  have v:∀(c:St) (H':Hp),(∃d o,c=[XW n,XU a,some e,XU d,o]/\H' d=some (.tup ((xs.take xs.length).foldl nz (dm n e)))/\du H H')->
    yb K {nx:=λ_ H'=>Q .non H',rt:=Q} c H':=by
   rintro c H' ⟨d,o,rfl,u,m⟩;rw[fV] at u;exact⟨_,rfl,q d _ u m⟩
  rcases l with l|l
  ·refine .inl ⟨_,rfl,a,rfl,⟨_,fR.of (C _ _ l)⟩,vB (xs:=xs) (λi c H'=>∃d o,c=[XW n,XU a,some e,XU d,o]/\H' d=some (.tup ((xs.take i).foldl nz (dm n e)))/\du H H') ⟨p,_,rfl,M,C⟩ ?_ ?_ v⟩
   ·rintro i c H' _ ⟨d,o,_,_,m⟩;exact fR.of (m _ _ l)
   ·intro i x c H' w G;exact k i x c H' _ w G λf g z=>z
  ·refine .inr ⟨_,rfl,a,rfl,⟨_,fA.of (C _ _ l)⟩,tM (xs:=xs) (λi c H'=>∃d o,c=[XW n,XU a,some e,XU d,o]/\H' d=some (.tup ((xs.take i).foldl nz (dm n e)))/\du H H') ⟨p,_,rfl,M,C⟩ ?_ ?_ v⟩
   ·rintro i c H' _ ⟨d,o,_,_,m⟩;exact fA.of (m _ _ l)
   ·intro i x c H' w G;exact k i x c H' _ w G λf g z=>z
 refine⟨_,rfl,Zv,λt O=>⟨_,rfl,.inr ⟨t,n,[e],rfl,rfl,fA.of cW,by simp,?_,λz=>?_,λ_ p u=>?_⟩⟩⟩
 ·exact g7 (fE (by rw[d4];omega))
 ·subst z;exact j t _ cW ((du.refl H).new O)
 ·exact j p _ (by rw[cW,L]) (((du.refl H).new O).new u)
def AC(a b:Option Str):Pf (oV a) (oV b)=true:=by cases a<;>cases b<;>rfl
def hY{a:Type}{xs:List a}{i:Nat}{x:a}(h:xs[i]?=some x):xs.take (i+1)=xs.take i++[x]:=by rw[jT,h];rfl
def Vp{a b:Type}{xs:List a}{ys:List b}{i:Nat}{x:a}{y:b}(h:xs[i]?=some x)(h':ys[i]?=some y):(xs.zip ys)[i]?=some (x,y):=by
 rw[List.getElem?_zip_eq_some];exact⟨h,h'⟩
def Jr{K:Fg}{vs:List V}{H:Hp}{Q:VK}{E:XK}(h:sT K vs H Q E):Bf K {nx:=λ_ H'=>Q .non H',rt:=Q} (fQ uL vs) H:=by
 obtain⟨a,b,k,l,rfl,w,B,R,t,q⟩:=h;refine⟨_,rfl,_,rfl,true,true,a,b,rfl,⟨_,fA.of w⟩,⟨_,fA.of B⟩,λD u=>?_⟩;refine C2 (xs:=gs k) (ys:=gs l) (by rw[fk,fk];omega) (λi j H'=>∃m n,j=[XU a,XU b,m,n]/\H' D=some (.lst ((((k.zip l).take i).map SD).map V.bl))/\du H H') ?_ ?_ ?_ ?_
 ·exact⟨none,none,rfl,by rw[sg];exact cW,(du.refl H).new u⟩
 ·rintro i j H' _ ⟨m,n,_,_,r⟩;exact⟨fA.of (r _ _ w),fA.of (r _ _ B)⟩
 ·rintro i x y j H' p L M G ⟨m,n,rfl,g,r⟩;obtain⟨d,ex,rfl⟩:=Af L;obtain⟨f,J,rfl⟩:=Af M;refine⟨p,_,rfl,fA.of cW,rfl,_,_,rfl,_,_,rfl,rfl,ib ?_⟩;have P:D≠p:=de g G;have v:upd H' p (.tup [oV d,oV f]) D=some (.lst ((((k.zip l).take i).map SD).map V.bl)):=by rw[dC P];exact g
  have S:((((k.zip l).take i).map SD).map V.bl).length<=1000:=by rw[cT,cT,dB,List.length_zip];omega
  have I:H D=none:=by
   cases e:H D with
   |none=>rfl
   |some o=>have:=((du.refl H).new u (o:=.lst [])) D o e;rw[cW] at this;rw[u] at e;cases e
  have s:∀c:Bool,c=SD (d,f)->∃ys,upd H' p (.tup [oV d,oV f]) D=some (.lst ys)/\ys.length<c6/\∃m n,[some (V.ref a),some (V.ref b),some (oV d),some (oV f)]=[XU a,XU b,m,n]/\
    upd (upd H' p (.tup [oV d,oV f])) D (.lst (ys++[.bl c])) D=some (.lst ((((k.zip l).take (i+1)).map SD).map V.bl))/\du H (upd (upd H' p (.tup [oV d,oV f])) D (.lst (ys++[.bl c]))):=by
   rintro c rfl;refine⟨_,v,fE (by omega),_,_,rfl,?_,?_⟩
   ·rw[cW,hY (Vp ex J),dt,dt];rfl
   ·intro c o C;have O:c≠D:=de C I;rw[dC O];exact(r.new G) c o C
  refine⟨_,rfl,rfl,_,rfl,fM (λe=>?_) (λe=>?_)⟩
  ·refine s true ?_;unfold SD;rw[decide_eq_true (show(d,f).1=none from Om.mp e),Bool.true_or]
  ·refine⟨_,rfl,_,rfl,.inl ⟨AC d f,s _ ?_⟩⟩;unfold SD;rw[decide_eq_false (show ¬(d,f).1=none from λz=>e (Om.mpr z)),Bool.false_or];by_cases c:d=f
   ·rw[decide_eq_true (show oV d=oV f by rw[c]),decide_eq_true (show(d,f).1=(d,f).2 from c)]
   ·rw[decide_eq_false (show ¬oV d=oV f from λz=>c (xi z)),decide_eq_false (show ¬(d,f).1=(d,f).2 from c)]
 ·rintro j H' ⟨m,n,_,g,r⟩;have e:(k.zip l).take (gs k).length=k.zip l:=eK (by rw[List.length_zip,fk];omega);rw[e] at g;exact⟨D,_,rfl,fR.of g,q _ r⟩
def EG{K:Fg}{vs:List V}{H:Hp}{Q:VK}{E:XK}(h:qg K vs H Q E):v9 K {nx:=λ_ H'=>Q .non H',rt:=Q} (fQ q5 vs) H:=by
 obtain⟨a,j,x,rfl,t,r,C,q⟩:=h;refine .inr ⟨_,rfl,a,rfl,⟨_,fA.of t⟩,λD s=>?_⟩;refine jd (xs:=gs j) (λi f H'=>∃g,f=[XU a,some (.str x),g]/\H' D=some (.lst (gs ((j.take i).map (jz x))))/\du H H') ?_ ?_ ?_ ?_
 ·exact⟨none,rfl,by rw[sg];exact cW,(du.refl H).new s⟩
 ·rintro i f H' _ ⟨g,_,_,m⟩;exact fA.of (m _ _ t)
 ·rintro i y f H' G ⟨g,rfl,d,m⟩;obtain⟨l,w,rfl⟩:=Af G;have L:(gs ((j.take i).map (jz x))).length<=1000:=by rw[fk,cT,dB];omega
  have k:∀c:V,c=oV (jz x l)->∃n,H' D=some (.lst n)/\n.length<c6/\∃g,[some (V.ref a),some (V.str x),some (oV l)]=[XU a,some (.str x),g]/\
    upd H' D (.lst (n++[c])) D=some (.lst (gs ((j.take (i+1)).map (jz x))))/\du H (upd H' D (.lst (n++[c]))):=by
   rintro c rfl;refine⟨_,d,fE (by omega),_,rfl,?_,λb o u=>?_⟩
   ·rw[cW,hY w,dt];unfold gs;rw[dt];rfl
   ·rw[dC (de u s)];exact m b o u
  refine ib ⟨_,rfl,_,rfl,.inl ⟨AC l (some x),_,rfl,fM (λe=>?_) (λe=>?_)⟩⟩
  ·refine k _ ?_;unfold jz;rw[if_pos (show l=some x from xi (b:=some x) e)];rfl
  ·refine⟨_,rfl,k _ ?_⟩;unfold jz;rw[if_neg (show ¬l=some x from λz=>e (by rw[z];rfl))]
 ·rintro f H' ⟨g,_,d,m⟩;rw[fk,fV] at d;refine⟨D,_,rfl,.inl ⟨fR.of d,λP I=>⟨_,rfl,P,.str x,_,rfl,cW,?_,?_,λp v B J=>q p v ?_ ((m.new I).trans J)⟩⟩⟩
  ·intro z;have:=congrArg i7 z;rw[fk,cT] at this;exact r (fG.mp this)
  ·rw[fk,cT];exact C
  ·rw[B];have e:=OG (j.map (jz x)) (some x);show some (HO.tup (nz (gs (j.map (jz x))) (oV (some x))))=_;rw[e];rfl
def AE(r:gb):kM (.str (eZ r)) [.str "num",.str "op",.str "call"]=qB r:=by
 cases r with
 |num z=>exact(by decide +kernel:kM (.str "num") [.str "num",.str "op",.str "call"]=true)
 |op s i j=>exact(by decide +kernel:kM (.str "op") [.str "num",.str "op",.str "call"]=true)
 |keep i=>exact(by decide +kernel:kM (.str "keep") [.str "num",.str "op",.str "call"]=false)
 |say i=>exact(by decide +kernel:kM (.str "say") [.str "num",.str "op",.str "call"]=false)
 |jump t=>exact(by decide +kernel:kM (.str "jump") [.str "num",.str "op",.str "call"]=false)
 |test i t=>exact(by decide +kernel:kM (.str "test") [.str "num",.str "op",.str "call"]=false)
 |call k a=>exact(by decide +kernel:kM (.str "call") [.str "num",.str "op",.str "call"]=true)
 |give i=>exact(by decide +kernel:kM (.str "give") [.str "num",.str "op",.str "call"]=false)
def yA{K:Fg}{vs:List V}{H:Hp}{Q:VK}{E:XK}(h:lx K vs H Q E):om K {nx:=λ_ H'=>Q .non H',rt:=Q} (fQ nW vs) H:=by
 obtain⟨v,r,rfl,b,q⟩:=h;have rest:∀(p:c7) (l:List V),H p=some (.tup (.str (eZ r)::l))->¬V.str (eZ r)=V.str "op"->¬V.str (eZ r)=V.str "call"->(d5 r=[]/\kM (.str (eZ r)) [V.str "keep",V.str "say",V.str "test",V.str "give"]=false)\/(∃i n,d5 r=[i]/\l=.int i::n/\kM (.str (eZ r)) [V.str "keep",V.str "say",V.str "test",V.str "give"]=true)->om K {nx:=λ_ H'=>Q .non H',rt:=Q} (fQ nW [.ref p]) H:=λp l h o u c=>by
  refine⟨_,rfl,Zt h rfl ⟨_,rfl,.inl ⟨rfl,_,rfl,no o ⟨_,rfl,.inl ⟨rfl,_,rfl,no u ⟨_,rfl,Zy,λt d=>⟨t,_,rfl,.inr (fA.of cW),rfl,rfl,_,rfl,?_⟩⟩⟩⟩⟩⟩⟩;have w:p≠t:=de h d;rcases c with⟨e,f⟩|⟨i,n,e,rfl,f⟩
  ·exact Gg f ⟨Zu,λg a=>q g _ (by rw[cW,e];rfl) (((du.refl H).new d).new a)⟩
  ·exact Gh f ⟨_,rfl,Zt (by rw[dC w];exact h) rfl ⟨Zv,λg a=>q g _ (by rw[cW,e];rfl) (((du.refl H).new d).new a)⟩⟩
 cases r with
 |op s i j=>
  obtain⟨p,rfl,h⟩:=b;exact⟨_,rfl,Zt h rfl ⟨_,rfl,.inl ⟨rfl,_,rfl,yes ⟨_,rfl,Zt h rfl ⟨_,rfl,Zt h rfl ⟨Zw,λt d=>q t _ cW ((du.refl H).new d)⟩⟩⟩⟩⟩⟩
 |call k x=>
  obtain⟨p,y,rfl,h,m⟩:=b;exact⟨_,rfl,Zt h rfl ⟨_,rfl,.inl ⟨rfl,_,rfl,Zs ⟨_,rfl,.inl ⟨rfl,_,rfl,yes ⟨_,rfl,Zt h rfl ⟨_,_,rfl,.inr ⟨fA.of m,q _ _ m (du.refl H)⟩⟩⟩⟩⟩⟩⟩⟩
 |num z=>obtain⟨p,rfl,h⟩:=b;exact rest p _ h (by simp only[eZ];decide +kernel) (by simp only[eZ];decide +kernel) (.inl ⟨rfl,by simp only[eZ];decide +kernel⟩)
 |jump z=>obtain⟨p,rfl,h⟩:=b;exact rest p _ h (by simp only[eZ];decide +kernel) (by simp only[eZ];decide +kernel) (.inl ⟨rfl,by simp only[eZ];decide +kernel⟩)
 |_=>obtain⟨p,rfl,h⟩:=b;exact rest p _ h (by simp only[eZ];decide +kernel) (by simp only[eZ];decide +kernel) (.inr ⟨_,_,rfl,rfl,by simp only[eZ];decide +kernel⟩)
def xm{K:Fg}{vs:List V}{H:Hp}{Q:VK}{E:XK}(h:jW K vs H Q E):qI K {nx:=λ_ H'=>Q .non H',rt:=Q} (fQ qs vs) H:=by
 obtain⟨a,b,rfl,q⟩:=h;refine⟨_,rfl,_,_,rfl,rfl,_,rfl,fM (λh=>?_) (λh=>?_)⟩
 ·exact⟨_,rfl,_,rfl,_,_,rfl,rfl,q _ (by rw[decide_eq_true_eq];exact⟨λz=>⟨h,z⟩,λz=>z.2⟩)⟩
 ·exact q _ ⟨λz=>by(cases z),λz=>absurd z.1 h⟩
def Cj{K:Fg}{vs:List V}{H:Hp}{Q:VK}{E:XK}(h:pB K vs H Q E):uu K {nx:=λ_ H'=>Q .non H',rt:=Q} (fQ ub vs) H:=by
 obtain⟨L,v,y,I,k,C,rfl,l,j,t,q⟩:=h;obtain⟨p,M,rfl,h,o⟩:=t;refine⟨_,rfl,Zt h rfl ?_⟩;refine⟨_,rfl,_,rfl,_,_,rfl,.inr ⟨_,fA.of l,rfl⟩,_,_,rfl,λc f=>⟨_,rfl,?_⟩⟩;rw[j.len] at f;refine jU (λe=>?_) (λe=>?_)
 ·obtain⟨m,x⟩:=f.mp e;obtain⟨w,b,n,g,J,r,B,rfl,s,u,G⟩:=j.get (i:=k.toNat) (by omega);refine⟨_,rfl,Zt h rfl ⟨_,_,rfl,.inr ⟨_,fA.of o,rfl⟩,_,rfl,_,rfl,eP l m n (Zt s rfl (.inl ⟨rfl,q _ ?_⟩))⟩⟩;rw[decide_eq_true_eq];constructor
  ·intro z;refine⟨m,x,λD a=>?_⟩;rw[g] at a;cases a;have d:=V.int.inj z;rw[cT] at d;exact d
  ·intro z;have d:=z.2.2 b g;rw[cT,d]
 ·refine q _ ⟨λz=>by(cases z),λz=>?_⟩;have:=f.mpr ⟨z.1,z.2.1⟩;rw[e] at this;cases this
def N2{ns:List Int}{i:Nat}{x:V}(h:(ns.map V.int)[i]?=some x):∃n,ns[i]?=some n/\x=.int n:=by
 rw[dw] at h;cases e:ns[i]? with
 |none=>rw[e] at h;cases h
 |some n=>rw[e] at h;exact⟨n,rfl,(Option.some.inj h).symm⟩
def zK{f:Type}{P:f->Prop}{xs:List f}{bs:List Bool}(g:bs.length=xs.length)(h:∀(i:Nat) x b,xs[i]?=some x->bs[i]?=some b->(b=true↔P x)):bs.all id=true↔∀x∈xs,P x:=by
 rw[gd];constructor
 ·intro z x c;obtain⟨i,d,e⟩:=eH.mp c;have a:i<bs.length:=by omega
  exact(h i x bs[i] (by rw[cP d,e]) (cP a)).mp (z _ (gg a))
 ·intro z b a;obtain⟨i,d,e⟩:=eH.mp a;have c:i<xs.length:=by omega
  exact(h i xs[i] b (cP c) (by rw[cP d,e])).mpr (z _ (gg c))
def vT{a:Type}{xs:List a}{y:a}{i:Nat}{z:a}(h:(xs++[y])[i]?=some z):(i<xs.length/\xs[i]?=some z)\/(i=xs.length/\z=y):=by
 by_cases c:i<xs.length
 ·rw[dX c] at h;exact .inl ⟨c,h⟩
 ·rw[dA (by omega)] at h;have:i-xs.length=0:=by have:=(cR.mp h).1;simp at this;omega
  rw[this] at h;exact .inr ⟨by omega,(Option.some.inj h).symm⟩
def EF{K:Fg}{vs:List V}{H:Hp}{Q:VK}{E:XK}(h:qf K vs H Q E):v8 K {nx:=λ_ H'=>Q .non H',rt:=Q} (fQ q4 vs) H:=by
 obtain⟨pl,q0,rt,v,aa,ab,ps,r,rfl,hq,hA,Y,X,few,q⟩:=h;refine .inr ⟨_,rfl,v,r,rfl,X,λt H1 ht s1=>⟨t,rfl,⟨_,fA.of ht⟩,λL hL=>?_⟩⟩;refine jd (xs:=(d5 r).map V.int) (λj m H'=>∃(f:List Bool) (o:Option V),m=[XX pl,XU q0,XU rt,some v,none,o]/\H' L=some (.lst (f.map V.bl))/\f.length=j/\(∀(i:Nat) x b,(d5 r)[i]?=some x->f[i]?=some b->(b=true↔0<=x/\x<pl))/\du H1 H') ?_ ?_ ?_ ?_
 ·exact⟨[],none,rfl,cW,rfl,λi x b _ G=>by simp at G,(du.refl H1).new hL⟩
 ·rintro j m H' _ ⟨f,o,_,_,_,_,s'⟩;exact fA.of (s' _ _ ht)
 ·rintro j x m H' hx ⟨f,o,rfl,U,C,G,s'⟩;obtain⟨z,hz,rfl⟩:=N2 hx;have jl:j<(d5 r).length:=(cR.mp hz).1;refine ib ⟨_,rfl,_,rfl,_,_,rfl,λc g=>⟨_,U,fE (by rw[cT];omega),f++[c],_,rfl,?_,by simp[C],λi y b Z T=>?_,?_⟩⟩
  ·rw[cW,dt];rfl
  ·rcases vT T with⟨_,w⟩|⟨e,rfl⟩
   ·exact G i y b Z w
   ·rw[e,C,hz] at Z;cases Z;exact g
  ·intro b u I;have nb:b≠L:=de I hL;rw[dC nb];exact s' b u I
 ·rintro m H2 ⟨f,o,_,U,C,G,s2⟩;rw[cT] at C;have l:=s1.trans s2;refine⟨L,f,rfl,fR.of U,_,rfl,?_⟩;have d:=zK C G;refine jU (λe=>?_) (λe=>?_)
  ·have P:f.all id=false:=by simpa using e
   refine q _ _ ⟨λz=>by(cases z),λz=>?_⟩ l;have:=d.mpr z.1;rw[P] at this;cases this
  ·have P:f.all id=true:=by simpa using e
   have O:=d.mp P;refine⟨_,rfl,v,r,rfl,X.mono (.of_same l),?_⟩;have n:(∀s,C0 r=some s->0<=s/\s<ab.length)->sZ K {nx:=λ_ H'=>Q .non H',rt:=Q} [XX pl,XU q0,XU rt,some v,some (w6 r)] H2:=λD=>by
    have M:=X.mono (.of_same l);obtain⟨p,xs,rfl,hp⟩:=M.ref;refine⟨_,rfl,Zt hp rfl (.inl ⟨rfl,_,rfl,?_⟩)⟩;by_cases g:∃k B,r=.call k B
    ·obtain⟨k,B,rfl⟩:=g;refine pj (λz=>absurd rfl z) (λ_=>?_);refine⟨_,rfl,_,rfl,q0,.ref p,aa,ps,k,B,rfl,l _ _ hq,hA.imp λ_ _ z=>z.mono (.of_same l),M,λc g=>q _ _ ?_ l⟩;rw[g];exact⟨λz=>⟨O,D,λk' ae e=>by cases e;exact z⟩,λz=>z.2.2 k B rfl⟩
    ·have hw:¬V.str (eZ r)=V.str "call":=by
      cases r<;>first|exact absurd ⟨_,_,rfl⟩ g|(simp only[eZ];decide +kernel)
     refine pj (λ_=>?_) (λz=>absurd z hw);exact q _ _ ⟨λ_=>⟨O,D,λk B e=>absurd ⟨k,B,e⟩ g⟩,λ_=>rfl⟩ l
   cases J:C0 r with
   |none=>
    have R:w6 r=.non:=by unfold w6;rw[J]
    have a:=n (λs z=>by rw[J] at z;cases z);rw[R] at a ⊢;refine⟨_,rfl,rfl,_,rfl,?_⟩;exact lT a
   |some s=>
    have R:w6 r=.int s:=by unfold w6;rw[J]
    have a:=n;rw[R] at a ⊢;refine⟨_,rfl,rfl,_,rfl,sH ?_⟩;refine⟨_,rfl,_,rfl,_,_,rfl,.inr ⟨_,fA.of (l _ _ Y),rfl⟩,s,_,rfl,λc g=>⟨_,rfl,?_⟩⟩;refine jU (λe=>?_) (λe=>?_)
    ·have S:c=false:=by simpa using e
     refine q _ _ ⟨λz=>by(cases z),λz=>?_⟩ l;have:=g.mpr (z.2.1 s J);rw[S] at this;cases this
    ·have S:c=true:=by simpa using e
     exact a λaf z=>by rw[J] at z;cases z;exact g.mp S
def N1(r:gb):kM (.str (eZ r)) [V.str "keep",V.str "jump"]=lE r:=by
 cases r<;>(simp only[eZ,lE];decide +kernel)
theorem Oj:∀(P F:List Nat),P.Nodup->(∀x∈P,x∉F)->mS (j2 F) (j2 P)=j2 (F++P)
 |[],F,_,_=>by rw[fF];rfl
 |a::r,F,d,c=>by
  have e:mS (j2 F) (j2 (a::r))=mS (lj (j2 F) (Sum.inl (a:Int)) (V.bl true)) (j2 r):=rfl;rw[e,U1 (c a eG),Oj r (F++[a]) (iu.mp d).2 (λx b=>?_),eu]
  ·rfl
  ·intro z;rcases d9.mp z with z|z
   ·exact c x (fc _ b) z
   ·rw[dc.mp z] at b;exact(iu.mp d).1 b
def BF(rs:List gb)(n j:Nat):List Nat:=(jr j).map λi=>oN (ko rs) i n
def GD(rs:List gb)(n j:Nat):BF rs n (j+1)=BF rs n j++[oN (ko rs) j n]:=by unfold BF;rw[List.range_succ,dt];rfl
def vI{rs:List gb}{n j x:Nat}(h:x∈BF rs n j):∃i,i<j/\oN (ko rs) i n=x:=by
 unfold BF at h;obtain⟨i,a,e⟩:=jS.mp h;exact⟨i,ja.mp a,e⟩
def t9(rs:List gb)(n:Nat):Prop:=∃k,oG rs (oN (ko rs) k n)=false
def C3{rs:List gb}{i j n:Nat}(a:i<=j)(h:t9 rs (oN (ko rs) j n)):t9 rs (oN (ko rs) i n):=by
 obtain⟨k,b⟩:=h;refine⟨j-i+k,?_⟩;rw[rj,<-rj (ko rs) i,ou a];exact b
def LX{rs:List gb}(b:wJ rs)(h:∀n,n<rs.length->t9 rs n):vq rs:=by
 intro n a;cases q:oG rs (oN (ko rs) rs.length n) with
 |false=>rfl
 |true=>
  obtain⟨k,c⟩:=h n a;have:=Gm (p:=oG rs) (EY rs) b.within a q k;rw[c] at this;cases this
def Ms{rs:List gb}(b:wJ rs){n:Nat}{r:gb}(e:rs[n]?=some r)(c:lE r=true):((ij (n:Nat) r).map V.int)[(0:Int).toNat]?=some (.int (ko rs n:Nat)):=by
 unfold ko;rw[e];cases r with
 |keep i=>show some (V.int ((n:Int)+1))=some (V.int ((n+1:Nat):Int));congr 2
 |jump a=>
  have d:=(b.2 _ (dg e) a rfl).1;show some (V.int a)=some (V.int (a.toNat:Int));congr 2;omega
 |_=>cases c
def ED{K:Fg}{vs:List V}{H:Hp}{Q:VK}{E:XK}(h:qd K vs H Q E):vX K {nx:=λ_ H'=>Q .non H',rt:=Q} (fQ vm vs) H:=by
 obtain⟨rt,au,rs,rfl,P,hA,few,cl,q⟩:=h;refine λl ab=>?_;have s1:du H (upd H l (.dK [])):=(du.refl H).new ab;have h1:upd H l (.dK []) l=some (.dK (j2 [])):=cW;generalize upd H l (.dK [])=H1 at s1 h1 ⊢;refine⟨_,rfl,_,_,rfl,.inr ⟨_,fA.of (s1 _ _ P),rfl⟩,_,rfl,by omega,by rw[hA.len];omega,?_⟩;rw[hA.len];refine jO (n:=rs.length) (λi d H'=>∃f S T U,d=[XU rt,XU l,S,T,U]/\H' l=some (.dK (j2 f))/\f.Nodup/\(∀c∈f,c<rs.length/\t9 rs c)/\(∀m,m<i->t9 rs m)/\du H H')
  ⟨[],_,_,_,rfl,h1,oY,λc C=>by(cases C),λm hm=>by omega,s1⟩ ?_ ?_
 ·rintro n d X hn ⟨f,S,T,U,rfl,h2,Z,s,dn,s2⟩;have hn:n<rs.length:=hn;refine λg M=>?_;have R:l≠g:=de h2 M;have s3:du H (upd X g (.dK [])):=s2.new M;have h3:upd X g (.dK []) l=some (.dK (j2 f)):=by rw[dC R];exact h2
  have p3:upd X g (.dK []) g=some (.dK (j2 [])):=cW;have av:H g=none:=by
   cases e:H g with
   |none=>rfl
   |some o=>rw[s2 _ _ e] at M;cases M
  generalize upd X g (.dK [])=H3 at s3 h3 p3 ⊢;refine⟨_,rfl,?_⟩;show sX K _ [XU rt,XU l,some (.int (0+n)),XU g,some (.int (0+n))] H3;refine⟨λm d H'=>∃j,m=rs.length-j/\j<=rs.length/\oN (ko rs) j n<rs.length/\d=[XU rt,XU l,some (.int (0+n)),XU g,some (.int (oN (ko rs) j n:Nat))]/\H' l=some (.dK (j2 f))/\H' g=some (.dK (j2 (BF rs n j)))/\
   (∀i,i<j->oG rs (oN (ko rs) i n)=true/\oN (ko rs) i n∉f/\oN (ko rs) i n<rs.length)/\(BF rs n j).Nodup/\du H H',⟨rs.length,0,rfl,eV _,hn,?_,h3,p3,λi J=>by omega,oY,s3⟩,?_⟩
  ·have e0:(0:Int)+(n:Int)=((oN (ko rs) 0 n:Nat):Int):=by show(0:Int)+(n:Int)=(n:Int);omega
   rw[e0]
  rintro m d Y ⟨j,rfl,jl,D,rfl,h4,p4,hp,pnd,s4⟩;generalize w:oN (ko rs) j n=a at D ⊢;obtain⟨v,r,e1,e2,ae⟩:=hA.get D;have af:=ae.mono (Tp.of_same s4);obtain⟨p,xs,rfl,ax⟩:=af.ref;have aw:au[((a:Nat):Int).toNat]?=some (.ref p):=by simpa using e1
  have O:oG rs a=lE r:=by unfold oG;rw[e2]
  have ar:∀I,du Y I->t9 rs a->sW K {nx:=λd H'=>∃f S T U,d=[XU rt,XU l,S,T,U]/\H' l=some (.dK (j2 f))/\f.Nodup/\(∀c∈f,c<rs.length/\t9 rs c)/\(∀m,m<n+1->t9 rs m)/\du H H',rt:=Q,ct:=λd H'=>∃f S T U,d=[XU rt,XU l,S,T,U]/\H' l=some (.dK (j2 f))/\f.Nodup/\(∀c∈f,c<rs.length/\t9 rs c)/\(∀m,m<n+1->t9 rs m)/\du H H',bk:=sV K {nx:=λ_ H'=>Q .non H',rt:=Q}}
    [XU rt,XU l,some (.int (0+n)),XU g,XW a] I:=λI B en=>by
   have h5:=B _ _ h4;have p5:=B _ _ p4;have S5:=s4.trans B;have dj:∀x∈BF rs n j,x∉f:=λx hx=>by
    obtain⟨i,J,rfl⟩:=vI hx;exact(hp i J).2.1
   have ak:(f++BF rs n j).Nodup:=List.nodup_append.mpr ⟨Z,pnd,λx hx y hy e=>dj y hy (e ▸ hx)⟩;have aj:∀c∈f++BF rs n j,c<rs.length:=λc C=>by
    rcases d9.mp C with z|z
    ·exact(s c z).1
    ·obtain⟨i,J,rfl⟩:=vI z;exact(hp i J).2.2
   have ah:=mw ak aj;refine⟨_,rfl,l,rfl,.inl ⟨_,.inl h5⟩,_,rfl,g,_,_,rfl,Ne.symm R,h5,p5,?_,?_⟩
   ·rw[vD,vD];rw[c9] at ah;exact g7 (fE (by omega))
   ·rw[Oj _ _ pnd dj];refine⟨f++BF rs n j,_,_,_,rfl,cW,ak,λc C=>⟨aj c C,?_⟩,λm hm=>?_,λb u G=>?_⟩
    ·rcases d9.mp C with z|z
     ·exact(s c z).2
     ·obtain⟨i,J,rfl⟩:=vI z;exact C3 (g7 J) (by rw[w];exact en)
    ·by_cases e:m=n
     ·subst e;have:=C3 (rs:=rs) (i:=0) (j:=j) (n:=m) (eV _) (by rw[w];exact en);exact this
     ·exact dn m (by omega)
    ·have nb:b≠l:=λz=>by rw[z,ab] at G;cases G
     rw[dC nb];exact S5 b u G
  refine⟨_,rfl,_,rfl,eP (s4 _ _ P) (by omega) aw (Zt ax rfl ⟨Zw,λt ht=>⟨t,_,rfl,.inr (fA.of cW),rfl,rfl,_,rfl,?_⟩⟩)⟩;have B:du Y (upd Y t (.tup [.str "keep",.str "jump"])):=(du.refl Y).new ht;generalize upd Y t (.tup [.str "keep",.str "jump"])=I at B ⊢;refine jU (λG=>?_) (λG=>?_)
  ·have hs:lE r=true:=by rw[<-N1];exact G
   have ag:oG rs a=true:=by rw[O];exact hs
   refine⟨_,rfl,_,rfl,l,_,rfl,vi.k (k:=Sum.inl ((a:Nat):Int)) (B _ _ h4),_,rfl,?_⟩;rw[PU];refine jU (λC=>?_) (λC=>?_)
   ·have aq:a∉f:=by simpa using C
    refine⟨λd H'=>∃m',m'<rs.length-j/\∃j,m'=rs.length-j/\j<=rs.length/\oN (ko rs) j n<rs.length/\d=[XU rt,XU l,some (.int (0+n)),XU g,some (.int (oN (ko rs) j n:Nat))]/\H' l=some (.dK (j2 f))/\H' g=some (.dK (j2 (BF rs n j)))/\
     (∀i,i<j->oG rs (oN (ko rs) i n)=true/\oN (ko rs) i n∉f/\oN (ko rs) i n<rs.length)/\(BF rs n j).Nodup/\du H H',λd H' z=>z,?_⟩
    refine⟨_,rfl,_,rfl,g,_,rfl,vi.k (k:=Sum.inl ((a:Nat):Int)) (B _ _ p4),_,rfl,?_⟩;rw[PU];refine fM (λL=>?_) (λL=>?_)
    ·obtain⟨i,J,e⟩:=vI L;refine q _ _ ⟨λ_ nr=>?_,λ_=>rfl⟩ (s4.trans B);have aa:=C7 (p:=oG rs) (EY rs) J (e.trans w.symm) λk hk=>(hp k hk).1;have:=nr n hn;rw[aa] at this;cases this
    ·-- passed[at]=True
     have ao:(BF rs n (j+1)).Nodup:=by rw[GD,w];exact y9 pnd L
     have az:∀c∈BF rs n (j+1),c<rs.length:=λc C=>by
      obtain⟨i,J,rfl⟩:=vI C;by_cases e:i=j
      ·subst e;rw[w];exact D
      ·exact(hp i (by omega)).2.2
     have ai:j+1<=rs.length:=by
      have:=mw ao az;unfold BF at this;rw[cT,kL] at this;exact this
     refine⟨_,rfl,_,rfl,g,_,rfl,DF.k (k:=Sum.inl ((a:Nat):Int)) (B _ _ p4) (by rw[vD];unfold BF;rw[cT,kL];exact fE (by omega)),?_⟩;rw[U1 L];have s6:du H (upd I g (.dK (j2 (BF rs n j++[a])))):=λb u G=>by
      have nb:b≠g:=λz=>by rw[z,av] at G;cases G
      rw[dC nb];exact B _ _ (s4 b u G)
     have h6:upd I g (.dK (j2 (BF rs n j++[a]))) l=some (.dK (j2 f)):=by rw[dC R];exact B _ _ h4
     have p6:upd I g (.dK (j2 (BF rs n j++[a]))) g=some (.dK (j2 (BF rs n (j+1)))):=by rw[cW,GD,w]
     generalize upd I g (.dK (j2 (BF rs n j++[a])))=H6 at s6 h6 p6 ⊢;refine⟨_,rfl,_,rfl,rt,a,au,.ref p,r,rfl,s6 _ _ P,e1,ae.mono (.of_same s6),λp7 H7 h7 s7=>Zt h7 (Ms cl e2 hs) ?_⟩;have en:oN (ko rs) (j+1) n=ko rs a:=by rw[Gn,w]
     refine⟨rs.length-(j+1),by omega,j+1,rfl,ai,by rw[en];exact cl.within a D ag,(by rw[en];rfl),s7 _ _ h6,s7 _ _ p6,λi J=>?_,ao,s6.trans s7⟩;by_cases e:i=j
     ·subst e;rw[w];exact⟨ag,aq,D⟩
     ·exact hp i (by omega)
   ·have ay:a∈f:=by simpa using C
    exact ar I B (s a ay).2
  ·have hs:lE r=false:=by rw[<-N1];exact G
   exact ar I B ⟨0,by show oG rs a=false;rw[O];exact hs⟩
 ·rintro d X ⟨f,S,T,U,rfl,h2,Z,s,dn,s2⟩;exact q _ _ ⟨λz=>by(cases z),λz=>absurd (LX cl dn) z⟩ s2
def Kr(r:gb):kM (.str (eZ r)) [V.str "jump",V.str "give"]=wZ r:=by
 cases r<;>(simp only[eZ,wZ];decide +kernel)
def Q4{H:Hp}{a:List V}{rs:List gb}(b:dZ (hI H) a rs)(h:rs≠[]):∃v r,P7 a (-1)=some v/\rs.getLast?=some r/\hI H v r:=by
 have g:0<rs.length:=eL.mpr h;obtain⟨v,r,c,d,f⟩:=b.get (i:=rs.length-1) (by omega);refine⟨v,r,?_,by rw[fY];exact d,f⟩;unfold P7 P9;rw[if_neg (by decide),if_pos (by rw[b.len];omega)];have e:((-1:Int)+(a.length:Int)).toNat=rs.length-1:=by rw[b.len];omega
 rw[e];exact c
def W3{K:Fg}{p:c7}{xs:List V}{i:Int}{v:V}{H:Hp}{Q:VK}(h:H p=some (.tup xs))(e:P7 xs i=some v)(q:Q v H):eJ K (.ref p) (.int i) H Q:=.inr (.inl ⟨p,xs,i,v,rfl,rfl,fA.of h,e,q⟩)
def Ck{K:Fg}{vs:List V}{H:Hp}{Q:VK}{E:XK}(h:pC K vs H Q E):uv K {nx:=λ_ H'=>Q .non H',rt:=Q} (fQ pV vs) H:=by
 obtain⟨U,q0,v,ag,ps,b,rfl,hq,hA,⟨pt,rt,p,rfl,J,d,n⟩,few,ats,q⟩:=h;have f:∀H',du H H'->¬vt U ps b->Q (.bl false) H':=λH' s nf=>q _ _ ⟨λz=>by(cases z),λz=>absurd z nf⟩ s;refine⟨_,rfl,Zt J rfl ?_⟩;refine⟨_,rfl,Zt J rfl ?_⟩;refine⟨_,rfl,_,_,rfl,rfl,_,rfl,fM (λh=>f H (du.refl H) λz=>by have:=z.1.1;omega) (λh0=>?_)⟩;refine⟨_,rfl,_,_,rfl,rfl,_,rfl,fM (λh=>f H (du.refl H) λz=>by have:=z.1.2;omega) (λh4=>?_)⟩;refine⟨_,rfl,_,_,rfl,.inr ⟨_,fA.of d,rfl⟩,.inl ⟨rfl,_,rfl,fM (λh=>f H (du.refl H) λz=>?_) (λae=>?_)⟩⟩
 ·have e:=V.int.inj h;rw[n.len] at e;exact z.2.1 (fG.mp (by omega))
 have ne:b.2≠[]:=λz=>ae (by rw[n.len,z];rfl);obtain⟨lv,lr,l1,l2,l3⟩:=Q4 n ne;obtain⟨lp,ah,rfl,ab⟩:=l3.ref;refine⟨_,rfl,_,rfl,W3 d l1 (Zt ab rfl ⟨Zw,λt ht=>⟨t,_,rfl,.inr (fA.of cW),rfl,rfl,_,rfl,?_⟩⟩)⟩;have B:du H (upd H t (.tup [.str "jump",.str "give"])):=(du.refl H).new ht;generalize upd H t (.tup [.str "jump",.str "give"])=Y at B ⊢;refine jU (λl=>f Y B λz=>?_) (λl=>?_)
 ·have e:wZ lr=false:=by rw[<-Kr];simpa using l
  have z':=z.2.2.1;rw[l2] at z';have P:wZ lr=true:=Option.some.inj z';rw[e] at P;cases P
 have D:wZ lr=true:=by rw[<-Kr];simpa using l
 have g:b.2.getLast?.map wZ=some true:=by rw[l2];exact congrArg some D
 refine .inr ⟨_,rfl,rt,rfl,⟨_,fA.of (B _ _ d)⟩,λL hL=>?_⟩;refine jd (xs:=p) (λj m H'=>∃(k:List Bool) (o:Option V),m=[XX U,XU q0,XU pt,some (.int b.1),XU rt,o]/\H' L=some (.lst (k.map V.bl))/\k.length=j/\(∀(i:Nat) x c,b.2[i]?=some x->k[i]?=some c->(c=true↔DV U ps b.2.length x))/\du Y H') ?_ ?_ ?_ ?_
 ·exact⟨[],none,rfl,cW,rfl,λi x b _ l=>by simp at l,(du.refl Y).new hL⟩
 ·rintro j m H' _ ⟨k,o,_,_,_,_,s⟩;exact fA.of (s _ _ (B _ _ d))
 ·rintro j x m H' hx ⟨k,o,rfl,hl,C,l,s⟩;obtain⟨r,M,af⟩:=n.of_v hx;have jl:j<b.2.length:=(cR.mp M).1;have R:=B.trans s;refine ib ⟨_,rfl,_,rfl,_,rfl,_,rfl,U,q0,rt,x,ag,p,ps,r,rfl,R _ _ hq,hA.imp λ_ _ z=>z.mono (.of_same R),R _ _ d,af.mono (.of_same R),ats r (dg M),λc H2 I X=>?_⟩;rw[n.len] at I;refine⟨_,X _ _ hl,fE (by rw[cT];omega),k++[c],_,rfl,?_,by simp[C],λi y T hy aa=>?_,?_⟩
  ·rw[cW,dt];rfl
  ·rcases vT aa with⟨_,w⟩|⟨e,rfl⟩
   ·exact l i y T hy w
   ·rw[e,C,M] at hy;cases hy;exact I
  ·intro T u G;have nb:T≠L:=de G hL;rw[dC nb];exact X _ _ (s T u G)
 ·rintro m H2 ⟨k,o,_,hl,C,l,X⟩;rw[n.len] at C;have S:=B.trans X;refine⟨L,k,rfl,fR.of hl,_,rfl,?_⟩;have a:=zK C l;refine jU (λe=>f H2 S λz=>?_) (λe=>?_)
  ·have Z:k.all id=false:=by simpa using e
   have:=a.mpr z.2.2.2.1;rw[Z] at this;cases this
  ·have Z:k.all id=true:=by simpa using e
   have O:=a.mp Z;have cl:wJ b.2:=⟨g,λr M to ht=>(O r M).2.1 to ht⟩;refine⟨_,rfl,rt,p,b.2,rfl,S _ _ d,n.imp λ_ _ z=>z.mono (.of_same S),few,cl,λc H3 I s3=>⟨_,rfl,q _ _ ?_ (S.trans s3)⟩⟩;constructor
   ·intro z;have ec:c=false:=by simpa using z
    refine⟨⟨by omega,by omega⟩,ne,g,O,?_⟩;exact Classical.byContradiction λnr=>by have:=I.mpr nr;rw[ec] at this;cases this
   ·intro z;cases c with
    |false=>rfl
    |true=>exact absurd z.2.2.2.2 (I.mp rfl)
def OX{K:Fg}{vs:List V}{H:Hp}{Q:VK}{E:XK}(h:qH K vs H Q E):Hf K {nx:=λ_ H'=>Q .non H',rt:=Q} (fQ zy vs) H:=by
 obtain⟨v,c,rfl,⟨p,P,t,rfl,S,M,D⟩,few,q⟩:=h;have l:∀H',du H H'->¬Tu c->Q (.bl false) H':=λH' g Z=>q _ _ ⟨λz=>by(cases z),λz=>absurd z Z⟩ g;refine⟨_,rfl,Zt S rfl ?_⟩;refine⟨_,rfl,Zt S rfl ?_⟩;refine⟨_,rfl,_,_,rfl,rfl,_,rfl,fM (λh=>l H (du.refl H) λz=>by have:=z.1.1;omega) (λh0=>?_)⟩;refine⟨_,rfl,_,_,rfl,rfl,_,rfl,fM (λh=>l H (du.refl H) λz=>by have:=z.1.2;omega) (λh4=>?_)⟩;refine .inr ⟨_,rfl,P,rfl,⟨_,fA.of M⟩,λL R=>?_⟩;refine jd (xs:=t) (λj a H'=>∃(f:List Bool) (o:Option V),a=[XU p,some (.int c.1),XU P,o]/\H' L=some (.lst (f.map V.bl))/\f.length=j/\(∀(i:Nat) x b,c.2[i]?=some x->f[i]?=some b->(b=true↔vt c.1 c.2 x))/\du H H') ?_ ?_ ?_ ?_
 ·exact⟨[],none,rfl,cW,rfl,λi x b _ n=>by simp at n,(du.refl H).new R⟩
 ·rintro j a H' _ ⟨f,o,_,_,_,_,g⟩;exact fA.of (g _ _ M)
 ·rintro j x a H' X ⟨f,o,rfl,I,m,n,g⟩;obtain⟨b,k,J⟩:=D.of_v X;have jl:j<c.2.length:=(cR.mp k).1;have s:=dg k;have fp:=few.parts;refine ib ⟨_,rfl,_,rfl,_,rfl,c.1,P,x,t,c.2,b,rfl,g _ _ M,D.imp λ_ _ z=>z.mono (.of_same g),J.mono (.of_same g),few.rows b s,few.ats b s,λd T U C=>?_⟩;refine⟨_,C _ _ I,fE (by rw[cT];omega),f++[d],_,rfl,?_,by simp[m],λi y B O G=>?_,?_⟩
  ·rw[cW,dt];rfl
  ·rcases vT G with⟨_,w⟩|⟨e,rfl⟩
   ·exact n i y B O w
   ·rw[e,m,k] at O;cases O;exact U
  ·intro B u r;have Y:B≠L:=de r R;rw[dC Y];exact C _ _ (g B u r)
 ·rintro a T ⟨f,o,_,I,m,n,C⟩;rw[D.len] at m;refine⟨L,f,rfl,fR.of I,q _ _ ?_ C⟩;rw[zK m n];exact⟨λz=>⟨⟨by omega,by omega⟩,z⟩,λz=>z.2⟩
def N5{K:Fg}{p:c7}{xs:List V}{i:Int}{v:V}{H:Hp}{Q:VK}(h:H p=some (.lst xs)\/H p=some (.tup xs))(a:0<=i)(e:xs[i.toNat]?=some v)(q:Q v H):eJ K (.ref p) (.int i) H Q:=by
 rcases h with h|h
 ·exact nI (fR.of h) a e q
 ·exact eP h a e q
end Bg
namespace L2
open PySem PyProof.Rows
end L2
namespace Bg
open PySem L2
def VU(o:Option Str)(b:List (Option Str)):kM (oV o) (gs b)=decide (o∈b):=by
 unfold kM gs;rw[List.any_map,Bool.eq_iff_iff,List.any_eq_true,decide_eq_true_eq];constructor
 ·rintro⟨z,c,e⟩;have a:qx (oV z) (oV o)=true:=e;rw[xZ,decide_eq_true_eq] at a;rw[<-a];exact c
 ·intro h;exact⟨o,h,by show qx (oV o) (oV o)=true;rw[xZ];exact decide_eq_true rfl⟩
end Bg
namespace L2
open PySem PySem.Spec PyProof.Rows
section
variable{X:Cx}
end
end L2
namespace Bg
open PySem PySem.Spec PyProof.Rows L2
end Bg
namespace L2
open PySem PySem.Spec PyProof.Rows
section
variable{X:Cx}{tg:Expr}
end
end L2
namespace Bg
open PySem PySem.Spec PyProof.Rows L2
end Bg
namespace Bg
open PySem L2
def pY{a b:Str}{A B:Prop}(d:a=b->A)(h2:a≠b->B):if decide (V.str a=V.str b)=true then A else B:=by
 by_cases c:a=b
 ·rw[c,decide_eq_true rfl,if_pos rfl];exact d c
 ·rw[decide_eq_false (λz=>c (by injection z)),if_neg (by decide)];exact h2 c
def Ar{K:Fg}{vs:List V}{H:Hp}{Q:VK}{E:XK}(h:tR K vs H Q E):wq K {nx:=λ_ H'=>Q .non H',rt:=Q} (fQ vn vs) H:=by
 obtain⟨p,w,e,rfl,a,f,g,i⟩:=h;refine⟨_,rfl,Zt a rfl (.inl ⟨rfl,_,rfl,pY (λc=>?_) (λc=>?_)⟩)⟩
 ·obtain⟨y,b,q⟩:=f c;exact⟨_,rfl,Zt a (show(V.str w::e)[1]?=some y from b) q⟩
 ·refine⟨_,rfl,Zt a rfl (.inl ⟨rfl,_,rfl,pY (λd=>?_) (λd=>?_)⟩)⟩
  ·obtain⟨y,b,q⟩:=g d;exact⟨_,rfl,Zt a (show(V.str w::e)[2]?=some y from b) q⟩
  ·exact i c d
def xn{K:Fg}{vs:List V}{H:Hp}{Q:VK}{E:XK}(h:pG K vs H Q E):tS K {nx:=λ_ H'=>Q .non H',rt:=Q} (fQ tI vs) H:=by
 obtain⟨B,p,n,m,o,w,y,rfl,a,r,k,⟨s,u,v,x⟩,q⟩:=h;have l:(0:Int)<=((n:Nat):Int):=dz _;have j:m[((n:Nat):Int).toNat]?=some (.ref p):=by rw[c8];exact r
 refine⟨_,rfl,_,rfl,N5 a l j (Zt k rfl ?_)⟩;refine⟨_,rfl,.inl ⟨rfl,_,rfl,pY (λc=>?_) (λc=>?_)⟩⟩
 ·refine⟨Zu,λt b=>q t _ ?_ ((du.refl H).new b)⟩;rw[cW,s c];rfl
 refine⟨_,rfl,.inl ⟨rfl,_,rfl,pY (λd=>?_) (λd=>?_)⟩⟩
 ·obtain⟨g,i,f⟩:=u d;refine⟨_,rfl,_,rfl,N5 a l j ⟨p,w,o,rfl,k,λ_=>⟨.int g,i,⟨Zv,λt b=>q t _ ?_ ((du.refl H).new b)⟩⟩,λz=>absurd (d.symm.trans z) (by decide +kernel),λz=>absurd d z⟩⟩;rw[cW,f];rfl
 refine⟨_,rfl,.inl ⟨rfl,_,rfl,pY (λe=>?_) (λe=>?_)⟩⟩
 ·obtain⟨g,i,f⟩:=v e;refine⟨_,rfl,.inl ⟨_,_,rfl,rfl,_,rfl,_,rfl,N5 a l j ⟨p,w,o,rfl,k,λz=>absurd z d,λ_=>⟨.int g,i,⟨Zw,λt b=>q t _ ?_ ((du.refl H).new b)⟩⟩,λ_ z=>absurd e z⟩⟩⟩;rw[cW,f];rfl
 ·refine⟨_,rfl,.inl ⟨_,_,rfl,rfl,⟨Zv,λt b=>q t _ ?_ ((du.refl H).new b)⟩⟩⟩;rw[cW,x c d e];rfl
def yz{K:Fg}{vs:List V}{H:Hp}{Q:VK}{E:XK}(h:jB K vs H Q E):rW K {nx:=λ_ H'=>Q .non H',rt:=Q} (fQ rS vs) H:=by
 obtain⟨_,a,⟨j,l⟩,n,told,rfl,⟨p,b,rfl,d,i⟩,g,few,c,q⟩:=h;refine⟨_,rfl,Zt d rfl ⟨_,rfl,.inl ⟨rfl,_,rfl,fM (λe=>?_) (λe=>?_)⟩⟩⟩
 ·have f:j=n:=Int.ofNat.inj (V.int.inj e);refine⟨_,rfl,Zt d rfl ⟨_,rfl,b,a,l,told,rfl,i,g,c,few,λH' s=>q _ H' ?_ s⟩⟩;exact⟨λz=>⟨f,c,z⟩,λz=>z.2.2⟩
 ·exact q _ H ⟨(λz=>by cases z),λz=>absurd (congrArg (λk:Nat=>V.int (k:Nat)) z.1) e⟩ (du.refl H)
inductive PW:ed->gb->Prop where
 |num {x z z'}:PW (.num x z) (.num z')
 |op {x s a b s' i j}:PW (.op x s a b) (.op s' i j)
 |call {x k as k' as'}:PW (.call x k as) (.call k' as')
 |jump {t t'}:PW (.jump t) (.jump t')
 |say {a i}:PW (.say a) (.say i)
 |test {a t i t'}:PW (.test a t) (.test i t')
 |give {a i}:PW (.give a) (.give i)
def Xb:ed->Nat
 |.num _ _=>0|.op _ _ _ _=>1|.call _ _ _=>2|.jump _=>3|.say _=>4|.test _ _=>5|.give _=>6
def Xc:gb->Nat
 |.num _=>0|.op _ _ _=>1|.call _ _=>2|.jump _=>3|.say _=>4|.test _ _=>5|.give _=>6|.keep _=>7
def Xw(s:Str):Nat:=if s="num" then 0 else if s="op" then 1 else if s="call" then 2 else if s="jump" then 3 else if s="say" then 4 else if s="test" then 5 else if s="give" then 6 else 7
def Wz(r:ed):Xw (gG r)=Xb r:=by cases r<;>(simp only[gG,Xb];decide +kernel)
def WA(c:gb):Xw (eZ c)=Xc c:=by cases c<;>(simp only[eZ,Xc];decide +kernel)
def sN{r:ed}{c:gb}(h:gG r=eZ c):PW r c:=by
 have e:Xb r=Xc c:=by rw[<-Wz,<-WA,h]
 cases r<;>cases c<;>first|constructor|cases e
def GK{K:Fg}{vs:List V}{H:Hp}{Q:VK}{E:XK}(h:rE K vs H Q E):AX K {nx:=λ_ H'=>Q .non H',rt:=Q} (fQ zx vs) H:=by
 obtain⟨v,a,r,d,x,rfl,b,g,l,J,D,G,q⟩:=h;have C:gs d≠[]:=λz=>l (by have:=congrArg i7 z;rw[fk] at this;exact fG.mp this);have O:(gs d).length<=1000:=by rw[fk];exact J
 have n:∀(p:c7) (o:List V),qB r=false->(∀i,r≠.keep i)->H p=some (.tup (.str (eZ r)::o))->rN K {nx:=λ_ H'=>Q .non H',rt:=Q} [XU p,XU a,some (oV x)] H:=λp o e f B=>by
  have w:BE r d x=d:=by
   cases x with
   |none=>cases r<;>first|rfl|exact absurd rfl (f _)
   |some y=>cases r<;>first|rfl|exact absurd rfl (f _)|cases e
  refine⟨_,rfl,Zt B rfl ⟨Zx,λt m=>⟨t,_,rfl,.inr (fA.of cW),rfl,rfl,_,rfl,?_⟩⟩⟩;exact Gg ((AE r).trans e) ⟨_,rfl,q a _ (by rw[dC (de g m),w];exact g) ((du.refl H).new m)⟩
 have c:∀(p:c7) (o:List V),qB r=true->H p=some (.tup (.str (eZ r)::o))->rN K {nx:=λ_ H'=>Q .non H',rt:=Q} [XU p,XU a,some (oV x)] H:=λp o e B=>by
  obtain⟨y,rfl⟩:∃y,x=some y:=by
   have:=G e;cases x with
   |none=>cases this
   |some y=>exact⟨y,rfl⟩
  have w:BE r d (some y)=DZ d y:=by
   cases r<;>first|rfl|(cases e;done)
  refine⟨_,rfl,Zt B rfl ⟨Zx,λt m=>⟨t,_,rfl,.inr (fA.of cW),rfl,rfl,_,rfl,?_⟩⟩⟩;exact Gh ((AE r).trans e) ⟨_,rfl,_,rfl,a,d,y,rfl,by rw[dC (de g m)];exact g,l,J,λp u f I=>q p u (by rw[f,w]) (((du.refl H).new m).trans I)⟩
 cases r with
 |keep i=>
  obtain⟨p,rfl,h⟩:=b;obtain⟨M,L⟩:=D i rfl;refine⟨_,rfl,Zt h rfl (.inl ⟨rfl,_,rfl,yes ?_⟩)⟩;refine⟨_,rfl,_,rfl,_,rfl,Zt h rfl (eP g M (lh (cP L)) ⟨a,_,_,rfl,g,C,O,λp u f I=>q p u ?_ I⟩)⟩;rw[f,OG];show _=some (HO.tup (gs (jg d ((d[i.toNat]?).getD none))));rw[cP L,iB]
 |num z=>obtain⟨p,rfl,h⟩:=b;exact⟨_,rfl,Zt h rfl (.inl ⟨rfl,_,rfl,Zs (c p _ rfl h)⟩)⟩
 |op s i j=>obtain⟨p,rfl,h⟩:=b;exact⟨_,rfl,Zt h rfl (.inl ⟨rfl,_,rfl,Zs (c p _ rfl h)⟩)⟩
 |call k P=>obtain⟨p,R,rfl,h,e⟩:=b;exact⟨_,rfl,Zt h rfl (.inl ⟨rfl,_,rfl,Zs (c p _ rfl h)⟩)⟩
 |_=>obtain⟨p,rfl,h⟩:=b;exact⟨_,rfl,Zt h rfl (.inl ⟨rfl,_,rfl,Zs (n p _ rfl (λ_ z=>by cases z) h)⟩)⟩
def Km(xs:List (Option Str))(ys:List Str):lM (gs xs) (ys.map V.str)=true↔xs=ys.map some:=by
 by_cases c:(gs xs).length=(ys.map V.str).length
 ·have g:xs.length=ys.length:=by rw[fk,cT] at c;exact c
  rw[zT c,gd,fk];have b:∀(j:Nat) (a:j<xs.length) (d:j<ys.length),qx (((gs xs)[j]?).getD .non) (((ys.map V.str)[j]?).getD .non)=true↔xs[j]=some ys[j]:=λj a d=>by
   rw[lh (cP a),dw,cP d];show qx (oV xs[j]) (oV (some ys[j]))=true↔_;rw[xZ,decide_eq_true_eq]
  constructor
  ·intro h;refine List.ext_getElem (by rw[cT];exact g) λj a d=>?_;rw[mM];exact(b j a (by lia)).mp (h j (ja.mpr a))
  ·intro e j f;have a:=ja.mp f;refine(b j a (by lia)).mpr ?_;simp only[e,mM]
 ·rw[Ej c];refine⟨(λz=>by cases z),λe=>absurd ?_ c⟩;rw[e,fk,cT,cT]
def Dq{r:ed}{c:gb}{g:List (Option Str)}(d:∀i∈d5 c,0<=i/\i.toNat<g.length):sE r c g↔gG r=eZ c/\FY r=Ln c/\(d5 c).map (r8 g)=(iw r).map some:=by
 have f:∀(t:Nat) i,(d5 c)[t]?=some i->g[i.toNat]?=some (r8 g i):=λt i e=>by
  have q:=(d i (dg e)).2;unfold r8;rw[cP q];rfl
 constructor
 ·rintro⟨k,m,j,o⟩;refine⟨k,m,List.ext_getElem (by rw[cT,cT];exact j) λt b h=>?_⟩;rw[cT] at b h;rw[mM,mM];have n:=cP b;have:=(o t _ _ n (cP h)).2;rw[f t _ n] at this;exact Option.some.inj this
 ·rintro⟨k,m,j⟩;have p:(d5 c).length=(iw r).length:=by have:=congrArg i7 j;rwa [cT,cT] at this
  refine⟨k,m,p,λt i a b h=>⟨(d i (dg b)).1,?_⟩⟩;rw[f t i b];have:=congrArg (λl=>l[t]?) j;simp only[dw,b,h,fO] at this;rw[Option.some.inj this]
def zg(r:ed):kM (.str (gG r)) [V.str "num",V.str "op",V.str "call"]=(jt r).isSome:=by
 cases r<;>(first|(show kM (.str "num") _=true;decide +kernel)|(show kM (.str "op") _=true;decide +kernel)|(show kM (.str "call") _=true;decide +kernel)|(show kM (.str "say") _=false;decide +kernel)|(show kM (.str "jump") _=false;decide +kernel)|(show kM (.str "test") _=false;decide +kernel)|(show kM (.str "give") _=false;decide +kernel))
def R3{H:Hp}{p:c7}{r:ed}(h:gR H (.ref p) r)(e:(jt r).isSome=true):∃x xs,H p=some (.tup (.str (gG r)::.str x::FY r::xs))/\Pf (FY r) (FY r)=true:=by
 cases r with
 |call y k f=>obtain⟨c,q,b,h,_⟩:=h;cases b;exact⟨_,_,h,rfl⟩
 |jump d=>cases e
 |say a=>cases e
 |test a d=>cases e
 |give a=>cases e
 |_=>obtain⟨c,b,h⟩:=h;cases b;exact⟨_,_,h,rfl⟩
def Nz{H:Hp}{p:c7}{c:gb}(h:hI H (.ref p) c)(e:qB c=true):∃xs,H p=some (.tup (.str (eZ c)::Ln c::xs)):=by
 cases c with
 |call k f=>obtain⟨b,q,a,h,_⟩:=h;cases a;exact⟨_,h⟩
 |keep i=>cases e
 |say i=>cases e
 |jump d=>cases e
 |test i d=>cases e
 |give i=>cases e
 |_=>obtain⟨b,a,h⟩:=h;cases a;exact⟨_,h⟩
def Lo{r:ed}{c:gb}(h:gG r=eZ c)(e:(jt r).isSome=true):Pf (FY r) (Ln c)=true:=by
 cases sN h<;>first|rfl|(cases e;done)
def Nt{r:ed}{c:gb}(h:gG r=eZ c)(e:(jt r).isSome=false):FY r=Ln c:=by
 cases sN h<;>first|rfl|(cases e;done)
def Co{K:Fg}{vs:List V}{H:Hp}{Q:VK}{E:XK}(h:pE K vs H Q E):ux K {nx:=λ_ H'=>Q .non H',rt:=Q} (fQ pW vs) H:=by
 obtain⟨v,u,a,r,c,k,rfl,R,L,ha,aa,pin,q⟩:=h;have si:=Dq (r:=r) pin;obtain⟨p,xs,rfl,X⟩:=R.ref;obtain⟨T,ys,rfl,O⟩:=L.ref;refine⟨_,rfl,Zt X rfl ⟨_,rfl,Zt O rfl (.inl ⟨rfl,_,rfl,pj (λn=>?_) (λl=>?_)⟩)⟩⟩
 ·exact q _ H ⟨(λz=>by cases z),λz=>absurd (congrArg V.str z.wd) n⟩ (du.refl H)
 have l:gG r=eZ c:=V.str.inj l;have f:∀(g:Hp),FY r=Ln c->du H g->rX K {nx:=λ_ H'=>Q .non H',rt:=Q} [XU p,XU T,XU a] g:=λg G b=>by
  refine .inr ⟨_,rfl,.ref T,c,rfl,L.mono (Tp.of_same b),λpp U w s2=>⟨pp,rfl,⟨_,fA.of w⟩,λD nD=>?_⟩⟩;have J:=s2 _ _ (b _ _ ha);refine jd (xs:=(d5 c).map V.int) (λi d H'=>∃o,d=[XU p,XU T,XU a,o]/\H' D=some (.lst (gs (((d5 c).take i).map (r8 k))))/\du U H') ⟨none,rfl,cW,(du.refl U).new nD⟩ ?_ ?_ ?_
  ·rintro i d H' _ ⟨_,_,_,s⟩;exact fA.of (s _ _ w)
  ·rintro i x d j Z ⟨o,rfl,C,s⟩;rw[dw] at Z;obtain⟨z,I,rfl⟩:=iK.mp Z;have il:=(cR.mp I).1;obtain⟨z0,zl⟩:=pin z (dg I);refine ib ⟨_,rfl,_,rfl,eP (s _ _ J) z0 (lh (cP zl)) ⟨_,C,fE (by rw[fk,cT,dB];lia),_,rfl,?_,mq s nD⟩⟩;rw[cW,hY I,dt];unfold gs;rw[dt];show _=some (HO.lst (_++[oV (r8 k z)]));unfold r8;rw[cP zl];rfl
  ·rintro d j ⟨o,_,C,s3⟩;rw[cT,fV] at C;refine⟨D,_,rfl,.inl ⟨fR.of C,λt S=>?_⟩⟩;have s4:du j (upd j t (.tup (gs ((d5 c).map (r8 k))))):=(du.refl j).new S;have Y:upd j t (.tup (gs ((d5 c).map (r8 k)))) t=some (.tup (gs ((d5 c).map (r8 k)))):=cW;generalize upd j t (.tup (gs ((d5 c).map (r8 k))))=H4 at s4 Y ⊢;have B:=((b.trans s2).trans s3).trans s4;refine⟨_,rfl,.ref p,r,rfl,R.mono (Tp.of_same B),λp5 H5 P s5=>.inr (.inl ⟨t,p5,_,_,rfl,rfl,fA.of (s5 _ _ Y),fA.of P,vH _,tL _,?_⟩)⟩;refine q _ H5 ?_ (B.trans s5);rw[if_neg Bool.false_ne_true,Km,si];exact⟨λz=>⟨l,G,z⟩,λz=>z.2.2⟩
 refine⟨_,rfl,Zt X rfl ⟨Zx,λt S=>⟨t,_,rfl,.inr (fA.of cW),rfl,rfl,_,rfl,?_⟩⟩⟩;have b:du H (upd H t (.tup [V.str "num",V.str "op",V.str "call"])):=(du.refl H).new S;generalize upd H t (.tup [V.str "num",V.str "op",V.str "call"])=g at b ⊢;rw[show(if false=true then !kM (V.str (gG r)) [V.str "num",V.str "op",V.str "call"] else kM (V.str (gG r)) [V.str "num",V.str "op",V.str "call"])=(jt r).isSome from zg r];refine jU (λy=>?_) (λy=>lT (f g (Nt l y) b));obtain⟨x,ab,M,sc⟩:=R3 R y;have ic:qB c=true:=by
  rw[<-AE c,<-l];exact(zg r).trans y
 obtain⟨ae,m⟩:=Nz L ic;refine⟨_,rfl,Zt (b _ _ M) rfl ⟨_,rfl,Zt (b _ _ m) rfl (.inl ⟨Lo l y,_,rfl,pj (λn=>?_) (λe=>f g e b)⟩)⟩⟩;exact q _ g ⟨(λz=>by cases z),λz=>absurd z.arg n⟩ b
def Vj(c:gb):kM (.str (eZ c)) [V.str "keep",V.str "jump"]=lE c:=by
 cases c<;>(simp only[eZ,lE];decide +kernel)
def IW{H:Hp}{v:V}{r:ed}(n:Nat)(h:gR H v r):∃p xs,v=.ref p/\H p=some (.tup (.str (gG r)::xs))/\Ew (gG r) xs n ((fK n r).map λk=>((k:Nat):Int)):=by
 cases r with
 |call y k c=>obtain⟨p,q,e,h,_⟩:=h;exact⟨p,_,e,h,λz=>absurd z (by simp only[gG];decide +kernel),λz=>absurd z (by simp only[gG];decide +kernel),λz=>absurd z (by simp only[gG];decide +kernel),λ_ _ _=>rfl⟩
 |jump b=>obtain⟨p,e,h⟩:=h;exact⟨p,_,e,h,λz=>absurd z (by simp only[gG];decide +kernel),λ_=>⟨_,rfl,rfl⟩,λz=>absurd z (by simp only[gG];decide +kernel),λ_ z=>absurd rfl z⟩
 |test a b=>obtain⟨p,e,h⟩:=h;exact⟨p,_,e,h,λz=>absurd z (by simp only[gG];decide +kernel),λz=>absurd z (by simp only[gG];decide +kernel),λ_=>⟨_,rfl,rfl⟩,λ_ _ z=>absurd rfl z⟩
 |give a=>obtain⟨p,e,h⟩:=h;exact⟨p,_,e,h,λ_=>rfl,λz=>absurd z (by simp only[gG];decide +kernel),λz=>absurd z (by simp only[gG];decide +kernel),λz=>absurd rfl z⟩
 |_=>obtain⟨p,e,h⟩:=h;exact⟨p,_,e,h,λz=>absurd z (by simp only[gG];decide +kernel),λz=>absurd z (by simp only[gG];decide +kernel),λz=>absurd z (by simp only[gG];decide +kernel),λ_ _ _=>rfl⟩
def x5{H:Hp}{v:V}{c:gb}(n:Nat)(h:hI H v c):∃p xs,v=.ref p/\H p=some (.tup (.str (eZ c)::xs))/\Ew (eZ c) xs n (ij (n:Nat) c):=by
 cases c with
 |call k b=>obtain⟨p,q,e,h,_⟩:=h;exact⟨p,_,e,h,λz=>absurd z (by simp only[eZ];decide +kernel),λz=>absurd z (by simp only[eZ];decide +kernel),λz=>absurd z (by simp only[eZ];decide +kernel),λ_ _ _=>rfl⟩
 |jump a=>obtain⟨p,e,h⟩:=h;exact⟨p,_,e,h,λz=>absurd z (by simp only[eZ];decide +kernel),λ_=>⟨_,rfl,rfl⟩,λz=>absurd z (by simp only[eZ];decide +kernel),λ_ z=>absurd rfl z⟩
 |test i a=>obtain⟨p,e,h⟩:=h;exact⟨p,_,e,h,λz=>absurd z (by simp only[eZ];decide +kernel),λz=>absurd z (by simp only[eZ];decide +kernel),λ_=>⟨_,rfl,rfl⟩,λ_ _ z=>absurd rfl z⟩
 |give i=>obtain⟨p,e,h⟩:=h;exact⟨p,_,e,h,λ_=>rfl,λz=>absurd z (by simp only[eZ];decide +kernel),λz=>absurd z (by simp only[eZ];decide +kernel),λz=>absurd rfl z⟩
 |_=>obtain⟨p,e,h⟩:=h;exact⟨p,_,e,h,λz=>absurd z (by simp only[eZ];decide +kernel),λz=>absurd z (by simp only[eZ];decide +kernel),λz=>absurd z (by simp only[eZ];decide +kernel),λ_ _ _=>rfl⟩
def Vi(r:ed):kJ r=oV (jt r):=by cases r<;>rfl
def R9{c:gb}(h:lE c=true):qB c=false:=by cases c<;>first|rfl|cases h
def D4{c:gb}{a:List (Option Str)}{x:Option Str}:(BE c a x).length=a.length:=by
 unfold BE;split
 ·unfold qC;exact kC _ _
 ·split
  ·split
   ·unfold DZ;rw[kC,cT]
   ·rfl
  ·rfl
def TJ{P:Nat->Prop}{bs:List Bool}(h:∀(j:Nat) b,bs[j]?=some b->(b=true↔P j)):bs.all id=true↔∀j,j<bs.length->P j:=by
 rw[gd];constructor
 ·intro z j a;exact(h j _ (cP a)).mp (z _ (gg a))
 ·intro z b c;obtain⟨j,a,e⟩:=eH.mp c;exact(h j b (by rw[cP a,e])).mpr (z j a)
def Mo{rs:List ed}{n m:Nat}{r:ed}{c:gb}(b:rs[n]?=some r)(h:lE c=false->gG r=eZ c):(ij (m:Nat) c).length=(gB rs c n).length:=by
 unfold gB;cases a:lE c with
 |true=>rw[if_pos rfl];cases c<;>first|rfl|cases a
 |false=>
  have h:=h a;rw[if_neg Bool.false_ne_true,b,cT];cases sN h<;>first|rfl|(cases a;done)
def EE{K:Fg}{vs:List V}{H:Hp}{Q:VK}{E:XK}(h:qe K vs H Q E):vY K {nx:=λ_ H'=>Q .non H',rt:=Q} (fQ oC vs) H:=by
 obtain⟨rt,ct,pp,m,places,aB,aE,aP,O,cs,ps,rfl,Z,hR,good,aw,hC,ai,hP,p1,ao,wide,⟨c,⟨n,os⟩,r,ec,eq,L,aA,pin,aM⟩,q⟩:=h;have L:O[n]?=some r:=L;have ol:os.length=places:=wide m _ eq;have m0:(0:Int)<=((m:Nat):Int):=dz _;have n0:(0:Int)<=((n:Nat):Int):=dz _;obtain⟨cv,_,au,e2,U⟩:=hC.get (i:=m) (cR.mp ec).1;rw[ec] at e2;cases e2;obtain⟨pv,_,av,e2,pa,na,rfl,Y,X⟩:=hP.get (i:=m) (cR.mp eq).1;rw[eq] at e2;cases e2;obtain⟨rv,_,ag,e2,aj⟩:=hR.get (i:=n) (cR.mp L).1;rw[L] at e2;cases e2;have one:os≠[]:=λz=>by rw[z] at ol;have:(0:Nat)=places:=ol;lia
 have Y:H pa=some (.tup [.int (n:Nat),.ref na]):=Y;have X:H na=some (.tup (gs os)):=X;refine⟨_,rfl,_,rfl,eP aw m0 (by rw[c8];exact au) ?_⟩;refine⟨_,rfl,_,rfl,eP ai m0 (by rw[c8];exact av) (Zt Y rfl ?_)⟩;refine⟨_,rfl,_,rfl,eP ai m0 (by rw[c8];exact av) (Zt Y rfl ?_)⟩;have rest:∀(pn:c7) (H1:Hp),(lE c=false->sE r c os)->du H H1->H1 pn=some (.tup (eU (gB O c n)))->sY K {nx:=λ_ H'=>Q .non H',rt:=Q} [XU rt,XU ct,XU pp,XW m,some cv,XW n,XU na,XU pn,none] H1:=λpn H1 f J aI=>by
  have len:=Mo (m:=m) L λz=>(f z).wd;refine⟨_,rfl,_,rfl,_,rfl,_,rfl,eP (J _ _ Z) n0 (by rw[c8];exact ag) ⟨rv,r,rfl,aj.mono (Tp.of_same J),λH2 s2=>?_⟩⟩;have d:=J.trans s2;rw[Vi];have st:qB c=true->(jt r).isSome=true:=λhs=>by
   cases ae:lE c with
   |true=>rw[R9 ae] at hs;cases hs
   |false=>rw[<-zg r,(f ae).wd];exact(AE c).trans hs
  refine⟨cv,na,c,os,jt r,rfl,U.mono (Tp.of_same d),d _ _ X,one,by lia,λi e=>by rw[ol];exact pin i (by rw[e];exact dc.mpr rfl),st,λtl H3 aL s3=>?_⟩;have g:=d.trans s3;obtain⟨cp,ar,af,ah,lw⟩:=x5 m (U.mono (Tp.of_same g));refine⟨_,rfl,_,rfl,ct,cp,m,aE,ar,eZ c,ij (m:Nat) c,rfl,.inr (g _ _ aw),by rw[au,af],ah,lw,λld H4 v s4=>?_⟩;have aq:=g.trans s4;have ab:=s4 _ _ (s3 _ _ (s2 _ _ aI));have az:=s4 _ _ aL;have ay:=aq _ _ ai;refine⟨_,rfl,true,true,ld,pn,rfl,⟨_,fA.of v⟩,⟨_,fA.of ab⟩,λD nD=>?_⟩;obtain⟨aC,G⟩:=BV λi a H'=>∃(o1 o2:Option V) (bs:List Bool),a=[XU rt,XU ct,XU pp,XW m,some cv,XW n,XU na,XU pn,XU tl,o1,o2]/\H' D=some (.lst (bs.map V.bl))/\bs.length=i/\(∀(j:Nat) b,bs[j]?=some b->(b=true↔∀p n' M,(ij (m:Nat) c)[j]?=some p->(gB O c n)[j]?=some n'->ps[p.toNat]?=some M->rQ M n' (BE c os (jt r))))/\du H4 H';refine C2 (xs:=(ij (m:Nat) c).map V.int) (ys:=eU (gB O c n)) (by rw[cT,hW,len];exact dk _) aC (G.mpr ⟨none,none,[],rfl,cW,rfl,(λj b l=>by simp at l),(du.refl H4).new nD⟩) ?_ ?_ ?_
  ·rintro i a H' _ B;obtain⟨_,_,_,_,_,_,_,s⟩:=G.mp B;exact⟨fA.of (s _ _ v),fA.of (s _ _ ab)⟩
  ·rintro i x y a H5 t hx hy nt B;obtain⟨o1,o2,bs,rfl,hD,bl,l,s5⟩:=G.mp B;rw[dw] at hx;obtain⟨p,R,rfl⟩:=iK.mp hx;obtain⟨k,ek,rfl⟩:=qz hy;obtain⟨t0,aO⟩:=aM p (dg R);obtain⟨qv,M,eqv,P,aJ⟩:=hP.get (i:=p.toNat) aO;refine⟨t,_,rfl,fA.of cW,rfl,_,_,rfl,_,_,rfl,rfl,ib ?_⟩;have s6:du H5 (upd H5 t (.tup [.int p,.int (k:Nat)])):=(du.refl H5).new nt;show dR (jB K) [] E0 _ [XU rt,XU ct,XU pp,XW m,some cv,XW n,XU na,XU pn,XU tl,XX p,XW k] _ _;generalize upd H5 t (.tup [.int p,.int (k:Nat)])=H6 at s6 ⊢;have aa:=s5.trans s6;have il:i<3:=by
    have u:=(cR.mp R).1;have:(ij (m:Nat) c).length<=2:=by cases c<;>simp[ij]
    lia
   refine⟨_,rfl,_,rfl,eP (aa _ _ ay) t0 eqv ⟨_,rfl,_,rfl,qv,tl,M,k,_,rfl,aJ.mono (Tp.of_same (aq.trans aa)),aa _ _ az,by rw[wide _ _ P];exact ao,by rw[wide _ _ P,D4,ol],λb H7 ax s7=>⟨_,s7 _ _ (s6 _ _ hD),fE (by rw[cT];lia),G.mpr ⟨_,_,bs++[b],rfl,by rw[cW,dt];rfl,by rw[c9,bl];rfl,λj b' aG=>?_,mq (aa.trans s7) nD⟩⟩⟩⟩;rcases vT aG with⟨_,w⟩|⟨e,rfl⟩
   ·exact l j b' w
   ·rw[ax,e,bl];refine⟨λz aQ n2 q2 u S T=>?_,λz=>z p k M R ek P⟩;rw[R] at u;cases u;rw[ek] at S;cases S;rw[P] at T;cases T;exact z
  ·rintro a H5 B;obtain⟨o1,o2,bs,_,hD,bl,l,s5⟩:=G.mp B;refine⟨D,_,rfl,fR.of hD,?_⟩;refine q _ H5 ?_ (aq.trans s5);rw[TJ l,bl,cT];refine⟨λz c' M r' u S T=>?_,λz j _ p n' M u S T=>(z c _ r ec eq L).2 j p n' M u S T⟩;rw[ec] at u;cases u;rw[eq] at S;cases S;rw[L] at T;cases T;exact⟨f,λj p n' M u S T=>z j (cR.mp u).1 p n' M u S T⟩
 obtain⟨cp,ar,af,ah⟩:=U.ref;subst af;refine⟨_,rfl,Zt ah rfl ⟨Zw,λt nt=>⟨t,_,rfl,.inr (fA.of cW),rfl,rfl,_,rfl,?_⟩⟩⟩;have J:du H (upd H t (.tup [V.str "keep",V.str "jump"])):=(du.refl H).new nt;generalize upd H t (.tup [V.str "keep",V.str "jump"])=H1 at J ⊢;rw[show(if false=true then !kM (V.str (eZ c)) [V.str "keep",V.str "jump"] else kM (V.str (eZ c)) [V.str "keep",V.str "jump"])=lE c from Vj c];refine jU (λhs=>?_) (λhs=>?_)
 ·refine⟨_,rfl,Zv,λpn ak=>rest pn _ (λz=>by rw[hs] at z;cases z) (J.new ak) ?_⟩;rw[cW];unfold gB;rw[if_pos hs];rfl
 ·refine⟨_,rfl,_,rfl,eP (J _ _ Z) n0 (by rw[c8];exact ag) ⟨_,rfl,_,rfl,rv,.ref cp,na,r,c,os,rfl,aj.mono (Tp.of_same J),U.mono (Tp.of_same J),J _ _ X,aA,by rw[ol];exact pin,λb H2 C s2=>⟨_,rfl,?_⟩⟩⟩;have d:=J.trans s2;refine jU (λl=>?_) (λl=>?_)
  ·have l:b=false:=by simpa using l
   refine q _ H2 ⟨(λz=>by cases z),λz=>?_⟩ d;have:=C.mpr ((z c _ r ec eq L).1 hs);rw[l] at this;cases this
  have l:b=true:=by simpa using l
  have f:=C.mp l;obtain⟨rp,aN,aF,aK,lw⟩:=IW n (aj.mono (Tp.of_same d));refine .inr ⟨_,rfl,_,rfl,rt,rp,n,aB,aN,gG r,_,rfl,.inr (d _ _ Z),by rw[ag,aF],aK,lw,λld H3 v s3=>⟨ld,rfl,⟨_,fA.of v⟩,λD nD=>?_⟩⟩;have g:=d.trans s3;have aH:gB O c n=(fK n r).map (runJ O O.length):=by
   unfold gB;rw[if_neg (by rw[hs];exact Bool.false_ne_true),L]
  obtain⟨aD,I⟩:=BV λi a H'=>∃o,a=[XU rt,XU ct,XU pp,XW m,XU cp,XW n,XU na,none,none,o]/\H' D=some (.lst (eU (((fK n r).take i).map (runJ O O.length))))/\du H3 H';refine jd (xs:=((fK n r).map λk=>((k:Nat):Int)).map V.int) aD (I.mpr ⟨none,rfl,cW,(du.refl H3).new nD⟩) ?_ ?_ ?_
  ·rintro i a H' _ B;obtain⟨_,_,_,s⟩:=I.mp B;exact fA.of (s _ _ v)
  ·rintro i x a H4 hx B;obtain⟨o,rfl,hD,s4⟩:=I.mp B;rw[dw,dw] at hx;obtain⟨z,ez,rfl⟩:=iK.mp hx;obtain⟨k,ek,rfl⟩:=iK.mp ez;have il:i<3:=by
    have u:=(cR.mp ek).1;have:(fK n r).length<=2:=by cases r<;>simp[fK]
    lia
   refine ib ⟨_,rfl,_,rfl,rt,k,aB,O,rfl,s4 _ _ (g _ _ Z),hR.imp λ_ _ z=>z.mono (Tp.of_same (g.trans s4)),good,good.inr n k r L (dg ek),_,hD,fE (by rw[hW,cT,dB];lia),I.mpr ⟨_,rfl,?_,mq s4 nD⟩⟩;rw[cW,hY ek];unfold eU;rw[dt,dt];rfl
  ·rintro a H4 B;obtain⟨o,_,hD,s4⟩:=I.mp B;rw[cT,cT,fV,<-aH] at hD;refine⟨D,_,rfl,.inl ⟨fR.of hD,λpn ak=>rest pn _ (λ_=>f) ((g.trans s4).new ak) cW⟩⟩
def Qu(n:Nat)(ys:List Str):Ir n (ys.map V.str) .non=gs ((ys.reverse.map some++dm n none).take n):=by
 rw[Nu];unfold gs;rw[gv,dt,oW,gZ,<-mN];rfl
def Cn{K:Fg}{vs:List V}{H:Hp}{Q:VK}{E:XK}(h:pD K vs H Q E):uw K {nx:=λ_ H'=>Q .non H',rt:=Q} (fQ uc vs) H:=by
 obtain⟨v,ct,pp,places,p,T,b,J,S,rfl,⟨pa,qa,ra,B,rfl,k,M,x,hR⟩,good,U,aa,u,C,Y,w,Z,p1,a,R,q⟩:=h;have y:0<b.rows.length:=eL.mpr U;obtain⟨qv,q0,eqv,f,O⟩:=Z.get (i:=0) (by rw[R.len];exact R.pos);refine⟨_,rfl,Zt w eqv ⟨_,rfl,Zt k rfl ⟨ra,0,B,b.rows,rfl,x,hR,good,y,?_⟩⟩⟩;refine⟨_,rfl,_,rfl,Zt k rfl ⟨places,qa,.non,_,rfl,.inr M,p1,a,λbg H1 s s1=>?_⟩⟩;rw[Qu] at s;refine⟨qv,bg,q0,_,_,rfl,O.mono (Tp.of_same s1),s,by rw[R.wide _ _ f];exact a,by rw[R.wide _ _ f,dB,c9,d3];lia,λt H2 G s2=>⟨_,rfl,?_⟩⟩;have l:=s1.trans s2;have r:t=true↔Qg places b S:=G.trans ⟨λz=>⟨q0,f,z⟩,λ⟨q',e,z⟩=>by rw[f] at e;cases e;exact z⟩;refine jU (λe=>?_) (λe=>?_)
 ·have e:t=false:=by simpa using e
  exact q (some 0) H2 (.inl ⟨(λz=>by rw[r.mpr z] at e;cases e),rfl⟩) l
 have r:=r.mp (by simpa using e);obtain⟨I,g⟩:=BV λi m H'=>∃P,m=[XW places,XU pa,XU ct,XU pp,P]/\(∀j,j<i->Im b.rows J S j)/\du H H';refine⟨_,rfl,_,_,rfl,.inr ⟨_,fA.of (l _ _ u),rfl⟩,_,rfl,by lia,by rw[C.len];lia,jO (n:=((p.length:Nat):Int).toNat) I (g.mpr ⟨none,rfl,(λj o=>absurd o (fN j)),l⟩) ?_ ?_⟩
 ·rintro i m X D L;obtain⟨P,rfl,all,d⟩:=g.mp L;have D:i<J.length:=by rw[<-C.len];simpa using D
  have e0:(0:Int)+(i:Int)=((i:Nat):Int):=by lia
  rw[e0];refine⟨_,rfl,Zt (d _ _ k) rfl ⟨_,rfl,_,rfl,_,rfl,ra,ct,pp,i,places,B,p,T,b.rows,J,S,rfl,d _ _ x,hR.imp λ_ _ z=>z.mono (Tp.of_same d),good,d _ _ u,C.imp λ_ _ z=>z.mono (Tp.of_same d),d _ _ w,Z.imp λ_ _ z=>z.mono (Tp.of_same d),p1,a,R.wide,R.row i D,λt H4 G s4=>⟨_,rfl,jU (λe=>?_) (λe=>?_)⟩⟩⟩
  ·have e:t=false:=by simpa using e
   exact⟨_,rfl,q (some i) H4 (.inr ⟨r,D,(λz=>by rw[G.mpr z] at e;cases e),λj o z=>z (all j o)⟩) (d.trans s4)⟩
  ·refine g.mpr ⟨_,rfl,λj o=>?_,d.trans s4⟩;by_cases c:j=i
   ·rw[c];exact G.mp (by simpa using e)
   ·exact all j (by lia)
 ·rintro m X L;obtain⟨P,rfl,all,d⟩:=g.mp L;rw[c8,C.len] at all;exact q none X (.inr ⟨r,λj o z=>z (all j o)⟩) d
def C5(zs:List Int):(zs.map V.int).all iT=true:=by
 rw[List.all_map,gd];intro _ _;rfl
def Ki(zs:List Int)(i:Nat):ph (zs.map V.int) (some ((0:Int)+(i:Int))) (some ((0:Int)+(i:Int)+1))=(zs[i]?).toList.map V.int:=by
 have a:(0:Int)+(i:Int)=((i:Nat):Int):=by lia
 have b:((i:Nat):Int)+1=((i+1:Nat):Int):=by lia
 unfold ph;rw[a,b,HT.sIx_nat,HT.sIx_nat,cT,<-kA,<-gv];congr 1;by_cases c:i<zs.length
 ·rw[nQ (by lia),nQ (by lia),jj,cP c,List.drop_eq_getElem_cons c];rfl
 ·rw[qr (by lia),qr (by lia),iv,fI (by lia)];rfl
def NL(a b:Option Int):lM (a.toList.map V.int) (b.toList.map V.int)=true↔a=b:=by
 cases a<;>cases b<;>simp[lM,qx]
def Jp{K:Fg}{vs:List V}{H:Hp}{Q:VK}{E:XK}(h:sS K vs H Q E):Bd K {nx:=λ_ H'=>Q .non H',rt:=Q} (fQ q9 vs) H:=by
 obtain⟨O,P,aa,Y,f,cps,rfl,I,hP,J,hC,few,af,q⟩:=h;have bl:=hP.len;have cl:=hC.len;refine .inr ⟨_,rfl,O,rfl,⟨_,fA.of I⟩,λD nD=>?_⟩;refine jd (xs:=aa) (λi d H'=>∃o,d=[XU O,XU P,none,none,none,o]/\H' D=some (.lst (((f.take i).map λb=>((b.params.length:Nat):Int)).map V.int))/\du H H') ⟨none,rfl,cW,(du.refl H).new nD⟩ ?_ ?_ ?_
 ·rintro i d H' _ ⟨_,_,_,s⟩;exact fA.of (s _ _ I)
 ·rintro i x d U hx ⟨o,rfl,M,s⟩;obtain⟨b,B,p,qa,ra,ab,rfl,v,Z,_,_⟩:=hP.of_v hx;have il:=(cR.mp B).1;refine ib ⟨_,rfl,Zt (s _ _ v) rfl ⟨_,_,rfl,.inr ⟨_,fA.of (s _ _ Z),rfl⟩,_,M,fE (by rw[cT,cT,dB];lia),_,rfl,?_,mq s nD⟩⟩;rw[cW,hY B,dt,dt,cT];rfl
 ·rintro d U ⟨o,_,M,R⟩;rw[bl,fV] at M;refine .inr ⟨_,rfl,P,rfl,⟨_,fA.of (R _ _ J)⟩,λL nE=>?_⟩;refine jd (xs:=Y) (λi d H'=>∃o,d=[XU O,XU P,XU D,none,none,o]/\H' L=some (.lst (((cps.take i).map (·.1)).map V.int))/\du U H') ⟨none,rfl,cW,(du.refl U).new nE⟩ ?_ ?_ ?_
  ·rintro i d H' _ ⟨_,_,_,s⟩;exact fA.of (s _ _ (R _ _ J))
  ·rintro i x d H2 hx ⟨o,rfl,w,s⟩;obtain⟨b,B,p,ra,ab,rfl,v,_,_⟩:=hC.of_v hx;have il:=(cR.mp B).1;refine ib ⟨_,rfl,Zt (s _ _ (R _ _ v)) rfl ⟨_,w,fE (by rw[cT,cT,dB];lia),_,rfl,?_,mq s nE⟩⟩;rw[cW,hY B,dt,dt];rfl
  ·rintro d H2 ⟨o,_,w,s2⟩;rw[cl,fV] at w;have u:=s2 _ _ M;have ae:=R.trans s2;have T:∀k:Nat,Kc f cps k↔(f.map λb=>((b.params.length:Nat):Int))[k]?≠(cps.map (·.1))[k]?:=λk=>by unfold Kc;rw[dw,dw]
   have l1:(f.map λb=>((b.params.length:Nat):Int)).length=f.length:=cT _;have l2:(cps.map (·.1)).length=cps.length:=cT _;generalize (f.map λb=>((b.params.length:Nat):Int))=r at u T l1;generalize (cps.map (·.1))=m at w T l2;have mx:(if(((m.map V.int).length:Nat):Int)>(((r.map V.int).length:Nat):Int) then(((m.map V.int).length:Nat):Int) else(((r.map V.int).length:Nat):Int))=((max f.length cps.length:Nat):Int):=by
    rw[cT,cT,l1,l2];split<;>lia
   refine⟨_,rfl,_,_,rfl,.inl ⟨_,fR.of u,rfl⟩,_,rfl,_,_,rfl,.inl ⟨_,fR.of w,rfl⟩,_,_,rfl,?_⟩;rw[mx];obtain⟨X,g⟩:=BV λi d H'=>∃o4,d=[XU O,XU P,XU D,XU L,o4]/\H' D=some (.lst (r.map V.int))/\H' L=some (.lst (m.map V.int))/\(∀j,j<i->¬Kc f cps j)/\du H H';refine⟨_,rfl,by lia,by lia,jO (n:=((max f.length cps.length:Nat):Int).toNat) X (g.mpr ⟨none,rfl,u,w,(λj hj=>absurd hj (fN j)),ae⟩) ?_ ?_⟩
   ·rintro i d t hi v;obtain⟨o4,rfl,C,G,all,S⟩:=g.mp v;rw[c8] at hi;refine⟨_,rfl,_,rfl,_,rfl,_,rfl,.inl ⟨_,_,rfl,rfl,_,rfl,.inl ⟨D,_,rfl,fR.of C,λa na=>?_⟩⟩⟩;rw[Ki];have s4:du t (upd t a (.lst (r[i]?.toList.map V.int))):=(du.refl t).new na;have ha:upd t a (.lst (r[i]?.toList.map V.int)) a=some (.lst (r[i]?.toList.map V.int)):=cW;generalize upd t a (.lst (r[i]?.toList.map V.int))=y at s4 ha ⊢;refine⟨_,rfl,_,rfl,_,rfl,_,rfl,.inl ⟨_,_,rfl,rfl,_,rfl,.inl ⟨L,_,rfl,fR.of (s4 _ _ G),λc nc=>?_⟩⟩⟩;rw[Ki];have s5:du y (upd y c (.lst (m[i]?.toList.map V.int))):=(du.refl y).new nc;have hc:upd y c (.lst (m[i]?.toList.map V.int)) c=some (.lst (m[i]?.toList.map V.int)):=cW;generalize upd y c (.lst (m[i]?.toList.map V.int))=H5 at s5 hc ⊢;refine .inr (.inr ⟨a,c,_,_,rfl,rfl,fR.of (s5 _ _ ha),fR.of hc,C5 _,C5 _,_,rfl,?_⟩);have l:=s4.trans s5;have eo:=NL r[i]? m[i]?;rw[if_pos rfl];refine jU (λe=>?_) (λe=>?_)
    ·have e0:(0:Int)+(i:Int)=((i:Nat):Int):=by lia
     have e:lM (r[i]?.toList.map V.int) (m[i]?.toList.map V.int)=false:=by simpa using e
     rw[e0];exact⟨_,rfl,q (some i) H5 ⟨hi,(T i).mpr (λz=>by rw[eo.mpr z] at e;cases e),all⟩ (S.trans l)⟩
    ·refine g.mpr ⟨_,rfl,l _ _ C,l _ _ G,λj hj=>?_,S.trans l⟩;by_cases c:j=i
     ·rw[c,T];exact λz=>z (eo.mp (by simpa using e))
     ·exact all j (by lia)
   ·rintro d t v;obtain⟨o4,rfl,_,_,all,S⟩:=g.mp v;exact q none t (by rw[c8] at all;exact all) S
def Kx{bs:List gQ}{a:List jb}(h:vk (Kc bs a) (max bs.length a.length) none):a.length=bs.length:=by
 have d:∀k:Nat,(bs[k]?).map (λb=>((b.params.length:Nat):Int))=(a[k]?).map (·.1):=λk=>by
  by_cases c:k<max bs.length a.length
  ·exact Classical.not_not.mp (h k c)
  ·rw[fI (by lia),fI (by lia)];rfl
 rcases me a.length bs.length with z|z|z
 ·have:=d a.length;rw[cP z,fI (dk _)] at this;cases this
 ·exact z
 ·have:=d bs.length;rw[cP z,fI (dk _)] at this;cases this
def Mg{K:Fg}{vs:List V}{H:Hp}{Q:VK}{E:XK}(h:rH K vs H Q E):Dz K {nx:=λ_ H'=>Q .non H',rt:=Q} (fQ CS vs) H:=by
 obtain⟨places,bs,cps,ah,⟨pg,pp,cv,P,aq,rfl,p,hP,w,⟨ca,cq,Z,rfl,D,I,hC⟩,⟨l,y⟩,af,hQ,⟨p1,r⟩,R⟩,q⟩:=h;have ao:=w.1;refine⟨_,rfl,Zt D rfl ?_⟩;refine⟨_,rfl,Zt D rfl ?_⟩;refine⟨_,rfl,_,rfl,pg,cq,P,Z,bs,cps,rfl,p,hP,I,hC,by lia,l,λo H1 U s1=>?_⟩;cases o with
 |some k=>
  refine⟨_,rfl,rfl,_,rfl,sH ⟨_,rfl,Zw,λt O=>?_⟩⟩;exact q (some (k,0)) _ _ (.inl ⟨k,U,rfl⟩) ⟨t,rfl,cW⟩ (s1.new O)
 |none=>
 have l1:=Kx U;obtain⟨l2,sh⟩:=R l1;refine⟨_,rfl,rfl,_,rfl,lT ?_⟩;obtain⟨X,d⟩:=BV λi f H'=>∃o5 o6 o7,f=[XU pg,XU ca,XU pp,XW places,XU cq,o5,o6,o7]/\(∀(j:Nat) b c g,j<i->bs[j]?=some b->cps[j]?=some c->ah[j]?=some g->uf places b c.2 g none)/\du H H';refine⟨_,rfl,pg,rfl,⟨_,fA.of (s1 _ _ p)⟩,LD (xs:=P) X (d.mpr ⟨_,none,none,rfl,(λj _ _ _ hj=>absurd hj (fN j)),s1⟩) ?_ ?_ ?_⟩
 ·rintro i f H' _ L;obtain⟨_,_,_,_,_,s⟩:=d.mp L;exact fA.of (s _ _ p)
 ·rintro i x f u t hx O L;obtain⟨o5,o6,o7,rfl,all,s2⟩:=d.mp L;obtain⟨b,C,hb⟩:=hP.of_v hx;have il:=(cR.mp C).1;obtain⟨cv,c,aa,S,ak,Y,B,rfl,G,J,ab⟩:=hC.get (i:=i) (by lia);obtain⟨qv,g,eqv,n,ai,aj,rfl,M,ae⟩:=hQ.get (i:=i) (by lia);obtain⟨g1,g2,g3⟩:=w.2 b (dg C);refine⟨t,_,rfl,fA.of cW,rfl,_,_,rfl,_,_,rfl,rfl,?_⟩;have s3:du u (upd u t (.tup [.int (i:Nat),x])):=(du.refl u).new O;generalize upd u t (.tup [.int (i:Nat),x])=H3 at s3 ⊢;have a:=s2.trans s3;have T:=Tp.of_same a;refine⟨_,rfl,_,rfl,_,rfl,_,rfl,eP (a _ _ I) (dz _) (by rw[c8];exact aa) (Zt (a _ _ G) rfl ⟨_,rfl,_,rfl,eP (a _ _ af) (dz _) (by rw[c8];exact eqv) ⟨x,Y,ai,places,B,aj,b,c.2,g,rfl,hb.mono T,g1,g2,g3,a _ _ J,ab.imp λ_ _ z=>z.mono T,y c (dg S),a _ _ M,ae.imp λ_ _ z=>z.mono T,p1,r,sh i b c g C S n,λo H4 hw s4=>?_⟩⟩)⟩;cases o with
  |some m=>
   refine⟨_,rfl,rfl,_,rfl,sH ⟨_,rfl,_,rfl,Zw,λt O=>?_⟩⟩;exact q (some (i,m)) _ _ (.inr ⟨U,.inr ⟨i,m,rfl,⟨b,c,g,C,S,n,hw⟩,all⟩⟩) ⟨t,rfl,cW⟩ ((a.trans s4).new O)
  |none=>
   refine⟨_,rfl,rfl,_,rfl,lT (d.mpr ⟨_,_,_,rfl,λj b' c' ag hj v h2 h3=>?_,a.trans s4⟩)⟩;by_cases e:j=i
   ·subst e;rw[C] at v;cases v;rw[S] at h2;cases h2;rw[n] at h3;cases h3;exact hw
   ·exact all j b' c' ag (by lia) v h2 h3
 ·rintro f u L;obtain⟨o5,o6,o7,rfl,all,s2⟩:=d.mp L;exact q none _ u (.inr ⟨U,.inl ⟨rfl,λj b c g v=>all j b c g (by rw[hP.len];exact(cR.mp v).1) v⟩⟩) rfl s2
def NO(c:Nat):(dm c [V.str ""]).flatten=(dm c ("":Str)).map V.str:=by
 induction c with
 |zero=>rfl
 |succ c a=>rw[gM,jQ,a,gM,gu];rfl
theorem KO:∀i:Nat,i<5->∃c,("+-*<=":Str).cps.toList[i]?=some c/\(⟨#[c]⟩:Str)∈KP
 |0,_=>⟨43,by decide +kernel,by decide +kernel⟩
 |1,_=>⟨45,by decide +kernel,by decide +kernel⟩
 |2,_=>⟨42,by decide +kernel,by decide +kernel⟩
 |3,_=>⟨60,by decide +kernel,by decide +kernel⟩
 |4,_=>⟨61,by decide +kernel,by decide +kernel⟩
 |n+5,h=>by lia
def Mi{K:Fg}{vs:List V}{H:Hp}{Q:VK}{E:XK}(h:uZ K vs H Q E):DB K {nx:=λ_ H'=>Q .non H',rt:=Q} (fQ CT vs) H:=by
 obtain⟨b,k,rfl,S,hk,q⟩:=h;have a:(2:Int) ^ iA 31=2147483648:=by decide
 have m:(2:Int) ^ iA 33=8589934592:=by decide
 have n:(2:Int) ^ iA 64=18446744073709551616:=by decide
 have r:(2:Int) ^ 64=18446744073709551616:=by decide
 refine⟨_,_,rfl,rfl,⟨by decide,by decide,by decide⟩,_,_,rfl,rfl,_,rfl,b,3,k,rfl,S,by lia,by decide,by decide,λi T a0 a1 S2 B2=>?_⟩;refine⟨_,_,rfl,rfl,_,rfl,b,12,k+1,rfl,S2,by lia,by decide,by decide,λj C b0 b1 U B3=>?_⟩;refine⟨Zy,λl v=>?_⟩;have f:l≠b:=λz=>by obtain⟨ys,e⟩:=U.lst;rw[z,e] at v;cases v
 have hl:upd C l (.lst [.int 0,.int 1,.int ((2:Int) ^ iA 64-1-i),.int j]) l=some (.lst [.int 0,.int 1,.int ((2:Int) ^ iA 64-1-i),.int j]):=cW;have X:=U.new (o:=.lst [.int 0,.int 1,.int ((2:Int) ^ iA 64-1-i),.int j]) v;have L:iO b H (upd C l (.lst [.int 0,.int 1,.int ((2:Int) ^ iA 64-1-i),.int j])):=(B2.trans B3).new v;generalize upd C l (.lst [.int 0,.int 1,.int ((2:Int) ^ iA 64-1-i),.int j])=H4 at hl X L;refine⟨_,rfl,_,_,rfl,rfl,⟨by decide,by decide,by decide⟩,b,_,k+1+1,rfl,X,by lia,by rw[a];decide,by rw[a];decide,λs H5 c0 c1 S5 M=>?_⟩;rw[a] at c1;refine⟨_,_,rfl,rfl,⟨by decide,by decide,by decide⟩,.inl ⟨_,_,rfl,rfl,.inl ⟨by lia,by lia⟩,?_⟩⟩;refine⟨_,rfl,_,_,rfl,rfl,⟨by decide,by decide,by decide⟩,b,_,k+1+1+1,rfl,S5,by lia,by rw[a];decide,by rw[a];decide,λt H6 g0 g1 S6 O=>.inl ⟨_,_,rfl,rfl,?_⟩⟩;rw[a] at g1;have I:=O _ _ f (M _ _ f hl);have w0:0<=s*(2:Int) ^ iA 33+t:=by rw[m];lia
 have w1:s*(2:Int) ^ iA 33+t<2 ^ 64:=by rw[m,r];lia
 show yi K _ [XU b,XU l,some (.int (s*(2:Int) ^ iA 33+t))] H6;generalize s*(2:Int) ^ iA 33+t=x at w0 w1;refine⟨_,rfl,_,rfl,_,rfl,b,4,k+1+1+1+1,rfl,S6,by lia,by decide,by decide,λu D i0 i1 Y P=>?_⟩;have d:=P _ _ f I;have B:iO b H D:=((L.trans M).trans O).trans P;have c:∀z:Int,0<=z->z<2 ^ 64->[V.int x,.int z].length<=c6/\∀p,D p=none->(dR (eN K) [] E0 (cQ (cU 0) (cQ Zc dh))) [XU b,XU l,XX x] (upd D p (.lst [V.int x,.int z])) λy T=>eJ K (.ref p) y T Q:=λz z0 z1=>
  ⟨Zw,λp w=>⟨_,rfl,b,2,k+1+1+1+1+1,rfl,Y.new w,by lia,by decide,by decide,λd8 G j0 j1 Z R=>by
   have J:p≠b:=λz=>by obtain⟨ys,e⟩:=Y.lst;rw[z,e] at w;cases w
   have h8:=R _ _ J cW;have g:iO b H G:=(B.new w).trans R;rcases(by lia:d8=0\/d8=1) with rfl|rfl
   ·exact nI (fR.of h8) (by decide) rfl (q x _ G w0 w1 Z (by lia) g)
   ·exact nI (fR.of h8) (by decide) rfl (q z _ G z0 z1 Z (by lia) g)⟩⟩
 rcases(by lia:u=0\/u=1\/u=2\/u=3) with rfl|rfl|rfl|rfl
 ·exact nI (fR.of d) (by decide) rfl (c _ (by decide) (by decide))
 ·exact nI (fR.of d) (by decide) rfl (c _ (by decide) (by decide))
 ·exact nI (fR.of d) (by decide) rfl (c _ (by rw[n];lia) (by rw[n,r];lia))
 ·exact nI (fR.of d) (by decide) rfl (c _ (by lia) (by lia))
def Cq{K:Fg}{vs:List V}{H:Hp}{Q:VK}{E:XK}(h:rK K vs H Q E):uD K {nx:=λ_ H'=>Q .non H',rt:=Q} (fQ ud vs) H:=by
 obtain⟨t,nm,cn,n,k,O,B,rfl,S,hk,I,P,aw,n1,n2,ae,G,ao,ab,nnm,M,q⟩:=h;have yl:0<O.length:=eL.mpr P;have cl:0<B.length:=eL.mpr G;refine⟨_,rfl,_,rfl,_,rfl,_,_,rfl,.inl ⟨_,fR.of I,rfl⟩,t,_,k,rfl,S,by lia,by rw[cT];lia,by rw[cT];lia,λd H1 d0 d1 S1 B1=>?_⟩;rw[cT] at d1;have dl:d.toNat<O.length:=by lia
 refine nI (fR.of (B1 nm _ nnm I)) d0 (GX (cP dl)) ?_;have J:O[d.toNat]∈O:=gg dl;generalize O[d.toNat]=x at J ⊢;refine⟨_,rfl,t,12,k+1,rfl,S1,by lia,by decide,by decide,λs H2 s0 s1 y aa=>?_⟩;have u:iO t H H2:=B1.trans aa;have i:=u cn _ M ae;refine⟨_,rfl,_,_,rfl,rfl,_,rfl,fM (λ_=>?_) (λar=>?_)⟩
 ·refine⟨_,rfl,_,rfl,t,k+2,rfl,y,by lia,λz k3 R z0 z1 g l3 f=>⟨Zx,λp a=>?_⟩⟩;exact q _ (.num x z) _ _ ⟨p,rfl,cW⟩ ⟨J,z0,z1⟩ (g.new a) (by lia) ((u.trans f).new a)
 refine⟨_,rfl,_,_,rfl,rfl,_,rfl,fM (λ_=>?_) (λau=>?_)⟩
 ·refine⟨_,rfl,_,rfl,t,5,k+2,rfl,y,by lia,by decide,by decide,λe R U X g f=>?_⟩;obtain⟨c,c1,c2⟩:=KO e.toNat (by lia);refine WN (by decide +kernel) U c1 ⟨(by show 5<=c6;decide),λp a=>?_⟩;exact q _ (.op x ⟨#[c]⟩ "" "") _ _ ⟨p,rfl,cW⟩ ⟨J,c2,rfl,rfl⟩ (g.new a) (by lia) ((u.trans f).new a)
 refine⟨_,rfl,.inl ⟨rfl,_,rfl,fM (λ_=>?_) (λ_=>?_)⟩⟩
 ·refine⟨_,rfl,_,rfl,_,_,rfl,.inl ⟨_,fR.of i,rfl⟩,t,_,k+2,rfl,y,by lia,by rw[hW];lia,by rw[hW];lia,λe R U X g f=>?_⟩;rw[hW] at X;obtain⟨j,rfl⟩:∃j:Nat,e=(j:Int):=⟨e.toNat,by lia⟩;have jl:j<B.length:=by lia
  have m:=f cn _ M i;have T:B[j]?=some B[j]:=cP jl;have c4:B[j]<=4:=ab _ (gg jl);generalize B[j]=c at T c4;refine⟨_,rfl,_,rfl,Zv,λZ w=>?_⟩;have aj:cn≠Z:=de m w;refine⟨_,rfl,_,rfl,nI (fR.of (by rw[dC aj];exact m)) (by lia) (v:=.int (c:Nat)) (by simpa using LG T) ?_⟩;have D:=g.new (o:=.tup [V.str ""]) w;have C:=(u.trans f).new (o:=.tup [V.str ""]) w;have c5:1*c<=c6:=fq (by lia) (show 100<=c6 by decide);refine .inr ⟨Z,c,[V.str ""],rfl,rfl,fA.of cW,by simp,c5,λh1=>⟨Zy,λp a=>?_⟩,λaq r b=>⟨Zy,λp a=>?_⟩⟩
  ·have ag:Z≠p:=de cW a;subst h1;refine q _ (.call x j [""]) _ _ ⟨p,Z,rfl,cW,by rw[dC ag,cW];rfl⟩ ⟨J,1,T,rfl⟩ (D.new a) (by lia) (C.new a)
  ·have ai:r≠p:=de cW a;refine q _ (.call x j (dm c "")) _ _ ⟨p,r,rfl,cW,by rw[dC ai,cW,NO]⟩ ⟨J,c,T,rfl⟩ ((D.new b).new a) (by lia) ((C.new b).new a)
 refine⟨_,rfl,_,_,rfl,rfl,_,rfl,fM (λ_=>?_) (λav=>?_)⟩
 ·exact⟨Zw,λp a=>q _ (.say "") _ _ ⟨p,rfl,cW⟩ rfl (y.new a) (by lia) (u.new a)⟩
 refine⟨_,rfl,_,_,rfl,rfl,_,rfl,fM (λ_=>?_) (λak=>?_)⟩
 ·refine⟨_,rfl,_,rfl,t,_,k+2,rfl,y,by lia,by lia,by lia,λe R U X g f=>⟨Zx,λp a=>?_⟩⟩;obtain⟨j,rfl⟩:∃j:Nat,e=(j:Int):=⟨e.toNat,by lia⟩;exact q _ (.test "" j) _ _ ⟨p,rfl,cW⟩ ⟨rfl,by lia⟩ (g.new a) (by lia) ((u.trans f).new a)
 refine⟨_,rfl,_,rfl,t,_,k+2,rfl,y,by lia,by lia,by lia,λe R U X g f=>⟨Zw,λp a=>?_⟩⟩;obtain⟨j,rfl⟩:∃j:Nat,e=(j:Int):=⟨e.toNat,by lia⟩;refine⟨Zw,λr b=>⟨Zw,λl Y=>?_⟩⟩;have L:p≠r:=de cW b;have ah:r≠l:=de cW Y;have af:p≠l:=de (by rw[dC L];exact cW) Y;have D:=((g.new (o:=.tup [V.str "jump",V.int (j:Nat)]) a).new (o:=.tup [V.str "give",V.str ""]) b).new (o:=.lst [V.ref p,V.ref r]) Y;have C:=(((u.trans f).new (o:=.tup [V.str "jump",V.int (j:Nat)]) a).new (o:=.tup [V.str "give",V.str ""]) b).new (o:=.lst [V.ref p,V.ref r]) Y;refine⟨_,rfl,_,_,rfl,rfl,?_⟩;rcases(by lia:s=10\/s=11) with rfl|rfl
 ·exact nI (fR.of cW) (by decide) rfl (q _ (.jump j) _ _ ⟨p,rfl,by rw[dC af,dC L,cW]⟩ (by show j<n;lia) D (by lia) C)
 ·exact nI (fR.of cW) (by decide) rfl (q _ (.give "") _ _ ⟨r,rfl,by rw[dC ah,cW]⟩ rfl D (by lia) C)
def Kw{H:Hp}{p:c7}{r:ed}(n:Nat)(h:gR H (.ref p) r):∃xs,H p=some (.tup (.str (gG r)::xs))/\Ew (gG r) xs (n:Nat) ((fK n r).map λm=>((m:Nat):Int)):=by
 have c:∀{a b:Str},a≠b->∀{P:Prop},a=b->P:=λh _ e=>absurd e h;have f:(((n+1:Nat):Nat):Int)=(n:Int)+1:=by lia
 cases r with
 |call x k i=>obtain⟨d,q,e,h,_⟩:=h;cases e;exact⟨_,h,c (by simp only[gG];decide +kernel),c (by simp only[gG];decide +kernel),c (by simp only[gG];decide +kernel),λ_ _ _=>by show[(((n+1:Nat):Nat):Int)]=_;rw[f]⟩
 |jump g=>obtain⟨d,e,h⟩:=h;cases e;exact⟨_,h,c (by simp only[gG];decide +kernel),λ_=>⟨_,rfl,rfl⟩,c (by simp only[gG];decide +kernel),λ_ z=>absurd rfl z⟩
 |test a g=>obtain⟨d,e,h⟩:=h;cases e;exact⟨_,h,c (by simp only[gG];decide +kernel),c (by simp only[gG];decide +kernel),λ_=>⟨_,rfl,by show[(((n+1:Nat):Nat):Int),_]=_;rw[f]⟩,λ_ _ z=>absurd rfl z⟩
 |give a=>obtain⟨d,e,h⟩:=h;cases e;exact⟨_,h,λ_=>rfl,c (by simp only[gG];decide +kernel),c (by simp only[gG];decide +kernel),λz=>absurd rfl z⟩
 |_=>obtain⟨d,e,h⟩:=h;cases e;exact⟨_,h,c (by simp only[gG];decide +kernel),c (by simp only[gG];decide +kernel),c (by simp only[gG];decide +kernel),λ_ _ _=>by show[(((n+1:Nat):Nat):Int)]=_;rw[f]⟩
def Jm{K:Fg}{vs:List V}{H:Hp}{Q:VK}{E:XK}(h:rG K vs H Q E):tS K {nx:=λ_ H'=>Q .non H',rt:=Q} (fQ tI vs) H:=by
 obtain⟨rt,n,b,v,r,rfl,a,f,c,q⟩:=h;obtain⟨p,j,rfl,_⟩:=c.ref;obtain⟨i,d,g⟩:=Kw n c;refine xn (E:=E) ⟨rt,p,n,b,i,gG r,_,rfl,.inr a,f,d,g,λt H' e s=>q t H' ?_ s⟩;rw[e];unfold eU;rw[gZ];rfl
def Me{K:Fg}{vs:List V}{H:Hp}{Q:VK}{E:XK}(h:xy K vs H Q E):wq K {nx:=λ_ H'=>Q .non H',rt:=Q} (fQ vn vs) H:=by
 obtain⟨v,r,rfl,d,q⟩:=h;have c:∀{a b:Str},a≠b->∀{P:Prop},a=b->P:=λh _ e=>absurd e h;refine Ar (E:=E) ?_;cases r with
 |call x k i=>obtain⟨f,j,e,h,_⟩:=d;cases e;exact⟨_,_,_,rfl,h,c (by decide +kernel),c (by decide +kernel),λ_ _=>q⟩
 |jump g=>obtain⟨f,e,h⟩:=d;cases e;exact⟨_,_,_,rfl,h,λ_=>⟨_,rfl,q⟩,c (by decide +kernel),λz=>absurd rfl z⟩
 |test a g=>obtain⟨f,e,h⟩:=d;cases e;exact⟨_,_,_,rfl,h,c (by decide +kernel),λ_=>⟨_,rfl,q⟩,λ_ z=>absurd rfl z⟩
 |_=>obtain⟨f,e,h⟩:=d;cases e;exact⟨_,_,_,rfl,h,c (by decide +kernel),c (by decide +kernel),λ_ _=>q⟩
structure KZ(kl:c7)(H:Hp)(ys ps:List Str)(n:Nat)(H':Hp)(refs:List V)(kss:List (List Str)):Prop where
 at_:H' kl=some (.lst refs)
 all:dZ (Lm kl H') refs kss
 len:kss.length=n
 wit:∀(i:Nat) ks,kss[i]?=some ks->ks.length<=max ys.length ps.length/\∀y∈ks,y∈ys\/y∈ps
 same:du H H'
section
variable{kl:c7}{H H' H2:Hp}{ys ps:List Str}{n:Nat}{refs:List V}{kss:List (List Str)}
def KZ.grown(k:KZ kl H ys ps n H' refs kss)(s:du H' H2):KZ kl H ys ps n H2 refs kss:=
 ⟨s _ _ k.at_,k.all.imp λ_ _ z=>z.same s,k.len,k.wit,k.same.trans s⟩
def KZ.vlen(k:KZ kl H ys ps n H' refs kss):refs.length=n:=k.all.len.trans k.len
def KZ.get(k:KZ kl H ys ps n H' refs kss){j:Nat}(e:j<n):∃a ks,refs[j]?=some (.ref a)/\kss[j]?=some ks/\a≠kl/\H' a=some (.lst (ks.map V.str)):=by
 obtain⟨v,ks,b,c,a,rfl,f,d⟩:=k.all.get (i:=j) (by rw[k.len];exact e);exact⟨a,ks,b,c,f,d⟩
def KZ.set{a:c7}{m:Nat}{kp:List Str}(k:KZ kl H ys ps n H' refs kss)(d:H kl=none)(f:a≠kl)(g:H' a=some (.lst (kp.map V.str)))
  (l:kp.length<=max ys.length ps.length/\∀y∈kp,y∈ys\/y∈ps):KZ kl H ys ps n (upd H' kl (.lst (refs.set m (.ref a)))) (refs.set m (.ref a)) (kss.set m kp):=by
 refine⟨cW,dZ.set (k.all.imp λ_ _ z=>z.upd) ⟨a,rfl,f,by rw[dC f];exact g⟩,by rw[eX];exact k.len,λi p e=>?_,λb o h=>?_⟩
 ·by_cases c:m=i
  ·subst c;have j:m<kss.length:=by have:=(cR.mp e).1;rw[eX] at this;exact this
   rw[d6 j] at e;cases e;exact l
  ·rw[eC c] at e;exact k.wit i p e
 ·rw[dC (de h d)];exact k.same _ _ h
end
def rR.set{ys ps:List Str}{rs:List ed}{kss:List (List Str)}{m:Nat}{km kp:List Str}(h:rR ys ps rs kss)(e:kss[m]?=some km)(o:∀a:List (List Str),a.length=rs.length->(∀(i:Nat) ks,a[i]?=some ks->∀y∈ks,y∈ys)->zu ps rs a->∀n,a[m]?=some n->∀y∈n,y∈km->y∈kp):rR ys ps rs (kss.set m kp):=by
 intro a j k l i ks b d f y g;by_cases c:m=i
 ·subst c;rw[d6 (cR.mp e).1] at d;cases d;exact o a j k l b f y g (h a j k l m km b e f y g)
 ·rw[eC c] at d;exact h a j k l i ks b d f y g
def SO(ys ps:List Str)(rs:List ed)(n:Nat)(r:ed)(d:List Str):Prop:=∀a:List (List Str),a.length=rs.length->(∀(i:Nat) c,a[i]?=some c->∀y∈c,y∈ys)->zu ps rs a->∀b,a[n]?=some b->∀y,y∈b\/kJ r=.str y->y∈d
def Vr(m nm l e:c7)(H:Hp)(ys ps:List Str)(rs:List ed)(B i:Nat):St->Hp->Prop:=λd f=>∃(c:List V) (a:List (List Str)) (b:Bool) (g h j k:Option V),d=[XU m,XU nm,XU l,XU e,some (.bl b),g,h,j,k]/\KZ e H ys ps rs.length f c a/\2*xD a+b.toNat<=B/\DY ps a/\rR ys ps rs a/\(b=false->zH rs i a)
def W0(t nm s h:c7)(H:Hp)(ys ps:List Str)(rs:List ed)(B i:Nat)(n l:c7)(o:List Str)(p:List Nat)(b:List (List Str))(j:Nat):St->Hp->Prop:=λf e=>∃(d:List V) (a:List (List Str)) (c:Bool) (q r:Option V),f=[XU t,XU nm,XU s,XU h,some (.bl c),XW i,XU n,q,r]/\KZ h H ys ps rs.length e d a/\2*xD a+c.toNat<=B/\e n=some (.lst (o.map V.str))/\e l=some (.tup (eU p))/\DY ps a/\rR ys ps rs a/\
 (c=false->a=b/\zH rs i b/\∀g,g<j->∀m k,p[g]?=some m->b[m]?=some k->∀y∈k,y∈o)
def Xe{K:Fg}{rl nm pr n p l:c7}{H H':Hp}{ys ps a:List Str}{rs:List ed}{r:ed}{b:List (List Str)}{B i d M:Nat}{f:List V}{kss:List (List Str)}{more:Bool}{o8:Option V}{rt:VK}{bk:St->Hp->Prop}
  (aa:H n=none) (ak:p≠n) (nl:l≠n) (hm:d<rs.length) (au:ys.length<=100) (ar:ps.length<=100) (T:rs[i]?=some r) (S:(fK i r)[M]?=some d) (ta:SO ys ps rs i r a) (hz:DY ps kss) (ht:rR ys ps rs kss) (hc:more=false->kss=b/\zH rs i b/\∀L,L<M->∀m km,(fK i r)[L]?=some m->b[m]?=some km->∀y∈km,y∈a) (k:KZ n H ys ps rs.length H' f kss) (hB:2*xD kss+more.toNat<=B) (G:H' p=some (.lst (a.map V.str))) (hl:H' l=some (.tup (eU (fK i r)))) :
  rZ K {nx:=W0 rl nm pr n H ys ps rs B i p l a (fK i r) b (M+1),rt:=rt,ct:=W0 rl nm pr n H ys ps rs B i p l a (fK i r) b (M+1),bk:=bk} [XU rl,XU nm,XU pr,XU n,some (.bl more),XW i,XU p,XW d,o8] H':=by
 obtain⟨Z,km,e1,Q,aq,h⟩:=k.get hm;obtain⟨k1,k2⟩:=k.wit d km Q;have ai:km.length<=100:=by lia
 have P:f[((d:Nat):Int).toNat]?=some (.ref Z):=by simpa using e1
 refine .inl ⟨_,rfl,_,rfl,nI (fR.of k.at_) (by lia) P ⟨Z,rfl,⟨_,fR.of h⟩,λD R=>?_⟩⟩;have nD:n≠D:=de k.at_ R;have X:Z≠D:=de h R;have u:p≠D:=de G R;have aj:l≠D:=de hl R;refine lg (xs:=km.map V.str) (λj q Y=>∃o,q=[XU rl,XU nm,XU pr,XU n,some (.bl more),XW i,XU p,XW d,o8,o]/\Y=upd H' D (.lst (((km.take j).filter λy=>decide (y∈a)).map V.str))) ?_ ?_ ?_ ?_
 ·exact⟨none,rfl,rfl⟩
 ·rintro j q Y _ ⟨o,_,rfl⟩;exact fR.of (by rw[dC X];exact h)
 ·rintro j x q Y U ⟨o,rfl,rfl⟩;rw[dw] at U;obtain⟨y,g,rfl⟩:∃y,km[j]?=some y/\V.str y=x:=by
   cases e:km[j]? with
   |none=>rw[e] at U;cases U
   |some y=>rw[e] at U;exact⟨y,rfl,Option.some.inj U⟩
  have jl:j<km.length:=(cR.mp g).1;have fl:((km.take j).filter λy=>decide (y∈a)).length<=100:=fq (iS _ _) (by rw[dB];lia);have ft:=x3 (λy=>decide (y∈a)) km j y g;refine⟨_,rfl,_,rfl,p,_,rfl,.inl (fR.of (by rw[dC u];exact G)),rfl,tL _,_,rfl,?_⟩;show if kM (.str y) (a.map V.str)=true then _ else _;rw[zU];refine fM (λw=>?_) (λw=>?_)
  ·refine⟨_,rfl,_,cW,fE (by rw[cT];lia),_,rfl,?_⟩;rw[Ft,ft,if_pos (by simpa using w),dt];rfl
  ·refine⟨_,rfl,?_⟩;rw[ft,if_neg (by simpa using w),fF]
 ·rintro q Y ⟨o,_,rfl⟩;have et:km.take (km.map V.str).length=km:=eK (by rw[cT];exact dk _);rw[et];have fl:(km.filter λy=>decide (y∈a)).length<=km.length:=iS _ _;have fm:∀y∈km.filter (λy=>decide (y∈a)),y∈ys\/y∈ps:=λy g=>k2 y (ir.mp g).1;have fi:∀y,y∈km->y∈a->y∈km.filter (λy=>decide (y∈a)):=λy h1 h2=>ir.mpr ⟨h1,by simpa using h2⟩;have fs:∀y∈km.filter (λy=>decide (y∈a)),y∈km:=λy g=>(ir.mp g).1;have fe:¬(km.filter (λy=>decide (y∈a))).length<km.length->∀y∈km,y∈a:=λhn y g=>by
   have:=List.length_filter_eq_length_iff.mp (Nat.le_antisymm (iS (λy=>decide (y∈a)) km) (Nat.not_lt.mp hn)) y g;simpa using this
  generalize km.filter (λy=>decide (y∈a))=kp at fl fm fi fs fe;have O:=k.grown ((du.refl H').new (o:=.lst (kp.map V.str)) R);have c:(upd H' D (.lst (kp.map V.str))) p=some (.lst (a.map V.str)):=by rw[dC u];exact G
  have E:(upd H' D (.lst (kp.map V.str))) l=some (.tup (eU (fK i r))):=by rw[dC aj];exact hl
  have s:(upd H' D (.lst (kp.map V.str))) Z=some (.lst (km.map V.str)):=by rw[dC X];exact h
  have v:(upd H' D (.lst (kp.map V.str))) D=some (.lst (kp.map V.str)):=cW;generalize upd H' D (.lst (kp.map V.str))=H3 at O c E s v;refine⟨_,rfl,_,_,rfl,.inl ⟨_,fR.of v,rfl⟩,_,rfl,_,rfl,nI (fR.of O.at_) (by lia) P ⟨_,_,rfl,.inl ⟨_,fR.of s,rfl⟩,_,_,rfl,rfl,_,rfl,fM (λI=>?_) (λI=>?_)⟩⟩
  ·rw[cT,cT] at I;refine⟨_,rfl,_,rfl,_,rfl,ES O.at_ (by lia) (by rw[O.vlen];simpa using hm) ?_⟩;have ei:((d:Nat):Int).toNat=d:=by simp
   rw[ei];have ss:=GY (kp:=kp) Q;have ae:rR ys ps rs (kss.set d kp):=ht.set Q λt l1 l2 l3 ag e' y g af=>by
    obtain⟨kn,en⟩:∃kn,t[i]?=some kn:=⟨_,cP (by rw[l1];exact(cR.mp T).1)⟩;exact fi y af (ta t l1 l2 l3 kn en y (l3.on i d r kn ag T (dg S) en e' y g))
   refine⟨_,kss.set d kp,true,_,_,rfl,O.set aa (Ne.symm nD) v ⟨by lia,fm⟩,?_,by rw[dC ak];exact c,by rw[dC nl];exact E,hz.set Q fs,ae,λz=>by cases z⟩;have:(true:Bool).toNat=1:=rfl;lia
  ·rw[cT,cT] at I;refine⟨f,kss,more,_,_,rfl,O,hB,c,E,hz,ht,λab=>?_⟩;obtain⟨c1,c2,c3⟩:=hc ab;refine⟨c1,c2,λL ao m ah J C=>?_⟩;by_cases cj:L<M
   ·exact c3 L cj m ah J C
   ·have:L=M:=by lia
    subst this;rw[S] at J;cases J;rw[<-c1,Q] at C;cases C;exact fe (by lia)
def FU.same{H H':Hp}{a:c7}{xs:List V}(h:FU H a xs)(s:du H H'):FU H' a xs:=h.imp (s _ _) (s _ _)
def FU.ne{H:Hp}{a p:c7}{xs:List V}(h:FU H a xs)(np:H p=none):a≠p:=by rcases h with h|h<;>exact de h np
def Xd{K:Fg}{q nm Z b:c7}{H H':Hp}{ys ps:List Str}{B i:Nat}{D:List V}{rs:List ed}{c:List V}{kss:List (List Str)}{more:Bool}{o6 o7 o8:Option V}{rt:VK}{bk:St->Hp->Prop}
  (ab:H b=none) (w:FU H q D) (hA:dZ (gR H) D rs) (aE:ys.length<=100) (aD:ps.length<=100) (ax:∀(n m:Nat) r,rs[n]?=some r->m∈fK n r->m<rs.length) (hi:i<rs.length) (k:KZ b H ys ps rs.length H' c kss) (hB:2*xD kss+more.toNat<=B) (hz:DY ps kss) (ht:rR ys ps rs kss) (hP:more=false->zH rs i kss) :
  r4 K {nx:=Vr q nm Z b H ys ps rs B (i+1),rt:=rt,ct:=Vr q nm Z b H ys ps rs B (i+1),bk:=bk} [XU q,XU nm,XU Z,XU b,some (.bl more),XW i,o6,o7,o8] H':=by
 obtain⟨a,C,e1,e2,na,ha⟩:=k.get hi;obtain⟨k1,k2⟩:=k.wit i C e2;have aF:C.length<=100:=by lia
 obtain⟨v,r,f1,f2,S⟩:=hA.get (i:=i) hi;obtain⟨p,xs,rfl,hp⟩:=S.ref;have ar:c[((i:Nat):Int).toNat]?=some (.ref a):=by simpa using e1
 have aa:D[((i:Nat):Int).toNat]?=some (.ref p):=by simpa using f1
 have aG:q≠b:=w.ne ab;have I:∀(la:c7) (ls:List Str) (H2:Hp),la≠b->(∀y∈ls,y∈C\/kJ r=.str y)->(∀y,y∈C\/kJ r=.str y->y∈ls)->KZ b H ys ps rs.length H2 c kss->H2 la=some (.lst (ls.map V.str))->
   r3 K {nx:=Vr q nm Z b H ys ps rs B (i+1),rt:=rt,ct:=Vr q nm Z b H ys ps rs B (i+1),bk:=bk} [XU q,XU nm,XU Z,XU b,some (.bl more),XW i,XU la,o7,o8] H2:=λla ls H2 az av ag k2 au=>by
  obtain⟨ao,O,lw⟩:=Kw i S;refine .inr ⟨_,rfl,_,rfl,q,p,i,D,ao,gG r,_,rfl,w.same k2.same,f1,k2.same _ _ O,lw,λl H3 hl s3=>?_⟩;have hl:H3 l=some (.tup (eU (fK i r))):=by rw[hl];unfold eU;rw[gZ];rfl
  have k3:=k2.grown s3;have nl:l≠b:=λz=>by rw[z,k3.at_] at hl;cases hl
  have ta:SO ys ps rs i r ls:=λak l1 l2 l3 Y e' y d=>ag y (d.imp (ht ak l1 l2 l3 i C Y e2 e' y) id);refine⟨l,rfl,⟨_,fA.of hl⟩,tM (xs:=eU (fK i r)) (λj=>W0 q nm Z b H ys ps rs B i la l ls (fK i r) kss j) ?_ ?_ ?_ ?_⟩
  ·exact⟨c,kss,more,_,_,rfl,k3,hB,s3 _ _ au,hl,hz,ht,λM=>⟨rfl,hP M,λj' u=>absurd u (fN _)⟩⟩
  ·rintro j aq H3 _ ⟨_,_,_,_,_,_,_,_,_,h3,_,_⟩;exact fA.of h3
  ·rintro j x aq H3 hx ⟨h,G,g,aB,aC,rfl,X,J,E,af,U,T,L⟩;obtain⟨mm,aj,rfl⟩:=qz hx;exact Xe ab az nl (ax i mm r f2 (dg aj)) aE aD f2 aj ta U T L X J E af
  ·rintro aq H3 ⟨h,G,g,aB,aC,rfl,X,J,E,af,U,T,L⟩;refine⟨h,G,g,_,_,_,_,rfl,X,J,U,T,λM=>?_⟩;obtain⟨c1,c2,c3⟩:=L M;subst c1;intro n m r' Y km hn R ah f ae y d;by_cases cn:n<i
   ·exact c2 n m r' Y km cn R ah f ae y d
   ·have:n=i:=by lia
    subst this;rw[f2] at R;cases R;rw[e2] at f;cases f;obtain⟨j',u,aw⟩:=eH.mp ah;have ai:(fK n r)[j']?=some m:=by rw[cP u,aw]
    exact av y (c3 j' (by rw[hW];exact u) m km ai ae y d)
 refine⟨_,rfl,_,rfl,nI (fR.of k.at_) (by lia) ar ?_⟩;refine⟨_,rfl,_,rfl,N5 (w.same k.same) (by lia) aa (Zt (k.same _ _ hp) rfl ⟨Zx,λt ht=>⟨t,_,rfl,.inr (fA.of cW),rfl,rfl,_,rfl,?_⟩⟩)⟩;have sm:=(du.refl H').new (o:=.tup [V.str "num",V.str "op",V.str "call"]) ht;have kt:=k.grown sm;have s:=sm _ _ ha;generalize upd H' t (.tup [V.str "num",V.str "op",V.str "call"])=H1 at sm kt s ⊢;refine jU (λhb=>?_) (λhb=>?_)
 ·have e:kM (.str (gG r)) [V.str "num",V.str "op",V.str "call"]=true:=hb;obtain⟨x,hx⟩:=Ks e;obtain⟨ao,O⟩:=KM S hx;refine⟨_,rfl,_,rfl,_,rfl,N5 (w.same kt.same) (by lia) aa (Zt (kt.same _ _ O) rfl ⟨Zv,λp1 P=>?_⟩)⟩;have ay:a≠p1:=de s P;refine .inr (.inr (.inl ⟨a,p1,_,_,rfl,rfl,by rw[dC ay];exact s,cW,?_,λp2 Q=>?_⟩))
  ·have:=fE (n:=101) (by decide);rw[cT];show C.length+1<=c6;lia
  have k5:=(kt.grown ((du.refl H1).new (o:=.lst [V.str x]) P)).grown ((du.refl _).new (o:=.lst (C.map V.str++[V.str x])) Q);have aA:p2≠b:=λz=>by
   have:=(kt.grown ((du.refl H1).new (o:=.lst [V.str x]) P)).at_;rw[z,this] at Q;cases Q
  refine I p2 (C++[x]) _ aA (λy d=>(d9.mp d).imp id λz=>by rw[dc.mp z];exact hx) (λy d=>d9.mpr (d.imp id λz=>?_)) k5 (by rw[cW,dt];rfl);rw[hx] at z;exact dc.mpr (by injection z with z;exact z.symm)
 ·refine I a C _ na (λy d=>.inl d) (λy d=>d.elim id λz=>?_) kt s;have e:kM (.str (gG r)) [V.str "num",V.str "op",V.str "call"]=false:=hb;cases r with
  |num _ _=>exact absurd e (by show ¬kM (.str "num") [V.str "num",V.str "op",V.str "call"]=false;decide +kernel)
  |op _ _ _ _=>exact absurd e (by show ¬kM (.str "op") [V.str "num",V.str "op",V.str "call"]=false;decide +kernel)
  |call _ _ _=>exact absurd e (by show ¬kM (.str "call") [V.str "num",V.str "op",V.str "call"]=false;decide +kernel)
  |_=>cases z
def ui{K:Fg}{vs:List V}{H:Hp}{Q:VK}{E:XK}(h:pH K vs H Q E):qk K {nx:=λ_ H'=>Q .non H',rt:=Q} (fQ lG vs) H:=by
 obtain⟨C,I,J,S,t,u,w,rfl,aa,hA,R,aj,inr,ar,az,au,aw,q⟩:=h;have U:∀(f:c7),H f=none->∀(D:Hp) (d:List V),D f=some (.lst d)->dZ (Lm f D) d (dm t.length u)->du H D->
   mY K {nx:=λ_ H'=>Q .non H',rt:=Q} [XU C,XU I,XU J,XU f,none,none,none,none,none] D:=by
  intro f k D d T L s;have Z:d.length=t.length:=by rw[L.len,d3]
  refine⟨_,rfl,J,_,rfl,(au.same s).imp (λh=>fR.of h) (λh=>fA.of h),λa G=>?_⟩;have O:f≠a:=de T G;have K0:KZ f H u w t.length D d (dm t.length u):=⟨T,L,by rw[d3],λi ks e=>by
   have X:=dg e;rw[oX] at X;rw[X.2];exact⟨Nat.le_max_left _ _,λy Y=>.inl Y⟩,s⟩
  have K1:=K0.grown ((du.refl D).new (o:=.lst (w.map V.str)) G);refine⟨_,rfl,ES K1.at_ (by decide) (by rw[Z];exact R) ?_⟩;have K2:=K1.set (m:=0) (kp:=w) (a:=a) k (Ne.symm O) cW ⟨Nat.le_max_right _ _,λy Y=>.inr Y⟩;show qQ K _ [XU C,XU I,XU J,XU f,none,none,none,none,none] (upd (upd D a (.lst (w.map V.str))) f (.lst (d.set 0 (.ref a))));generalize upd (upd D a (.lst (w.map V.str))) f (.lst (d.set 0 (.ref a)))=H2 at K2 ⊢;generalize d.set 0 (.ref a)=ae at K2;have Z2:DY w ((dm t.length u).set 0 w):=λks e y Y=>by
   rw[d6 (by rw[d3];exact R)] at e;cases e;exact Y
  have T2:rR u w t ((dm t.length u).set 0 w):=λaC l1 l2 l3 i ks ag e1 e2 y Y=>by
   by_cases c:0=i
   ·subst c;rw[d6 (by rw[d3];exact R)] at e1;cases e1;exact l3.zero ag e2 y Y
   ·rw[eC c] at e1;have X:=dg e1;rw[oX] at X;rw[X.2];exact l2 i ag e2 y Y
  generalize (dm t.length u).set 0 w=ah at K2 Z2 T2;show qP K _ [XU C,XU I,XU J,XU f,some (.bl true),none,none,none,none] H2;refine⟨λm g H'=>∃(d:List V) (M:List (List Str)) (p:Bool) (o5 o6 o7 o8:Option V),g=[XU C,XU I,XU J,XU f,some (.bl p),o5,o6,o7,o8]/\KZ f H u w t.length H' d M/\DY w M/\rR u w t M/\(p=false->zH t t.length M)/\2*xD M+p.toNat=m,⟨_,ae,ah,true,_,_,_,_,rfl,K2,Z2,T2,(λz=>by cases z),rfl⟩,?_⟩;rintro m g H' ⟨P,B,p,o5,o6,o7,o8,rfl,K3,Z3,T3,P3,X⟩;refine⟨_,rfl,p,rfl,jU (λv=>?_) (λv=>?_)⟩
  ·subst v;refine⟨Vr C I J f H u w t (2*xD B) t.length,?_,?_⟩
   ·rintro aE H4 ⟨af,ai,ab,p5,p6,p7,p8,rfl,K4,hB,Z4,T4,P4⟩;refine⟨_,?_,af,ai,ab,_,_,_,_,rfl,K4,Z4,T4,P4,rfl⟩;have:(true:Bool).toNat=1:=rfl;lia
   ·-- more=False;for n in range(len(rows))
    have aq:=aa.same K3.same;refine⟨_,rfl,_,_,rfl,aq.imp (λh=>⟨_,fR.of h,rfl⟩) (λh=>⟨_,fA.of h,rfl⟩),_,rfl,by lia,by rw[hA.len];lia,jO (λi=>Vr C I J f H u w t (2*xD B) i) ⟨P,B,false,_,_,_,_,rfl,K3,by simp,Z3,T3,λ_ n _ _ _ _ hn=>absurd hn (fN _)⟩ ?_ ?_⟩
    ·rintro i aB H5 hi ⟨ax,aD,av,p5,p6,p7,p8,rfl,K5,hB,Z5,T5,P5⟩;have hi:i<t.length:=by rw[hA.len] at hi;simpa using hi
     have e0:(0:Int)+(i:Int)=((i:Nat):Int):=by lia
     rw[e0];exact Xd k aa hA az aw inr hi K5 hB Z5 T5 P5
    ·rintro aB H5 h5;rw[hA.len,c8] at h5;exact h5
  ·exact⟨_,rfl,q f P B H' k K3.at_ (K3.all.imp λ_ _ ⟨a,e,_,h⟩=>⟨a,e,h⟩) K3.len K3.wit ⟨Z3,λn m r ks km hr X ao ak=>P3 v n m r ks km (cR.mp hr).1 hr X ao ak⟩ T3 K3.same⟩
 have stp:∀(f:c7),H f=none->∀(j:Nat) (x:V) (g:St) (H':Hp),S[j]?=some x->(∃(d:List V) (o:Option V),g=[XU C,XU I,XU J,none,none,none,none,none,none,o]/\H' f=some (.lst d)/\dZ (Lm f H') d (dm j u)/\du H H')->
   dy 9 x g H' λaA H2=>vP f kX (iN (vM K) (cQ (cU 1) dh)) {nx:=λg H'=>∃(d:List V) (o:Option V),g=[XU C,XU I,XU J,none,none,none,none,none,none,o]/\H' f=some (.lst d)/\dZ (Lm f H') d (dm (j+1) u)/\du H H',rt:=λ_ _=>False,ct:=λg H'=>∃(d:List V) (o:Option V),g=[XU C,XU I,XU J,none,none,none,none,none,none,o]/\H' f=some (.lst d)/\dZ (Lm f H') d (dm (j+1) u)/\du H H',bk:=λ_ H'=>mY K {nx:=λ_ H'=>Q .non H',rt:=Q} [XU C,XU I,XU J,XU f,none,none,none,none,none] H'} aA H2:=by
  rintro f k j x g H' hx ⟨d,o,rfl,T,L,s⟩;refine ib ?_;have jl:j<S.length:=(cR.mp hx).1;have ay:S.length<=100:=by rw[hA.len];exact aj
  have Z:d.length=j:=by rw[L.len,d3]
  refine⟨_,rfl,I,_,rfl,.inl (fR.of (s _ _ ar)),λa G=>?_⟩;have O:f≠a:=de T G;refine⟨d,by rw[dC O];exact T,fE (by lia),d++[.ref a],_,rfl,cW,?_,λb o h=>?_⟩
  ·rw[Ml];refine dZ.snoc (L.imp λ_ _ z=>(z.same ((du.refl H').new G)).upd) ⟨a,rfl,Ne.symm O,?_⟩;rw[dC (Ne.symm O),cW]
  ·have h1:=s b o h;rw[dC (de h k),dC (de h1 G)];exact h1
 rcases aa with l|l
 ·refine .inl ⟨_,rfl,C,rfl,⟨_,fR.of l⟩,λf k=>?_⟩;refine lg (xs:=S) (λj g H'=>∃(d:List V) (o:Option V),g=[XU C,XU I,XU J,none,none,none,none,none,none,o]/\H' f=some (.lst d)/\dZ (Lm f H') d (dm j u)/\du H H') ⟨[],none,rfl,cW,.nil,(du.refl H).new k⟩ ?_ (stp f k) ?_
  ·rintro j g H' _ ⟨_,_,_,_,_,s⟩;exact fR.of (s _ _ l)
  ·rintro g D ⟨d,o,_,T,L,s⟩;rw[hA.len] at L;exact U f k D d T L s
 ·refine .inr ⟨_,rfl,C,rfl,⟨_,fA.of l⟩,λf k=>?_⟩;refine jd (xs:=S) (λj g H'=>∃(d:List V) (o:Option V),g=[XU C,XU I,XU J,none,none,none,none,none,none,o]/\H' f=some (.lst d)/\dZ (Lm f H') d (dm j u)/\du H H') ⟨[],none,rfl,cW,.nil,(du.refl H).new k⟩ ?_ (stp f k) ?_
  ·rintro j g H' _ ⟨_,_,_,_,_,s⟩;exact fA.of (s _ _ l)
  ·rintro g D ⟨d,o,_,T,L,s⟩;rw[hA.len] at L;exact U f k D d T L s
def Cp{K:Fg}{vs:List V}{H:Hp}{Q:VK}{E:XK}(h:AJ K vs H Q E):qk K {nx:=λ_ H'=>Q .non H',rt:=Q} (fQ lG vs) H:=by
 obtain⟨rl,nm,pr,T,f,Y,b,cs,rfl,O,hA,g,hE,L,U,M,S,pin,B,q⟩:=h;have n1:0<f.length:=eL.mpr g.pos;obtain⟨w,wy,wp,w0⟩:∃w:Str,w∈Y/\(b≠[]->w∈b)/\(b=[]->∃z,f[0]?=some (.num w z)):=by
  cases b with
  |cons p r=>exact⟨p,pin p eG,λ_=>eG,λz=>by cases z⟩
  |nil=>
   have t:=B rfl;rw[lY] at t;cases e:f[0]? with
   |none=>rw[e] at t;cases t
   |some r=>
    rw[e,fO] at t;cases r with
    |num x z=>exact⟨x,(g.rough _ (dg e)).1,λz=>absurd rfl z,λ_=>⟨z,rfl⟩⟩
    |_=>cases t
 refine ui (E:=E) ⟨rl,nm,pr,T,f,Y,b,rfl,.inl O,hA,n1,g.few,λn m r C X=>?_,L,U,.inl M,S,λkl G R H' J hk u l D kn lU s=>q kl G R H' J hk u l (λi d e=>?_) kn s⟩
 ·obtain⟨j,v,ej⟩:=eH.mp X;exact Oi C (g.rough r (dg C)) hE (by rw[cP v,ej])
 ·obtain⟨z1,z2⟩:=D i d e;refine⟨by lia,λy a=>(z2 y a).elim id (pin y),?_⟩;by_cases c:i=0/\b=[]
  ·exact .inr c
  ·left;have il:i<f.length:=by rw[<-l];exact(cR.mp e).1
   have o:∀j,j<f.length->((jr f.length).map λj=>if j=0/\b=[] then([]:List Str) else[w])[j]?=some (if j=0/\b=[] then[] else[w]):=λj v=>by
    rw[dw,List.getElem?_range v];rfl
   have k:∀j d,((jr f.length).map λj=>if j=0/\b=[] then([]:List Str) else[w])[j]?=some d->d=(if j=0/\b=[] then[] else[w]):=λj d e=>by
    have v:j<f.length:=by have:=(cR.mp e).1;simpa using this
    rw[o j v] at e;exact(Option.some.inj e).symm
   have:=lU ((jr f.length).map λj=>if j=0/\b=[] then([]:List Str) else[w]) (by rw[cT,kL]) (λj d e y a=>by
     rw[k j d e] at a;split at a
     ·cases a
     ·rw[dc.mp a];exact wy) ⟨λd e y a=>by
     rw[k 0 d e] at a;split at a
     ·cases a
     ·rename_i hh;rw[dc.mp a];exact wp λz=>hh ⟨rfl,z⟩,λn m r P km C X Z e2 y a=>by
     have ey:y=w:=by
      rw[k m km e2] at a;split at a
      ·cases a
      ·exact dc.mp a
     subst ey;rw[k n P Z];by_cases I:n=0/\b=[]
     ·right;obtain⟨z,hz⟩:=w0 I.2;rw[I.1,hz] at C;cases C;rfl
     ·left;rw[if_neg I];exact dc.mpr rfl⟩ i d _ e (o i il) w (by rw[if_neg c];exact dc.mpr rfl)
   rintro rfl;cases this
def Jf{b:List (Option Str)}(o:Option Str)(h:b≠[]):jg b o=o::b.dropLast:=by
 obtain⟨d,y,rfl⟩:∃d y,b=d++[y]:=⟨b.dropLast,b.getLast h,(List.dropLast_concat_getLast h).symm⟩;unfold jg;simp[qq,eK]
def W7{K:Fg}{vs:List V}{H:Hp}{Q:VK}{E:XK}(h:AI K vs H Q E):Wy K {nx:=λ_ H'=>Q .non H',rt:=Q} (fQ VF vs) H:=by
 obtain⟨a,b,o,rfl,g,m,v,q⟩:=h;have i:b≠[]:=by rintro rfl;cases m
 have n:gs b≠[]:=λz=>i (oq.mp z);refine⟨_,rfl,Zv,λt k=>?_⟩;have c:upd H t (.tup [oV o]) a=some (.tup (gs b)):=by rw[dC (de g k)];exact g
 have d:upd H t (.tup [oV o]) t=some (.tup [oV o]):=cW;have l:du H (upd H t (.tup [oV o])):=(du.refl H).new k;generalize upd H t (.tup [oV o])=s at c d l;refine⟨_,rfl,_,rfl,_,rfl,.inr ⟨a,_,rfl,fA.of c,?_,λp j=>?_⟩⟩
 ·rintro⟨_,z⟩;have u:0<(gs b).length:=by rw[fk];lia
  have e:HT.sIx (gs b).length (gs b).length (some (-1))=(gs b).length-1:=by
   show(if(-1:Int)<0 then((-1:Int)+((gs b).length:Int)).toNat else min (-1:Int).toNat (gs b).length)=(gs b).length-1;rw[if_pos (by decide)];lia
  lia
 ·rw[show ph (gs b) none (some (-1))=(gs b).dropLast from NA n];refine .inr (.inr (.inr ⟨t,p,[oV o],(gs b).dropLast,rfl,rfl,fA.of (by rw[dC (de d j)];exact d),fA.of cW,by simp,?_,λz=>?_,λ_ r f=>q r _ ?_ ((l.new j).new f)⟩))
  ·exact g7 (fE (by rw[d4,jR,fk];lia))
  ·have:=congrArg i7 z;rw[jR,fk,jo] at this;lia
  ·rw[cW,Jf o i];unfold gs;rw[gu,List.map_dropLast];rfl
def QZ(a:List (Option Str))(y:Str)(i:Nat):List Nat:=(jr i).filter λj=>decide (a[j]?=some (some y))
def Gp(a:List (Option Str))(y:Str)(i:Nat):QZ a y (i+1)=QZ a y i++(if a[i]?=some (some y) then[i] else[]):=by
 unfold QZ;rw[List.range_succ,List.filter_append];by_cases c:a[i]?=some (some y)
 ·rw[if_pos c];simp[c]
 ·rw[if_neg c];simp[c]
def R0{K:Fg}{vs:List V}{H:Hp}{Q:VK}{E:XK}(h:pF K vs H Q E):KS K {nx:=λ_ H'=>Q .non H',rt:=Q} (fQ DP vs) H:=by
 obtain⟨C,R,k,c,y,rfl,S,k9,J,l1,hy,q⟩:=h;refine⟨_,rfl,_,_,rfl,.inr ⟨_,fA.of J,rfl⟩,_,rfl,by lia,by rw[fk];lia,λD x=>?_⟩;refine mR (λi l H'=>∃o,l=[XU C,XU R,some (.str y),none,o]/\H' D=some (.lst (eU (QZ c y i)))/\du H H') ⟨none,rfl,cW,(du.refl H).new x⟩ ?_ ?_
 ·rintro i l H' t ⟨o,rfl,f,s⟩;rw[c8,fk] at t;have X:(0:Int)+(i:Int)=((i:Nat):Int):=by lia
  have g:=cP t;have M:(QZ c y i).length<=1000:=fq (iS _ _) (by rw[kL];lia);rw[X];refine⟨_,rfl,_,rfl,eP (s _ _ J) (dz _) (by rw[c8];exact lh g) ⟨_,rfl,.inl ⟨AC c[i] (some y),_,rfl,fM (λe=>?_) (λe=>?_)⟩⟩⟩
  ·have v:c[i]?=some (some y):=by rw[g,xi (b:=some y) e]
   refine⟨_,rfl,_,f,fE (by unfold eU;rw[cT];lia),_,rfl,?_,λb o p=>?_⟩
   ·rw[cW,Gp,if_pos v];unfold eU;rw[dt];rfl
   ·rw[dC (de p x)];exact s b o p
  ·have v:c[i]?≠some (some y):=λz=>e (by rw[g] at z;rw[Option.some.inj z];rfl);refine⟨_,rfl,?_,s⟩;rw[f,Gp,if_neg v,fF]
 ·rintro l H' ⟨o,_,f,s⟩;rw[c8,fk] at f;obtain⟨j,L,Z⟩:=eH.mp hy;have r:∀i,i∈QZ c y c.length->c[i]?=some (some y):=λi t=>by
   have:=(ir.mp t).2;simpa using this
  have ne:0<(QZ c y c.length).length:=lZ (a:=j) (ir.mpr ⟨ja.mpr L,by rw[cP L,Z];exact decide_eq_true rfl⟩);have M:(QZ c y c.length).length<=1000:=fq (iS _ _) (by rw[kL];lia);generalize QZ c y c.length=m at f r ne M;have w:(eU m).length=m.length:=cT ..;have B:C≠D:=by obtain⟨ys,e⟩:=S.lst;exact de e x
  refine⟨_,rfl,_,rfl,_,rfl,_,_,rfl,.inl ⟨_,fR.of f,rfl⟩,C,((eU m).length:Nat),k,rfl,S.same s,by lia,by rw[w];lia,by rw[w];lia,λd O T U P G=>?_⟩;rw[w] at U;have I:d.toNat<m.length:=by lia
  have Y:(eU m)[d.toNat]?=some (.int (m[d.toNat]:Nat)):=by unfold eU;rw[dw,cP I];rfl
  exact nI (fR.of (G _ _ (Ne.symm B) f)) T Y (q _ O (r _ (gg I)) P λb u n e=>G b u n (s b u e))
theorem oI:∀{as bs:List (Option Str)},as.length=bs.length->(J4 as bs=true↔∀(i:Nat) y,as[i]?=some (some y)->bs[i]?=some (some y))
 |[],[],_=>⟨λ_ i y h=>by simp at h,λ_=>rfl⟩
 |[],_::_,h=>by cases h
 |_::_,[],h=>by cases h
 |a::as,b::bs,h=>by
  have j:=oI (as:=as) (bs:=bs) (by simpa using h);have e:J4 (a::as) (b::bs)=(SD (a,b)&&J4 as bs):=rfl;rw[e,Bool.and_eq_true,j];constructor
  ·rintro⟨d,g⟩ i y c;cases i with
   |zero=>
    have c:some a=some (some y):=c;cases c;have d:(decide ((some y:Option Str)=none) || decide (some y=b))=true:=d;rw[decide_eq_false (by simp),Bool.false_or,decide_eq_true_eq] at d;rw[<-d];rfl
   |succ i=>exact g i y c
  ·intro f;refine⟨?_,λi y c=>f (i+1) y c⟩;show(decide (a=none) || decide (a=b))=true;cases a with
   |none=>rw[decide_eq_true rfl,Bool.true_or]
   |some y=>
    have:=f 0 y rfl;have:some b=some (some y):=this;cases this;rw[decide_eq_true (p:=some y=some y) rfl,Bool.or_true]
def BC(as:List (Option Str)):J4 as as=true:=(oI rfl).mpr λ_ _ h=>h
def MQ{as bs a:List (Option Str)}(b:as.length=bs.length)(c:bs.length=a.length)(d:J4 as bs=true)(h2:J4 bs a=true):J4 as a=true:=
 (oI (b.trans c)).mpr λi y h=>(oI c).mp h2 i y ((oI b).mp d i y h)
def Qf.refl(a:List (Option Str)):Qf a a:=⟨rfl,BC a,λ_ _ h=>h⟩
def iZ{a:Type}{l:List a}{k:Nat}{x:a}:x∈l.take k↔∃j,j<k/\l[j]?=some x:=by
 rw[List.mem_iff_getElem?];constructor
 ·rintro⟨j,h⟩;rw[iV] at h;by_cases c:j<k
  ·rw[if_pos c] at h;exact⟨j,c,h⟩
  ·rw[if_neg c] at h;cases h
 ·rintro⟨j,c,h⟩;exact⟨j,by rw[iV,if_pos c];exact h⟩
def Qf.set{a:List (Option Str)}{i:Nat}{o:Option Str}(d:a[i]?=some o)(h:o∈a.take i):Qf a (a.set i none):=by
 have l:=(cR.mp d).1;refine⟨eX ..,(oI (by rw[eX])).mpr λj y e=>?_,λy k g=>?_⟩
 ·by_cases c:i=j
  ·subst c;rw[d6 l] at e;cases e
  ·rw[eC c] at e;exact e
 ·obtain⟨j,n,b⟩:=iZ.mp g;by_cases c:i=j
  ·subst c;rw[d] at b;cases b;obtain⟨m,p,f⟩:=iZ.mp h;exact iZ.mpr ⟨m,by lia,by rw[eC (by lia)];exact f⟩
  ·exact iZ.mpr ⟨j,n,by rw[eC c];exact b⟩
def ur{a:Type}{l:List a}{i:Nat}{x:a}(h:i<l.length):l.set i x=l.take i++[x]++l.drop (i+1):=by
 rw[List.set_eq_take_append_cons_drop,if_pos h];simp
def OV{K:Fg}{vs:List V}{H:Hp}{Q:VK}{E:XK}(h:xw K vs H Q E):Hc K {nx:=λ_ H'=>Q .non H',rt:=Q} (fQ FI vs) H:=by
 obtain⟨st,r,k,a,rfl,S,k9,M,ne,l1,q⟩:=h;have lp:0<a.length:=eL.mpr ne;refine⟨_,rfl,_,rfl,_,_,rfl,.inr ⟨_,fA.of M,rfl⟩,st,((gs a).length:Nat),k,rfl,S,by lia,by rw[fk];lia,by rw[fk];lia,λd m d0 d1 S1 U=>?_⟩;rw[fk] at d1;obtain⟨i,rfl⟩:=fb d0;have O:i<a.length:=by lia
 have nb:r≠st:=λz=>by obtain⟨ys,e⟩:=S.lst;rw[z,e] at M;cases M
 have f:=U _ _ nb M;have C:=cP O;have nw:∀c:Nat,c<a.length->¬(HT.sIx (gs a).length 0 none=0/\HT.sIx (gs a).length (gs a).length (some (c:Int))=(gs a).length):=λc hc ⟨_,z⟩=>by
  rw[HT.sIx_nat,fk] at z;lia
 refine⟨_,rfl,_,rfl,eP f (dz _) (by rw[c8];exact lh C) ⟨_,rfl,_,rfl,_,rfl,.inr ⟨r,_,rfl,fA.of f,nw i O,λp np=>?_⟩⟩⟩;rw[lH];have hp:upd m p (.tup ((gs a).take i)) p=some (.tup ((gs a).take i)):=cW;have s:du m (upd m p (.tup ((gs a).take i))):=(du.refl m).new np;generalize upd m p (.tup ((gs a).take i))=t at hp s;have tk:(gs a).take i=gs (a.take i):=by unfold gs;rw[gv]
 rw[tk] at hp;refine⟨p,_,rfl,.inr (fA.of hp),KA _,vH _,_,rfl,?_⟩;show if kM (oV a[i]) (gs (a.take i))=true then _ else _;rw[VU];refine fM (λj=>?_) (λj=>?_)
 ·have i0:a.take i≠[]:=λz=>by rw[z] at j;cases j
  have Y:=s _ _ f;refine⟨_,rfl,_,rfl,_,rfl,.inr ⟨r,_,rfl,fA.of Y,nw i O,λP aa=>?_⟩⟩;rw[lH,tk];have w:upd t P (.tup (gs (a.take i))) P=some (.tup (gs (a.take i))):=cW;have s3:=s.trans ((du.refl t).new (o:=.tup (gs (a.take i))) aa);generalize upd t P (.tup (gs (a.take i)))=J at w s3;refine⟨Zv,λR D=>?_⟩;have l:=((du.refl J).new (o:=.tup [.non]) D) _ _ w;have s4:=s3.trans ((du.refl J).new (o:=.tup [.non]) D);have x:upd J R (.tup [V.non]) R=some (.tup [V.non]):=cW;generalize upd J R (.tup [V.non])=X at l s4 x;have tl:(gs (a.take i)).length<=1000:=by rw[fk,dB];lia
  refine .inr (.inr (.inr ⟨P,R,_,_,rfl,rfl,fA.of l,fA.of x,λz=>i0 (oq.mp z),g7 (fE (by rw[d4];lia)),(λz=>by cases z),λ_ I ab=>?_⟩));have s5:=s4.trans ((du.refl X).new (o:=.tup (gs (a.take i)++[V.non])) ab);have y:upd X I (.tup (gs (a.take i)++[V.non])) I=some (.tup (gs (a.take i)++[V.non])):=cW;generalize upd X I (.tup (gs (a.take i)++[V.non]))=L at s5 y;have Z:=s5 _ _ f;have ee:((i:Nat):Int)+1=((i+1:Nat):Int):=by lia
  refine⟨_,rfl,_,rfl,.inl ⟨_,_,rfl,rfl,_,rfl,.inr ⟨r,_,rfl,fA.of Z,?_,λT G=>?_⟩⟩⟩
  ·rintro⟨z,_⟩;rw[ee,HT.sIx_nat,fk] at z;lia
  rw[ee,vz];have dr:(gs a).drop (i+1)=gs (a.drop (i+1)):=by unfold gs;rw[kA]
  rw[dr];have g:=((du.refl L).new (o:=.tup (gs (a.drop (i+1)))) G) _ _ y;have s6:=s5.trans ((du.refl L).new (o:=.tup (gs (a.drop (i+1)))) G);have B:upd L T (.tup (gs (a.drop (i+1)))) T=some (.tup (gs (a.drop (i+1)))):=cW;generalize upd L T (.tup (gs (a.drop (i+1))))=H6 at g s6 B;have v:∀(p:c7) (H':Hp),H' p=some (.tup (gs (a.take i)++[V.non]++gs (a.drop (i+1))))->du m H'->Q (.ref p) H':=λp7 H7 h7 s7=>
   q p7 (a.set i none) H7 (by rw[ur O];unfold gs;rw[dt,dt];exact h7) (.set C j) (S1.same s7) λb u n e=>s7 _ _ (U b u n e)
  refine .inr (.inr (.inr ⟨I,T,_,_,rfl,rfl,fA.of g,fA.of B,by simp,g7 (fE (by rw[c9,d4,fk (a.drop (i+1)),gm];lia)),λz=>?_,λ_ p7 ae=>v p7 _ cW (s6.new ae)⟩));refine v I H6 ?_ s6;rw[z,fF];exact g
 ·show AQ K _ [XU st,XU r,XW i] t;exact⟨_,rfl,q r a t (s _ _ f) (Qf.refl a) (S1.same s) λb u n e=>s _ _ (U b u n e)⟩
def FX{a:c7}{u w:V}{out:List XO}{H:Hp}{D:pd}{k:St}(x:XO)(r:uP H u x.1)(s:sD H w x.2)(m:rg H a out)(t:out.length<=99999)(q:∀d,rg d a (out++[x])->iO a H d->D.nx k d) :
  [u,w].length<=c6/\∀p,H p=none->j9 (.ref a) [.ref p] (upd H p (.tup [u,w])) (λ_ l=>D.nx k l):=by
 refine⟨by show 2<=c6;decide,λp j=>?_⟩;obtain⟨outs,f,i⟩:=m;have g:a≠p:=de f j;have c:du H (upd H p (.tup [u,w])):=(du.refl H).new j;have h:Tp H (upd (upd H p (.tup [u,w])) a (.lst (outs++[.ref p]))):=Tp.lst (Tp.of_same c) (c _ _ f);refine⟨a,outs,.ref p,rfl,rfl,c _ _ f,fE (by rw[i.len];lia),q _ ⟨_,cW,(i.imp λ_ _ z=>z.mono h).snoc ⟨p,u,w,rfl,?_,r.mono h,s.mono h⟩⟩ λb o n e=>?_⟩
 ·rw[dC (Ne.symm g)];exact cW
 ·rw[dC n];exact c _ _ e
def rg.same{H H':Hp}{b:c7}{out:List XO}(h:rg H b out)(s:du H H'):rg H' b out:=let⟨a,c,d⟩:=h;⟨a,s _ _ c,d.imp λ_ _ z=>z.mono (.of_same s)⟩
theorem y3(a:List (Option Str)):∀(l:List Str),(tT a l).length=a.length
 |[]=>rfl
 |y::l=>by show(tT (jg a (some y)) l).length=_;rw[y3 _ l,kC]
theorem F1(y:Str):∀(l:List Str) (a:List (Option Str)),tT a (l++[y])=jg (tT a l) (some y)
 |[],a=>rfl
 |z::l,a=>F1 y l (jg a (some z))
theorem F2(n:Nat)(y:Str):∀(l:List Str) (a:List (Option Str)),wY n a (l++[y])=wY n a l++[(.c (.keep (((tT a l).idxOf (some y):Nat):Int)),(n,tT a l))]
 |[],a=>rfl
 |z::l,a=>by
  show _::wY n (jg a (some z)) (l++[y])=_;rw[F2 n y l (jg a (some z))];rfl
theorem mr(n:Nat):∀(l:List Str) (a:List (Option Str)),(wY n a l).length=l.length
 |[],a=>rfl
 |z::l,a=>by show(wY n _ l).length+1=l.length+1;rw[mr n l]
theorem zi.at:∀{l:List Str} {a:List (Option Str)},zi a l->∀{i:Nat} {y:Str},l[i]?=some y->some y∈tT a (l.take i)
 |[],a,_,i,y,e=>by simp at e
 |z::l,a,h,0,y,e=>by cases e;exact h.1
 |z::l,a,h,i+1,y,e=>zi.at (l:=l) h.2 (i:=i) e
theorem IL:∀{b:List (Option Str)} {o:Option Str},o∈b->b[b.idxOf o]?=some o/\∀m,m<b.idxOf o->b[m]?≠some o
 |[],o,h=>by cases h
 |a::b,o,h=>by
  rw[List.idxOf_cons];by_cases c:a=o
  ·subst c;simp
  ·have e:(a==o)=false:=by simpa using c
   rw[e];have f:o∈b:=by rcases dW.mp h with z|z;exact absurd z.symm c;exact z
   obtain⟨g,i⟩:=IL f;refine⟨g,λm d=>?_⟩;have d:m<b.idxOf o+1:=d;cases m with
   |zero=>intro z;exact c (Option.some.inj z)
   |succ m=>exact i m (by lia)
def Ma{K:Fg}{vs:List V}{H:Hp}{Q:VK}{E:XK}(h:mW K vs H Q E):Ds K {nx:=λ_ H'=>Q .non H',rt:=Q} (fQ CO vs) H:=by
 obtain⟨r,ba,L,n,out,l,due,rfl,X,hb,l2,l1,C,dl,aa,bo,q⟩:=h;have T:L≠r:=λz=>by obtain⟨outs,e,_⟩:=X;rw[z,e] at C;cases C
 refine⟨_,rfl,L,_,rfl,fA.of C,QQ (xs:=due.map V.str) (λi p H'=>∃f G I,p=[XU r,XW n,XU f,XU L,G,I]/\H' f=some (.tup (gs (tT l (due.reverse.take i))))/\rg H' r (out++wY n l (due.reverse.take i))/\iO r H H') ⟨ba,none,none,rfl,hb,?_,λ_ _ _ e=>e⟩ ?_ ?_ ?_⟩
 ·rw[sg];show rg H r (out++[]);rw[fF];exact X
 ·rintro i p H' _ ⟨f,G,I,_,_,_,B⟩;exact fA.of (B _ _ T C)
 ·rintro i x p H' u ⟨f,G,I,rfl,a,d,B⟩;rw[<-mN,dw] at u;obtain⟨y,P,rfl⟩:∃y,due.reverse[i]?=some y/\V.str y=x:=by
   cases e:due.reverse[i]? with
   |none=>rw[e] at u;cases u
   |some y=>rw[e] at u;exact⟨y,rfl,Option.some.inj u⟩
  have il:i<due.reverse.length:=(cR.mp P).1;rw[e6] at il;have v:=bo.at P;have ts:due.reverse.take (i+1)=due.reverse.take i++[y]:=hY P;have s:=F2 n y (due.reverse.take i) l;have M:=F1 y (due.reverse.take i) l;have ll:(wY n l (due.reverse.take i)).length=i:=by rw[mr,dB,e6];lia
  have bl:(tT l (due.reverse.take i)).length=l.length:=y3 ..;rw[<-ts] at s M;generalize tT l (due.reverse.take i)=g at a v s M bl;generalize wY n l (due.reverse.take i)=ab at d s ll;obtain⟨D,Y⟩:=IL v;have jl:g.idxOf (some y)<g.length:=(cR.mp D).1;generalize g.idxOf (some y)=j at D Y s jl;refine⟨_,rfl,f,_,rfl,a,_,rfl,_,rfl,rfl,vH _,fA.of a,j,⟨_,lh D,?_⟩,λm hm z hz=>?_,?_⟩
  ·show qx (oV (some y)) (oV (some y))=true;rw[xZ,decide_eq_true_eq]
  ·obtain⟨o,eo,rfl⟩:=Af hz;show qx (oV o) (oV (some y))=false;rw[xZ,decide_eq_false_iff_not];rintro rfl;exact Y m hm eo
  have k:=d;obtain⟨outs,k,_⟩:=k;refine⟨_,rfl,.inl ⟨rfl,_,fR.of k⟩,d7 (fj (jv [.str "keep",.int (j:Nat)] (λR h=>⟨_,rfl,h⟩) (by show 2<=100;decide) λp1 H1 h1 J=>jv [.int (n:Nat),.ref f] (λR h=>⟨_,rfl,_,rfl,h⟩) (by show 2<=100;decide) λp2 H2 h2 w=>FX (.c (.keep ((j:Nat):Int)),(n,g)) ⟨p1,rfl,w _ _ h1⟩ ⟨p2,f,rfl,h2,(J.trans w) _ _ a⟩ (d.same (J.trans w)) (by rw[c9];lia) λH3 O U=>?_))⟩;have S:f≠r:=λz=>by rw[z,k] at a;cases a
  have t:=U _ _ S ((J.trans w) _ _ a);refine⟨_,rfl,_,rfl,_,rfl,eP t (dz _) (by rw[c8];exact lh D) ⟨f,g,some y,rfl,t,by lia,by lia,λp4 H4 h4 s4=>?_⟩⟩;refine⟨p4,_,_,rfl,?_,?_,λb o Z e=>s4 _ _ (U b o Z ((J.trans w) _ _ (B b o Z e)))⟩
  ·rw[M];exact h4
  ·rw[s,<-eu];exact O.same s4
 ·rintro p H' ⟨f,G,I,rfl,a,d,B⟩;have e:due.reverse.take (due.map V.str).length=due.reverse:=eK (by rw[cT,e6];exact dk _);rw[e] at a d;exact⟨_,rfl,q f H' a d B⟩
def Em{a:Str}{A B:Prop}(h:A):if decide (V.str a=V.str a)=true then A else B:=pY (λ_=>h) λc=>absurd rfl c
def pN{a b:Str}{A B:Prop}(e:a≠b)(h:B):if decide (V.str a=V.str b)=true then A else B:=pY (λc=>absurd c e) λ_=>h
def j5.tup_ne{K:Fg}{H:Hp}{st a:c7}{k:Nat}{xs:List V}(S:j5 K H st k)(h:H a=some (.tup xs)):a≠st:=λz=>by obtain⟨b,e⟩:=S.lst;rw[z,e] at h;cases h
def fJ{st:c7}{H a H2:Hp}(B:iO st H a)(s:du a H2):iO st H H2:=λb u n e=>s _ _ (B b u n e)
def gS{st:c7}{H a H2:Hp}(B:iO st H a)(c:iO st a H2):iO st H H2:=λb u n e=>c b u n (B b u n e)
def kG{c:Type}{a b:c}{t:Nat}(h:[a][t]?=some b):t=0/\a=b:=by
 cases t with
 |zero=>exact⟨rfl,Option.some.inj h⟩
 |succ t=>simp at h
def EI{K:Fg}{vs:List V}{H:Hp}{Q:VK}{E:XK}(h:qh K vs H Q E):wz K {nx:=λ_ H'=>Q .non H',rt:=Q} (fQ rb vs) H:=by
 obtain⟨C,P,v,k,r,U,rfl,S,k8,Z,nj,M,l1,rl,w,q⟩:=h;cases r with
 |num x z=>
  obtain⟨p,rfl,h⟩:=Z;refine⟨_,rfl,Zt h rfl (.inl ⟨rfl,_,rfl,Em ?_⟩)⟩;refine⟨_,rfl,Zt h rfl ⟨Zw,λt g=>?_⟩⟩;exact q _ (.c (.num z)) k _ ⟨t,rfl,cW⟩ ⟨_,rfl,rfl,rfl,rfl,λt i a e=>by simp[d5] at e⟩ (S.new g) (by lia) (fJ (λ_ _ _ e=>e) ((du.refl H).new g))
 |op x s a b=>
  obtain⟨p,rfl,h⟩:=Z;refine⟨_,rfl,Zt h rfl (.inl ⟨rfl,_,rfl,pN (by decide +kernel) ?_⟩)⟩;refine⟨_,rfl,Zt h rfl (.inl ⟨rfl,_,rfl,Em ?_⟩)⟩;refine⟨_,rfl,Zt h rfl ⟨_,rfl,_,rfl,_,rfl,Zt h rfl ⟨C,P,k,U,a,rfl,S,by lia,M,l1,w a (by simp[iw]),λi O I G m=>?_⟩⟩⟩;have Y:=m _ _ (S.tup_ne h) h;have aa:=m _ _ (S.tup_ne M) M;refine⟨_,rfl,_,rfl,_,rfl,Zt Y rfl ⟨C,P,k+1,U,b,rfl,G,by lia,aa,l1,w b (by simp[iw]),λj H2 e2 S2 B2=>⟨Zy,λt g=>?_⟩⟩⟩;refine q _ (.c (.op s ((i:Nat):Int) ((j:Nat):Int))) (k+1+1) _ ⟨t,rfl,cW⟩ ⟨_,rfl,rfl,rfl,rfl,λt i' X d l=>?_⟩ (S2.new g) (by lia) (fJ (gS m B2) ((du.refl H2).new g))
  match t with
  |0=>cases d;cases l;exact⟨dz _,by rw[c8];exact I⟩
  |1=>cases d;cases l;exact⟨dz _,by rw[c8];exact e2⟩
  |t+2=>simp[d5] at d
 |call x c L=>
  obtain⟨p,qa,rfl,h,ha⟩:=Z;refine⟨_,rfl,Zt h rfl (.inl ⟨rfl,_,rfl,pN (by decide +kernel) ?_⟩)⟩;refine⟨_,rfl,Zt h rfl (.inl ⟨rfl,_,rfl,pN (by decide +kernel) ?_⟩)⟩;refine⟨_,rfl,Zt h rfl (.inl ⟨rfl,_,rfl,Em ?_⟩)⟩;refine⟨_,rfl,Zt h rfl (.inr ⟨_,rfl,Zt h rfl ⟨qa,rfl,⟨_,fA.of ha⟩,λD nD=>?_⟩⟩)⟩;have T:C≠D:=by obtain⟨ys,e⟩:=S.lst;exact de e nD
  have rl:L.length<=10:=rl;refine jd (xs:=L.map V.str) (λi J H'=>∃(o:Option V) (f:List Nat),J=[XU C,XU p,XU P,o]/\H' D=some (.lst (eU f))/\f.length=i/\(∀(t:Nat) j a,f[t]?=some j->L[t]?=some a->U[j]?=some (some a))/\j5 K H' C (k+i)/\iO C H H') ⟨none,[],rfl,cW,rfl,λt j a e=>by simp at e,S.new nD,fJ (λ_ _ _ e=>e) ((du.refl H).new nD)⟩ ?_ ?_ ?_
  ·rintro i J H' _ ⟨o,f,_,_,_,_,_,B⟩;exact fA.of (B _ _ (S.tup_ne ha) ha)
  ·rintro i v J H' hx ⟨o,f,rfl,hD,il,R,Si,B⟩;rw[dw] at hx;obtain⟨a,hy,rfl⟩:∃y,L[i]?=some y/\V.str y=v:=by
    cases e:L[i]? with
    |none=>rw[e] at hx;cases hx
    |some y=>rw[e] at hx;exact⟨y,rfl,Option.some.inj hx⟩
   have ae:i<L.length:=(cR.mp hy).1;refine ib ⟨_,rfl,_,rfl,_,rfl,C,P,k+i,U,a,rfl,Si,by lia,B _ _ (S.tup_ne M) M,l1,w a (dg hy),λj O I G m=>?_⟩;refine⟨_,m _ _ (Ne.symm T) hD,fE (by unfold eU;rw[cT];lia),_,f++[j],rfl,?_,by rw[c9,il];rfl,λt j' X Y h2=>?_,?_,λb u n e=>?_⟩
   ·rw[cW];unfold eU;rw[dt];rfl
   ·by_cases ct:t<f.length
    ·rw[dX ct] at Y;exact R t j' X Y h2
    ·rw[dA (by lia)] at Y;obtain⟨z1,z2⟩:=kG Y;have:t=i:=by lia
     subst this;rw[hy] at h2;cases h2;rw[<-z2];exact I
   ·refine j5.mono G (a:=D) (ys:=eU f) (λb o n e=>by rw[dC n];exact e) (m _ _ (Ne.symm T) hD) T
   ·rw[dC (de e nD)];exact m _ _ n (B _ _ n e)
  ·rintro J H' ⟨o,f,_,hD,il,R,Si,B⟩;rw[cT] at il Si;refine⟨D,eU f,rfl,.inl ⟨fR.of hD,λp3 ab=>⟨Zx,λt g=>?_⟩⟩⟩;have s1:=((du.refl H').new (o:=.tup (eU f)) ab);have h3:upd H' p3 (.tup (eU f)) p3=some (.tup (eU f)):=cW;generalize upd H' p3 (.tup (eU f))=H3 at s1 h3 g;have s2:=s1.new (o:=.tup [.str "call",.int (c:Nat),.ref p3]) g;refine q _ (.c (.call ((c:Nat):Int) (f.map λi=>((i:Nat):Int)))) (k+L.length) _ ⟨t,p3,rfl,cW,?_⟩ ⟨_,rfl,rfl,rfl,by show(f.map _).length=L.length;rw[cT,il],λt' i' X d l=>?_⟩ (Si.same s2) (by lia) (fJ B s2)
   ·rw[dC (de h3 g),h3];unfold eU;rw[gZ];rfl
   ·have d:(f.map λi=>((i:Nat):Int))[t']?=some i':=d;rw[dw] at d;cases e:f[t']? with
    |none=>rw[e] at d;cases d
    |some j=>
     rw[e] at d;have:=Option.some.inj d;subst this;exact⟨dz _,by rw[c8];exact R t' j X e l⟩
 |say a=>
  obtain⟨p,rfl,h⟩:=Z;refine⟨_,rfl,Zt h rfl (.inl ⟨rfl,_,rfl,pN (by decide +kernel) ?_⟩)⟩;refine⟨_,rfl,Zt h rfl (.inl ⟨rfl,_,rfl,pN (by decide +kernel) ?_⟩)⟩;refine⟨_,rfl,Zt h rfl (.inl ⟨rfl,_,rfl,pN (by decide +kernel) ?_⟩)⟩;refine⟨_,rfl,Zt h rfl (.inl ⟨rfl,_,rfl,pN (by decide +kernel) ?_⟩)⟩;refine⟨_,rfl,Zt h rfl ⟨_,rfl,_,rfl,_,rfl,Zt h rfl ⟨C,P,k,U,a,rfl,S,by lia,M,l1,w a (by simp[iw]),λi O I G m=>⟨Zw,λt g=>?_⟩⟩⟩⟩;refine q _ (.c (.say ((i:Nat):Int))) (k+1) _ ⟨t,rfl,cW⟩ ⟨_,rfl,rfl,rfl,rfl,λt' i' X d l=>?_⟩ (G.new g) (by lia) (fJ m ((du.refl O).new g));obtain⟨rfl,rfl⟩:=kG d;obtain⟨_,rfl⟩:=kG l;exact⟨dz _,by rw[c8];exact I⟩
 |jump to=>cases nj
 |test a to=>
  obtain⟨p,rfl,h⟩:=Z;refine⟨_,rfl,Zt h rfl (.inl ⟨rfl,_,rfl,pN (by decide +kernel) ?_⟩)⟩;refine⟨_,rfl,Zt h rfl (.inl ⟨rfl,_,rfl,pN (by decide +kernel) ?_⟩)⟩;refine⟨_,rfl,Zt h rfl (.inl ⟨rfl,_,rfl,pN (by decide +kernel) ?_⟩)⟩;refine⟨_,rfl,Zt h rfl (.inl ⟨rfl,_,rfl,Em ?_⟩)⟩;refine⟨_,rfl,_,rfl,_,rfl,Zt h rfl ⟨C,P,k,U,a,rfl,S,by lia,M,l1,w a (by simp[iw]),λi O I G m=>⟨Zx,λt g=>?_⟩⟩⟩;exact q _ (.land i) (k+1) _ ⟨t,rfl,cW⟩ ⟨i,rfl,I⟩ (G.new g) (by lia) (fJ m ((du.refl O).new g))
 |give a=>
  obtain⟨p,rfl,h⟩:=Z;refine⟨_,rfl,Zt h rfl (.inl ⟨rfl,_,rfl,pN (by decide +kernel) ?_⟩)⟩;refine⟨_,rfl,Zt h rfl (.inl ⟨rfl,_,rfl,pN (by decide +kernel) ?_⟩)⟩;refine⟨_,rfl,Zt h rfl (.inl ⟨rfl,_,rfl,pN (by decide +kernel) ?_⟩)⟩;refine⟨_,rfl,Zt h rfl (.inl ⟨rfl,_,rfl,pN (by decide +kernel) ?_⟩)⟩;refine⟨_,rfl,Zt h rfl ⟨_,rfl,_,rfl,_,rfl,Zt h rfl ⟨C,P,k,U,a,rfl,S,by lia,M,l1,w a (by simp[iw]),λi O I G m=>⟨Zw,λt g=>?_⟩⟩⟩⟩;refine q _ (.c (.give ((i:Nat):Int))) (k+1) _ ⟨t,rfl,cW⟩ ⟨_,rfl,rfl,rfl,rfl,λt' i' X d l=>?_⟩ (G.new g) (by lia) (fJ m ((du.refl O).new g));obtain⟨rfl,rfl⟩:=kG d;obtain⟨_,rfl⟩:=kG l;exact⟨dz _,by rw[c8];exact I⟩
def vJ{a:List (Option Str)}{x o:Option Str}{k:Nat}(h:o∈a.take k)(b:k<a.length):o∈(jg a x).take (k+1):=by
 obtain⟨j,c,e⟩:=iZ.mp h;refine iZ.mpr ⟨j+1,by lia,?_⟩;unfold jg;rw[iV,if_pos (by lia)];exact e
def OF{a:List (Option Str)}{x:Option Str}{k:Nat}(h:0<a.length):x∈(jg a x).take (k+1):=by
 refine iZ.mpr ⟨0,by lia,?_⟩;unfold jg;rw[iV,if_pos h];rfl
theorem D5:∀(l:List Str) (a:List (Option Str)) (k:Nat),(∀y∈l,some y∈a.take k)->k+l.length<=a.length+1->zi a l
 |[],_,_,_,_=>trivial
 |z::l,a,k,h,c=>by
  rw[fB] at c;refine⟨i9 (h z eG),?_⟩;cases b:l with
  |nil=>exact trivial
  |cons w r=>
   rw[<-b];have e:1<=l.length:=by rw[b,fB];lia
   exact D5 l (jg a (some z)) (k+1) (λy d=>vJ (h y (fc _ d)) (by lia)) (by rw[kC];lia)
def oK(ks:List Str)(places:Nat):(jc ks places).length=places:=by
 unfold jc;rw[dB,c9,cT,d3];lia
def wX{ks:List Str}{places N:Nat}(h:ks.length<=N)(c:N<=places){y:Str}(b:y∈ks):some y∈(jc ks places).take N:=by
 obtain⟨j,a,e⟩:=eH.mp b;refine iZ.mpr ⟨j,by lia,?_⟩;unfold jc;rw[iV,if_pos (by lia),dX (by rw[cT];exact a),dw,cP a,e];rfl
def xK{c:Type}{l:List c}{a b:Nat}{x:c}(h:x∈l.take a)(d:a<=b):x∈l.take b:=by
 obtain⟨j,f,e⟩:=iZ.mp h;exact iZ.mpr ⟨j,by lia,e⟩
def qF{r:ed}{y:Str}:kJ r=.str y↔jt r=some y:=by
 cases r<;>simp[kJ,jt]
def ri(r:ed)(a:List (Option Str)):(jF r a).length=a.length:=by
 unfold jF;cases jt r with
 |none=>rfl
 |some y=>show(DZ a y).length=_;unfold DZ;rw[kC,cT]
def Iq{r:ed}{a:List (Option Str)}{y:Str}{k:Nat}(d:k<a.length)(h:some y∈a.take k\/kJ r=.str y):some y∈(jF r a).take (k+1):=by
 unfold jF;cases e:jt r with
 |none=>
  rcases h with h|h
  ·exact xK h (by lia)
  ·rw[qF.mp h] at e;cases e
 |some x=>
  show some y∈(DZ a x).take (k+1);unfold DZ;by_cases c:x=y
  ·subst c;exact OF (by rw[cT];lia)
  ·rcases h with h|h
   ·have b:jz x (some y)=some y:=by unfold jz;rw[if_neg (λz=>c (Option.some.inj z).symm)]
    exact vJ (by rw[<-gv];exact jS.mpr ⟨some y,h,b⟩) (by rw[cT];exact d)
   ·rw[qF.mp h] at e;exact absurd (Option.some.inj e).symm c
theorem yn.run{rs:List ed}{kss:List (List Str)}{N places:Nat}(g:gE rs)(h:yn rs kss N places):∀(k m:Nat) ks km,m<rs.length->kss[m]?=some ks->kss[runJ rs k m]?=some km->∀y∈km,y∈ks
 |0,m,ks,km,_,f,b,y,l=>by
  have b:kss[m]?=some km:=b;rw[f] at b;cases b;exact l
 |k+1,m,ks,km,n,f,b,y,l=>by
  have b:kss[runJ rs k (stp rs m)]?=some km:=b;have p:stp rs m<rs.length:=Pk g n;obtain⟨a,d⟩:∃a,kss[stp rs m]?=some a:=⟨_,cP (by rw[h.len];exact p)⟩;have o:=yn.run g h k (stp rs m) a km p d b y l;have j:=cP n;by_cases c:∃t,rs[m]=.jump t
  ·obtain⟨t,c⟩:=c;have i:stp rs m=t:=by unfold stp;rw[j,c]
   rw[i] at d;rcases h.on m t (.jump t) ks a (by rw[j,c]) (by simp[fK]) f d y o with z|z
   ·exact z
   ·cases z
  ·have i:stp rs m=m:=by
    unfold stp;rw[j];cases e:rs[m] with
    |jump t=>exact absurd ⟨t,e⟩ c
    |_=>rfl
   rw[i,f] at d;cases d;exact o
def yn.due{rs:List ed}{kss:List (List Str)}{N places n m:Nat}{r:ed}{ks:List Str}{e os':List (Option Str)}(g:gE rs)(h:yn rs kss N places)(o:kss[n]?=some ks)(j:rs[n]?=some r)(i:m∈fK n r)
  (t:e.length=places) (c:∀y∈ks,some y∈e.take (N+1)) (l:os'=jF r e):∃km,kss[runJ rs rs.length m]?=some km/\km.length<=N/\zi os' km.reverse:=by
 have d:m<rs.length:=g.inr n m r j i;have q:=rr g rs.length d;obtain⟨km,b⟩:∃km,kss[runJ rs rs.length m]?=some km:=⟨_,cP (by rw[h.len];exact q)⟩;obtain⟨a,f⟩:∃a,kss[m]?=some a:=⟨_,cP (by rw[h.len];exact d)⟩;have k:=h.few _ _ b;have u:=h.room;subst l;refine⟨km,b,k,D5 _ _ (N+2) (λy p=>?_) (by rw[e6,ri];lia)⟩;have s:=h.run g rs.length m a km d f b y (qp.mp p);exact Iq (by lia) ((h.on n m r ks a j i o f y s).imp (c y) id)
def KC{K:Fg}{a b:c7}{xs ys:List V}{H:Hp}{Q:VK}(e:H a=some (.tup xs))(d:H b=some (.tup ys))(g:ys≠[])(h:xs.length+ys.length<=5000)(q:∀(p:c7) (H':Hp),H' p=some (.tup (xs++ys))->du H H'->Q (.ref p) H'):gD K (.ref a) (.ref b) H Q:=by
 by_cases c:xs=[]
 ·subst c;exact .inl ⟨a,b,ys,rfl,rfl,fA.of e,fA.of d,q b H d (du.refl H)⟩
 ·exact .inr (.inr (.inr (.inr ⟨a,b,xs,ys,rfl,rfl,fA.of e,fA.of d,c,g7 (fE (by lia)),λz=>absurd z g,λ_ p f=>q p _ cW ((du.refl H).new f)⟩)))
def AF{K:Fg}{a:c7}{xs:List V}{c:Nat}{H:Hp}{Q:VK}(b:H a=some (.tup xs))(q:∀(p:c7) (H':Hp),H' p=some (.tup (xs.take c))->du H H'->Q (.ref p) H'):jH K (.ref a) none (some ((c:Nat):Int)) H Q:=by
 by_cases w:HT.sIx xs.length 0 none=0/\HT.sIx xs.length xs.length (some ((c:Nat):Int))=xs.length
 ·refine .inl ⟨a,xs,rfl,fA.of b,w,q a H ?_ (du.refl H)⟩;have z:=w.2;rw[HT.sIx_nat] at z;rw[eK (by lia)];exact b
 ·refine .inr (.inr ⟨a,xs,rfl,fA.of b,w,λp d=>?_⟩);rw[lH];exact q p _ cW ((du.refl H).new d)
def J0{K:Fg}{t:c7}{n:Nat}{H:Hp}{Q:VK}(a:H t=some (.tup [.non]))(d:2<=n)(c:n<=1000)(q:∀(p:c7) (H':Hp),H' p=some (.tup (gs (dm n none)))->du H H'->Q (.ref p) H'):kc K (.ref t) (.int (n:Nat)) H Q:=by
 refine .inr ⟨t,n,[.non],rfl,rfl,fA.of a,by simp,g7 (fE (by rw[d4];lia)),λz=>by lia,λ_ p b=>q p _ ?_ ((du.refl H).new b)⟩;rw[cW,KH];unfold gs;rw[oW];rfl
structure BW(K:Fg)(st ol:c7)(H H':Hp)(k:Nat)(out:List XO):Prop where
 s:j5 K H' st k
 o:rg H' ol out
 b:Ts st ol H H'
 tp:Tp H H'
 ne:st≠ol
def BW.draw{K:Fg}{st c:c7}{H H' H2:Hp}{k k2:Nat}{out:List XO}(w:BW K st c H H' k out)(S:j5 K H2 st k2)(B:iO st H' H2):BW K st c H H2 k2 out:=by
 obtain⟨i,e⟩:=w.s.lst;have t:=Tp.of_but B e;obtain⟨outs,f,g⟩:=w.o;exact⟨S,⟨outs,B _ _ (Ne.symm w.ne) f,g.imp λ_ _ z=>z.mono t⟩,λp o a d h=>B _ _ a (w.b p o a d h),w.tp.trans t,w.ne⟩
def BW.same{K:Fg}{st a:c7}{H H' H2:Hp}{k:Nat}{out:List XO}(w:BW K st a H H' k out)(s:du H' H2):BW K st a H H2 k out:=
 ⟨w.s.same s,w.o.same s,λp o c d h=>s _ _ (w.b p o c d h),w.tp.trans (.of_same s),w.ne⟩
def BW.outs{K:Fg}{st a:c7}{H H' H2:Hp}{k:Nat}{out out2:List XO}(w:BW K st a H H' k out)(O:rg H2 a out2)(B:iO a H' H2):BW K st a H H2 k out2:=by
 obtain⟨outs,d,f⟩:=w.o;exact⟨w.s.mono B d w.ne,O,λp o e c h=>B _ _ c (w.b p o e c h),w.tp.trans (Tp.of_but B d),w.ne⟩
def Ke{K:Fg}{D:pd}{g:St}{st I b:c7}{H H':Hp}{k m times v C:Nat}{out:List XO}{J:List (Option Str)}(w:BW K st I H H' k out)(k9:k<=900000)(hl:out.length<=99999)(t1:1<=times)(t2:times<=2)
  (h0:g[0]?=some (some (.ref st))) (h1:g[1]?=some (some (.ref I))) (h6:g[6]?=some (some (.int (times:Nat)))) (U:g[v]?=some (some (.int (m:Nat)))) (hb:g[C]?=some (some (.ref b))) (u:H' b=some (.tup (gs J)))
  (q:∀t H2,t<times->BW K st I H H2 (k+1) (out++[(.jmp m t,(m,J))])->(∀p xs,H' p=some (.tup xs)->H2 p=some (.tup xs))->D.nx g H2) :
  (ow (GZ K "list" j9 (cU 1) (cQ (eR (cQ (eR (cQ Zf (cQ (eR (cQ Zp (cQ (cU v) (cQ (dR (eN K) [] E0 (cQ (cU 0) (cQ (cU 6) dh))) dh)))) dh))) (cQ (eR (cQ (cU v) (cQ (cU C) dh))) dh))) dh))) D g H':=by
 have j:=w.o;obtain⟨outs,j,_⟩:=j;refine⟨_,h1,.inl ⟨rfl,_,fR.of j⟩,d7 (fj (d7 (fj (nY (d7 (fj (nY (pX U (d7 ?_)))))))))⟩;refine⟨_,h0,_,h6,st,(times:Nat),k,rfl,w.s,by lia,by lia,by lia,λd l d0 d1 Z x=>?_⟩;obtain⟨t,rfl⟩:=fb d0;have P:=w.draw Z x;have y:=x _ _ (w.s.tup_ne u) u;have O:Tp H' l:=by obtain⟨ys,e⟩:=w.s.lst;exact Tp.of_but x e
 refine⟨by show 3<=c6;decide,λa E=>⟨by show 2<=c6;decide,λn G=>?_⟩⟩;have X:=(du.refl l).new (o:=.tup [.str "at",.int (m:Nat),.int (t:Nat)]) E;have S:upd l a (.tup [.str "at",.int (m:Nat),.int (t:Nat)]) a=some (.tup [.str "at",.int (m:Nat),.int (t:Nat)]):=cW;have f:upd l a (.tup [.str "at",.int (m:Nat),.int (t:Nat)]) n=none:=G;show cQ (eR (cQ (cU v) (cQ (cU C) dh))) dh g (upd (upd l a (.tup [.str "at",.int (m:Nat),.int (t:Nat)])) n (.tup [.str "jump",.ref a])) _;generalize upd l a (.tup [.str "at",.int (m:Nat),.int (t:Nat)])=H2 at X S f;have L:=(du.refl H2).new (o:=.tup [.str "jump",.ref a]) f;have T:upd H2 n (.tup [.str "jump",.ref a]) n=some (.tup [.str "jump",.ref a]):=cW;have r:=L _ _ S;generalize upd H2 n (.tup [.str "jump",.ref a])=H3 at L T r;refine jv [.int (m:Nat),.ref b] (λR h=>⟨_,U,_,hb,h⟩) (by show 2<=100;decide) λp4 H4 h4 M=>?_;have c:=(X.trans L).trans M;refine FX (.jmp m t,(m,J)) ⟨n,a,rfl,M _ _ T,M _ _ r⟩ ⟨p4,b,rfl,h4,c _ _ y⟩ ((P.same c).o) hl λY B Q=>q t Y (by lia) ((P.same c).outs B Q) λp xs hp=>?_;have i:=c _ _ (O _ _ hp);exact Q _ _ (λz=>by obtain⟨o2,e,_⟩:=(P.same c).o;rw[z,e] at i;cases i) i
def Xj{K:Fg}{h:St}{st g b j:c7}{H H':Hp}{k m s z:Nat}{out:List XO}{f:List (Option Str)}{c:List V}{kss:List (List Str)}{km:List Str}{R:VK}(w:BW K st g H H' k out)(M:out.length<=90000)
  (E:h[1]?=some (some (.ref g))) (G:h[4]?=some (some (.ref j))) (y:h[s]?=some (some (.int (m:Nat)))) (L:h[z]?=some (some (.ref b))) (l:H' b=some (.tup (gs f))) (T:2<=f.length) (S:f.length<=1000)
  (r:H j=some (.lst c)) (t:j≠st) (u:j≠g) (I:dZ (qu H) c kss) (e:kss[m]?=some km) (d:km.length<=100) (D:zi f km.reverse)
  (q:∀p H2,H2 p=some (.tup (gs (tT f km.reverse)))->BW K st g H H2 k (out++wY m f km.reverse)->Tp H' H2->R (.ref p) H2) :
  dR (mW K) [] E0 (cQ (cU 1) (cQ (cU s) (cQ (cU z) (cQ (dF (eJ K) (cU 4) (cU s)) dh)))) h H' R:=by
 have Q:m<kss.length:=(cR.mp e).1;obtain⟨v,P,X,B,a,rfl,J⟩:=I.get (i:=m) Q;rw[e] at B;cases B;have n:=w.b _ _ t u r;refine⟨_,E,_,y,_,L,_,G,_,y,nI (fR.of n) (dz _) (by rw[c8];exact X) ⟨g,b,a,m,out,f,km,rfl,w.o,l,T,S,w.tp _ _ J,d,M,D,λp H2 O C x=>q p H2 O (w.outs C x) ?_⟩⟩;obtain⟨outs,U,_⟩:=w.o;exact Tp.of_but x U
def VN{K:Fg}{st p rt kl b af rp:c7}{H H1:Hp}{Q:VK}{n places times N k1 f i8:Nat}{out pre:List XO}{C E:List V}{rs:List ed}{kss:List (List Str)}{ks:List Str}{r:ed}{x:mQ}{d:List (Option Str)}{o8 aO aP:Option V}
  (w:BW K st p H H1 k1 (out++pre++[(x,(n,d))])) (k9:k1<=800000) (aX:out.length<=80000) (pl:pre.length<=1) (av:H rt=some (.tup C)) (hA:dZ (gR H) C rs) (g:gE rs) (hr:rs[n]?=some r) (au:gR H (.ref rp) r) (nj:je r=false) (ng:∀a,r≠.give a)
  (ak:H kl=some (.lst E)) (ay:kl≠st) (az:kl≠p) (hK:dZ (qu H) E kss) (kn:yn rs kss N places) (t1:1<=times) (t2:times<=2) (ao:kss[n]?=some ks) (aE:d.length=places) (aj:∀y∈ks,some y∈d.take (N+1)) (wx:FV r x d)
  (hb:H1 b=some (.tup (gs d))) (aH:H1 af=some (.tup (gs (jF r d)))) (eh:f=out.length+pre.length)
  (q:∀G x' k' H',rh rs kss times n (out.length+pre.length) d r x G x'->rg H' p (out++(pre++(x',(n,d))::G))->j5 K H' st k'->k'<=k1+2->Ts st p H H'->Q .non H') :
  xF K {nx:=λ_ H'=>Q .non H',rt:=Q} [XU st,XU p,XU rt,XW n,XU kl,XW places,XW times,XU b,o8,XU rp,XW f,XU af,aO,aP] H1:=by
 have rm:=kn.room;have ms:=kn.most;have n1:n+1∈fK n r:=by
  cases r with
  |jump t=>cases nj
  |give a=>exact absurd rfl (ng a)
  |_=>simp[fK]
 have ax:=g.inr n (n+1) r hr n1;obtain⟨km,em,aV,bo⟩:=kn.due g ao hr n1 aE aj rfl;have e1:((n:Nat):Int)+1=((n+1:Nat):Int):=by lia
 have ml:=rr g rs.length ax;refine⟨_,rfl,_,rfl,.inr (.inl ⟨_,_,rfl,rfl,rt,n+1,C,rs,by rw[<-e1];rfl,w.tp _ _ av,hA.imp λ_ _ z=>z.mono w.tp,g,ax,?_⟩)⟩;have Z:(kss[runJ rs rs.length (n+1)]?).getD []=km:=by rw[em];rfl
 have j:∀t,gC kss (runJ rs rs.length (n+1)) t (jF r d)=wY (runJ rs rs.length (n+1)) (jF r d) km.reverse++[(.jmp (runJ rs rs.length (n+1)) t,(runJ rs rs.length (n+1),tT (jF r d) km.reverse))]:=λt=>by unfold gC;rw[Z]
 have aD:(∀a h,r≠.test a h)->∀t,t<times->rh rs kss times n (out.length+pre.length) d r x (gC kss (runJ rs rs.length (n+1)) t (jF r d)) x:=λnt t ht=>.on ht ng nt;have a0:∀a h,r=.test a h->jF r d=d:=λa h z=>by rw[z];rfl
 generalize hm:runJ rs rs.length (n+1)=m at em ml j aD Z;refine Xj (km:=km) w (by simp only[c9,d4];lia) rfl rfl rfl rfl aH (by rw[ri];lia) (by rw[ri];lia) ak ay az hK em (by lia) bo λp2 H2 ar w2 aR=>?_;have ll:(wY m (jF r d) km.reverse).length=km.length:=by rw[mr,e6]
 refine Ke w2 (by lia) (by simp only[c9,d4,ll];lia) t1 t2 rfl rfl rfl rfl rfl ar λt H3 ht R aS=>?_;have aJ:=aS _ _ (aR _ _ hb);obtain⟨aY,xs,I,aL⟩:=au.ref;cases I;refine⟨_,rfl,Zt (R.tp _ _ aL) rfl (.inr (.inl ⟨rfl,_,rfl,pY (λc=>?_) (λc=>?_)⟩))⟩
 ·-- a test
  obtain⟨a,h,rfl⟩:∃a h,r=.test a h:=by
   cases r with
   |test a h=>exact⟨a,h,rfl⟩
   |num _ _=>exact absurd c (by show ¬("num":Str)="test";decide +kernel)
   |op _ _ _ _=>exact absurd c (by show ¬("op":Str)="test";decide +kernel)
   |call _ _ _=>exact absurd c (by show ¬("call":Str)="test";decide +kernel)
   |say _=>exact absurd c (by show ¬("say":Str)="test";decide +kernel)
   |jump _=>cases nj
   |give a=>exact absurd rfl (ng a)
  obtain⟨i,rfl,wi⟩:=wx;have ea:jF (.test a h) d=d:=rfl;rw[ea] at w2 R ar j ll bo;obtain⟨outs,k,B⟩:=R.o;have aq:f<(out++pre++[(mQ.land i,(n,d))]++wY m d km.reverse++[(mQ.jmp m t,(m,tT d km.reverse))]).length:=by simp only[c9,d4];lia
  have aI:(out++pre++[(mQ.land i,(n,d))]++wY m d km.reverse++[(mQ.jmp m t,(m,tT d km.reverse))])[f]?=some (mQ.land i,(n,d)):=by
   rw[eu,eu,dA (by rw[c9];lia),eh,c9,iv];rfl
  obtain⟨v,xo,v1,v2,aN⟩:=B.get aq;rw[aI] at v2;cases v2;obtain⟨pz,u,X,rfl,hz,⟨pu,rfl,hu⟩,aM⟩:=aN;have aF:outs[((f:Nat):Int).toNat]?=some (.ref pz):=by rw[c8];exact v1
  refine vw (fj (d7 ⟨_,rfl,_,rfl,nI (fR.of k) (dz _) aF (Zt hz rfl ⟨_,rfl,AF (c:=2) hu λp4 Y h4 s4=>?_⟩)⟩));refine⟨_,rfl,_,_,rfl,.inl ⟨_,fR.of (s4 _ _ k),rfl⟩,Zv,λp5 aA=>?_⟩;have s5:=s4.trans ((du.refl Y).new (o:=.tup [.int (outs.length:Nat)]) aA);have h5:upd Y p5 (.tup [V.int (outs.length:Nat)]) p5=some (.tup [V.int (outs.length:Nat)]):=cW;have ag:=((du.refl Y).new (o:=.tup [.int (outs.length:Nat)]) aA) _ _ h4;show gD K (.ref p4) (.ref p5) (upd Y p5 (.tup [V.int (outs.length:Nat)])) _;generalize upd Y p5 (.tup [V.int (outs.length:Nat)])=H5 at s5 h5 ag;refine KC ag h5 (by simp) (by show 2+1<=5000;decide) λL H6 h6 s6=>?_;have M:=s5.trans s6;refine⟨_,rfl,_,rfl,nI (fR.of (M _ _ k)) (dz _) aF (Zt (M _ _ hz) rfl ⟨Zw,λD aB=>?_⟩)⟩;have O:=M.trans ((du.refl H6).new (o:=.tup [.ref L,X]) aB);have h7:upd H6 D (.tup [V.ref L,X]) D=some (.tup [V.ref L,X]):=cW;have ah:=((du.refl H6).new (o:=.tup [.ref L,X]) aB) _ _ h6;have w7:=R.same O;refine⟨_,rfl,_,rfl,ES (O _ _ k) (dz _) (by rw[c8,B.len];exact aq) ?_⟩;generalize upd H6 D (.tup [V.ref L,X])=S at O h7 ah w7;rw[c8];have B8:iO p S (upd S p (.lst (outs.set f (.ref D)))):=λb o nb e=>by rw[dC nb];exact e
  have l:Tp S (upd S p (.lst (outs.set f (.ref D)))):=Tp.of_but B8 (O _ _ k);have U:=w7.outs (H2:=upd S p (.lst (outs.set f (.ref D)))) (out2:=(out++pre++[(mQ.land i,(n,d))]++wY m d km.reverse++[(mQ.jmp m t,(m,tT d km.reverse))]).set f (.c (.test ((i:Nat):Int) ((outs.length:Nat):Int)),(n,d))) ⟨_,cW,dZ.set (B.imp λ_ _ z=>z.mono ((Tp.of_same O).trans l)) ⟨D,.ref L,X,rfl,l _ _ h7,⟨L,rfl,l _ _ ah⟩,aM.mono ((Tp.of_same O).trans l)⟩⟩ B8;have ai:=l _ _ (O _ _ aJ);generalize upd S p (.lst (outs.set f (.ref D)))=H8 at U ai;have aa:(out++pre++[(mQ.land i,(n,d))]++wY m d km.reverse++[(mQ.jmp m t,(m,tT d km.reverse))]).set f (.c (.test ((i:Nat):Int) ((outs.length:Nat):Int)),(n,d))=out++(pre++(.c (.test ((i:Nat):Int) ((outs.length:Nat):Int)),(n,d))::gC kss m t d):=by
   rw[j t,eu,eu,List.set_append_right _ _ (by rw[c9];lia),eh,c9,iv];simp
  rw[aa] at U;have aC:outs.length=out.length+pre.length+1+(gC kss m t d).length:=by
   rw[B.len,j t];simp only[c9,d4];lia
  have gl:(gC kss m t d).length=km.length+1:=by rw[j t,c9,ll];rfl
  obtain⟨aT,I,aw⟩:=au;cases I;have aQ:h<rs.length:=g.inr n h _ hr (by simp[fK]);obtain⟨kt,et,aW,bt⟩:=kn.due (m:=h) (os':=d) g ao hr (by simp[fK]) aE aj rfl;have ae:∀t,gC kss (runJ rs rs.length h) t d=wY (runJ rs rs.length h) d kt.reverse++[(.jmp (runJ rs rs.length h) t,(runJ rs rs.length h,tT d kt.reverse))]:=λt=>by unfold gC;rw[et];rfl
  have ab:∀T,T<times->rh rs kss times n (out.length+pre.length) d (.test a h) (.land i) (gC kss m t d++gC kss (runJ rs rs.length h) T d) (.c (.test ((i:Nat):Int) ((outs.length:Nat):Int))):=λT J=>by
   rw[aC,<-hm];exact .test ht J
  refine⟨_,rfl,_,rfl,Zt (U.tp _ _ aw) rfl ⟨rt,h,C,rs,rfl,U.tp _ _ av,hA.imp λ_ _ z=>z.mono U.tp,g,aQ,?_⟩⟩;generalize runJ rs rs.length h=m2 at et ae ab;refine Xj (km:=kt) U (by simp only[c9,fB,gl];lia) rfl rfl rfl rfl ai (by lia) (by lia) ak ay az hK et (by lia) bt λp9 H9 aK w9 aZ=>?_;refine Ke w9 (by lia) (by simp only[c9,fB,gl,mr,e6];lia) t1 t2 rfl rfl rfl rfl rfl aK λT aG J P aU=>?_;refine q _ _ _ aG (ab T J) ?_ P.s (by lia) P.b;have:=P.o;rw[ae T];simpa[eu] using this
 ·have nt:∀a h,r≠.test a h:=λa h z=>c (by rw[z];rfl);refine q _ x _ H3 (aD nt t ht) ?_ R.s (by lia) R.b;have:=R.o;rw[j t];simpa[eu] using this
def RY{K:Fg}{vs:List V}{H:Hp}{Q:VK}{E:XK}(h:AH K vs H Q E):KQ K {nx:=λ_ H'=>Q .non H',rt:=Q} (fQ DN vs) H:=by
 obtain⟨L,ol,rt,kl,n,places,times,N,k,out,aP,refs,rs,aX,rfl,S,k7,O,aM,aL,ax,hA,g,aB,sd,av,aI,aJ,hK,kn,t1,t2,q⟩:=h;have hn:n<rs.length:=sd.1.lt g;have rm:=kn.room;have ms:=kn.most;obtain⟨v,r,v1,hr,C⟩:=hA.get hn;obtain⟨rp,aY,rfl,ay⟩:=C.ref;obtain⟨v,J,v2,X,a,rfl,ha⟩:=hK.get (i:=n) (by rw[kn.len];exact hn);have nj:je r=false:=sd.2 r hr;have aH:=kn.few n J X;have rd:=kn.read n r J sd hr X;have w0:BW K L ol H H k out:=⟨S,O,λ_ _ _ _ e=>e,Tp.refl H,aL⟩;have aS:aP[((n:Nat):Int).toNat]?=some (.ref rp):=by rw[c8];exact v1
 have aT:refs[((n:Nat):Int).toNat]?=some (.ref a):=by rw[c8];exact v2
 have m:∀(H1:Hp) (k1:Nat) (b1:c7) (w:List XO) (l:List (Option Str)) (o8:Option V),BW K L ol H H1 k1 (out++w)->k1<=k+2->H1 b1=some (.tup (gs l))->l.length=places->(∀y∈J,some y∈l.take (N+1))->(∀f,Qf l f->Ka (jc J places) n w f)->w.length<=1->
   AK K {nx:=λ_ H'=>Q .non H',rt:=Q} [XU L,XU ol,XU rt,XW n,XU kl,XW places,XW times,XU b1,o8,none,none,none,none,none] H1:=by
  intro H1 k1 b1 w l o8 w1 aU aF ao bin ae pl;refine⟨_,rfl,_,rfl,L,b1,k1,l,rfl,w1.s,by lia,aF,(by rintro rfl;simp at ao;lia),by lia,λp f H2 hp fg S2 B2=>?_⟩;have w2:=w1.draw S2 B2;have aN:f.length=places:=fg.len.trans ao;have au:∀y∈J,some y∈f.take (N+1):=λy I=>fg.fst y (N+1) (bin y I);refine⟨_,rfl,_,rfl,eP (w2.tp _ _ ax) (dz _) aS ?_⟩;obtain⟨outs,aa,ar⟩:=w2.o;have eh:outs.length=out.length+w.length:=by rw[ar.len,c9]
  refine⟨_,rfl,_,_,rfl,.inl ⟨_,fR.of aa,rfl⟩,?_⟩;refine⟨_,rfl,.inl ⟨rfl,_,fR.of aa⟩,d7 (fj (d7 ⟨_,rfl,_,rfl,_,rfl,L,p,.ref rp,k1+1,r,f,rfl,w2.s,by lia,C.mono w2.tp,nj,hp,by lia,aB r (dg hr),λy I=>i9 (au y (rd y I)),λu x k3 H3 hx wx S3 aV B3=>?_⟩))⟩;have w3:=w2.draw S3 B3;have aj:=B3 _ _ (w2.s.tup_ne hp) hp;refine jv [.int (n:Nat),.ref p] (λR h=>⟨_,rfl,_,rfl,h⟩) (by show 2<=100;decide) λp4 H4 h4 s4=>?_;refine FX (x,(n,f)) (hx.mono (.of_same s4)) ⟨p4,p,rfl,h4,s4 _ _ aj⟩ (w3.same s4).o (by rw[c9];lia) λH5 O5 B5=>?_;have M:=(w3.same s4).outs O5 B5;have aG:H5 p=some (.tup (gs f)):=B5 _ _ (λz=>by obtain⟨o2,e,_⟩:=(w3.same s4).o;have:=s4 _ _ aj;rw[z,e] at this;cases this) (s4 _ _ aj);refine⟨_,rfl,Zt (M.tp _ _ ay) rfl (.inr (.inl ⟨rfl,_,rfl,pY (λc=>?_) (λc=>?_)⟩))⟩
  ·obtain⟨y,rfl⟩:∃y,r=.give y:=by
    cases r with
    |give y=>exact⟨y,rfl⟩
    |num _ _=>exact absurd c (by show ¬("num":Str)="give";decide +kernel)
    |op _ _ _ _=>exact absurd c (by show ¬("op":Str)="give";decide +kernel)
    |call _ _ _=>exact absurd c (by show ¬("call":Str)="give";decide +kernel)
    |say _=>exact absurd c (by show ¬("say":Str)="give";decide +kernel)
    |test _ _=>exact absurd c (by show ¬("test":Str)="give";decide +kernel)
    |jump _=>cases nj
   exact q (w++[(x,(n,f))]) k3 H5 ⟨J,_,w,f,x,x,[],X,hr,ae f fg,wx,.give,rfl⟩ (by rw[<-eu];exact M.o) M.s (by lia) M.b
  have ng:∀y,r≠.give y:=λy z=>c (by rw[z];rfl);have ah:∀(af:c7) (P:Hp),BW K L ol H P k3 (out++w++[(x,(n,f))])->P p=some (.tup (gs f))->P af=some (.tup (gs (jF r f)))->
    xF K {nx:=λ_ H'=>Q .non H',rt:=Q} [XU L,XU ol,XU rt,XW n,XU kl,XW places,XW times,XU p,o8,XU rp,some (.int (outs.length:Nat)),XU af,none,none] P:=λaf P Y B aE=>
   VN (i8:=0) Y (by lia) aM pl ax hA g hr C nj ng av aI aJ hK kn t1 t2 X aN au wx B aE eh λai x' k' H' tl O' S' aW B'=>
    q (w++(x',(n,f))::ai) k' H' ⟨J,r,w,f,x,x',ai,X,hr,ae f fg,wx,tl,rfl⟩ O' S' (by lia) B'
  refine⟨_,rfl,?_⟩;refine⟨_,rfl,Zt (M.tp _ _ ay) rfl ⟨Zx,λt nt=>⟨t,_,rfl,.inr (fA.of cW),rfl,rfl,_,rfl,?_⟩⟩⟩;have s6:=(du.refl H5).new (o:=.tup [V.str "num",V.str "op",V.str "call"]) nt;have Y:=M.same s6;have B:=s6 _ _ aG;generalize upd H5 t (.tup [V.str "num",V.str "op",V.str "call"])=P at s6 Y B;refine jU (λhb=>?_) (λhb=>?_)
  ·have U:kM (.str (gG r)) [V.str "num",V.str "op",V.str "call"]=true:=hb;obtain⟨y,I⟩:=Ks U;obtain⟨aZ,az⟩:=KM C I;have ag:=Y.tp _ _ az;have ea:jF r f=jg (f.map (jz y)) (some y):=by
    unfold jF;rw[qF.mp I];rfl
   refine .inr ⟨_,rfl,p,rfl,⟨_,fA.of B⟩,λD nD=>?_⟩;refine jd (xs:=gs f) (λi ab H'=>∃o,ab=[XU L,XU ol,XU rt,XW n,XU kl,XW places,XW times,XU p,o8,XU rp,some (.int (outs.length:Nat)),XU p,none,none,o]/\H' D=some (.lst (gs ((f.take i).map (jz y))))/\du P H') ⟨none,rfl,cW,(du.refl P).new nD⟩ ?_ ?_ ?_
   ·rintro i ab H' _ ⟨o1,_,_,s'⟩;exact fA.of (s' _ _ B)
   ·rintro i z ab H' hz ⟨o1,rfl,Z,s'⟩;obtain⟨oy,ey,rfl⟩:=Af hz;have li:(gs ((f.take i).map (jz y))).length<=1000:=by rw[fk,cT,dB];lia
    have ak:∀c:V,c=oV (jz y oy)->∃ys,H' D=some (.lst ys)/\ys.length<c6/\∃o,[XU L,XU ol,XU rt,XW n,XU kl,XW places,XW times,XU p,o8,XU rp,some (.int (outs.length:Nat)),XU p,none,none,some (oV oy)]=[XU L,XU ol,XU rt,XW n,XU kl,XW places,XW times,XU p,o8,XU rp,some (.int (outs.length:Nat)),XU p,none,none,o]/\
      upd H' D (.lst (ys++[c])) D=some (.lst (gs ((f.take (i+1)).map (jz y))))/\du P (upd H' D (.lst (ys++[c]))):=by
     rintro c rfl;refine⟨_,Z,fE (by lia),_,rfl,?_,λb o hb=>?_⟩
     ·rw[cW,hY ey,dt];unfold gs;rw[dt];rfl
     ·rw[dC (de hb nD)];exact s' b o hb
    refine ib ⟨_,rfl,_,rfl,Zt (s' _ _ ag) rfl (.inr (.inl ⟨AC oy (some y),_,rfl,fM (λe=>?_) (λe=>?_)⟩))⟩
    ·refine ak _ ?_;unfold jz;rw[if_pos (show oy=some y from xi (b:=some y) e)];rfl
    ·refine⟨_,rfl,ak _ ?_⟩;unfold jz;rw[if_neg (show ¬oy=some y from λz=>e (by rw[z];rfl))]
   ·rintro ab H7 ⟨o1,_,Z,s7⟩;have et:f.take (gs f).length=f:=eK (by rw[fk];exact dk _);rw[et] at Z;refine⟨D,_,rfl,.inl ⟨fR.of Z,λp8 aK=>?_⟩⟩;have s8:=s7.trans ((du.refl H7).new (o:=.tup (gs (f.map (jz y)))) aK);have aw:upd H7 p8 (.tup (gs (f.map (jz y)))) p8=some (.tup (gs (f.map (jz y)))):=cW;show cQ (dF (eJ K) (cU 9) Zb) dh _ (upd H7 p8 (.tup (gs (f.map (jz y))))) _;generalize upd H7 p8 (.tup (gs (f.map (jz y))))=H8 at s8 aw;refine⟨_,rfl,Zt (s8 _ _ ag) rfl ⟨p8,f.map (jz y),some y,rfl,aw,by rw[cT];lia,by rw[cT];lia,λp9 H9 h9 s9=>?_⟩⟩;rw[<-ea] at h9;exact ah p9 H9 (Y.same (s8.trans s9)) ((s8.trans s9) _ _ B) h9
  ·have en:jt r=none:=by
    have U:kM (.str (gG r)) [V.str "num",V.str "op",V.str "call"]=false:=hb;cases r with
    |num _ _=>exact absurd U (by show ¬kM (.str "num") [V.str "num",V.str "op",V.str "call"]=false;decide +kernel)
    |op _ _ _ _=>exact absurd U (by show ¬kM (.str "op") [V.str "num",V.str "op",V.str "call"]=false;decide +kernel)
    |call _ _ _=>exact absurd U (by show ¬kM (.str "call") [V.str "num",V.str "op",V.str "call"]=false;decide +kernel)
    |_=>rfl
   have ea:jF r f=f:=by unfold jF;rw[en]
   exact ah p P Y B (by rw[ea];exact B)
 have bM:∀y∈J,some y∈(jc J places).take N:=λy I=>wX aH (by lia) I;refine⟨_,rfl,_,rfl,nI (fR.of av) (dz _) aT ⟨a,_,rfl,.inr ⟨fA.of ha,?_⟩⟩⟩;refine⟨Zv,λt nt=>⟨_,rfl,?_⟩⟩;have s1:=(du.refl H).new (o:=.tup [.non]) nt;have h1:upd H t (.tup [V.non]) t=some (.tup [V.non]):=cW;show kc K (.ref t) (.int (places:Nat)) (upd H t (.tup [V.non])) _;generalize upd H t (.tup [V.non])=H1 at s1 h1;refine J0 h1 (by lia) (by lia) λp2 H2 h2 s2=>?_;have aC:=s1.trans s2;refine KC (aC _ _ ha) h2 (λz=>by have:=congrArg i7 z;rw[fk,d3,jo] at this;lia) (by rw[fk,d3,cT];lia) λp3 H3 h3 s3=>?_;refine⟨_,rfl,_,rfl,AF h3 λp4 H4 h4 s4=>?_⟩;have aR:=(aC.trans s3).trans s4;have T:H4 p4=some (.tup (gs (jc J places))):=by
  rw[h4];unfold jc gs;rw[gv,dt,gZ];rfl
 have w4:=w0.same aR;have bl:=oK J places;generalize jc J places=j at T bM bl m;clear h4 h3 h2 h1;refine⟨_,rfl,L,3,k,rfl,w4.s,by lia,by decide,by decide,λd H5 d0 d1 S5 B5=>.inr (.inl ⟨rfl,_,rfl,fM (λc=>?_) (λc=>?_)⟩)⟩
 ·have M:=w4.draw S5 B5;have h5:=B5 _ _ (w4.s.tup_ne T) T;refine⟨_,rfl,_,rfl,L,(places:Nat),k+1,rfl,M.s,by lia,by lia,by lia,λd P d0 d1 S6 B6=>?_⟩;obtain⟨i,rfl⟩:=fb d0;have il:i<j.length:=by lia
  have Y:=M.draw S6 B6;have h6:=B6 _ _ (M.s.tup_ne h5) h5;obtain⟨outs,aa,ar⟩:=Y.o;refine⟨_,rfl,.inl ⟨rfl,_,fR.of aa⟩,d7 (fj (jv [.str "keep",.int (i:Nat)] (λR h=>⟨_,rfl,h⟩) (by show 2<=100;decide) λp7 H7 h7 s7=>jv [.int (n:Nat),.ref p4] (λR h=>⟨_,rfl,_,rfl,h⟩) (by show 2<=100;decide) λp8 H8 h8 s8=>?_))⟩;have G:=s7.trans s8;refine FX (.c (.keep ((i:Nat):Int)),(n,j)) ⟨p7,rfl,s8 _ _ h7⟩ ⟨p8,p4,rfl,h8,G _ _ h6⟩ (Y.same G).o (by lia) λH9 O9 B9=>?_;have w9:=(Y.same G).outs O9 B9;have h9:H9 p4=some (.tup (gs j)):=B9 _ _ (λz=>by obtain⟨o2,e,_⟩:=(Y.same G).o;have:=G _ _ h6;rw[z,e] at this;cases this) (G _ _ h6);have aA:=cP il;refine⟨_,rfl,_,rfl,_,rfl,eP h9 (dz _) (by rw[c8];exact lh aA) ⟨p4,j,j[i],rfl,h9,by lia,by lia,λaO aD aq aQ=>?_⟩⟩;have ek:jg j j[i]=qC j i:=by unfold qC;rw[aA];rfl
  rw[ek] at aq;exact m aD (k+1+1) aO [(.c (.keep ((i:Nat):Int)),(n,j))] (qC j i) _ (w9.same aQ) (by lia) aq (by rw[<-ek,kC];exact bl) (λy I=>by rw[<-ek];exact vJ (bM y I) (by lia)) (λf fg=>.yes il fg) (dk _)
 ·have M:=w4.draw S5 B5;have h5:=B5 _ _ (w4.s.tup_ne T) T;exact m H5 (k+1) p4 [] j none (by rw[fF];exact M) (by lia) h5 bl (λy I=>xK (bM y I) (by lia)) (λf fg=>.no fg) (by decide)
def VM(rs:List ed)(kss:List (List Str))(places times:Nat)(L:List XO)(m:Nat)(x:mQ)(q:oJ):Prop:=q.2.length=places/\match x with
 |.c c=>(∀a,c≠.jump a)/\∃r,rs[q.1]?=some r/\(∀i,c=.keep i->0<=i/\i.toNat<places)/\(lE c=false->sE r c q.2)/\(ij (m:Nat) c).length=(gB rs c q.1).length/\
   ∀(t:Nat) a n,(ij (m:Nat) c)[t]?=some a->(gB rs c q.1)[t]?=some n->0<=a/\∃y,L[a.toNat]?=some y/\rQ y.2 n (BE c q.2 (jt r))
 |.land _=>False
 |.jmp n t=>q.1=n/\t<times/\ov rs n/\∃b,kss[n]?=some b/\J4 (jc b places) q.2=true
def mB(rs:List ed)(kss:List (List Str))(places times:Nat)(L:List XO)(a b:Nat):Prop:=∀m x q,a<=m->m<b->L[m]?=some (x,q)->VM rs kss places times L m x q
section
variable{rs:List ed}{kss:List (List Str)}{places times:Nat}
def VM.more{L:List XO}{m:Nat}{x:mQ}{q:oJ}(h:VM rs kss places times L m x q)(B:List XO):VM rs kss places times (L++B) m x q:=by
 refine⟨h.1,?_⟩;cases x with
 |c c=>
  obtain⟨l,r,e,g,i,j,k⟩:=h.2;refine⟨l,r,e,g,i,j,λt o n b d=>?_⟩;obtain⟨z,y,a,f⟩:=k t o n b d;exact⟨z,y,by rw[dX (cR.mp a).1];exact a,f⟩
 |_=>exact h.2
def mB.more{L:List XO}(h:mB rs kss places times L 0 L.length)(B:List XO):mB rs kss places times (L++B) 0 L.length:=λm x q b a e=>by
 rw[dX a] at e;exact(h m x q b a e).more B
def mB.join{L:List XO}{a b c:Nat}(d:mB rs kss places times L a b)(h2:mB rs kss places times L b c):mB rs kss places times L a c:=λm x q f g e=>by
 by_cases z:m<b
 ·exact d m x q f z e
 ·exact h2 m x q (by lia) g e
def mB.one{L:List XO}{a:Nat}(h:∀x q,L[a]?=some (x,q)->VM rs kss places times L a x q):mB rs kss places times L a (a+1):=λm x q b c e=>by
 have:m=a:=by lia
 subst this;exact h x q e
def qy(m:Nat)(a:List (Option Str)):rQ (m,a) m a:=⟨rfl,rfl,BC a⟩
theorem Kf(m:Nat)(y:mQ):∀(l:List Str) (a:List (Option Str)) (B:List XO),∃x,(wY m a l++(y,(m,tT a l))::B)[0]?=some (x,(m,a))
 |[],a,B=>⟨y,rfl⟩
 |z::l,a,B=>⟨_,rfl⟩
theorem Nw(m:Nat)(y:mQ){r:ed}(k:rs[m]?=some r):∀(l:List Str) (a:List (Option Str)) (A B:List XO),a.length=places->zi a l->
  mB rs kss places times (A++(wY m a l++(y,(m,tT a l))::B)) A.length (A.length+l.length)
 |[],a,A,B,_,_=>λJ x q C D=>absurd C (by simp at D;lia)
 |z::l,a,A,B,g,j=>by
  have h:=Nw m y k l (jg a (some z)) (A++[(.c (.keep ((a.idxOf (some z):Nat):Int)),(m,a))]) B (by rw[kC];exact g) j.2;obtain⟨H,s⟩:=Kf m y l (jg a (some z)) B;have v:A++[(.c (.keep ((a.idxOf (some z):Nat):Int)),(m,a))]++(wY m (jg a (some z)) l++(y,(m,tT (jg a (some z)) l))::B)=A++(wY m a (z::l)++(y,(m,tT a (z::l)))::B):=by
   rw[eu];rfl
  rw[v] at h;have G:(A++[((.c (.keep ((a.idxOf (some z):Nat):Int)),(m,a)):XO)]).length=A.length+1:=by rw[c9];rfl
  rw[G] at h;have u:(A++(wY m a (z::l)++(y,(m,tT a (z::l)))::B))[A.length+1]?=some (H,(m,jg a (some z))):=by
   rw[dA (by lia),jj];exact s
  refine(mB.one λx q e=>?_).join (b:=A.length+1) (by rw[fB,show A.length+(l.length+1)=A.length+1+l.length by lia];exact h);have e:(A++(wY m a (z::l)++(y,(m,tT a (z::l)))::B))[A.length]?=some (x,q):=e;rw[dA (dk _),iv] at e;have e:=Option.some.inj e;obtain⟨o,I⟩:=IL j.1;have E:=(cR.mp o).1;cases e;refine⟨g,(λp z=>by cases z),r,k,λi w=>?_,(λz=>by cases z),rfl,λt p n d f=>?_⟩
  ·cases w;exact⟨dz _,by rw[c8,<-g];exact E⟩
  ·have d:[((A.length:Nat):Int)+1][t]?=some p:=d;have f:[m][t]?=some n:=f;obtain⟨rfl,rfl⟩:=kG d;obtain⟨_,rfl⟩:=kG f;refine⟨by lia,_,by rw[show(((A.length:Nat):Int)+1).toNat=A.length+1 by lia];exact u,?_⟩;have:BE (.keep ((a.idxOf (some z):Nat):Int)) a (jt r)=jg a (some z):=by
    show qC a ((a.idxOf (some z):Nat):Int).toNat=_;unfold qC;rw[c8,o];rfl
   rw[this];exact qy m _
theorem Nv:∀(l:List Str) (a:List (Option Str)),tT a l=(l.reverse.map some++a).take a.length
 |[],a=>by simp[tT]
 |z::l,a=>by
  show tT (jg a (some z)) l=_;rw[Nv l,kC,ma,dt,eu];unfold jg;rw[qq,qq,List.take_take];congr 2;show min _ _=_;lia
def Qv(km:List Str)(a:List (Option Str)):J4 (jc km a.length) (tT a km.reverse)=true:=by
 have e:=Nv km.reverse a;rw[List.reverse_reverse] at e;refine(oI (by rw[oK,y3])).mpr λi y h=>?_;rw[e];unfold jc at h;rw[iV] at h ⊢;by_cases c:i<a.length
 ·rw[if_pos c] at h ⊢;by_cases d:i<(km.map some).length
  ·rw[dX d] at h ⊢;exact h
  ·rw[dA (by lia)] at h;have:=dg h;rw[oX] at this;cases this.2
 ·rw[if_neg c] at h;cases h
def tN(kss:List (List Str))(m t:Nat)(a:List (Option Str))(B:List XO):∃x,(gC kss m t a++B)[0]?=some (x,(m,a)):=by
 unfold gC;rw[eu];exact Kf m _ _ a B
def vC{m t:Nat}{a:List (Option Str)}{km:List Str}(A B:List XO)(j:t<times)(f:ov rs m)(g:gE rs)(c:kss[m]?=some km)(d:a.length=places)(h:zi a km.reverse) :
  mB rs kss places times (A++(gC kss m t a++B)) A.length (A.length+(gC kss m t a).length):=by
 have e:gC kss m t a++B=wY m a km.reverse++(.jmp m t,(m,tT a km.reverse))::B:=by
  unfold gC;rw[c,eu];rfl
 have i:=cP (f.1.lt g);have k:(gC kss m t a).length=km.reverse.length+1:=by unfold gC;rw[c,c9,mr];rfl
 rw[e,k];refine(Nw m (.jmp m t) i km.reverse a A B d h).join (b:=A.length+km.reverse.length) (mB.one λx q e=>?_);rw[dA (by lia),jj,dA (by rw[mr];exact dk _),mr,iv] at e;cases Option.some.inj e;refine⟨by rw[y3];exact d,rfl,j,f,km,c,?_⟩;rw[<-d];exact Qv km a
theorem zf(g:gE rs):∀(k m:Nat),Fv rs none m->Fv rs none (runJ rs k m)
 |0,m,h=>h
 |k+1,m,h=>by
  refine zf g k (stp rs m) ?_;have b:=h.lt g;have a:=cP b;unfold stp;rw[a];cases e:rs[m] with
  |jump t=>exact .step h (by rw[a,e]) (λy z=>by cases z) (by simp[fK])
  |_=>exact h
def xC(g:gE rs){n m:Nat}{r:ed}(d:ov rs n)(b:rs[n]?=some r)(a:m∈fK n r):ov rs (runJ rs rs.length m):=
 ⟨zf g _ m (.step d.1 b (λy z=>by cases z) a),λc e=>g.ring m (g.inr n m r b a) c e⟩
def Lp{r:ed}{c:gb}{a:List (Option Str)}(d:gG r=eZ c)(b:je r=false):BE c a (jt r)=jF r a:=by
 cases sN d<;>first|rfl|cases b
def LS{r:ed}{n:Nat}(c:je r=false)(d:∀a,r≠.give a)(e:∀a b,r≠.test a b):fK n r=[n+1]:=by
 cases r with
 |jump t=>cases c
 |give a=>exact absurd rfl (d a)
 |test a b=>exact absurd rfl (e a b)
 |_=>rfl
def vS{r:ed}{c:gb}(d:gG r=eZ c)(b:je r=false):lE c=false/\∀a,c≠.jump a:=by
 cases sN d<;>first|exact⟨rfl,λa z=>by cases z⟩|cases b
def Jw{r:ed}{c:gb}{w:Int}(d:gG r=eZ c)(e:∀a,r≠.give a)(f:∀a g,r≠.test a g)(b:je r=false):ij w c=[w+1]:=by
 cases sN d<;>first|rfl|exact absurd rfl (e _)|exact absurd rfl (f _ _)|cases b
end
section
variable{rs:List ed}{kss:List (List Str)}{places times N:Nat}
def Al{n:Nat}{r:ed}{c:gb}(a:rs[n]?=some r)(b:lE c=false):gB rs c n=(fK n r).map (runJ rs rs.length):=by
 unfold gB;rw[b,a];rfl
def mB.cast{L c:List XO}{a b d e:Nat}(h:mB rs kss places times L a b)(f:L=c)(g:a=d)(i:b=e):mB rs kss places times c d e:=by subst f g i;exact h
def HI(g:gE rs)(kn:yn rs kss N places){n:Nat}{r:ed}{ks:List Str}{d:List (Option Str)}{x P:mQ}{s:List XO}(A:List XO)(R:ov rs n)(G:kss[n]?=some ks)(o:rs[n]?=some r)(f:d.length=places)(E:∀y∈ks,some y∈d.take (N+1))
  (wx:FV r x d) (tl:rh rs kss times n A.length d r x s P):mB rs kss places times (A++(P,(n,d))::s) A.length (A.length+1+s.length):=by
 have M:=R.2 r o;have h:∀(T:List XO),(A++(P,(n,d))::T)[A.length]?=some (P,(n,d)):=λT=>by rw[dA (dk _),iv];rfl
 have k:∀(T:List XO) (j:Nat),(A++(P,(n,d))::T)[A.length+1+j]?=T[j]?:=λT j=>by
  rw[dA (by lia),show A.length+1+j-A.length=j+1 by lia];rfl
 cases tl with
 |@give a x=>
  obtain⟨c,rfl,C⟩:=wx;obtain⟨S,W⟩:=vS C.wd M;refine mB.one λx q e=>?_;rw[h] at e;cases e;have ec:∃i,c=.give i:=by
   have hw:=C.wd;cases c<;>first|exact⟨_,rfl⟩|exact absurd hw (by simp only[gG,eZ];decide +kernel)
  obtain⟨i,rfl⟩:=ec;refine⟨f,W,_,o,(λi z=>by cases z),λ_=>C,by rw[Al o rfl];rfl,λt l m p X=>?_⟩;have p:([]:List Int)[t]?=some l:=p;simp at p
 |@on r x t ht ng nt=>
  have hw:∃c,x=.c c/\sE r c d:=by
   cases r with
   |test a l=>exact absurd rfl (nt a l)
   |_=>exact wx
  obtain⟨c,rfl,C⟩:=hw;obtain⟨S,W⟩:=vS C.wd M;have le:fK n r=[n+1]:=LS M ng nt;have hm:n+1∈fK n r:=by rw[le];exact dc.mpr rfl
  obtain⟨km,I,ab,U⟩:=kn.due (m:=n+1) (os':=jF r d) g G o hm f E rfl;have u:=xC g R o hm;obtain⟨x0,w⟩:=tN kss (runJ rs rs.length (n+1)) t (jF r d) [];rw[fF] at w;have B:gB rs c n=[runJ rs rs.length (n+1)]:=by rw[Al o S,le];rfl
  have cl:ij ((A.length:Nat):Int) c=[((A.length:Nat):Int)+1]:=Jw C.wd ng nt M;have Q:=vC (times:=times) (places:=places) (A++[(.c c,(n,d))]) [] ht u g I (by rw[ri];exact f) U;refine(mB.one λx q e=>?_).join (b:=A.length+1) (Q.cast (by rw[fF,eu];rfl) (by rw[c9];rfl) (by rw[c9];rfl));rw[h] at e;cases e;refine⟨f,W,_,o,(λi z=>by rw[z] at S;cases S),λ_=>C,by rw[B,cl];rfl,λv l m p X=>?_⟩;rw[cl] at p;have H:gB rs c (n,d).1=[runJ rs rs.length (n+1)]:=B;rw[H] at X;obtain⟨rfl,rfl⟩:=kG p;obtain⟨_,rfl⟩:=kG X;refine⟨by lia,_,by rw[show(((A.length:Nat):Int)+1).toNat=A.length+1+0 by lia,k];exact w,?_⟩;rw[Lp C.wd M];exact qy _ _
 |@test a l i t v ht aa=>
  obtain⟨i',ei,hi⟩:=wx;cases ei;have K:n+1∈fK n (.test a l):=by simp[fK]
  have L:l∈fK n (.test a l):=by simp[fK]
  obtain⟨km,I,ab,U⟩:=kn.due (m:=n+1) (os':=d) g G o K f E rfl;obtain⟨kt,et,ai,bt⟩:=kn.due (m:=l) (os':=d) g G o L f E rfl;have O:=xC g R o K;have u:=xC g R o L;obtain⟨x0,w⟩:=tN kss (runJ rs rs.length (n+1)) t d (gC kss (runJ rs rs.length l) v d);obtain⟨x1,p⟩:=tN kss (runJ rs rs.length l) v d [];rw[fF] at p;have B:gB rs (.test ((i:Nat):Int) ((A.length+1+(gC kss (runJ rs rs.length (n+1)) t d).length:Nat):Int)) n=[runJ rs rs.length (n+1),runJ rs rs.length l]:=by rw[Al o rfl];rfl
  generalize ag:runJ rs rs.length (n+1)=M1 at w B O I h k ⊢;generalize ah:runJ rs rs.length l=M2 at w p B u et h k ⊢;have gl:(gC kss M1 t d).length=km.length+1:=by unfold gC;rw[I,c9,mr];simp
  generalize Z:gC kss M2 v d=G2 at w p h k ⊢;have Q:=vC (times:=times) (places:=places) (t:=t) (A++[(.c (.test ((i:Nat):Int) ((A.length+1+(gC kss M1 t d).length:Nat):Int)),(n,d))]) G2 ht O g I f U;have Y:=vC (times:=times) (places:=places) (t:=v) (A++[(.c (.test ((i:Nat):Int) ((A.length+1+(gC kss M1 t d).length:Nat):Int)),(n,d))]++gC kss M1 t d) [] aa u g et f bt;rw[Z] at Y;generalize af:gC kss M1 t d=G1 at w B gl Q Y h k ⊢;refine((mB.one λx q e=>?_).join (b:=A.length+1) (Q.cast (by rw[eu];rfl) (by rw[c9];rfl) rfl)).join (Y.cast (by rw[fF,eu,eu];rfl) (by rw[c9]) (by rw[c9,c9,c9];simp only[d4];lia));rw[h] at e;cases e;refine⟨f,(λl z=>by cases z),_,o,(λi z=>by cases z),λ_=>⟨rfl,rfl,rfl,λt i' a' D J=>?_⟩,by rw[B];rfl,λv ae m D J=>?_⟩
  ·obtain⟨rfl,rfl⟩:=kG D;obtain⟨_,rfl⟩:=kG J;exact⟨dz _,by rw[c8];exact hi⟩
  ·have H:gB rs (.test ((i:Nat):Int) ((A.length+1+G1.length:Nat):Int)) (n,d).1=[M1,M2]:=B;rw[H] at J;have D:[((A.length:Nat):Int)+1,((A.length+1+G1.length:Nat):Int)][v]?=some ae:=D
   match v with
   |0=>
    cases D;cases J;exact⟨by lia,_,by rw[show(((A.length:Nat):Int)+1).toNat=A.length+1+0 by lia,k];exact w,qy _ _⟩
   |1=>
    cases D;cases J;refine⟨by lia,_,by rw[c8,k,dA (dk _),iv];exact p,qy _ _⟩
   |v+2=>simp at D
def SE(x:mQ):Prop:=∃c,x=.c c/\lE c=false
def Tr(L:List XO)(a:Nat):Prop:=(∃x q,L[a]?=some (x,q)/\SE x)\/∃i q x b,L[a]?=some (.c (.keep i),q)/\L[a+1]?=some (x,b)/\SE x
def Tr.more{L:List XO}{a:Nat}(h:Tr L a)(A B:List XO):Tr (A++(L++B)) (A.length+a):=by
 have b:∀(j:Nat) y,L[j]?=some y->(A++(L++B))[A.length+j]?=some y:=λj y e=>by
  rw[dA (by lia),jj,dX (cR.mp e).1];exact e
 rcases h with⟨x,q,e,w⟩|⟨i,q,x,d,e,c,w⟩
 ·exact .inl ⟨x,q,b a _ e,w⟩
 ·exact .inr ⟨i,q,x,d,b a _ e,b (a+1) _ c,w⟩
def PN{n b:Nat}{r:ed}{e:List (Option Str)}{x k:mQ}{d:List XO}(g:je r=false)(j:FV r x e)(q:rh rs kss times n b e r x d k):SE k:=by
 cases q with
 |@give a x=>obtain⟨c,rfl,f⟩:=j;exact⟨c,rfl,(vS f.wd g).1⟩
 |@on r x t l s p=>
  have o:∃c,x=.c c/\sE r c e:=by
   cases r with
   |test a h=>exact absurd rfl (p a h)
   |_=>exact j
  obtain⟨c,rfl,f⟩:=o;exact⟨c,rfl,(vS f.wd g).1⟩
 |@test a h i t u l m=>exact⟨_,rfl,rfl⟩
def Qy(g:gE rs)(s:yn rs kss N places){n:Nat}(L a:List XO)(D:ov rs n)(h:MV rs kss places times L.length n a) :
  mB rs kss places times (L++a) L.length (L.length+a.length)/\∃x w ks,a[0]?=some (x,(n,w))/\kss[n]?=some ks/\w.length=places/\J4 w (jc ks places)=true/\Tr a 0:=by
 obtain⟨ks,r,pre,o,x,M,tail,d,p,k,H,G,rfl⟩:=h;have K:=PN (D.2 r p) H G;have R:=s.room;have j:=oK ks places;have C:=s.few n ks d;have I:∀y∈ks,some y∈(jc ks places).take N:=λy l=>wX C (by lia) l;cases k with
 |no f=>
  refine⟨?_,M,o,ks,rfl,d,f.len.trans j,f.wk,.inl ⟨_,_,rfl,K⟩⟩;have E:=HI (times:=times) g s L D d p (f.len.trans j) (λy l=>f.fst y _ (xK (I y l) (by lia))) H G;exact E.cast rfl rfl (by rw[jq,fB];lia)
 |@yes i o P f=>
  refine⟨?_,_,jc ks places,ks,rfl,d,j,BC _,.inr ⟨_,_,_,_,rfl,rfl,K⟩⟩;have u:(qC (jc ks places) i).length=places:=by unfold qC;rw[kC,j]
  have E:=HI (times:=times) g s (L++[(.c (.keep ((i:Nat):Int)),(n,jc ks places))]) D d p (f.len.trans u) (λy l=>f.fst y _ (by unfold qC;exact vJ (I y l) (by rw[j];lia))) H (by rw[c9];exact G);refine(mB.one λx q e=>?_).join (b:=L.length+1) (E.cast (by rw[eu]) (by rw[c9];rfl) (by simp only[c9,fB,jo];lia));rw[dA (dk _),iv] at e;cases Option.some.inj e;refine⟨j,(λJ z=>by cases z),r,p,λQ O=>?_,(λz=>by cases z),rfl,λt J m v B=>?_⟩
  ·cases O;exact⟨dz _,by rw[c8,<-j];exact P⟩
  ·have v:[((L.length:Nat):Int)+1][t]?=some J:=v;have B:[n][t]?=some m:=B;obtain⟨rfl,rfl⟩:=kG v;obtain⟨_,rfl⟩:=kG B;refine⟨by lia,(M,(n,o)),by rw[show(((L.length:Nat):Int)+1).toNat=L.length+1 by lia,dA (by lia),jj];rfl,rfl,?_,?_⟩
   ·show o.length=(qC (jc ks places) ((i:Nat):Int).toNat).length;rw[c8,u];exact f.len.trans u
   ·show J4 o (qC (jc ks places) ((i:Nat):Int).toNat)=true;rw[c8];exact f.wk
def Qz(l:yn rs kss N places){n b:Nat}{c:List XO}(h:MV rs kss places times b n c):c.length<=2*N+4/\0<c.length:=by
 obtain⟨v,r,pre,d,x,z,tail,j,u,f,y,p,rfl⟩:=h;have w:pre.length<=1:=by cases f<;>simp
 have g:∀m t d,(gC kss m t d).length<=N+1:=λm t d=>by
  unfold gC;rw[c9,mr,e6];cases e:kss[m]? with
  |none=>simp
  |some k=>have:=l.few m k e;simp;exact this
 have q:tail.length<=2*N+2:=by
  cases p with
  |give=>simp
  |@on r x t _ _ _=>have:=g (runJ rs rs.length (n+1)) t (jF r d);lia
  |@test a s i t o _ _=>have:=g (runJ rs rs.length (n+1)) t d;have:=g (runJ rs rs.length s) o d;rw[c9];lia
 rw[c9,fB];lia
end
theorem vE:∀{l zs:List Str},l.Nodup->(∀y∈l,y∈zs)->l.length<=zs.length
 |[],_,_,_=>eV _
 |a::l,zs,b,h=>by
  rw[iu] at b;have c:=h a eG;have e:=vE (l:=l) (zs:=zs.erase a) b.2 λy d=>(List.mem_erase_of_ne (λz=>b.1 (by rw[<-z];exact d))).mpr (h y (fc _ d));rw[List.length_erase_of_mem c] at e;have:=lZ c;rw[fB];lia
def DX(kss:List (List Str))(places:Nat)(L:List XO)(n a:Nat):Prop:=∃x w b,L[a]?=some (x,(n,w))/\kss[n]?=some b/\w.length=places/\J4 w (jc b places)=true/\Tr L a
def DX.more{kss:List (List Str)}{places n a:Nat}{L:List XO}(h:DX kss places L n a)(B:List XO):DX kss places (L++B) n a:=by
 obtain⟨x,w,g,e,c,d,f,b⟩:=h;have b:=b.more [] B;exact⟨x,w,g,by rw[dX (cR.mp e).1];exact e,c,d,f,by rw[jq,jo,Nat.zero_add] at b;exact b⟩
def ke(f:Nat->Nat->Option Nat):mQ->gb
 |.c c=>c
 |.land i=>.test ((i:Nat):Int) 0
 |.jmp n t=>.jump (((f n t).getD 0:Nat):Int)
section
variable{rs:List ed}{kss:List (List Str)}{places times N:Nat}
def Pa(g:gE rs){L:List XO}{f:Nat->Nat->Option Nat}(all:mB rs kss places times L 0 L.length)(Z:∀n t,ov rs n->t<times->∃a,f n t=some a/\DX kss places L n a){m:Nat}(H:m<L.length):FT places rs (L.map λx=>ke f x.1) (L.map (·.2)) m:=by
 obtain⟨x,q,e⟩:∃x q,L[m]?=some (x,q):=⟨L[m].1,L[m].2,cP H⟩;have l:=all m x q (eV _) H e;have p:(L.map λx=>ke f x.1)[m]?=some (ke f x):=by rw[dw,e];rfl
 have E:(L.map (·.2))[m]?=some q:=by rw[dw,e];rfl
 have I:∀(i:Nat) y,L[i]?=some y->(L.map (·.2))[i]?=some y.2:=λi y h=>by rw[dw,h];rfl
 obtain⟨o,l⟩:=l;cases x with
 |land i=>exact l.elim
 |c c=>
  obtain⟨cj,r,G,U,W,X,Y⟩:=l;refine⟨c,q,r,p,E,G,o,U,W,λB k=>g.inr _ _ _ G k,X,λt B n d j=>?_⟩;obtain⟨z,y,R,T⟩:=Y t B n d j;exact⟨z,y.2,I _ _ R,T⟩
 |jmp n t=>
  obtain⟨J,k,K,ks,u,wk⟩:=l;obtain⟨a,S,x',w,aa,P,b,O,D,_⟩:=Z n t K k;rw[u] at b;cases b;obtain⟨r,v⟩:∃r,rs[n]?=some r:=⟨_,cP (K.1.lt g)⟩;have Q:ke f (.jmp n t)=.jump ((a:Nat):Int):=by show gb.jump (((f n t).getD 0:Nat):Int)=_;rw[S];rfl
  rw[Q] at p;rw[<-J] at v;refine⟨_,q,r,p,E,v,o,(λi z=>by cases z),(λz=>by cases z),λB k=>g.inr _ _ _ v k,rfl,λM C n' d j=>?_⟩;have d:[((a:Nat):Int)][M]?=some C:=d;have j:[q.1][M]?=some n':=j;obtain⟨rfl,rfl⟩:=kG d;obtain⟨_,rfl⟩:=kG j;refine⟨dz _,(n,w),by rw[c8];exact I _ _ P,J.symm,?_,?_⟩
  ·have s:BE (.jump ((a:Nat):Int)) q.2 (jt r)=q.2:=by
    unfold BE;cases jt r<;>rfl
   rw[s,o];exact O
  ·have s:BE (.jump ((a:Nat):Int)) q.2 (jt r)=q.2:=by
    unfold BE;cases jt r<;>rfl
   rw[s];exact MQ (by rw[oK];exact O) (by rw[oK,o]) D wk
def LY{L:List XO}{f:Nat->Nat->Option Nat}(all:mB rs kss places times L 0 L.length)(T:∀n t,ov rs n->t<times->∃a,f n t=some a/\DX kss places L n a):vq (L.map λx=>ke f x.1):=by
 have g:∀(m:Nat) x q,L[m]?=some (x,q)->(L.map λx=>ke f x.1)[m]?=some (ke f x):=λm x q e=>by rw[dw,e];rfl
 have len:(L.map λx=>ke f x.1).length=L.length:=cT _;have M:∀(m:Nat) i q,L[m]?=some (.c (.keep i),q)->m+1<L.length:=λm i q e=>by
  obtain⟨_,_,r,_,_,_,_,nx⟩:=all m _ _ (eV _) (cR.mp e).1 e;obtain⟨_,y,R,_⟩:=nx 0 _ _ rfl rfl;have:=(cR.mp R).1;lia
 have J:∀(m n t:Nat) q,L[m]?=some (.jmp n t,q)->∃a,f n t=some a/\Tr L a:=λm n t q e=>by
  obtain⟨_,_,U,Y,_⟩:=all m _ _ (eV _) (cR.mp e).1 e;obtain⟨a,o,_,_,_,_,_,_,_,l⟩:=T n t Y U;exact⟨a,o,l⟩
 have E:∀(m:Nat) x q,L[m]?=some (x,q)->SE x->oG (L.map λx=>ke f x.1) m=false:=λm x q e ⟨c,Q,w⟩=>by
  unfold oG;rw[g m x q e,Q];exact w
 have C:∀(m:Nat) i q,L[m]?=some (.c (.keep i),q)->ko (L.map λx=>ke f x.1) m=m+1:=λm i q e=>by
  unfold ko;rw[g m _ q e];rfl
 have K:∀(m n t a:Nat) q,L[m]?=some (.jmp n t,q)->f n t=some a->ko (L.map λx=>ke f x.1) m=a:=λm n t a q e P=>by
  unfold ko;rw[g m _ q e];show(((f n t).getD 0:Nat):Int).toNat=a;rw[P];rfl
 have u:∀a,Tr L a->a<L.length:=λa h=>by
  rcases h with⟨_,_,e,_⟩|⟨_,_,_,_,e,_,_⟩<;>exact(cR.mp e).1
 have b:∀(m:Nat),m<L.length->oG (L.map λx=>ke f x.1) m=false\/(∃i q,L[m]?=some (.c (.keep i),q))\/∃n t q,L[m]?=some (.jmp n t,q):=λm s=>by
  obtain⟨x,q,e⟩:∃x q,L[m]?=some (x,q):=⟨L[m].1,L[m].2,cP s⟩;cases x with
  |land i=>exact(all m _ _ (eV _) s e).2.elim
  |jmp n t=>exact .inr (.inr ⟨n,t,q,e⟩)
  |c c=>
   cases c with
   |keep i=>exact .inr (.inl ⟨i,q,e⟩)
   |jump Z=>exact absurd rfl ((all m _ _ (eV _) s e).2.1 Z)
   |_=>exact .inl (E m _ q e ⟨_,rfl,rfl⟩)
 have j:∀(d m:Nat),L.length-m<=d->m<L.length->∃k,oG (L.map λx=>ke f x.1) (oN (ko (L.map λx=>ke f x.1)) k m)=false:=by
  intro d
  induction d with
  |zero=>intro m S H;lia
  |succ d W=>
   intro m S H;rcases b m H with h|⟨i,q,e⟩|⟨n,t,q,e⟩
   ·exact⟨0,h⟩
   ·obtain⟨k,z⟩:=W (m+1) (by lia) (M m i q e);exact⟨k+1,by show oG _ (oN _ k (ko _ m))=false;rw[C m i q e];exact z⟩
   ·obtain⟨a,o,l⟩:=J m n t q e;have G:=K m n t a q e o;rcases l with⟨x,D,v,w⟩|⟨i,D,x,X,v,O,w⟩
    ·exact⟨1,by show oG _ (ko _ m)=false;rw[G];exact E a x D v w⟩
    ·exact⟨2,by show oG _ (ko _ (ko _ m))=false;rw[G,C a i D v];exact E (a+1) x X O w⟩
 intro n B;rw[len] at B ⊢;cases h:oG (L.map λx=>ke f x.1) (oN (ko (L.map λx=>ke f x.1)) L.length n) with
 |false=>rfl
 |true=>
  obtain⟨k,z⟩:=j L.length n (by lia) B;have:=Gm (p:=oG (L.map λx=>ke f x.1)) (EY _) (λm s I=>by
   rcases b m s with h|⟨i,q,e⟩|⟨n,t,q,e⟩
   ·rw[h] at I;cases I
   ·rw[C m i q e];exact M m i q e
   ·obtain⟨a,o,l⟩:=J m n t q e;rw[K m n t a q e o];exact u a l) B h k
  rw[z] at this;cases this
end
def Jc{b:gQ}{kss:List (List Str)}{places times:Nat}{L:List XO}{f:Nat->Nat->Option Nat}{x:mQ}(g:gE b.rows)(all:mB b.rows kss places times L 0 L.length)(j:∀n t,ov b.rows n->t<times->∃a,f n t=some a/\DX kss places L n a)
  (d:L[0]?=some (x,(runJ b.rows b.rows.length 0,jc b.params.reverse places))):qt places b (L.map λx=>ke f x.1) (L.map (·.2)):=by
 refine⟨by rw[cT,cT],λi q e=>?_,⟨_,by rw[dw,d];rfl,qy _ _⟩,λm c=>Pa g all j (by rw[cT] at c;exact c)⟩;rw[dw] at e;cases h:L[i]? with
 |none=>rw[h] at e;cases e
 |some y=>
  rw[h] at e;have e:=Option.some.inj e;subst e;exact(all i y.1 y.2 (eV _) (cR.mp h).1 h).1
def V0{b:gQ}{ys us:List Str}{P:List Nat}{kss:List (List Str)}{places:Nat}(K:pf ys P b)(v:∀y,m7 [b] y->y∈us)(u:2*us.length+2<=places)(s:places<=100)(o:kss.length=b.rows.length)(I:∀(i:Nat) ks,kss[i]?=some ks->ks.length<=max us.length b.params.length/\∀y∈ks,y∈us\/y∈b.params)
  (kn:zu b.params b.rows kss) (lU:rR us b.params b.rows kss):yn b.rows kss us.length places:=by
 have t:∀y∈b.params,y∈us:=λy c=>v y ⟨b,dc.mpr rfl,.inl c⟩;have pl:=vE K.pnd t;refine⟨o,λn ks e=>by have:=(I n ks e).1;lia,λn r ks sd g D y c=>?_,kn.on,u,s⟩;obtain⟨a,H,f,rd⟩:=K.known;have l:∀n,Fv b.rows none n->∀ks,a[n]?=some ks->∀y∈ks,y∈us:=λn w=>by
  induction w with
  |zero=>exact λks e y c=>t y (f.zero ks e y c)
  |@step n m r w g _ E X=>
   intro km T y c;obtain⟨p,J⟩:∃k,a[n]?=some k:=⟨_,cP (by rw[H];exact(cR.mp g).1)⟩;rcases f.on n m r p km g E J T y c with z|z
   ·exact X p J y z
   ·exact v y ⟨b,dc.mpr rfl,.inr ⟨r,dg g,qF.mp z⟩⟩
 obtain⟨G,x⟩:∃k,a[n]?=some k:=⟨_,cP (by rw[H];exact(cR.mp g).1)⟩;have L:=rd n r G g x y c;have d:∀(i:Nat) j,(a.map λks=>ks.filter λy=>decide (y∈us))[i]?=some j->∃k,a[i]?=some k/\j=k.filter λy=>decide (y∈us):=λi j e=>by
  rw[dw] at e;cases h:a[i]? with
  |none=>rw[h] at e;cases e
  |some k=>rw[h] at e;exact⟨k,rfl,(Option.some.inj e).symm⟩
 have q:∀(k:List Str) y,y∈k.filter (λy=>decide (y∈us))↔y∈k/\y∈us:=λk y=>by rw[ir,decide_eq_true_eq]
 refine lU (a.map λks=>ks.filter λy=>decide (y∈us)) (by rw[cT,H]) (λi j e y c=>?_) ⟨λj e y c=>?_,λn m r Y Z g E Q R y c=>?_⟩ n ks (G.filter λy=>decide (y∈us)) D (by rw[dw,x];rfl) y ((q _ _).mpr ⟨L,l n sd.1 G x y L⟩)
 ·obtain⟨k,_,rfl⟩:=d i j e;exact((q _ _).mp c).2
 ·obtain⟨k,S,rfl⟩:=d 0 j e;exact f.zero k S y ((q _ _).mp c).1
 ·obtain⟨M,B,rfl⟩:=d n Y Q;obtain⟨O,C,rfl⟩:=d m Z R;obtain⟨U,W⟩:=(q _ _).mp c;exact(f.on n m r M O g E B C y U).imp (λz=>(q _ _).mpr ⟨z,W⟩) id
def zZ(n t:Nat):List iC:=[some (.inr "at"),some (.inl ((n:Nat):Int)),some (.inl ((t:Nat):Int))]
def Q0{n t c t':Nat}(h:zZ n t=zZ c t'):n=c/\t=t':=by
 unfold zZ at h;injection h with _ h;injection h with a h;injection h with b _;have a:=Sum.inl.inj (Option.some.inj a);have b:=Sum.inl.inj (Option.some.inj b);exact⟨by lia,by lia⟩
structure CU(kvs:List (List iC×V))(f:Nat->Nat->Option Nat):Prop where
 at_:∀n t,kq kvs (zZ n t)=(f n t).map λa=>V.int ((a:Nat):Int)
 only:∀k v,kq kvs k=some v->∃n t,k=zZ n t
def CU.put{kvs:List (List iC×V)}{f:Nat->Nat->Option Nat}(h:CU kvs f)(n t a:Nat):CU (lj kvs (zZ n t) (.int ((a:Nat):Int))) λb t'=>if b=n/\t'=t then some a else f b t':=by
 refine⟨λb t'=>?_,λk v e=>?_⟩
 ·rw[HM];by_cases c:b=n/\t'=t
  ·obtain⟨rfl,rfl⟩:=c;rw[if_pos rfl,if_pos ⟨rfl,rfl⟩];rfl
  ·rw[if_neg (λz=>c (Q0 z)),if_neg c];exact h.at_ b t'
 ·rw[HM] at e;by_cases c:k=zZ n t
  ·exact⟨n,t,c⟩
  ·rw[if_neg c] at e;exact h.only k v e
def Qt(H:Hp)(kvs:List (List iC×V))(v a:V):Prop:=(((∃i,v=.int i)\/∃s,v=.str s)/\a=v)\/∃b k,v=.ref b/\H b=some (.tup (k.map kN))/\a=(kq kvs k).getD v
def Qt.mono{H H':Hp}{kvs:List (List iC×V)}{v a:V}(h:Qt H kvs v a)(t:Tp H H'):Qt H' kvs v a:=h.imp id λ⟨b,k,e,d,c⟩=>⟨b,k,e,t _ _ d,c⟩
def W8{K:Fg}{a:c7}{x y:V}{xs:List V}{H:Hp}{Q:VK}(b:H a=some (.tup (x::y::xs)))(q:∀p,H p=none->Q (.ref p) (upd H p (.tup (y::xs)))):jH K (.ref a) (some 1) none H Q:=by
 refine .inr (.inr ⟨a,_,rfl,fA.of b,F6 x (by simp),λp c=>?_⟩);rw[F7];exact q p c
def R5{K:Fg}{f:St}{H:Hp}{R:VK}{pu d:c7}{w:Str}{vs vs':List V}{kvs:List (List iC×V)}(r:f[13]?=some (some (.ref pu)))(h8:f[8]?=some (some (.ref d)))(Y:f.length=15)(u:H pu=some (.tup (.str w::vs)))(U:vs≠[])(vl:vs.length<=10)
  (hd:H d=some (.dT kvs)) (P:kvs≠[]) (all:dZ (Qt H kvs) vs vs') (q:∀p H',H' p=some (.tup (.str w::vs'))->du H H'->R (.ref p) H') :
  (dF (gD K) (oz (jH K) (cU 13) fo (gH Zb)) (iN (gK K) (cQ (iq [] 1 (kz K (oz (jH K) (cU 13) (gH Zb) fo)) (dy 15) kX (zd (cU 8) (cU 15) (cU 15))) dh))) f H R:=by
 obtain⟨y,e,rfl⟩:∃y e,vs=y::e:=by cases vs with|nil=>exact absurd rfl U|cons y e=>exact⟨y,e,rfl⟩
 refine⟨_,r,_,rfl,AF (c:=1) u λp1 B h1 s1=>?_⟩;refine .inr ⟨_,r,_,rfl,W8 (s1 _ _ u) λI v=>?_⟩;have J:=s1.trans ((du.refl B).new (o:=.tup (y::e)) v);have O:upd B I (.tup (y::e)) I=some (.tup (y::e)):=cW;have n:=((du.refl B).new (o:=.tup (y::e)) v) _ _ h1;show ∃a,_;generalize upd B I (.tup (y::e))=C at J O n;refine⟨I,rfl,⟨_,fA.of O⟩,λD nD=>?_⟩;have S:Tp H C:=.of_same J;refine jd (xs:=y::e) (λi g H'=>∃o,g=f++[o]/\H' D=some (.lst (vs'.take i))/\du C H') ⟨none,rfl,cW,(du.refl C).new nD⟩ ?_ ?_ ?_
 ·rintro i g H' _ ⟨o,_,_,s⟩;exact fA.of (s _ _ O)
 ·rintro i x g H' Z ⟨o,rfl,E,s⟩;obtain⟨x',M,tr⟩:=all.of_v Z;have il:i<(y::e).length:=(cR.mp Z).1;have h:=s _ _ (J _ _ hd);have T:=tr.mono (S.trans (.of_same s));have j:(f++[o]).set 15 (some x)=f++[some x]:=by rw[List.set_append_right _ _ (by lia),Y];rfl
  have g8:∀z:Option V,(f++[z])[8]?=some (some (.ref d)):=λz=>by rw[dX (by lia)];exact h8
  have m:∀z:Option V,(f++[z])[15]?=some z:=λz=>by rw[dA (by lia),Y];rfl
  have l:∃L,H' D=some (.lst L)/\L.length<c6/\∃o,f++[some x]=f++[o]/\upd H' D (.lst (L++[x'])) D=some (.lst (vs'.take (i+1)))/\du C (upd H' D (.lst (L++[x']))):=
   ⟨_,E,fE (by rw[dB];lia),_,rfl,by rw[cW,hY M],λb o G=>by rw[dC (de G nD)];exact s b o G⟩
  show vP D kX (zd (cU 8) (cU 15) (cU 15)) _ ((f++[o]).set 15 (some x)) H';rw[j];refine ib ⟨_,g8 _,d,rfl,.inr ⟨_,.inl h⟩,_,m _,_,m _,?_⟩;rcases T with⟨fl,rfl⟩|⟨b,k,rfl,G,rfl⟩
  ·exact .inr ⟨⟨kvs,P,h,fl⟩,l⟩
  ·exact .inl ⟨_,vi.t h G,l⟩
 ·rintro g X ⟨o,_,E,s3⟩;have et:vs'.take (y::e).length=vs':=eK (by rw[all.len];exact dk _);rw[et] at E;refine⟨D,_,rfl,.inl ⟨fR.of E,λp4 Q=>?_⟩⟩;have s4:=(du.refl X).new (o:=.tup vs') Q;have h4:upd X p4 (.tup vs') p4=some (.tup vs'):=cW;refine KC (s4 _ _ (s3 _ _ n)) h4 ?_ ?_ λp5 H5 h5 s5=>q p5 H5 h5 ((J.trans s3).trans (s4.trans s5))
  ·rintro rfl;have:=all.len;simp at this
  ·show 1+vs'.length<=5000;rw[<-all.len];lia
def Qt.int{H:Hp}{kvs:List (List iC×V)}(i:Int):Qt H kvs (.int i) (.int i):=.inl ⟨.inl ⟨i,rfl⟩,rfl⟩
def Qt.str{H:Hp}{kvs:List (List iC×V)}(s:Str):Qt H kvs (.str s) (.str s):=.inl ⟨.inr ⟨s,rfl⟩,rfl⟩
def WB{H:Hp}{u:V}{x:mQ}{kvs:List (List iC×V)}{f:Nat->Nat->Option Nat}(h:uP H u x)(y:CU kvs f)(E:∀i,x≠.land i)(D:∀n t,x=.jmp n t->∃a,f n t=some a) :
  ∃o w vs vs',u=.ref o/\H o=some (.tup (.str w::vs))/\vs≠[]/\vs.length<=10/\dZ (Qt H kvs) vs vs'/\∀p H',H' p=some (.tup (.str w::vs'))->Tp H H'->hI H' (.ref p) (ke f x):=by
 cases x with
 |land i=>exact absurd rfl (E i)
 |jmp n t=>
  obtain⟨p,a,rfl,B,C⟩:=h;obtain⟨b,e⟩:=D n t rfl;refine⟨p,_,[.ref a],[.int ((b:Nat):Int)],rfl,B,by simp,by simp,dZ.cons (.inr ⟨a,zZ n t,rfl,C,?_⟩) .nil,λg H' d _=>⟨g,rfl,?_⟩⟩
  ·rw[y.at_,e];rfl
  ·rw[d,e];rfl
 |c c=>
  cases c with
  |num z=>obtain⟨p,rfl,h⟩:=h;exact⟨p,_,_,_,rfl,h,by simp,by simp,dZ.cons (.int z) .nil,λg H' d _=>⟨g,rfl,d⟩⟩
  |op s i j=>obtain⟨p,rfl,h⟩:=h;exact⟨p,_,_,_,rfl,h,by simp,by simp,dZ.cons (.str s) (dZ.cons (.int i) (dZ.cons (.int j) .nil)),λg H' d _=>⟨g,rfl,d⟩⟩
  |keep i=>obtain⟨p,rfl,h⟩:=h;exact⟨p,_,_,_,rfl,h,by simp,by simp,dZ.cons (.int i) .nil,λg H' d _=>⟨g,rfl,d⟩⟩
  |say i=>obtain⟨p,rfl,h⟩:=h;exact⟨p,_,_,_,rfl,h,by simp,by simp,dZ.cons (.int i) .nil,λg H' d _=>⟨g,rfl,d⟩⟩
  |jump i=>obtain⟨p,rfl,h⟩:=h;exact⟨p,_,_,_,rfl,h,by simp,by simp,dZ.cons (.int i) .nil,λg H' d _=>⟨g,rfl,d⟩⟩
  |test i j=>obtain⟨p,rfl,h⟩:=h;exact⟨p,_,_,_,rfl,h,by simp,by simp,dZ.cons (.int i) (dZ.cons (.int j) .nil),λg H' d _=>⟨g,rfl,d⟩⟩
  |give i=>obtain⟨p,rfl,h⟩:=h;exact⟨p,_,_,_,rfl,h,by simp,by simp,dZ.cons (.int i) .nil,λg H' d _=>⟨g,rfl,d⟩⟩
  |call k l=>
   obtain⟨p,q,rfl,h,m⟩:=h;refine⟨p,_,_,[.int k,.ref q],rfl,h,by simp,by simp,dZ.cons (.int k) (dZ.cons (.inr ⟨q,l.map λi=>some (.inl i),rfl,?_,?_⟩) .nil),λg H' d t=>⟨g,q,rfl,d,t _ _ m⟩⟩
   ·rw[m,gZ];rfl
   ·have:kq kvs (l.map λi=>(some (.inl i):iC))=none:=by
     cases e:kq kvs (l.map λi=>(some (.inl i):iC)) with
     |none=>rfl
     |some v=>
      obtain⟨n,t,z⟩:=y.only _ v e;cases l with
      |nil=>cases z
      |cons i r=>
       rw[gu] at z;injection z with z _;cases Option.some.inj z
    rw[this];rfl
def UU{K:Fg}{H:Hp}{Q:VK}{pt X d qa ra:c7}{nm:Str}{params:List Str}{L:List XO}{kvs:List (List iC×V)}{f:Nat->Nat->Option Nat}{s0 t2 t3 s4 s5 s6 s9 C E:Option V}(ai:H pt=some (.tup [.str nm,.ref qa,.ref ra]))(ak:H qa=some (.tup (params.map V.str)))
  (ho:rg H X L) (hL:L.length<=99999) (hd:H d=some (.dT kvs)) (ao:kvs≠[]) (sk:CU kvs f) (nl:∀(m:Nat) i q,L[m]?≠some (.land i,q)) (hj:∀(m:Nat) n t q,L[m]?=some (.jmp n t,q)->∃a,f n t=some a)
  (q:∀(p cp pp:c7) (e:List V) (H':Hp),H' p=some (.tup [.ref cp,.ref pp])->j7 H' (.ref cp) (((params.length:Nat):Int),L.map λx=>ke f x.1)->H' pp=some (.tup e)->dZ (sD H') e (L.map (·.2))->du H H'->Q (.ref p) H') :
  qi K {nx:=λ_ H'=>Q .non H',rt:=Q} [s0,XU pt,t2,t3,s4,s5,s6,XU X,XU d,s9,C,E,none] H:=by
 obtain⟨outs,B,M⟩:=ho;refine .inl ⟨_,rfl,X,rfl,⟨_,fR.of B⟩,λD nD=>?_⟩;refine lg (xs:=outs) (λi g H'=>∃T U c,g=[s0,XU pt,t2,t3,s4,s5,s6,XU X,XU d,s9,C,E,none,T,U]/\H' D=some (.lst c)/\dZ (hI H') c ((L.take i).map λx=>ke f x.1)/\du H H') ⟨none,none,[],rfl,cW,.nil,(du.refl H).new nD⟩ ?_ ?_ ?_
 ·rintro i g H' _ ⟨_,_,_,_,_,_,s⟩;exact fR.of (s _ _ B)
 ·rintro i v g H' hv ⟨T,U,c,rfl,hD,O,s⟩;obtain⟨⟨x,q0⟩,ex,p0,u,w0,rfl,h0,hu,hw⟩:=M.of_v hv;have il:i<outs.length:=(cR.mp hv).1;have tp:Tp H H':=.of_same s;obtain⟨pu,w,vs,vs',rfl,aj,ay,vl,all,mk⟩:=WB (x:=x) (f:=f) (hu.mono tp) sk (λi z=>nl _ i q0 (by rw[ex,z])) (λn t z=>hj _ n t q0 (by rw[ex,z]));refine⟨p0,_,rfl,fA.of (s _ _ h0),rfl,_,_,rfl,_,_,rfl,rfl,ib ?_⟩;refine R5 (vs:=vs) (vs':=vs') rfl rfl rfl aj ay vl (s _ _ hd) ao all λp J hp R=>?_;have aq:D≠p:=λz=>by rw[<-z,R _ _ hD] at hp;cases hp
  have l:c.length=i:=by rw[O.len,cT,dB,<-M.len];lia
  have S:(L.take (i+1)).map (λx=>ke f x.1)=(L.take i).map (λx=>ke f x.1)++[ke f x]:=by rw[hY ex,dt];rfl
  have tD:Tp H' (upd J D (.lst (c++[.ref p]))):=Tp.lst (.of_same R) (R _ _ hD);refine⟨c,R _ _ hD,fE (by rw[l];have:=M.len;lia),_,_,c++[.ref p],rfl,cW,?_,λb o hb=>by rw[dC (de hb nD)];exact R _ _ (s _ _ hb)⟩;rw[S];refine(O.imp λ_ _ z=>z.mono tD).snoc (mk p _ (by rw[dC (Ne.symm aq)];exact hp) tD)
 ·rintro g I ⟨T,U,c,_,hD,O,s1⟩;rw[M.len,fV] at O;have aw:=s1 _ _ ak;show uy K _ [s0,XU pt,t2,t3,s4,s5,s6,XU X,XU d,s9,C,E,XU D] I;refine fj (d7 (fj (d7 ⟨_,rfl,Zt (s1 _ _ ai) rfl ⟨_,_,rfl,.inr ⟨_,fA.of aw,rfl⟩,d7 ⟨_,rfl,D,c,rfl,.inl ⟨fR.of hD,λj af=>⟨Zw,λr ar=>?_⟩⟩⟩⟩⟩)));have R:=s1.trans ((du.refl I).new (o:=.tup c) af);have h2:upd I j (.tup c) j=some (.tup c):=cW;have aa:dZ (hI (upd I j (.tup c))) c (L.map λx=>ke f x.1):=O.imp λ_ _ z=>z.mono (.of_same ((du.refl I).new af));have h:upd I j (.tup c) r=none:=ar;show(cQ (iN (gK K) (cQ (iq [] 2 (kz K (cU 7)) (tU K 2 (jw (dy 13) (jw (dy 14) sF))) kX (cU 14)) dh)) dh) _ (upd (upd I j (.tup c)) r (.tup [.int ((params.map V.str).length:Nat),.ref j])) _;generalize upd I j (.tup c)=J at R h2 aa h;have s3:=R.trans ((du.refl J).new (o:=.tup [.int ((params.map V.str).length:Nat),.ref j]) h);have h3:upd J r (.tup [V.int ((params.map V.str).length:Nat),.ref j]) r=some (.tup [V.int ((params.map V.str).length:Nat),.ref j]):=cW;have Z:=((du.refl J).new (o:=.tup [.int ((params.map V.str).length:Nat),.ref j]) h) _ _ h2;have ab:dZ (hI (upd J r (.tup [V.int ((params.map V.str).length:Nat),.ref j]))) c (L.map λx=>ke f x.1):=aa.imp λ_ _ z=>z.mono (.of_same ((du.refl J).new h));generalize upd J r (.tup [V.int ((params.map V.str).length:Nat),.ref j])=H3 at s3 h3 Z ab;rw[cT] at h3;refine d7 (.inl ⟨_,rfl,X,rfl,⟨_,fR.of (s3 _ _ B)⟩,λD2 ae=>?_⟩);refine lg (xs:=outs) (λi g H'=>∃T U c,g=[s0,XU pt,t2,t3,s4,s5,s6,XU X,XU d,s9,C,E,XU D,T,U]/\H' D2=some (.lst c)/\dZ (sD H') c ((L.take i).map (·.2))/\du H3 H') ⟨none,none,[],rfl,cW,.nil,(du.refl H3).new ae⟩ ?_ ?_ ?_
  ·rintro i g H' _ ⟨_,_,_,_,_,_,s⟩;exact fR.of (s _ _ (s3 _ _ B))
  ·rintro i v g H' hv ⟨T,U,c,rfl,y,O,s⟩;obtain⟨⟨x,q0⟩,ex,p0,u,w0,rfl,h0,hu,hw⟩:=M.of_v hv;have il:i<outs.length:=(cR.mp hv).1;have tp:Tp H H':=.of_same (s3.trans s);refine⟨p0,_,rfl,fA.of (tp _ _ h0),rfl,_,_,rfl,_,_,rfl,rfl,ib ⟨_,rfl,?_⟩⟩;have l:c.length=i:=by rw[O.len,cT,dB,<-M.len];lia
   have S:(L.take (i+1)).map (·.2)=(L.take i).map (·.2)++[q0]:=by rw[hY ex,dt];rfl
   have tD:Tp H' (upd H' D2 (.lst (c++[w0]))):=Tp.lst (.refl H') y;refine⟨c,y,fE (by rw[l];have:=M.len;lia),_,_,c++[w0],rfl,cW,?_,λb o hb=>by rw[dC (de hb ae)];exact s _ _ hb⟩;rw[S];exact(O.imp λ_ _ z=>z.mono tD).snoc ((hw.mono tp).mono tD)
  ·rintro g Y ⟨T,U,e,_,y,hP,ax⟩;rw[M.len,fV] at hP;refine⟨D2,e,rfl,.inl ⟨fR.of y,λP au=>⟨Zw,λp6 av=>?_⟩⟩⟩;have ag:=(du.refl Y).new (o:=.tup e) au;have h5:upd Y P (.tup e) P=some (.tup e):=cW;have k:upd Y P (.tup e) p6=none:=av;show Q (.ref p6) (upd (upd Y P (.tup e)) p6 (.tup [.ref r,.ref P]));generalize upd Y P (.tup e)=H5 at ag h5 k;have ah:=ag.trans ((du.refl H5).new (o:=.tup [.ref r,.ref P]) k);have G:=ax.trans ah;refine q p6 r P e _ cW ⟨r,j,c,rfl,G _ _ h3,G _ _ Z,ab.imp λ_ _ z=>z.mono (.of_same G)⟩ (((du.refl H5).new k) _ _ h5) (hP.imp λ_ _ z=>z.mono (.of_same ah)) (s3.trans G)
def OH(kvs:List (List iC×V))(k:List iC)(v:V):(lj kvs k v).length<=kvs.length+1/\lj kvs k v≠[]:=by
 unfold lj;split
 ·rename_i h;refine⟨by rw[cT];lia,λz=>?_⟩;rw[oq] at z;rw[z] at h;cases h
 ·exact⟨by rw[c9];exact dk _,by simp⟩
def U3{ns:List Nat}(a:ns.Pairwise (·<·)){i j n:Nat}(e:ns[i]?=some n)(f:ns[j]?=some n):i=j:=by
 obtain⟨b,g⟩:=cR.mp e;obtain⟨d,h⟩:=cR.mp f;rw[List.pairwise_iff_getElem] at a;rcases me i j with c|c|c
 ·have:=a i j b d c;lia
 ·exact c
 ·have:=a j i d b c;lia
structure vu(ns:List Nat)(f:Nat->Nat->Option Nat)(j:Nat):Prop where
 i1:∀(i n:Nat),ns[i]?=some n->i<j->∃a,f n 0=some a
 i2:∀(i n:Nat),ns[i]?=some n->j<=i->f n 0=none
 i3:∀(i n:Nat),ns[i]?=some n->i+ns.length<j->∃a,f n 1=some a
def vu.lo{ns:List Nat}{f:Nat->Nat->Option Nat}{j n a:Nat}(h:vu ns f j)(o:ns.Pairwise (·<·))(e:ns[j]?=some n):vu ns (λk t'=>if k=n/\t'=0 then some a else f k t') (j+1):=by
 have q:=(cR.mp e).1;refine⟨λi m d g=>?_,λi m d g=>?_,λi m d g=>by lia⟩
 ·by_cases c:m=n
  ·exact⟨a,by simp only[c,and_self,if_true]⟩
  ·have p:i≠j:=λz=>by
    rw[z,e] at d;exact absurd (Option.some.inj d).symm c
   obtain⟨b,l⟩:=h.i1 i m d (by lia);exact⟨b,by simp only[c,false_and,if_false];exact l⟩
 ·have c:m≠n:=λz=>by rw[z] at d;have:=U3 o d e;lia
  simp only[c,false_and,if_false];exact h.i2 i m d (by lia)
def vu.hi{ns:List Nat}{f:Nat->Nat->Option Nat}{j n a:Nat}(h:vu ns f j)(o:ns.length<=j)(e:ns[j-ns.length]?=some n):vu ns (λl t'=>if l=n/\t'=1 then some a else f l t') (j+1):=by
 have q:=(cR.mp e).1;refine⟨λi m d k=>?_,λi m d k=>?_,λi m d k=>?_⟩
 ·obtain⟨b,g⟩:=h.i1 i m d (by have:=(cR.mp d).1;lia);refine⟨b,?_⟩;have:¬(m=n/\(0:Nat)=1):=λz=>absurd z.2 (by decide);simp only[this,if_false];exact g
 ·have:=(cR.mp d).1;lia
 ·by_cases c:m=n
  ·exact⟨a,by simp only[c,and_self,if_true]⟩
  ·have p:i≠j-ns.length:=λz=>by
    rw[z,e] at d;exact absurd (Option.some.inj d).symm c
   obtain⟨b,g⟩:=h.i3 i m d (by lia);exact⟨b,by simp only[c,false_and,if_false];exact g⟩
structure CN(K:Fg)(H:Hp)(st ol d kl it:c7)(rs:List ed)(kss:List (List Str))(refs xs:List V)(N places times k1:Nat)(ns:List Nat)(L0:List XO)(j:Nat)(H':Hp)(k':Nat)(L:List XO)(f:Nat->Nat->Option Nat)(kvs:List (List iC×V)):Prop where
 s:j5 K H' st k'
 kle:k'<=k1+20*j
 o:rg H' ol L
 ol_:L.length<=L0.length+(2*N+4)*j
 all:mB rs kss places times L 0 L.length
 pre:∃T,L=L0++T
 hd:H' d=some (.dT kvs)
 kl_:kvs.length<=j
 kne:0<j->kvs≠[]
 sk:CU kvs f
 ok:∀n t a,f n t=some a->DX kss places L n a
 si:vu ns f j
 hk:H' kl=some (.lst refs)
 tk:dZ (qu H') refs kss
 it_:H' it=some (.lst xs)
 b:iO st H H'
def LU{K:Fg}{H:Hp}{st x d G it ra pt:c7}{O:List V}{rs:List ed}{kss:List (List Str)}{k xs:List V}{N places times k1 j n h:Nat}{ns:List Nat}{L0 L:List XO}{H':Hp}{k':Nat}{f:Nat->Nat->Option Nat}{kvs:List (List iC×V)}{s1 s2 s6 s9 o11 s12:Option V}{D:pd}
  (aa:H ra=some (.tup O)) (M:dZ (gR H) O rs) (g:gE rs) (rl:∀r∈rs,(iw r).length<=10) (kn:yn rs kss N places) (aG:st≠x) (ah:G≠st) (ai:G≠x) (aA:it≠st) (aB:it≠x) (S0:∃ys,H st=some (.lst ys)) (aC:H x=none) (nd:H d=none) (t1:1<=times) (t2:times<=2)
  (k6:k1<=650000) (l0:L0.length<=200) (aK:j<=128) (sd:ov rs n) (w:CN K H st x d G it rs kss k xs N places times k1 ns L0 j H' k' L f kvs)
  (av:h=(if(f n 0).isSome then 1 else 0)) (au:∀a,vu ns (λv t'=>if v=n/\t'=h then some a else f v t') (j+1))
  (q:∀H2 k2 L2 f2 ab,CN K H st x d G it rs kss k xs N places times k1 ns L0 (j+1) H2 k2 L2 f2 ab->D.nx [XU st,s1,s2,XW places,XU ra,XU G,s6,XU x,XU d,s9,XW times,XW n,s12] H2) :
  uA K D [XU st,s1,s2,XW places,XU ra,XU G,s6,XU x,XU d,s9,XW times,XW n,s12] H':=by
 have m:=w.o;obtain⟨outs,m,X⟩:=m;have aL:=kn.most;have aM:=kn.room;have Ll:L.length<=200+102*j:=by
  have h1:=w.ol_;have h2:(2*N+4)*j<=102*j:=Nat.mul_le_mul_right _ (by lia);lia
 refine vw ⟨_,rfl,_,_,rfl,.inl ⟨_,fR.of m,rfl⟩,_,rfl,fj (nY (pX rfl (d7 ⟨_,rfl,Zx,λp1 aD=>?_⟩)))⟩;have P:=(du.refl H').new (o:=.tup [.str "at",.int (n:Nat),.int 0]) aD;have h1:upd H' p1 (.tup [V.str "at",.int (n:Nat),.int 0]) p1=some (.tup ((zZ n 0).map kN)):=cW;show cU 8 _ _ _;generalize upd H' p1 (.tup [V.str "at",.int (n:Nat),.int 0])=U at P h1;have ar:=P _ _ w.hd;refine⟨_,rfl,d,_,rfl,vi.t ar h1,.inr ⟨_,rfl,Zx,λR aE=>?_⟩⟩;have eb:(kq kvs (zZ n 0)).isSome=(f n 0).isSome:=by rw[w.sk.at_,mf]
 have et:V.int (if(if false=true then !(kq kvs (zZ n 0)).isSome else(kq kvs (zZ n 0)).isSome)=true then 1 else 0)=.int ((h:Nat):Int):=by
  rw[av,eb];cases(f n 0).isSome<;>rfl
 show GJ (.ref d) (.ref R) (.int (outs.length:Nat)) (upd U R (.tup [.str "at",.int (n:Nat),V.int (if(if false=true then !(kq kvs (zZ n 0)).isSome else(kq kvs (zZ n 0)).isSome)=true then 1 else 0)])) _;rw[et];have aj:U R=none:=aE;have i:=P.trans ((du.refl U).new (o:=.tup [.str "at",.int (n:Nat),.int (h:Nat)]) aj);have h2:upd U R (.tup [V.str "at",.int (n:Nat),.int (h:Nat)]) R=some (.tup ((zZ n h).map kN)):=cW;generalize upd U R (.tup [V.str "at",.int (n:Nat),.int (h:Nat)])=H2 at i h2;have J:=i _ _ w.hd;refine⟨d,_,rfl,DF.t J h2 (fE (by have:=w.kl_;lia)),?_⟩;rw[X.len];have B:iO d H2 (upd H2 d (.dT (lj kvs (zZ n h) (.int ((L.length:Nat):Int))))):=λb o Q e=>by rw[dC Q];exact e
 have Y:upd H2 d (.dT (lj kvs (zZ n h) (.int ((L.length:Nat):Int)))) d=some (.dT (lj kvs (zZ n h) (.int ((L.length:Nat):Int)))):=cW;have ao:Tp H2 (upd H2 d (.dT (lj kvs (zZ n h) (.int ((L.length:Nat):Int))))):=λb ys e=>B b _ (by rintro rfl;rw[J] at e;cases e) e;show uz K D _ (upd H2 d (.dT (lj kvs (zZ n h) (.int ((L.length:Nat):Int)))));generalize upd H2 d (.dT (lj kvs (zZ n h) (.int ((L.length:Nat):Int))))=I at B Y ao;have tp:Tp H' I:=(Tp.of_same i).trans ao;have ag:st≠d:=by obtain⟨ys,e⟩:=S0;exact de e nd
 have af:x≠d:=λz=>by rw[z,w.hd] at m;cases m
 have S3:j5 K I st k':=by
  obtain⟨aI,aF,c,e,q',l⟩:=w.s.same i;refine⟨aI,aF,c,B _ _ ag e,q'.mono λp o u e=>B _ _ ?_ e,l⟩;rintro rfl;rw[J] at e;cases e
 have E:=B _ _ af (i _ _ m);have O3:rg I x L:=⟨outs,E,X.imp λ_ _ z=>z.mono tp⟩;have az:G≠d:=λz=>by have:=w.hk;rw[z,w.hd] at this;cases this
 have ay:it≠d:=λz=>by have:=w.it_;rw[z,w.hd] at this;cases this
 have Z:=B _ _ az (i _ _ w.hk);have aw:=B _ _ ay (i _ _ w.it_);have b3:iO st H I:=λb o Q e=>B _ _ (de e nd) (i _ _ (w.b b o Q e));have ak:dZ (qu I) k kss:=w.tk.imp λ_ _ z=>z.mono tp;have aR:ra≠st:=by obtain⟨ys,e⟩:=S0;rintro rfl;rw[aa] at e;cases e
 have aq:Tp H I:=λb ys e=>b3 b _ (by obtain⟨zs,e'⟩:=S0;rintro rfl;rw[e] at e';cases e') e;have aQ:=w.kle;refine⟨_,rfl,_,rfl,_,rfl,_,rfl,_,rfl,_,rfl,_,rfl,st,x,ra,G,n,places,times,N,k',L,O,k,rs,kss,rfl,S3,by lia,O3,by lia,aG,aq _ _ aa,M.imp λ_ _ z=>z.mono aq,g,rl,sd,Z,ah,ai,ak,kn,t1,t2,λy k4 H4 bi O4 S4 aP S=>?_⟩;obtain⟨ba,x0,w0,ax,e0,e1,e2,e3,e4⟩:=Qy g kn L y sd bi;obtain⟨aN,aO⟩:=Qz kn bi;obtain⟨aS,aH⟩:=OH kvs (zZ n h) (.int ((L.length:Nat):Int));have ae:d≠st/\d≠x:=⟨Ne.symm ag,Ne.symm af⟩;have aJ:Tp I H4:=λb ys e=>S b _ (λz=>by obtain⟨zs,e'⟩:=S3.lst;rw[z,e'] at e;cases e) (λz=>by rw[z,E] at e;cases e) e;refine q H4 k4 (L++y) (λv t'=>if v=n/\t'=h then some L.length else f v t') (lj kvs (zZ n h) (.int ((L.length:Nat):Int))) ⟨S4,by lia,O4,?_,?_,?_,S _ _ ae.1 ae.2 Y,?_,λ_=>aH,w.sk.put n h L.length,λv t' a C=>?_,au L.length,S _ _ ah ai Z,ak.imp λ_ _ z=>z.mono aJ,S _ _ aA aB aw,λb o Q e=>S _ _ Q (de e aC) (b3 b o Q e)⟩
 ·have:=w.ol_;rw[c9,Nat.mul_add,Nat.mul_one];lia
 ·rw[c9];exact(w.all.more y).join ba
 ·obtain⟨T,eT⟩:=w.pre;exact⟨T++y,by rw[eT,eu]⟩
 ·have:=w.kl_;lia
 ·by_cases c:v=n/\t'=h
  ·have C:(if v=n/\t'=h then some L.length else f v t')=some a:=C;rw[if_pos c] at C;cases C;rw[c.1];exact⟨x0,w0,ax,by rw[dA (dk _),iv];exact e0,e1,e2,e3,by have:=e4.more L [];rw[fF] at this;exact this⟩
  ·have C:(if v=n/\t'=h then some L.length else f v t')=some a:=C;rw[if_neg c] at C;exact(w.ok v t' a C).more y
def O2(ns:List Nat)(k:Nat):(dm k (eU ns)).flatten=eU (dm k ns).flatten:=by
 unfold eU;rw[List.map_flatten,oW]
def Vd{ns:List Nat}{times j n:Nat}(t1:1<=times)(t2:times<=2)(h:(dm times ns).flatten[j]?=some n):(j<ns.length/\ns[j]?=some n)\/(ns.length<=j/\ns[j-ns.length]?=some n):=by
 have e:times=1\/times=2:=by lia
 by_cases c:j<ns.length
 ·refine .inl ⟨c,?_⟩;rcases e with rfl|rfl
  ·simpa using h
  ·have h:(ns++(ns++[]))[j]?=some n:=h;rw[dX c] at h;exact h
 ·refine .inr ⟨by lia,?_⟩;rcases e with rfl|rfl
  ·have h:(ns++[])[j]?=some n:=h;rw[fF] at h;exact absurd (cR.mp h).1 c
  ·have h:(ns++(ns++[]))[j]?=some n:=h;rw[dA (by lia),fF] at h;exact h
def Mj{ys:List Str}{a:List Nat}{b:gQ}(g:pf ys a b)(e:∀c∈a,c<=4):∀r∈b.rows,(iw r).length<=10:=λr f=>by
 have h:=g.rows r f;cases r with
 |call x k d=>have:=e _ (dg h.2.1);show d.length<=10;lia
 |_=>simp[iw]
def GM{K:Fg}{vs:List V}{H:Hp}{Q:VK}{E:XK}(h:rJ K vs H Q E):yf K {nx:=λ_ H'=>Q .non H',rt:=Q} (fQ nv vs) H:=by
 obtain⟨I,nm,v,places,k,us,ys,cs,b,rfl,S,k6,a9,ok,c4,cb,cN,cO,ar,room,most,q⟩:=h;obtain⟨pt,qa,ra,bf,rfl,av,aH,ab,P⟩:=a9;have g:=ok.good;have b1:=Mj ok c4;have cy:∀y∈b.params,y∈us:=λy hy=>ar y ⟨b,dc.mpr rfl,.inl hy⟩;have cz:=vE ok.pnd cy;have gf:=g.few;have gp:=g.pos;refine⟨_,rfl,Zt av rfl ?_⟩;refine .inl ⟨_,rfl,_,rfl,_,rfl,Zt av rfl ⟨ra,nm,qa,bf,b.rows,us,b.params,rfl,.inr ab,P,gp,by lia,g.inr,cb,by lia,.inr aH,by lia,λcf aK r H1 cF aU aF aj cD kn lU s1=>⟨cf,rfl,⟨_,fR.of aU⟩,λkl aN=>?_⟩⟩⟩;have ba:=V0 ok ar room most aj cD kn lU;refine lg (xs:=aK) (λi G H'=>∃o ai,G=[XU I,XU pt,XU nm,XW places,XU ra,none,none,none,none,none,none,none,none,o]/\H' kl=some (.lst ai)/\dZ (qu H') ai (r.take i)/\du H1 H') ⟨none,[],rfl,cW,.nil,(du.refl H1).new aN⟩ ?_ ?_ ?_
 ·rintro i G H' _ ⟨_,_,_,_,_,s⟩;exact fR.of (s _ _ aU)
 ·rintro i x G H' hx ⟨o,ai,rfl,hk,hA,s⟩;obtain⟨ks,bC,a,rfl,ha⟩:=aF.of_v hx;have il:i<r.length:=(cR.mp bC).1;refine ib ⟨_,rfl,a,_,rfl,.inl ⟨fR.of (s _ _ ha),λp np=>?_⟩⟩;have cG:ai.length=i:=by rw[hA.len,dB];lia
  have s2:=(du.refl H').new (o:=.tup (ks.map V.str)) np;have hp:upd H' p (.tup (ks.map V.str)) p=some (.tup (ks.map V.str)):=cW;have cq:kl≠p:=de hk np;have tD:Tp H' (upd (upd H' p (.tup (ks.map V.str))) kl (.lst (ai++[.ref p]))):=Tp.lst (.of_same s2) (s2 _ _ hk);refine⟨ai,s2 _ _ hk,fE (by lia),_,ai++[.ref p],rfl,cW,?_,λb o hb=>by rw[dC (de hb aN)];exact s2 _ _ (s _ _ hb)⟩;rw[hY bC];exact(hA.imp λ_ _ z=>z.mono tD).snoc ⟨p,rfl,by rw[dC (Ne.symm cq)];exact hp⟩
 rintro G H2 ⟨o,refs,_,a8,bK,s2⟩;have et:r.take aK.length=r:=eK (by rw[aF.len];exact dk _);rw[et] at bK;have aL:=s1.trans s2;have bS:H kl=none:=by
  cases e:H kl with
  |none=>rfl
  |some o=>rw[s1 _ _ e] at aN;cases aN
 refine⟨_,rfl,Zt (aL _ _ av) rfl ⟨qa,_,rfl,fA.of (aL _ _ aH),λp3 ck=>⟨Zv,λp4 cn=>⟨_,rfl,?_⟩⟩⟩⟩;have s3:=(du.refl H2).new (o:=.tup (b.params.map V.str).reverse) ck;have h3:upd H2 p3 (.tup (b.params.map V.str).reverse) p3=some (.tup (b.params.map V.str).reverse):=cW;have aX:upd H2 p3 (.tup (b.params.map V.str).reverse) p4=none:=cn;show kc K (.ref p4) (.int (places:Nat)) (upd (upd H2 p3 (.tup (b.params.map V.str).reverse)) p4 (.tup [.non])) _;generalize upd H2 p3 (.tup (b.params.map V.str).reverse)=H3 at s3 h3 aX;have s4:=(du.refl H3).new (o:=.tup [.non]) aX;have h4:upd H3 p4 (.tup [V.non]) p4=some (.tup [V.non]):=cW;generalize upd H3 p4 (.tup [V.non])=H4 at s4 h4;refine J0 h4 (by lia) (by lia) λp5 H5 h5 s5=>?_;refine KC ((s4.trans s5) _ _ h3) h5 (λz=>by have:=congrArg i7 z;rw[fk,d3,jo] at this;lia) (by rw[fk,d3,e6,cT];lia) λp6 H6 h6 s6=>?_;refine⟨_,rfl,_,rfl,AF h6 λp7 H7 h7 s7=>?_⟩;have bI:H7 p7=some (.tup (gs (jc b.params.reverse places))):=by
  rw[h7];unfold jc gs;rw[gv,dt,gZ,mN];rfl
 have aS:du H2 H7:=(((s3.trans s4).trans s5).trans s6).trans s7;clear h7 h6 h5 h4 h3;refine⟨Zu,λU aJ=>?_⟩;have s8:=(du.refl H7).new (o:=.lst []) aJ;have h8:upd H7 U (.lst []) U=some (.lst []):=cW;generalize upd H7 U (.lst [])=H8 at s8 h8;refine λd nd=>?_;have s9:=(du.refl H8).new (o:=.dT []) nd;have h9:upd H8 d (.dT []) d=some (.dT []):=cW;generalize upd H8 d (.dT [])=H9 at s9 h9;have bj:du H2 H9:=aS.trans (s8.trans s9);have ax:du H H9:=aL.trans bj;have nH:∀a,H9 a=none->H a=none:=λa e=>by
  cases z:H a with
  |none=>rfl
  |some o=>rw[ax _ _ z] at e;cases e
 have aO:H U=none:=by
  cases z:H U with
  |none=>rfl
  |some o=>rw[(aL.trans aS) _ _ z] at aJ;cases aJ
 have bQ:H d=none:=by
  cases z:H d with
  |none=>rfl
  |some o=>rw[(aL.trans (aS.trans s8)) _ _ z] at nd;cases nd
 have aq:=s9 _ _ h8;have aV:=bj _ _ a8;have bJ:dZ (qu H9) refs r:=bK.imp λ_ _ z=>z.mono (.of_same bj);have bL:=(s8.trans s9) _ _ bI;have bc:kl≠U:=λz=>by rw[z] at a8;rw[aS _ _ a8] at aJ;cases aJ
 obtain⟨sy,Z⟩:=S.lst;have aP:I≠U:=de Z aO;have bT:kl≠I:=λz=>de Z bS z.symm;have aC:(0:Nat)<b.rows.length:=gp;refine⟨_,rfl,ra,0,bf,b.rows,rfl,ax _ _ ab,P.imp λ_ _ z=>z.mono (.of_same ax),g,aC,?_⟩;have fl:=rr g b.rows.length aC;have bq:ov b.rows (runJ b.rows b.rows.length 0):=⟨zf g _ 0 .zero,λr' e=>g.ring 0 aC r' e⟩;obtain⟨km,em⟩:∃km,r[runJ b.rows b.rows.length 0]?=some km:=⟨_,cP (by rw[aj];exact fl)⟩;obtain⟨k0,e0⟩:∃k0,r[0]?=some k0:=⟨_,cP (by rw[aj];exact aC)⟩;have cM:=ba.few _ _ em;have bl:=oK b.params.reverse places;have bo:zi (jc b.params.reverse places) km.reverse:=D5 _ _ us.length (λy hy=>wX (by rw[e6];exact cz) (by lia) (qp.mpr (kn.zero k0 e0 y (ba.run g b.rows.length 0 k0 km aC e0 em y (qp.mp hy))))) (by rw[e6,bl];lia);have pr:∀(L:List XO) (f:Nat->Nat->Option Nat) (times:Nat),mB b.rows r places times L 0 L.length->(∀n t,ov b.rows n->t<times->∃a,f n t=some a/\DX r places L n a)->(∃T,L=gC r (runJ b.rows b.rows.length 0) 0 (jc b.params.reverse places)++T)->qt places b (L.map λx=>ke f x.1) (L.map (·.2)):=λL f times all hf ⟨T,eT⟩=>by
  obtain⟨x,ex⟩:=tN r (runJ b.rows b.rows.length 0) 0 (jc b.params.reverse places) T;exact Jc (x:=x) g all hf (by rw[eT];exact ex)
 have aB:gC r (runJ b.rows b.rows.length 0) 0 (jc b.params.reverse places)=wY (runJ b.rows b.rows.length 0) (jc b.params.reverse places) km.reverse++[(.jmp (runJ b.rows b.rows.length 0) 0,(runJ b.rows b.rows.length 0,tT (jc b.params.reverse places) km.reverse))]:=by unfold gC;rw[em];rfl
 have bE:∀times,1<=times->mB b.rows r places times (gC r (runJ b.rows b.rows.length 0) 0 (jc b.params.reverse places)) 0 (gC r (runJ b.rows b.rows.length 0) 0 (jc b.params.reverse places)).length:=λtimes ht=>
  (vC (times:=times) (places:=places) (t:=0) [] [] (by lia) bq g em bl bo).cast (by rw[fF,jq]) rfl (by simp)
 have bF:(gC r (runJ b.rows b.rows.length 0) 0 (jc b.params.reverse places)).length<=200:=by rw[aB,c9,mr,e6];simp only[d4];lia
 generalize gC r (runJ b.rows b.rows.length 0) 0 (jc b.params.reverse places)=L0 at pr aB bE bF;generalize runJ b.rows b.rows.length 0=Y at em fl bq aB;obtain⟨v,cL,v1,v2,ak,rfl,b9⟩:=bJ.get (i:=Y) (by rw[aj];exact fl);rw[em] at v2;cases v2;generalize jc b.params.reverse places=aT at bI bL bl bo aB;refine⟨_,rfl,_,rfl,_,rfl,_,rfl,_,rfl,nI (fR.of aV) (dz _) (by rw[c8];exact v1) ⟨U,p7,ak,Y,[],aT,km,rfl,⟨[],aq,.nil⟩,bL,by lia,by lia,b9,by lia,eV _,bo,λag O bG bt ay=>?_⟩⟩;have cE:iO I H H9:=λa o n e=>ax _ _ e;have bz:iO I H O:=λa o n e=>ay _ _ (de e aO) (ax _ _ e);have bx:j5 K O I k:=(S.same ax).mono ay aq aP;have bU:d≠U:=λz=>by rw[z,aq] at h9;cases h9
 have bB:=ay _ _ bU h9;have aW:=ay _ _ bc aV;have aY:Tp H9 O:=.of_but ay aq;have br:dZ (qu O) refs r:=bJ.imp λ_ _ z=>z.mono aY;rw[jq] at bt;obtain⟨aQ,ao,aE⟩:=bt;refine⟨_,rfl,.inl ⟨rfl,_,fR.of ao⟩,d7 (fj (d7 (fj (nY (d7 ⟨_,rfl,Zx,λJ bV=>⟨Zw,λaw bW=>?_⟩⟩)))))⟩;have bg:=(du.refl O).new (o:=.tup [.str "at",.int (Y:Nat),.int 0]) bV;have a5:upd O J (.tup [V.str "at",.int (Y:Nat),.int 0]) J=some (.tup [V.str "at",.int (Y:Nat),.int 0]):=cW;have af:upd O J (.tup [V.str "at",.int (Y:Nat),.int 0]) aw=none:=bW;show cQ (eR (cQ (cU 9) (cQ (cU 6) dh))) dh _ (upd (upd O J (.tup [V.str "at",.int (Y:Nat),.int 0])) aw (.tup [.str "jump",.ref J])) _;generalize upd O J (.tup [V.str "at",.int (Y:Nat),.int 0])=aM at bg a5 af;have s12:=bg.trans ((du.refl aM).new (o:=.tup [.str "jump",.ref J]) af);have a6:upd aM aw (.tup [V.str "jump",.ref J]) aw=some (.tup [V.str "jump",.ref J]):=cW;have aD:=((du.refl aM).new (o:=.tup [.str "jump",.ref J]) af) _ _ a5;generalize upd aM aw (.tup [V.str "jump",.ref J])=cH at s12 a6 aD;refine jv [.int (Y:Nat),.ref ag] (λR h=>⟨_,rfl,_,rfl,h⟩) (by show 2<=100;decide) λcx cI bH aR=>?_;have u:=s12.trans aR;refine FX (.jmp Y 0,(Y,tT aT km.reverse)) ⟨aw,J,rfl,aR _ _ a6,aR _ _ aD⟩ ⟨cx,ag,rfl,bH,u _ _ bG⟩ (rg.same ⟨aQ,ao,aE⟩ u) (by rw[mr,e6];lia) λau bu az=>?_;rw[<-aB] at bu;have aG:=u _ _ ao;have bA:iO I H au:=λa o n e=>az _ _ (de e aO) (u _ _ (bz a o n e));have a3:j5 K au I k:=(bx.same u).mono az aG aP;have b7:=az _ _ bU (u _ _ bB);have bN:=az _ _ bc (u _ _ aW);have b3:dZ (qu au) refs r:=br.imp λ_ _ z=>z.mono ((Tp.of_same u).trans (.of_but az aG));have bY:ra≠I:=λz=>by rw[z,Z] at ab;cases ab
 have cu:pt≠I:=λz=>by rw[z,Z] at av;cases av
 have cv:qa≠I:=λz=>by rw[z,Z] at aH;cases aH
 have b0:=bA _ _ bY ab;clear u s12 bg aR bH a6 aD a5 aE ao aG bz bB aW br aY bx bG;have cC:∀H',iO I H H'->Tp H H':=λH' B=>.of_but B Z;have go:∀(times k1:Nat) (M:Hp),1<=times->times<=2->k1<=k+1->j5 K M I k1->iO I au M->
   uB K {nx:=λ_ H'=>Q .non H',rt:=Q} [XU I,XU pt,XU nm,XW places,XU ra,XU kl,XU ag,XU U,XU d,XW Y,XW times,none,none] M:=by
  intro times k1 M t1 t2 cK aA X;have a4:iO I H M:=gS bA X;have cg:d≠I:=λz=>de Z bQ z.symm;have aZ:Tp au M:=by obtain⟨zs,e⟩:=a3.lst;exact .of_but X e
  have b8:=X _ _ cg b7;have bO:=X _ _ bT bN;have b4:dZ (qu M) refs r:=b3.imp λ_ _ z=>z.mono aZ;have bw:rg M U L0:=by obtain⟨outs,o1,o2⟩:=bu;exact⟨outs,X _ _ (Ne.symm aP) o1,o2.imp λ_ _ z=>z.mono aZ⟩
  refine .inl ⟨_,rfl,ra,bf,b.rows,rfl,a4 _ _ bY ab,P.imp λ_ _ z=>z.mono (cC _ a4),g,λl C a0 aI pw hl nl bh=>?_⟩;have bZ:C.length<=64:=by
   have:=mw (n:=b.rows.length) (pw.imp λh=>eg h) (λm hm=>((aI m).mp hm).1.lt g);lia
  refine⟨_,rfl,l,times,_,rfl,rfl,hl,by lia,by lia,?_,λit bb=>?_⟩
  ·rw[c8];have:(eU C).length*times<=64*2:=oZ (by unfold eU;rw[cT];exact bZ) t2;exact fq this (by decide)
  rw[c8,O2];have ah:=bh.trans ((du.refl a0).new (o:=.lst (eU (dm times C).flatten)) bb);have a7:upd a0 it (.lst (eU (dm times C).flatten)) it=some (.lst (eU (dm times C).flatten)):=cW;show ∃a,_;generalize upd a0 it (.lst (eU (dm times C).flatten))=b5 at ah a7;have il:(dm times C).flatten.length=times*C.length:=Ey C times;have ae:(dm times C).flatten.length<=128:=by
   rw[il];have:times*C.length<=2*64:=oZ t2 bZ;exact this
  have bR:it≠I:=λz=>by
   obtain⟨zs,e⟩:=aA.lst;have:=bh _ _ e;rw[<-z,bb] at this;cases this
  have cj:it≠U:=λz=>by
   obtain⟨outs,e,_⟩:=bw;have:=bh _ _ e;rw[<-z,bb] at this;cases this
  have w0:CN K H I U d kl it b.rows r refs (eU (dm times C).flatten) us.length places times k1 C L0 0 b5 k1 L0 (λ_ _=>none) []:=
   ⟨aA.same ah,by lia,bw.same ah,by lia,bE times t1,⟨[],(fF _).symm⟩,ah _ _ b8,dk _,λz=>absurd z (ih _),⟨λ_ _=>rfl,λk v e=>by cases e⟩,λn t a e=>(by cases e),⟨λi n e h=>absurd h (fN _),λi n e h=>rfl,λi n e h=>absurd h (fN _)⟩,ah _ _ bO,b4.imp λ_ _ z=>z.mono (.of_same ah),a7,fJ a4 ah⟩
  refine⟨it,rfl,⟨_,fR.of a7⟩,vB (xs:=eU (dm times C).flatten) (λj G H'=>∃k' L f aa o11,G=[XU I,XU pt,XU nm,XW places,XU ra,XU kl,XU ag,XU U,XU d,XW Y,XW times,o11,none]/\CN K H I U d kl it b.rows r refs (eU (dm times C).flatten) us.length places times k1 C L0 j H' k' L f aa) ⟨k1,L0,_,[],none,rfl,w0⟩ ?_ ?_ ?_⟩
  ·rintro j G H' _ ⟨k',L,f,aa,o11,_,w⟩;exact fR.of w.it_
  ·rintro j x G H' hx ⟨k',L,f,aa,o11,rfl,w⟩;obtain⟨n,hn,rfl⟩:=qz hx;have jl:j<(dm times C).flatten.length:=(cR.mp hn).1;have bD:∀tt,tt=(if(f n 0).isSome then 1 else 0)->(∀a,vu C (λn' t'=>if n'=n/\t'=tt then some a else f n' t') (j+1))->n∈C->_:=λtt h1 h2 hm=>
    LU (pt:=pt) (o11:=o11) (s1:=some (.ref pt)) (s2:=some (.ref nm)) (s6:=some (.ref ag)) (s9:=some (.int (Y:Nat))) (s12:=none) (D:={nx:=λG H'=>∃k' L f aa o11,G=[XU I,XU pt,XU nm,XW places,XU ra,XU kl,XU ag,XU U,XU d,XW Y,XW times,o11,none]/\CN K H I U d kl it b.rows r refs (eU (dm times C).flatten) us.length places times k1 C L0 (j+1) H' k' L f aa,rt:=Q,ct:=λG H'=>∃k' L f aa o11,G=[XU I,XU pt,XU nm,XW places,XU ra,XU kl,XU ag,XU U,XU d,XW Y,XW times,o11,none]/\CN K H I U d kl it b.rows r refs (eU (dm times C).flatten) us.length places times k1 C L0 (j+1) H' k' L f aa,bk:=qi K {nx:=λ_ H'=>Q .non H',rt:=Q}}) ab P g b1 ba aP bT bc bR cj ⟨sy,Z⟩ aO bQ t1 t2 (by lia) bF (by lia) ((aI n).mp hm) w h1 h2 λH2 k2 L2 f2 bP w2=>⟨k2,L2,f2,bP,_,rfl,w2⟩
   rcases Vd t1 t2 hn with⟨jn,en⟩|⟨jn,en⟩
   ·exact bD 0 (by rw[w.si.i2 j n en (dk _)];rfl) (λa=>w.si.lo pw en) (dg en)
   ·exact bD 1 (by obtain⟨a,ea⟩:=w.si.i1 _ n en (by have:=(cR.mp en).1;lia);rw[ea];rfl) (λa=>w.si.hi jn en) (dg en)
  ·rintro G cJ ⟨k',L,f,aa,o11,rfl,w⟩;have xl:(eU (dm times C).flatten).length=times*C.length:=by unfold eU;rw[cT];exact il
   rw[xl] at w;have hf:∀n t,ov b.rows n->t<times->∃a,f n t=some a/\DX r places L n a:=λn t sd ht=>by
    obtain⟨i,hi,ei⟩:=eH.mp ((aI n).mpr sd);have ei:C[i]?=some n:=by rw[cP hi,ei]
    have cB:times=1\/times=2:=by lia
    have:∃a,f n t=some a:=by
     rcases cB with rfl|rfl
     ·have:t=0:=by lia
      subst this;exact w.si.i1 i n ei (by lia)
     ·have:t=0\/t=1:=by lia
      rcases this with rfl|rfl
      ·exact w.si.i1 i n ei (by lia)
      ·exact w.si.i3 i n ei (by lia)
    obtain⟨a,ea⟩:=this;exact⟨a,ea,w.ok n t a ea⟩
   have bX:0<C.length:=lZ ((aI Y).mpr bq);have bM:0<times*C.length:=Nat.mul_pos (by lia) bX;have lB:L.length<=20000:=by
    have h1:=w.ol_;rw[il] at ae;have h2:(2*us.length+4)*(times*C.length)<=102*128:=oZ (by lia) ae;lia
   have lC:L.length<=200+(2*us.length+4)*(2*b.rows.length):=by
    have h1:=w.ol_;have cw:=mw (n:=b.rows.length) (pw.imp λh=>eg h) (λm hm=>((aI m).mp hm).1.lt g);have h2:(2*us.length+4)*(times*C.length)<=(2*us.length+4)*(2*b.rows.length):=Nat.mul_le_mul_left _ (oZ t2 cw);lia
   have kB:k'<=k+3000:=by
    have:=w.kle;rw[il] at ae;lia
   refine UU (params:=b.params) (L:=L) (w.b _ _ cu av) (w.b _ _ cv aH) w.o (by lia) w.hd (w.kne bM) w.sk (λm i q0 e=>?_) (λm n t q0 e=>?_) λp cp pp cA b6 hp hc cc hP b2=>?_
   ·exact(w.all m _ _ (eV _) (cR.mp e).1 e).2
   ·obtain⟨_,_,ht,sd,_⟩:=w.all m _ _ (eV _) (cR.mp e).1 e;obtain⟨a,ea,_⟩:=hf n t sd ht;exact⟨a,ea⟩
   ·exact q p cp pp _ cA _ k' b6 hp hc cc hP (pr L f times w.all hf w.pre) ⟨LY w.all hf,by rw[cT];exact lC⟩ (w.s.same b2) kB (fJ w.b b2)
 refine⟨_,rfl,_,_,rfl,.inr ⟨_,fA.of b0,rfl⟩,_,_,rfl,rfl,_,rfl,fM (λc=>?_) (λc=>?_)⟩
 ·refine⟨_,rfl,I,2,k,rfl,a3,by lia,by decide,by decide,λd2 M d0 d1 aA X=>.inr (.inl ⟨rfl,.inr ⟨_,rfl,.inr (.inl ⟨_,_,rfl,rfl,?_⟩)⟩⟩)⟩;by_cases e:V.int d2=V.int 1
  ·rw[decide_eq_true e];exact go 2 (k+1) M (by decide) (by decide) (dk _) aA X
  ·rw[decide_eq_false e];exact go 1 (k+1) M (by decide) (by decide) (dk _) aA X
 ·exact .inr ⟨_,rfl,.inr (.inl ⟨_,_,rfl,rfl,go 1 k au (by decide) (by decide) (by lia) a3 λ_ _ _ e=>e⟩)⟩
def nZ(b:gQ):List Str:=b.params++b.rows.filterMap jt
def Ac{b:gQ}{y:Str}:y∈nZ b↔(y∈b.params\/∃r∈b.rows,jt r=some y):=by
 unfold nZ;rw[d9,ki]
def LW{bs:List gQ}{y:Str}:y∈bs.flatMap nZ↔m7 bs y:=by
 unfold m7;rw[List.mem_flatMap];constructor
 ·rintro⟨b,a,h⟩;exact⟨b,a,Ac.mp h⟩
 ·rintro⟨b,a,h⟩;exact⟨b,a,Ac.mpr h⟩
def R8{H:Hp}{p:c7}{r:ed}{x:Str}(h:gR H (.ref p) r)(e:jt r=some x):∃xs,H p=some (.tup (.str (gG r)::.str x::xs)):=by
 cases r with
 |call y k f=>cases e;obtain⟨c,q,b,h,_⟩:=h;cases b;exact⟨_,h⟩
 |jump d=>cases e
 |say a=>cases e
 |test a d=>cases e
 |give a=>cases e
 |_=>cases e;obtain⟨c,b,h⟩:=h;cases b;exact⟨_,h⟩
def QX(r:ed):kM (.str (gG r)) [V.str "num",V.str "op",V.str "call"]=(jt r).isSome:=by
 cases r with
 |num _ _=>show kM (.str "num") [V.str "num",V.str "op",V.str "call"]=true;decide +kernel
 |op _ _ _ _=>show kM (.str "op") [V.str "num",V.str "op",V.str "call"]=true;decide +kernel
 |call _ _ _=>show kM (.str "call") [V.str "num",V.str "op",V.str "call"]=true;decide +kernel
 |jump b=>show kM (.str "jump") [V.str "num",V.str "op",V.str "call"]=false;decide +kernel
 |say a=>show kM (.str "say") [V.str "num",V.str "op",V.str "call"]=false;decide +kernel
 |test a b=>show kM (.str "test") [V.str "num",V.str "op",V.str "call"]=false;decide +kernel
 |give a=>show kM (.str "give") [V.str "num",V.str "op",V.str "call"]=false;decide +kernel
def VO{K:Fg}{a b:c7}{xs ys:List V}{H:Hp}{Q:VK}(d:H a=some (.lst xs))(e:H b=some (.lst ys))(f:xs.length+ys.length<=90000)(q:∀(p:c7) (H':Hp),H p=none->H' p=some (.lst (xs++ys))->du H H'->Q (.ref p) H'):ig K (.ref a) (.ref b) H Q:=
 .inr (.inr (.inl ⟨a,b,xs,ys,rfl,rfl,d,e,g7 (fE (by lia)),λp c=>q p _ c cW ((du.refl H).new c)⟩))
def Jl{K:Fg}{vs:List V}{H:Hp}{Q:VK}{E:XK}(h:pQ K vs H Q E):AW K {nx:=λ_ H'=>Q .non H',rt:=Q} (fQ qZ vs) H:=by
 obtain⟨pg,ae,k,rfl,X,hB,au,aj,q⟩:=h;refine⟨Zu,λl0 aq=>?_⟩;have s0:=(du.refl H).new (o:=.lst []) aq;have h0:upd H l0 (.lst []) l0=some (.lst (([]:List Str).map V.str)):=cW;generalize upd H l0 (.lst [])=H0 at s0 h0;refine .inr ⟨_,rfl,pg,rfl,⟨_,fA.of (s0 _ _ X)⟩,tM (xs:=ae) (λi d H'=>∃l o2 o3 o4,d=[XU pg,XU l,o2,o3,o4]/\H' l=some (.lst (((k.take i).flatMap nZ).map V.str))/\((k.take i).flatMap nZ).length<=200*i/\du H H') ⟨l0,none,none,none,rfl,h0,by simp,s0⟩ ?_ ?_ ?_⟩
 ·rintro i d H' _ ⟨_,_,_,_,_,_,_,s⟩;exact fA.of (s _ _ X)
 ·rintro i v d H' hv ⟨l,o2,o3,o4,rfl,u,ll,s⟩;obtain⟨b,eb,p,qa,ra,ag,rfl,hp,ak,Y,n⟩:=hB.of_v hv;have il:i<k.length:=(cR.mp eb).1;obtain⟨af,ar⟩:=aj b (dg eb);have g:(k.take (i+1)).flatMap nZ=(k.take i).flatMap nZ++b.params++b.rows.filterMap jt:=by
   rw[hY eb,List.flatMap_append,eu];simp[nZ]
  generalize (k.take i).flatMap nZ=f at u ll g;refine⟨p,_,rfl,fA.of (s _ _ hp),rfl,_,_,rfl,_,_,rfl,_,_,rfl,rfl,?_⟩;refine⟨_,rfl,_,rfl,qa,_,rfl,.inr (fA.of (s _ _ ak)),λa na=>?_⟩;have s1:=(du.refl H').new (o:=.lst (b.params.map V.str)) na;have h1:upd H' a (.lst (b.params.map V.str)) a=some (.lst (b.params.map V.str)):=cW;have U:=s1 _ _ u;show ig K (.ref l) (.ref a) (upd H' a (.lst (b.params.map V.str))) _;generalize upd H' a (.lst (b.params.map V.str))=H1 at s1 h1 U;refine VO U h1 (by rw[cT,cT];lia) λl2 S _ T M=>?_;have w:=s.trans (s1.trans M);rw[<-dt] at T;refine .inr ⟨_,rfl,ra,rfl,⟨_,fA.of (w _ _ Y)⟩,λD J=>?_⟩;refine jd (xs:=ag) (λj d H'=>∃o,d=[XU pg,XU l,some (.str b.name),XU qa,XU ra,o]/\H' D=some (.lst (((b.rows.take j).filterMap jt).map V.str))/\du S H') ⟨none,rfl,cW,(du.refl S).new J⟩ ?_ ?_ ?_
  ·rintro j d H' _ ⟨_,_,_,s⟩;exact fA.of (s _ _ (w _ _ Y))
  ·rintro j v d H3 hv ⟨o,rfl,C,P⟩;obtain⟨r,er,hr⟩:=n.of_v hv;obtain⟨rp,av,rfl,ao⟩:=hr.ref;have jl:j<b.rows.length:=(cR.mp er).1;have ah:=w.trans P;refine⟨_,rfl,Zt (ah _ _ ao) rfl ⟨Zx,λt nt=>⟨t,_,rfl,.inr (fA.of cW),rfl,rfl,_,rfl,?_⟩⟩⟩;have O:=(du.refl H3).new (o:=.tup [V.str "num",V.str "op",V.str "call"]) nt;have g:(b.rows.take (j+1)).filterMap jt=(b.rows.take j).filterMap jt++(jt r).toList:=by rw[hY er,List.filterMap_append];cases h:jt r<;>simp[lz,h]
   have fl:((b.rows.take j).filterMap jt).length<=100:=fq (List.length_filterMap_le _ _) (by rw[dB];lia);have I:=O _ _ C;have ai:=ah.trans O;generalize upd H3 t (.tup [V.str "num",V.str "op",V.str "call"])=H4 at O I ai;show if kM (.str (gG r)) [V.str "num",V.str "op",V.str "call"]=true then _ else _;rw[QX];cases e:jt r with
   |none=>
    refine lT ⟨_,rfl,?_,P.trans O⟩;rw[I,g,e];simp
   |some x=>
    obtain⟨aw,Z⟩:=R8 hr e;refine sH ⟨_,rfl,Zt (ai _ _ Z) rfl ⟨_,I,fE (by rw[cT];lia),_,rfl,?_,λb' o' m=>by rw[dC (de m J)];exact(P.trans O) _ _ m⟩⟩;rw[cW,g,e,dt];rfl
  ·rintro d H3 ⟨o,_,C,P⟩;have et:b.rows.take ag.length=b.rows:=eK (by rw[n.len];exact dk _);rw[et] at C;have fl:(b.rows.filterMap jt).length<=100:=fq (List.length_filterMap_le _ _) af;refine VO (P _ _ T) C (by rw[cT,cT,c9];lia) λl4 H4 _ h4 O=>?_;refine⟨l4,_,_,_,rfl,?_,?_,w.trans (P.trans O)⟩
   ·rw[h4,g,dt (l₁:=f++b.params)]
   ·rw[g,c9,c9];lia
 ·rintro d H1 ⟨l,o2,o3,o4,rfl,u,ll,s⟩;have et:k.take ae.length=k:=eK (by rw[hB.len];exact dk _);rw[et,hB.len] at ll;rw[et] at u;have nm:∀y,y∈k.flatMap nZ↔m7 k y:=λy=>LW;have ll:(k.flatMap nZ).length<=2000:=by lia
  generalize k.flatMap nZ=f at u nm ll;refine⟨_,rfl,_,_,rfl,.inl ⟨_,fR.of u,rfl⟩,_,rfl,by lia,by rw[cT];lia,λD J=>?_⟩;refine mR (λi d H'=>∃o B,d=[XU pg,XU l,o2,o3,o4,o]/\H' D=some (.lst (B.map V.str))/\B.Nodup/\(∀y:Str,y∈B↔y∈f.take i)/\B.length<=i/\du H1 H') ⟨none,[],rfl,cW,oY,λy=>by simp,dk _,(du.refl H1).new J⟩ ?_ ?_
  ·rintro i d H' hi ⟨o,B,rfl,C,nd,R,ul,L⟩;rw[c8,cT] at hi;have e0:(0:Int)+(i:Int)=((i:Nat):Int):=by lia
   have ab:=cP hi;have aa:(f.map V.str)[((i:Nat):Int).toNat]?=some (.str f[i]):=by rw[c8,dw,ab];rfl
   rw[e0];refine⟨_,rfl,_,rfl,nI (fR.of (L _ _ u)) (dz _) aa ⟨_,rfl,_,rfl,_,rfl,.inl ⟨l,_,rfl,fR.of (L _ _ u),λp np=>?_⟩⟩⟩;rw[lH];have M:=(du.refl H').new (o:=.lst ((f.map V.str).take i)) np;have T:upd H' p (.lst ((f.map V.str).take i)) p=some (.lst ((f.take i).map V.str)):=by rw[cW,gv]
   have G:=M _ _ C;generalize upd H' p (.lst ((f.map V.str).take i))=S at M T G;refine⟨p,_,rfl,.inl (fR.of T),rfl,tL _,_,rfl,?_⟩;show if(!kM (.str f[i]) ((f.take i).map V.str))=true then _ else _;rw[zU];have ts:f.take (i+1)=f.take i++[f[i]]:=hY ab;by_cases c:f[i]∈f.take i
   ·rw[decide_eq_true c];refine lT ⟨_,B,rfl,G,nd,λy=>?_,by lia,L.trans M⟩;rw[R,ts,d9,dc];exact⟨.inl,λh=>h.elim id λz=>by rw[z];exact c⟩
   ·rw[decide_eq_false c];refine sH ⟨_,rfl,_,rfl,nI (fR.of ((L.trans M) _ _ u)) (dz _) aa ⟨_,G,fE (by rw[cT];lia),_,B++[f[i]],rfl,by rw[cW,dt];rfl,?_,λy=>?_,by rw[c9];simp;exact ul,λb' o' m=>by rw[dC (de m J)];exact(L.trans M) _ _ m⟩⟩
    ·rw[List.nodup_append];refine⟨nd,by simp,λa ha b hb z=>?_⟩;rw[dc] at hb;subst hb z;exact c ((R _).mp ha)
    ·rw[d9,dc,R,ts,d9,dc]
  ·rintro d S ⟨o,B,_,C,nd,R,ul,L⟩;rw[c8,cT,fV] at R;refine q D B S ?_ C nd (λy=>(R y).trans (nm y)) (s.trans L);cases z:H D with
   |none=>rfl
   |some o=>rw[s _ _ z] at J;cases J
def WG(H:Hp)(v:V)(m:jb×List oJ):Prop:=∃p a b,v=.ref p/\H p=some (.tup [.ref a,.ref b])/\j7 H (.ref a) m.1/\ue H (.ref b) m.2
def WG.mono{H H':Hp}{v:V}{m:jb×List oJ}(h:WG H v m)(t:Tp H H'):WG H' v m:=let⟨p,a,f,e,b,c,d⟩:=h;⟨p,a,f,e,t _ _ b,c.mono t,d.mono t⟩
def Xx(K:Fg)(H:Hp)(st h nm D:c7)(places g N:Nat)(bs:List gQ)(i:Nat):St->Hp->Prop:=λd a=>∃(o:Option V) (f:List V) (c:List (jb×List oJ)) (e:Nat),d=[XU st,XU h,XU nm,XW places,none,o]/\a D=some (.lst f)/\dZ (WG a) f c/\c.length=i/\
 (∀(k:Nat) b m,bs[k]?=some b->c[k]?=some m->m.1.1=((b.params.length:Nat):Int)/\qt places b m.1.2 m.2/\J9 N b m.1.2)/\j5 K a st e/\e<=g+3000*i/\iO st H a
def KL{ys:List Str}{c:List Nat}{n:Nat}{r:ed}{y:Str}(h:Kb ys c n r)(e:jt r=some y):y∈ys:=by
 cases r with
 |num x z=>cases e;exact h.1
 |op x s a b=>cases e;exact h.1
 |call x k d=>cases e;exact h.1
 |_=>cases e
def Vb{K:Fg}{vs:List V}{H:Hp}{Q:VK}{E:XK}(h:EV K vs H Q E):Pz K {nx:=λ_ H'=>Q .non H',rt:=Q} (fQ zw vs) H:=by
 obtain⟨P,pg,aC,k,ys,cs,bs,rfl,S,k5,O,hB,ok,q⟩:=h;have aO:=ok.few;have aF:∀b∈bs,b.rows.length<=100/\b.params.length<=100:=λb hb=>by
  have po:=ok.part b hb;have c4:b.params.length<=4:=ok.c4 _ (by rw[<-ok.cnt];exact jS.mpr ⟨b,hb,rfl⟩);have:=po.few;exact⟨by lia,by lia⟩
 refine⟨_,rfl,pg,aC,bs,rfl,O,hB,by lia,aF,λnm L H1 aH aw nd um s1=>?_⟩;have ul:L.length<=6:=by
  have:=vE nd (zs:=ys) λy hy=>by
   obtain⟨b,hb,h⟩:=(um y).mp hy;have po:=ok.part b hb;rcases h with h|⟨r,hr,e⟩
   ·exact po.pin y h
   ·exact KL (po.rows r hr) e
  have:=ok.y6;lia
 obtain⟨sy,ae⟩:=S.lst;have af:nm≠P:=Ne.symm (de ae aH);refine⟨_,rfl,_,_,rfl,.inl ⟨_,fR.of aw,rfl⟩,.inl ⟨_,_,rfl,rfl,(.inl ⟨by decide,by decide⟩),.inl ⟨_,_,rfl,rfl,_,rfl,P,3,k,rfl,S.same s1,by lia,by decide,by decide,λd H2 d0 d1 S2 B2=>.inl ⟨_,_,rfl,rfl,?_⟩⟩⟩⟩;obtain⟨dd,rfl⟩:=fb d0;have ep:(2:Int)*((L.map V.str).length:Nat)+2+((dd:Nat):Int)=((2*L.length+2+dd:Nat):Int):=by rw[cT];lia
 show Hd K _ [XU P,XU pg,XU nm,some (.int ((2:Int)*((L.map V.str).length:Nat)+2+((dd:Nat):Int))),none] H2;rw[ep];have pr:2*L.length+2<=2*L.length+2+dd:=by lia
 have pm:2*L.length+2+dd<=16:=by lia
 generalize 2*L.length+2+dd=f at pr pm;have b2:iO P H H2:=λb o n e=>B2 _ _ n (s1 _ _ e);have C:=B2 _ _ af aw;have aB:pg≠P:=λz=>by rw[z,ae] at O;cases O
 refine .inr ⟨_,rfl,pg,rfl,⟨_,fA.of (b2 _ _ aB O)⟩,λD T=>?_⟩;have ag:D≠P:=λz=>by obtain⟨zs,e⟩:=S2.lst;rw[z,e] at T;cases T
 have aG:H D=none:=by
  cases z:H D with
  |none=>rfl
  |some o=>rw[b2 _ _ ag z] at T;cases T
 have aM:∀H',iO P H H'->Tp H H':=λH' B=>.of_but B ae;refine jd (xs:=aC) (λi g H'=>Xx K H P pg nm D f (k+1) L.length bs i g H'/\H' nm=some (.lst (L.map V.str))) ⟨⟨none,[],[],k+1,rfl,cW,.nil,rfl,λk b m _ e=>by simp at e,S2.new T,dk _,fJ b2 ((du.refl H2).new T)⟩,by rw[dC (λz=>by rw[<-z,C] at T;cases T)];exact C⟩ ?_ ?_ ?_
 ·rintro i g H' _ ⟨⟨o,u,w,k',_,_,_,_,_,_,_,B⟩,_⟩;exact fA.of (B _ _ aB O)
 ·rintro i v g H' hv ⟨⟨o,u,w,k',rfl,hD,hU,ml,hm,Si,kl,B⟩,aa⟩;obtain⟨b,eb,hb⟩:=hB.of_v hv;have il:i<bs.length:=(cR.mp eb).1;have av:=dg eb;refine ib ⟨_,rfl,_,rfl,_,rfl,_,rfl,P,nm,v,f,k',L,ys,cs,b,rfl,Si,by lia,hb.mono (aM _ B),ok.part b av,ok.c4,aa,af,nd,λy ⟨b',x,h⟩=>(um y).mpr ⟨b,av,by rw[dc.mp x] at h;exact h⟩,pr,by lia,λp cp pp aj aD ps k2 H3 hp hc Z hP aK cl S3 aP B3=>?_⟩;have t:=B3 _ _ ag hD;have aR:∀{a:c7} {xs:List V},H3 a=some (.tup xs)->a≠D:=λ{a xs} h z=>by rw[z,t] at h;cases h
  have aL:Tp H' H3:=by obtain⟨zs,e⟩:=Si.lst;exact .of_but B3 e
  have t4:Tp H3 (upd H3 D (.lst (u++[.ref p]))):=Tp.lst (.refl H3) t;refine⟨u,t,fE (by rw[hU.len];lia),⟨_,u++[.ref p],w++[((((b.params.length:Nat):Int),aj),ps)],k2,rfl,cW,(hU.imp λ_ _ z=>z.mono (aL.trans t4)).snoc ⟨p,cp,pp,rfl,t4 _ _ hp,hc.mono t4,pp,aD,rfl,t4 _ _ Z,hP.imp λ_ _ z=>z.mono t4⟩,by rw[c9,ml];rfl,λJ b0 m0 R j=>?_,?_,by lia,λb' o' n' e'=>by rw[dC (de e' aG)];exact B3 _ _ n' (B _ _ n' e')⟩,?_⟩
  ·by_cases ck:J<w.length
   ·rw[dX ck] at j;exact hm J b0 m0 R j
   ·rw[dA (by lia)] at j;obtain⟨z1,rfl⟩:=kG j;have:J=i:=by lia
    subst this;rw[eb] at R;cases R;exact⟨rfl,aK,cl⟩
  ·exact j5.mono S3 (a:=D) (ys:=u) (λb o n e=>by rw[dC n];exact e) t (Ne.symm ag)
  ·have h3:=B3 _ _ af aa;have:nm≠D:=λz=>by rw[z] at C;rw[C] at T;cases T
   rw[dC this];exact h3
 ·rintro g H3 ⟨⟨o,u,w,k',_,hD,hU,ml,hm,S3,kl,B⟩,_⟩;rw[hB.len] at ml kl;have aQ:w.length<=5:=by lia
  refine fj (d7 (fj (pX rfl (d7 (.inl ⟨_,rfl,D,rfl,⟨_,fR.of hD⟩,λD2 ax=>?_⟩)))));refine lg (xs:=u) (λi g H'=>∃(o:Option V) (zs:List V),g=[XU P,XU pg,XU nm,XW f,XU D,o]/\H' D2=some (.lst zs)/\dZ (j7 H') zs ((w.take i).map (·.1))/\du H3 H') ⟨none,[],rfl,cW,.nil,(du.refl H3).new ax⟩ ?_ ?_ ?_
  ·rintro i g H' _ ⟨_,_,_,_,_,s⟩;exact fR.of (s _ _ hD)
  ·rintro i v g H' hv ⟨o,zs,rfl,Y,hZ,s⟩;obtain⟨m,M,p,cp,pp,rfl,hp,hc,Z⟩:=hU.of_v hv;have tD:Tp H' (upd H' D2 (.lst (zs++[.ref cp]))):=Tp.lst (.refl H') Y;refine ib ⟨_,rfl,Zt (s _ _ hp) rfl ⟨zs,Y,fE (by rw[hZ.len,cT,dB];lia),_,zs++[.ref cp],rfl,cW,?_,λb' o' x=>by rw[dC (de x ax)];exact s _ _ x⟩⟩;rw[hY M,dt];exact(hZ.imp λ_ _ z=>z.mono tD).snoc ((hc.mono (.of_same s)).mono tD)
  ·rintro g H4 ⟨o,zs,_,Y,hZ,s4⟩;rw[hU.len,fV] at hZ;refine⟨D2,zs,rfl,.inl ⟨fR.of Y,λI az=>⟨Zw,λU aI=>?_⟩⟩⟩;have s5:=s4.trans ((du.refl H4).new (o:=.tup zs) az);have h5:upd H4 I (.tup zs) I=some (.tup zs):=cW;have ar:dZ (j7 (upd H4 I (.tup zs))) zs (w.map (·.1)):=hZ.imp λ_ _ z=>z.mono (.of_same ((du.refl H4).new az));have G:upd H4 I (.tup zs) U=none:=aI;show(cQ (iN (gK K) (cQ (iq [] 1 (kz K (cU 4)) (dy 5) kX (dF (eJ K) (cU 5) Zb)) dh)) dh) _ (upd (upd H4 I (.tup zs)) U (.tup [.int (f:Nat),.ref I])) _;generalize upd H4 I (.tup zs)=H5 at s5 h5 ar G;have s6:=s5.trans ((du.refl H5).new (o:=.tup [.int (f:Nat),.ref I]) G);have h6:upd H5 U (.tup [V.int (f:Nat),.ref I]) U=some (.tup [V.int (f:Nat),.ref I]):=cW;have ak:=((du.refl H5).new (o:=.tup [.int (f:Nat),.ref I]) G) _ _ h5;have au:dZ (j7 (upd H5 U (.tup [V.int (f:Nat),.ref I]))) zs (w.map (·.1)):=ar.imp λ_ _ z=>z.mono (.of_same ((du.refl H5).new G));generalize upd H5 U (.tup [V.int (f:Nat),.ref I])=H6 at s6 h6 ak au;refine d7 (.inl ⟨_,rfl,D,rfl,⟨_,fR.of (s6 _ _ hD)⟩,λD3 ay=>?_⟩);refine lg (xs:=u) (λi g H'=>∃(o:Option V) (zs:List V),g=[XU P,XU pg,XU nm,XW f,XU D,o]/\H' D3=some (.lst zs)/\dZ (ue H') zs ((w.take i).map (·.2))/\du H6 H') ⟨none,[],rfl,cW,.nil,(du.refl H6).new ay⟩ ?_ ?_ ?_
   ·rintro i g H' _ ⟨_,_,_,_,_,s⟩;exact fR.of (s _ _ (s6 _ _ hD))
   ·rintro i v g H' hv ⟨o,ai,rfl,t,aq,s⟩;obtain⟨m,M,p,cp,pp,rfl,hp,hc,Z⟩:=hU.of_v hv;have tD:Tp H' (upd H' D3 (.lst (ai++[.ref pp]))):=Tp.lst (.refl H') t;refine ib ⟨_,rfl,Zt ((s6.trans s) _ _ hp) rfl ⟨ai,t,fE (by rw[aq.len,cT,dB];lia),_,ai++[.ref pp],rfl,cW,?_,λb' o' x=>by rw[dC (de x ay)];exact s _ _ x⟩⟩;rw[hY M,dt];exact(aq.imp λ_ _ z=>z.mono tD).snoc ((Z.mono (.of_same (s6.trans s))).mono tD)
   ·rintro g H7 ⟨o,X,_,t,hP,s7⟩;rw[hU.len,fV] at hP;refine⟨D3,X,rfl,.inl ⟨fR.of t,λp8 aA=>⟨Zw,λp9 aJ=>?_⟩⟩⟩;have s8:=s7.trans ((du.refl H7).new (o:=.tup X) aA);have h8:upd H7 p8 (.tup X) p8=some (.tup X):=cW;have ao:dZ (ue (upd H7 p8 (.tup X))) X (w.map (·.2)):=hP.imp λ_ _ z=>z.mono (.of_same ((du.refl H7).new aA));have ab:upd H7 p8 (.tup X) p9=none:=aJ;show Q (.ref p9) (upd (upd H7 p8 (.tup X)) p9 (.tup [.ref U,.ref p8]));generalize upd H7 p8 (.tup X)=H8 at s8 h8 ao ab;have ah:=(du.refl H8).new (o:=.tup [.ref U,.ref p8]) ab;have s9:=s8.trans ah;have aE:=s6.trans s9;have aN:∀(J:Nat) b m,bs[J]?=some b->w[J]?=some m->_:=hm;refine q p9 p8 (.ref U) f (w.map (·.1)) X (w.map (·.2)) k' _ cW ⟨U,I,zs,rfl,s9 _ _ h6,s9 _ _ ak,au.imp λ_ _ z=>z.mono (.of_same s9)⟩ (ah _ _ h8) (ao.imp λ_ _ z=>z.mono (.of_same ah)) ⟨by rw[cT];exact ml,by rw[cT];exact ml,?_,λJ b c ps R j e3=>?_⟩ (by lia) pm (λJ b c R j=>?_) (S3.same aE) (by lia) (fJ B aE)
    ·refine List.ext_getElem? λi=>?_;rw[dw,dw,dw];by_cases ci:i<w.length
     ·have R:=cP ci;have j:=cP (l:=bs) (by rw[<-ml];exact ci);rw[R,j];exact congrArg some (hm i _ _ j R).1
     ·rw[fI (by lia),fI (by lia)];rfl
    ·rw[dw] at j e3;cases M:w[J]? with
     |none=>rw[M] at j;cases j
     |some m=>
      rw[M] at j e3;cases Option.some.inj j;cases Option.some.inj e3;exact(hm J b m R M).2.1
    ·rw[dw] at j;cases M:w[J]? with
     |none=>rw[M] at j;cases j
     |some m=>
      rw[M] at j;cases Option.some.inj j;obtain⟨h1,h2⟩:=(hm J b m R M).2.2;refine⟨h1,fq h2 ?_⟩;have:(2*L.length+4)*(2*b.rows.length)<=(2*6+4)*(2*b.rows.length):=Nat.mul_le_mul_right _ (by lia);lia
def Qa{K:Fg}{H:Hp}{a b:c7}{xs ys:List V}{Q:VK}(d:H a=some (.tup xs))(f:H b=some (.tup ys))(hz:xs.length+ys.length<=100000)(q:∀(t:c7) (H':Hp),H' t=some (.tup (xs++ys))->du H H'->Q (.ref t) H'):gD K (.ref a) (.ref b) H Q:=by
 by_cases c:xs=[]
 ·subst c;exact .inl ⟨a,b,ys,rfl,rfl,fA.of d,fA.of f,q b H (by rw[jq];exact f) (du.refl H)⟩
 ·refine .inr (.inr (.inr (.inr ⟨a,b,xs,ys,rfl,rfl,fA.of d,fA.of f,c,fq hz (by decide),λe=>?_,λ_ t g=>q t _ cW ((du.refl H).new g)⟩)));subst e;exact q a H (by rw[fF];exact d) (du.refl H)
def Wx{K:Fg}{a:c7}{xs:List V}{c:Nat}{H:Hp}{Q:VK}(b:H a=some (.tup xs))(q:∀(p:c7) (H':Hp),H' p=some (.tup (xs.drop c))->du H H'->Q (.ref p) H'):jH K (.ref a) (some ((c:Nat):Int)) none H Q:=by
 by_cases w:HT.sIx xs.length 0 (some ((c:Nat):Int))=0/\HT.sIx xs.length xs.length none=xs.length
 ·refine .inl ⟨a,xs,rfl,fA.of b,w,q a H ?_ (du.refl H)⟩;have z:=w.1;rw[HT.sIx_nat] at z;have:c=0\/xs.length=0:=by lia
  rcases this with rfl|e
  ·exact b
  ·rw[fG.mp e,List.drop_nil,<-fG.mp e];exact b
 ·refine .inr (.inr ⟨a,xs,rfl,fA.of b,w,λp d=>?_⟩);rw[vz];exact q p _ cW ((du.refl H).new d)
def OI{K:Fg}{e f:Nat}{w:TE}{d:St}{H:Hp}{Q:VK}{p:c7}{xs:List V}{i:Nat}(G:V->Hp->Prop)(k:d[e]?=some (some (.ref p)))(l:d[f]?=some (some (.int ((i:Nat):Int))))(n:H p=some (.tup xs))(I:i<xs.length)(U:xs.length<=1000)
  (h:∀(R:V->Hp->Prop) b,du H b->(∀v H2,G v H2->Tp b H2->R v H2)->w d b R) (q:∀v H2 o H',G v H2->H' o=some (.tup (xs.set i v))->du H2 H'->Q (.ref o) H') :
  dF (gD K) (dF (gD K) (oz (jH K) (cU e) fo (gH (cU f))) (eR (cQ w dh))) (oz (jH K) (cU e) (gH (dF (gD K) (cU f) Zb)) fo) d H Q:=by
 refine⟨_,k,_,l,_,rfl,AF n λJ b B r=>?_⟩;refine fj (d7 (h _ b r λv H2 g u=>⟨Zv,λa j=>?_⟩));have c:du H2 (upd H2 a (.tup [v])):=(du.refl H2).new j;have m:upd H2 a (.tup [v]) a=some (.tup [v]):=cW;show gD K (.ref J) (.ref a) (upd H2 a (.tup [v])) _;generalize upd H2 a (.tup [v])=O at c m;refine Qa (c _ _ (u _ _ B)) m (by rw[dB];simp;lia) λS x C s=>?_;have z:((i:Nat):Int)+1=((i+1:Nat):Int):=by lia
 refine⟨_,k,_,l,.inr (.inl ⟨_,_,rfl,rfl,_,rfl,?_⟩)⟩;show jH K (.ref p) (some (((i:Nat):Int)+1)) none x _;rw[z];refine Wx ((c.trans s) _ _ (u _ _ (r _ _ n))) λT P D t=>?_;refine Qa (t _ _ C) D (by rw[c9,dB,gm];simp;lia) λL y E M=>?_;exact q v H2 L y g (by rw[E,ur I]) ((c.trans s).trans (t.trans M))
def Wv{K:Fg}{vs:List V}{H:Hp}{Q:VK}{E:XK}(h:xA K vs H Q E):To K {nx:=λ_ H'=>Q .non H',rt:=Q} (fQ SN vs) H:=by
 obtain⟨p,i,v,xs,rfl,f,g,n,q⟩:=h;refine OI (xs:=xs) (λd c=>d=v/\du H c) rfl rfl f g n (λR b l h=>⟨_,rfl,h v b ⟨rfl,l⟩ (.refl b)⟩) λd c j H' ⟨e,m⟩ a k=>?_;subst e;exact q j H' a (m.trans k)
def Mc{K:Fg}{vs:List V}{H:Hp}{Q:VK}{E:XK}(h:lN K vs H Q E):Dt K {nx:=λ_ H'=>Q .non H',rt:=Q} (fQ wN vs) H:=by
 obtain⟨_,a,⟨n',f⟩,n,told,rfl,⟨p,b,rfl,T,hb⟩,S,B,w,q⟩:=h;have B:f.length<=1000:=B;have w:f.length=told.length:=w;refine⟨_,rfl,Zt T rfl ⟨_,rfl,.inl ⟨rfl,_,rfl,pj (λe=>?_) (λe=>?_)⟩⟩⟩
 ·exact q _ H ⟨(λz=>by cases z),λz=>absurd (congrArg (λk:Nat=>V.int (k:Nat)) z.1) e⟩ (du.refl H)
 have e1:n'=n:=Int.ofNat.inj (V.int.inj e);refine⟨_,rfl,_,_,rfl,.inr ⟨_,fA.of S,rfl⟩,_,rfl,by lia,by rw[fk];lia,λD X=>?_⟩;have C:∀(j:Nat) (R:j<f.length) (r:j<told.length),kM (oV f[j]) [.non,oV told[j]]=true↔∀y,f[j]?=some (some y)->told[j]?=some (some y):=λj R r=>by
  rw[cP R,cP r];show(qx (oV none) (oV f[j]) || (qx (oV told[j]) (oV f[j]) || false))=true↔_;rw[xZ,xZ,Bool.or_false,Bool.or_eq_true,decide_eq_true_eq,decide_eq_true_eq];constructor
  ·rintro(z|z) y L
   ·rw[<-z] at L;cases L
   ·rw[z];exact L
  ·intro z;cases c:f[j] with
   |none=>exact .inl rfl
   |some y=>exact .inr (Option.some.inj (z y (by rw[c])))
 refine mR (λi s H'=>∃o m,s=[XU p,XW n,XU a,o]/\H' D=some (.lst (eU m))/\m.length<=i/\(m=[]↔∀j:Nat,j<i->∀y,f[j]?=some (some y)->told[j]?=some (some y))/\du H H') ⟨none,[],rfl,cW,dk _,⟨λ_ j J=>absurd J (fN j),λ_=>rfl⟩,(du.refl H).new X⟩ ?_ ?_
 ·rintro i s g I ⟨o,m,rfl,G,il,all,u⟩;rw[c8,fk] at I;have e0:(0:Int)+(i:Int)=((i:Nat):Int):=by lia
  have U:i<f.length:=by lia
  rw[e0];refine⟨_,rfl,Zt (u _ _ T) rfl ⟨_,rfl,eP (u _ _ hb) (dz _) (by rw[c8];exact lh (cP U)) (fj (nY (d7 ⟨_,rfl,_,rfl,eP (u _ _ S) (dz _) (by rw[c8];exact lh (cP I)) ⟨Zw,λt Z=>?_⟩⟩)))⟩⟩;have v:=u.trans ((du.refl g).new (o:=.tup [.non,oV told[i]]) Z);have d:=((du.refl g).new (o:=.tup [.non,oV told[i]]) Z) _ _ G;have r:upd g t (.tup [.non,oV told[i]]) t=some (.tup [.non,oV told[i]]):=cW;show Ap K true (oV f[i]) (.ref t) (upd g t (.tup [.non,oV told[i]])) _;generalize upd g t (.tup [.non,oV told[i]])=M at v d r;have P:∀x:Option Str,iT (oV x)=true:=λx=>by cases x<;>rfl
  refine⟨t,_,rfl,.inr (fA.of r),P _,by simp only[pU,List.all_nil,P];rfl,_,rfl,?_⟩;have O:=C i U I;refine jU (λe=>?_) (λe=>?_)
  ·have e:kM (oV f[i]) [.non,oV told[i]]=false:=by simpa using e
   refine⟨_,rfl,_,d,fE (by rw[hW];lia),_,m++[i],rfl,?_,by rw[c9];simp;lia,⟨(λz=>by simp at z),λz=>?_⟩,mq v X⟩
   ·rw[cW];unfold eU;rw[dt];rfl
   ·rw[O.mpr (z i (by lia))] at e;cases e
  ·have e:kM (oV f[i]) [.non,oV told[i]]=true:=by simpa using e
   refine⟨_,m,rfl,d,by lia,all.trans ⟨λz j J=>?_,λz j J=>z j (by lia)⟩,v⟩;by_cases c:j=i
   ·rw[c];exact O.mp e
   ·exact z j (by lia)
 ·rintro s g ⟨o,m,_,G,_,all,u⟩;refine⟨Zu,λl Y=>?_⟩;have v:=u.trans ((du.refl g).new (o:=.lst []) Y);have d:=((du.refl g).new (o:=.lst []) Y) _ _ G;have r:upd g l (.lst []) l=some (.lst []):=cW;show jL K (.ref D) (.ref l) (upd g l (.lst [])) _;generalize upd g l (.lst [])=M at v d r;refine .inr (.inr (.inr ⟨D,l,_,_,rfl,rfl,fR.of d,fR.of r,by unfold eU;rw[List.all_map,gd];intro _ _;rfl,rfl,q _ M ?_ v⟩));rw[if_neg Bool.false_ne_true,c8,fk] at *;have ev:lM (eU m) []=true↔m=[]:=by
   cases m with
   |nil=>exact⟨λ_=>rfl,λ_=>rfl⟩
   |cons x l=>exact⟨(λz=>by simp[lM,eU] at z),(λz=>by cases z)⟩
  rw[ev,all];refine⟨λz=>⟨e1,w,(oI w).mpr λi y h=>z i (by have:=(cR.mp h).1;lia) y h⟩,λz j _ y h=>(oI w).mp z.2.2 j y h⟩
def R4{H:Hp}{p:c7}{r:ed}{w:V}{xs:List V}(h:gR H (.ref p) r)(a:H p=some (.tup (w::xs))):xs.length<=100:=by
 cases r with
 |call x k b=>obtain⟨_,_,e,h,_⟩:=h;cases e;rw[a] at h;cases h;simp
 |_=>obtain⟨_,e,h⟩:=h;cases e;rw[a] at h;cases h;simp
def Aq{K:Fg}{vs:List V}{H:Hp}{Q:VK}{E:XK}(h:oh K vs H Q E):tf K {nx:=λ_ H'=>Q .non H',rt:=Q} (fQ su vs) H:=by
 obtain⟨p,r,w,J,rfl,l,c,q⟩:=h;obtain⟨G,B,e,b⟩:=l.ref;cases e;have s:w=gG r:=by rw[c] at b;cases b;rfl
 subst s;refine⟨_,rfl,Zt c rfl ⟨Zx,λt x=>⟨t,_,rfl,.inr (fA.of cW),rfl,rfl,_,rfl,?_⟩⟩⟩;have d:du H (upd H t (.tup [V.str "num",V.str "op",V.str "call"])):=(du.refl H).new x;generalize upd H t (.tup [V.str "num",V.str "op",V.str "call"])=k at d ⊢;rw[show(if false=true then !kM (V.str (gG r)) [V.str "num",V.str "op",V.str "call"] else kM (V.str (gG r)) [V.str "num",V.str "op",V.str "call"])=(jt r).isSome from zg r];have a:=d _ _ c;refine jU (λj=>?_) (λj=>?_)
 ·refine⟨_,rfl,_,rfl,?_⟩;show jH K (.ref p) none (some ((1:Nat):Int)) k _;refine AF a λm g i f=>⟨_,rfl,_,rfl,?_⟩;show jH K (.ref p) (some ((2:Nat):Int)) none g _;have D:=R4 l c;refine Wx (f _ _ a) λI C u n=>Qa (n _ _ i) u (by rw[dB,gm];simp;lia) λy o v z=>q y o ?_ (d.trans (f.trans (n.trans z)));rw[v,j];rfl
 ·refine⟨_,rfl,_,rfl,?_⟩;show jH K (.ref p) none (some ((2:Nat):Int)) k _;refine AF a λm g i f=>q m g ?_ (d.trans f);rw[i,j];rfl
def F0{a:List (Option Str)}{i:Int}(h:i.toNat<a.length):(gs a)[i.toNat]?=some (oV (r8 a i)):=by
 unfold r8;rw[cP h];exact lh (cP h)
def OZ{K:Fg}{vs:List V}{H:Hp}{Q:VK}{E:XK}(h:xB K vs H Q E):Bm K {nx:=λ_ H'=>Q .non H',rt:=Q} (fQ vo vs) H:=by
 obtain⟨u,a,c,f,rfl,v,M,B,m,pin,q⟩:=h;have one:∀(p:c7) (i:Int) (xs:List V),d5 c=[i]->¬V.str (eZ c)=V.str "num"->¬V.str (eZ c)=V.str "op"->¬V.str (eZ c)=V.str "call"->H p=some (.tup (.str (eZ c)::.int i::xs))->EX c f p=[.str (eZ c),oV (r8 f i)]->(∀k d,c≠.call k d)->Bm K {nx:=λ_ H'=>Q .non H',rt:=Q} (fQ vo [.ref p,.ref a]) H:=λp i xs Z n1 n2 n3 b es nc=>by
  obtain⟨J,C⟩:=pin i (by rw[Z];exact dc.mpr rfl);refine⟨_,rfl,Zt b rfl (.inl ⟨rfl,_,rfl,no n1 ⟨_,rfl,Zt b rfl (.inl ⟨rfl,_,rfl,no n2 ⟨_,rfl,Zt b rfl (.inl ⟨rfl,_,rfl,no n3 ?_⟩)⟩⟩)⟩⟩)⟩;refine⟨_,rfl,Zt b rfl ⟨_,rfl,_,rfl,Zt b rfl (eP B J (F0 C) ⟨Zw,λt n=>q t p _ ?_ (λk d e=>absurd e (nc k d)) ((du.refl H).new n)⟩)⟩⟩;rw[cW,es]
 cases c with
 |num z=>
  obtain⟨p,rfl,b⟩:=v;exact⟨_,rfl,Zt b rfl (.inl ⟨rfl,_,rfl,yes ⟨_,rfl,q p p H b (λk d e=>by cases e) (du.refl H)⟩⟩)⟩
 |op s i j=>
  obtain⟨p,rfl,b⟩:=v;obtain⟨J,C⟩:=pin i (by simp[d5]);obtain⟨j0,jl⟩:=pin j (by simp[d5]);refine⟨_,rfl,Zt b rfl (.inl ⟨rfl,_,rfl,Zs ⟨_,rfl,Zt b rfl (.inl ⟨rfl,_,rfl,yes ?_⟩)⟩⟩)⟩;exact⟨_,rfl,Zt b rfl ⟨_,rfl,_,rfl,Zt b rfl (eP B J (F0 C) ⟨_,rfl,_,rfl,Zt b rfl (eP B j0 (F0 jl) ⟨Zy,λt n=>q t p _ cW (λk d e=>by cases e) ((du.refl H).new n)⟩)⟩)⟩⟩
 |say i=>obtain⟨p,rfl,b⟩:=v;exact one p i _ rfl (by show ¬V.str "say"=_;decide +kernel) (by show ¬V.str "say"=_;decide +kernel) (by show ¬V.str "say"=_;decide +kernel) b rfl (λ_ _ e=>by cases e)
 |test i to=>obtain⟨p,rfl,b⟩:=v;exact one p i _ rfl (by show ¬V.str "test"=_;decide +kernel) (by show ¬V.str "test"=_;decide +kernel) (by show ¬V.str "test"=_;decide +kernel) b rfl (λ_ _ e=>by cases e)
 |give i=>obtain⟨p,rfl,b⟩:=v;exact one p i _ rfl (by show ¬V.str "give"=_;decide +kernel) (by show ¬V.str "give"=_;decide +kernel) (by show ¬V.str "give"=_;decide +kernel) b rfl (λ_ _ e=>by cases e)
 |call k d=>
  obtain⟨p,qa,rfl,b,w⟩:=v;refine⟨_,rfl,Zt b rfl (.inl ⟨rfl,_,rfl,Zs ⟨_,rfl,Zt b rfl (.inl ⟨rfl,_,rfl,Zs ⟨_,rfl,Zt b rfl (.inl ⟨rfl,_,rfl,yes ?_⟩)⟩⟩)⟩⟩)⟩;refine fj (nY (d7 ⟨_,rfl,Zt b rfl (d7 (.inr ⟨_,rfl,Zt b rfl ⟨qa,rfl,⟨_,fA.of w⟩,λD R=>?_⟩⟩))⟩));refine jd (xs:=d.map V.int) (λi g H'=>∃o,g=[XU p,XU a,o]/\H' D=some (.lst (gs ((d.take i).map (r8 f))))/\du H H') ⟨none,rfl,cW,(du.refl H).new R⟩ ?_ ?_ ?_
  ·rintro i g H' _ ⟨_,_,_,s⟩;exact fA.of (s _ _ w)
  ·rintro i x g r P ⟨o,rfl,y,s⟩;rw[dw] at P;obtain⟨z,I,rfl⟩:=iK.mp P;have C:=(cR.mp I).1;have m:d.length<=1000:=m;obtain⟨z0,zl⟩:=pin z (dg I);refine ib ⟨_,rfl,_,rfl,eP (s _ _ B) z0 (F0 zl) ⟨_,y,fE (by rw[fk,cT,dB];lia),_,rfl,?_,mq s R⟩⟩;rw[cW,hY I,dt];unfold gs;rw[dt];rfl
  ·rintro g r ⟨o,_,y,S⟩;rw[cT,fV] at y;refine⟨D,_,rfl,.inl ⟨fR.of y,λt n=>⟨Zx,λG L=>?_⟩⟩⟩;have T:=(du.refl r).new (o:=.tup (gs (d.map (r8 f)))) n;have O:upd r t (.tup (gs (d.map (r8 f)))) t=some (.tup (gs (d.map (r8 f)))):=cW;have l:upd r t (.tup (gs (d.map (r8 f)))) G=none:=L;show Q (.ref G) (upd (upd r t (.tup (gs (d.map (r8 f))))) G (.tup [.str "call",.int k,.ref t]));generalize upd r t (.tup (gs (d.map (r8 f))))=X at T O l;have U:=(du.refl X).new (o:=.tup [.str "call",.int k,.ref t]) l;refine q G t _ cW (λk' Y e=>?_) ((S.trans T).trans U);cases e;refine⟨?_,U _ _ O⟩;cases z:H t with
   |none=>rfl
   |some o=>rw[S _ _ z] at n;cases n
 |_=>cases M
def QM(E:Bool)(a b:V):Bool:=match a,b with
 |.ref _,.ref _=>E
 |a,b=>qx a b
def Gf{E:Bool}{a b:V}(h:iT a=true):QM E a b=qx a b:=by
 cases a<;>first|rfl|cases h
def Vn{K:Fg}{H0 H:Hp}{xs ys:List V}{q q0:c7}{us vs:List V}(n:∀a∈xs,iT a=true\/(a=.ref q/\H q=some (.tup us)/\H0 q=none))(k:∀b∈ys,iT b=true\/(b=.ref q0/\H q0=some (.tup vs)/\H0 q0≠none))(l:us.all iT=true)(m:vs.all iT=true) :
  ∀(j:Nat) a b,xs[j]?=some a->ys[j]?=some b->SI K H a b (QM (lM us vs) ((xs[j]?).getD .non) ((ys[j]?).getD .non)):=λj a b h f=>by
 rw[h,f];show SI K H a b (QM (lM us vs) a b);rcases n a (dg h) with c|⟨rfl,i,o⟩
 ·rw[Gf c];rcases k b (dg f) with d|⟨rfl,g,_⟩
  ·exact .flat c d
  ·have e:qx a (.ref q0)=false:=by cases a<;>first|rfl|cases c
   rw[e];exact .fTup (fA.of g) c
 ·rcases k b (dg f) with d|⟨rfl,g,p⟩
  ·have e:QM (lM us vs) (.ref q) b=false:=by cases b<;>first|rfl|cases d
   rw[e];exact .tupF (fA.of i) d
  ·exact .tups (λz=>p (by rw[<-z];exact o)) (fA.of i) (fA.of g) l m
def GC(r:ed)(q:c7):List V:=.str (gG r)::match r with
 |.num _ z=>[.int z]
 |.op _ s a b=>[.str s,.str a,.str b]
 |.call _ k _=>[.int (k:Nat),.ref q]
 |.jump c=>[.int (c:Nat)]
 |.say a=>[.str a]
 |.test a _=>[.str a]
 |.give a=>[.str a]
def XN{o:Option Str}{a:Str}:qx (oV o) (.str a)=true↔o=some a:=by
 show qx (oV o) (oV (some a))=true↔_;rw[xZ,decide_eq_true_eq]
def WM(w:Str):qx (.str w) (.str w)=true:=beq_self_eq_true w
def Xk{a b:Int}:qx (.int a) (.int b)=true↔V.int b=V.int a:=by
 show(a==b)=true↔_;rw[beq_iff_eq];exact⟨λe=>by rw[e],λe=>(V.int.inj e).symm⟩
def XA{a b:Str}:qx (.str a) (.str b)=true↔V.str b=V.str a:=by
 show(a==b)=true↔_;rw[beq_iff_eq];exact⟨λe=>by rw[e],λe=>(V.str.inj e).symm⟩
def W2{E:Bool}{o:Option Str}{a:Str}:QM E (oV o) (.str a)=true↔o=some a:=by
 rw[Gf (by cases o<;>rfl)];exact XN
def Pj{r:ed}{c:gb}{d:List (Option Str)}{q q0:c7}(l:lE c=false)(h:∀i∈d5 c,0<=i/\i.toNat<d.length) :
  ((jr (min (EX c d q).length (GC r q0).length)).all (λj=>QM (lM (gs ((d5 c).map (r8 d))) ((iw r).map V.str)) (((EX c d q)[j]?).getD .non) (((GC r q0)[j]?).getD .non))&&(EX c d q).length==(GC r q0).length)=true↔sE r c d:=by
 rw[Dq h];have one:∀(w:Str) (i:Int) (a:Str) (E:Bool),((qx (.str w) (.str w)&&(QM E (oV (r8 d i)) (.str a)&&true))&&true)=true↔V.non=V.non/\[r8 d i]=[some a]:=λw i a E=>by
  rw[WM,Bool.true_and,Bool.and_true,Bool.and_true,W2,List.cons.injEq];exact⟨λe=>⟨rfl,e,rfl⟩,λe=>e.2.1⟩
 by_cases g:gG r=eZ c
 ·have u:=sN g;simp only[g,true_and];cases u<;>first|(cases l;done)|skip
  ·rename_i x z p;show((qx (.str "num") (.str "num")&&(qx (.int p) (.int z)&&true))&&true)=true↔V.int z=V.int p/\([]:List (Option Str))=[];rw[WM,Bool.true_and,Bool.and_true,Bool.and_true,Xk];exact⟨λe=>⟨e,rfl⟩,λe=>e.1⟩
  ·rename_i x s a b o i j;show((qx (.str "op") (.str "op")&&(qx (.str o) (.str s)&&(QM _ (oV (r8 d i)) (.str a)&&(QM _ (oV (r8 d j)) (.str b)&&true))))&&true)=true↔V.str s=V.str o/\[r8 d i,r8 d j]=[some a,some b];rw[WM,Bool.true_and,Bool.and_true,Bool.and_true,Bool.and_eq_true,Bool.and_eq_true,XA,W2,W2,List.cons.injEq,List.cons.injEq];exact⟨λe=>⟨e.1,e.2.1,e.2.2,rfl⟩,λe=>⟨e.1,e.2.1,e.2.2.1⟩⟩
  ·rename_i x k m n f;show((qx (.str "call") (.str "call")&&(qx (.int n) (.int (k:Nat))&&(lM (gs (f.map (r8 d))) (m.map V.str)&&true)))&&true)=true↔V.int (k:Nat)=V.int n/\f.map (r8 d)=m.map some;rw[WM,Bool.true_and,Bool.and_true,Bool.and_true,Bool.and_eq_true,Xk,Km]
  ·exact one _ _ _ _
  ·exact one _ _ _ _
  ·exact one _ _ _ _
 ·refine⟨λz=>?_,λz=>absurd z.1 g⟩;rw[Bool.and_eq_true,gd] at z;have t:0<min (EX c d q).length (GC r q0).length:=by simp[EX,GC]
  have:=z.1 0 (ja.mpr t);have:(eZ c==gG r)=true:=this;exact absurd (eq_of_beq this).symm g
def Pb{rs:List ed}{b:List gb}{ps:List oJ}{m:Nat}{c:gb}{q:oJ}{r:ed}(d:b[m]?=some c)(e:ps[m]?=some q)(f:rs[q.1]?=some r):Im rs b ps m↔(lE c=false->sE r c q.2)/\∀(t:Nat) j n a,(ij (m:Nat) c)[t]?=some j->(gB rs c q.1)[t]?=some n->ps[j.toNat]?=some a->rQ a n (BE c q.2 (jt r)):=by
 refine⟨λz=>z c q r d e f,λz k a l g h i=>?_⟩;rw[d] at g;cases g;rw[e] at h;cases h;rw[f] at i;cases i;exact z
def sM{l:List Int}{ns:List Nat}{ps:List oJ}{a:List (Option Str)}{e:Int}{n:Nat}{q:oJ}(j:l=[e])(h2:ns=[n])(g:ps[e.toNat]?=some q):(∀(t:Nat) b c d,l[t]?=some b->ns[t]?=some c->ps[b.toNat]?=some d->rQ d c a)↔rQ q n a:=by
 subst j h2;refine⟨λz=>z 0 e n q rfl rfl g,λz t b c d h i f=>?_⟩;obtain⟨_,rfl⟩:=kG h;obtain⟨_,rfl⟩:=kG i;rw[g] at f;cases f;exact z
def Rx{H:Hp}{p:c7}{r:ed}{w:Str}{xs:List V}(h:gR H (.ref p) r)(a:H p=some (.tup (.str w::xs))):∃q0,(.str w::(if(jt r).isSome then xs.drop 1 else xs.take 1))=GC r q0/\∀x k as,r=.call x k as->H q0=some (.tup (as.map V.str)):=by
 cases r with
 |call x k as=>obtain⟨_,q,e,h,b⟩:=h;cases e;rw[a] at h;cases h;exact⟨q,rfl,λ_ _ _ e=>by cases e;exact b⟩
 |_=>obtain⟨_,e,h⟩:=h;cases e;rw[a] at h;cases h;exact⟨p,rfl,λ_ _ _ e=>by cases e⟩
def Mr{c:gb}{e:List (Option Str)}{q:c7}{P:Prop}(h:∀k as,c=.call k as->P):∀a∈EX c e q,iT a=true\/(a=.ref q/\P):=by
 have d:∀o:Option Str,iT (oV o)=true:=λo=>by cases o<;>rfl
 intro a b;cases c with
 |call k as=>
  have b:a∈[V.str "call",.int k,.ref q]:=b;simp only[dW,gq,or_false] at b;rcases b with rfl|rfl|rfl
  ·exact .inl rfl
  ·exact .inl rfl
  ·exact .inr ⟨rfl,h k as rfl⟩
 |_=>
  simp only[EX,dW,gq,or_false] at b;refine .inl ?_;rcases b with rfl|rfl|rfl|rfl<;>first|rfl|exact d _
def L5{r:ed}{q:c7}{P:Prop}(h:∀x k as,r=.call x k as->P):∀a∈GC r q,iT a=true\/(a=.ref q/\P):=by
 intro a b;cases r with
 |call x k as=>
  have b:a∈[V.str "call",.int (k:Nat),.ref q]:=b;simp only[dW,gq,or_false] at b;rcases b with rfl|rfl|rfl
  ·exact .inl rfl
  ·exact .inl rfl
  ·exact .inr ⟨rfl,h x k as rfl⟩
 |_=>
  simp only[GC,dW,gq,or_false] at b;refine .inl ?_;rcases b with rfl|rfl|rfl|rfl<;>rfl
def Q9{c:gb}(h:lE c=false):(¬V.str (eZ c)=V.str "keep")/\¬V.str (eZ c)=V.str "jump":=by
 cases c<;>first|(cases h;done)|(constructor<;>(simp only[eZ];decide +kernel))
def R6{H:Hp}{p:c7}{r:ed}{x:Str}(h:gR H (.ref p) r)(e:jt r=some x):∃xs,H p=some (.tup (.str (gG r)::.str x::xs)):=by
 cases r with
 |num y z=>obtain⟨_,c,h⟩:=h;cases c;cases e;exact⟨_,h⟩
 |op y s a b=>obtain⟨_,c,h⟩:=h;cases c;cases e;exact⟨_,h⟩
 |call y k d=>obtain⟨_,_,c,h,_⟩:=h;cases c;cases e;exact⟨_,h⟩
 |_=>cases e
def Vk{c:gb}(h:lE c=true):(∃i,c=.keep i)\/∃a,c=.jump a:=by
 cases c<;>first|(cases h;done)|exact .inl ⟨_,rfl⟩|exact .inr ⟨_,rfl⟩
def Of{r:ed}{c:gb}(m:Int)(n:Nat)(b:lE c=false)(d:gG r=eZ c)(a:eZ c≠"give"):m+1∈ij m c/\n+1∈fK n r/\(ij m c)[0]?=some (m+1)/\(fK n r)[0]?=some (n+1):=by
 cases sN d<;>first|exact⟨by simp[ij],by simp[fK],rfl,rfl⟩|exact absurd rfl a|(cases b;done)
def Og{r:ed}{c:gb}(m:Int)(n:Nat)(b:lE c=false)(e:gG r=eZ c)(a:eZ c≠"give")(d:eZ c≠"test"):ij m c=[m+1]/\fK n r=[n+1]:=by
 cases sN e<;>first|exact⟨rfl,rfl⟩|exact absurd rfl a|exact absurd rfl d|(cases b;done)
def SA{r:ed}{c:gb}(e:gG r=eZ c)(d:eZ c="test"):∃i f a b,c=.test i f/\r=.test a b:=by
 cases sN e with
 |test=>exact⟨_,_,_,_,rfl,rfl⟩
 |_=>exact absurd d (by simp only[eZ];decide +kernel)
def QV{c:gb}(m:Int)(a:eZ c="give"):ij m c=[]:=by
 cases c<;>first|rfl|exact absurd a (by simp only[eZ];decide +kernel)
def Vh{r:ed}{c:gb}(b:gG r=eZ c)(a:qB c=true):∃x,jt r=some x:=by
 cases sN b<;>first|exact⟨_,rfl⟩|(cases a;done)
def Qx{c:gb}(a:List (Option Str))(x:Str)(b:qB c=true):BE c a (some x)=jg (a.map (jz x)) (some x):=by
 cases c<;>first|rfl|(cases b;done)
def Qw{c:gb}(a:List (Option Str))(o:Option Str)(b:qB c=false)(d:lE c=false):BE c a o=a:=by
 cases c<;>cases o<;>first|rfl|(cases b;done)|(cases d;done)
def Js{K:Fg}{vs:List V}{H:Hp}{Q:VK}{E:XK}(h:sU K vs H Q E):Bl K {nx:=λ_ H'=>Q .non H',rt:=Q} (fQ uM vs) H:=by
 obtain⟨rt,ct,pp,m,places,ar,aL,aH,rs,cs,ps,rfl,O,hR,good,ay,hC,M,hP,p2,j,wide,⟨c,⟨n,f⟩,r,ec,eq,er,aq,R,aB⟩,q⟩:=h;have er:rs[n]?=some r:=er;have ol:f.length=places:=wide m _ eq;have m0:(0:Int)<=((m:Nat):Int):=dz _;have n0:(0:Int)<=((n:Nat):Int):=dz _;obtain⟨cv,_,au,d,L⟩:=hC.get (i:=m) (cR.mp ec).1;rw[ec] at d;cases d;obtain⟨pv,_,av,d,pa,T,rfl,ae,g⟩:=hP.get (i:=m) (cR.mp eq).1;rw[eq] at d;cases d;obtain⟨rv,_,ab,d,P⟩:=hR.get (i:=n) (cR.mp er).1;rw[er] at d;cases d;have ae:H pa=some (.tup [.int (n:Nat),.ref T]):=ae;have g:H T=some (.tup (gs f)):=g;have R:∀i∈d5 c,0<=i/\i.toNat<f.length:=by rw[ol];exact R
 have RI:=Pb ec eq er;have p:∀C∈ij (m:Nat) c,0<=C/\∃qv B,aH[C.toNat]?=some qv/\ps[C.toNat]?=some B/\sD H qv B:=λC ht=>by
  obtain⟨t0,tl⟩:=aB C ht;obtain⟨qv,B,e1,d,h⟩:=hP.get tl;exact⟨t0,qv,B,e1,d,h⟩
 refine⟨_,rfl,_,rfl,eP M m0 (by rw[c8];exact av) ⟨pa,_,rfl,fA.of ae,rfl,_,_,rfl,_,_,rfl,rfl,?_⟩⟩;refine⟨_,rfl,_,rfl,eP ay m0 (by rw[c8];exact au) ?_⟩;obtain⟨cp,aM,rfl,J⟩:=L.ref;cases hs:lE c with
 |true=>
  rcases Vk hs with⟨i,rfl⟩|⟨C,rfl⟩
  ·obtain⟨_,e,hk⟩:=L;cases e;obtain⟨i0,il⟩:=R i (dc.mpr rfl);obtain⟨t0,qv,B,e1,d,hq⟩:=p (((m:Nat):Int)+1) (dc.mpr rfl);refine⟨_,rfl,Zt hk rfl (.inl ⟨rfl,_,rfl,yes ⟨_,rfl,_,rfl,.inl ⟨_,_,rfl,rfl,eP M t0 e1 ⟨_,rfl,_,rfl,_,rfl,_,rfl,Zt hk rfl (eP g i0 (F0 il) ⟨T,f,r8 f i,rfl,g,by lia,by lia,λt H1 ht s1=>⟨qv,t,B,n,_,rfl,hq.mono (.of_same s1),ht,by rw[wide _ _ d];exact j,by rw[wide _ _ d,kC,ol],λb H2 hb s2=>q b H2 ?_ (s1.trans s2)⟩⟩)⟩⟩⟩⟩)⟩;rw[RI,hb];refine⟨λz=>⟨(λw=>by cases w),(sM rfl rfl d).mpr z⟩,λz=>(sM rfl rfl d).mp z.2⟩
  ·obtain⟨_,e,hk⟩:=L;cases e;obtain⟨t0,qv,B,e1,d,hq⟩:=p C (dc.mpr rfl);have eb:BE (.jump C) f (jt r)=f:=by cases jt r<;>rfl
   refine⟨_,rfl,Zt hk rfl (.inl ⟨rfl,_,rfl,Zs ⟨_,rfl,Zt hk rfl (.inl ⟨rfl,_,rfl,yes ⟨_,rfl,_,rfl,Zt hk rfl (eP M t0 e1 ⟨_,rfl,_,rfl,qv,T,B,n,_,rfl,hq,g,by rw[wide _ _ d];exact j,by rw[wide _ _ d,ol],λb H2 hb s2=>q b H2 ?_ s2⟩)⟩⟩)⟩⟩)⟩;rw[RI,hb,eb];refine⟨λz=>⟨(λw=>by cases w),(sM rfl rfl d).mpr z⟩,λz=>(sM rfl rfl d).mp z.2⟩
 |false=>
  obtain⟨aE,aF⟩:=Q9 hs;refine⟨_,rfl,Zt J rfl (.inl ⟨rfl,_,rfl,no aE ⟨_,rfl,Zt J rfl (.inl ⟨rfl,_,rfl,no aF ?_⟩)⟩⟩)⟩;obtain⟨rp,aJ,rfl,ao⟩:=P.ref;obtain⟨q0,aw,ak⟩:=Rx P ao;refine⟨_,rfl,_,rfl,.ref cp,T,c,f,rfl,L,hs,g,aq,R,λp1 q1 H1 Y ag s1=>⟨_,rfl,_,rfl,eP (s1 _ _ O) n0 (by rw[c8];exact ab) ⟨rp,r,_,aJ,rfl,P.mono (.of_same s1),s1 _ _ ao,λaG H2 h2 s2=>?_⟩⟩⟩;have I:=s1.trans s2;rw[aw] at h2;have fu:(gs ((d5 c).map (r8 f))).all iT=true:=vH _;have fv:((iw r).map V.str).all iT=true:=tL _;refine⟨p1,aG,_,_,_,rfl,rfl,fA.of (s2 _ _ Y),fA.of h2,Vn (H0:=H) (q:=q1) (q0:=q0) (Mr λk as e=>⟨by rw[s2 _ _ (ag k as e).2,e];rfl,(ag k as e).1⟩) (L5 λx k as e=>⟨by rw[I _ _ (ak x k as e),e];rfl,by rw[ak x k as e];exact λz=>by cases z⟩) fu fv,_,rfl,?_⟩;have ss:=Pj (r:=r) (q:=q1) (q0:=q0) hs R;refine jU (λe=>?_) (λe=>?_)
  ·refine q _ H2 ⟨(λz=>by cases z),λz=>?_⟩ I;rw[ss.mpr ((RI.mp z).1 hs)] at e;cases e
  have v:=ss.mp (by simpa using e);have X:Im rs cs ps m↔∀(t:Nat) C n' B,(ij (m:Nat) c)[t]?=some C->(gB rs c n)[t]?=some n'->ps[C.toNat]?=some B->rQ B n' (BE c f (jt r)):=RI.trans ⟨λz=>z.2,λz=>⟨λ_=>v,z⟩⟩;have af:gB rs c n=(fK n r).map (runJ rs rs.length):=by
   unfold gB;rw[if_neg (by rw[hs];exact Bool.false_ne_true),er]
  clear e ss Y ag h2 RI;refine⟨_,rfl,Zt (I _ _ J) rfl (.inl ⟨rfl,_,rfl,pY (λhg=>?_) (λhg=>?_)⟩)⟩
  ·refine q _ H2 ⟨λ_=>X.mpr λt C n' B Y=>?_,λ_=>rfl⟩ I;have:=QV (m:Nat) hg;rw[this] at Y;simp at Y
  obtain⟨lm,ln,aC,aD⟩:=Of (m:Nat) n hs v.wd hg;obtain⟨t0,qv,B,e1,d,hq⟩:=p _ lm;have ah:∀(nb:c7) (o7:Option V) (S:Hp),du H S->S nb=some (.tup (gs (BE c f (jt r))))->wt K {nx:=λ_ H'=>Q .non H',rt:=Q} [XU rt,XU ct,XU pp,XW m,XW n,XU nb,XU cp,o7] S:=λnb o7 S G Z=>by
   have T3:=Tp.of_same G;refine⟨_,rfl,_,rfl,.inl ⟨_,_,rfl,rfl,eP (G _ _ M) t0 e1 ⟨_,rfl,_,rfl,.inl ⟨_,_,rfl,rfl,?_⟩⟩⟩⟩;refine⟨rt,n+1,ar,rs,rfl,G _ _ O,hR.imp λ_ _ z=>z.mono T3,good,good.inr n _ r er ln,_,rfl,qv,nb,B,_,_,rfl,hq.mono T3,Z,by rw[wide _ _ d];exact j,by rw[wide _ _ d,D4,ol],λb U hb s4=>⟨_,rfl,jU (λe=>?_) (λe=>?_)⟩⟩
   ·have e:b=false:=by simpa using e
    refine q _ U ⟨(λz=>by cases z),λz=>?_⟩ (G.trans s4);rw[hb.mpr (X.mp z 0 _ _ B aC (by rw[af,dw,aD];rfl) d)] at e;cases e
   have f1:=hb.mp (by simpa using e);have u:=G.trans s4;refine⟨_,rfl,Zt (u _ _ J) rfl (.inl ⟨rfl,_,rfl,pj (λht=>?_) (λht=>?_)⟩)⟩
   ·obtain⟨y1,y2⟩:=Og (m:Nat) n hs v.wd hg (λz=>ht (congrArg V.str z));exact q _ U ⟨λ_=>X.mpr ((sM y1 (by rw[af,y2];rfl) d).mpr f1),λ_=>rfl⟩ u
   ·obtain⟨i,C,a,aK,rfl,rfl⟩:=SA v.wd (V.str.inj ht);obtain⟨_,e',hk⟩:=L;cases e';obtain⟨_,e',az⟩:=P;cases e';obtain⟨u0,aI,q2,f3,f4,aA⟩:=p C (by simp[ij]);have T4:=Tp.of_same u;refine⟨_,rfl,_,rfl,Zt (u _ _ hk) rfl (eP (u _ _ M) u0 f3 ⟨_,rfl,_,rfl,_,rfl,eP (u _ _ O) n0 (by rw[c8];exact ab) (Zt (u _ _ az) rfl ⟨rt,aK,ar,rs,rfl,u _ _ O,hR.imp λ_ _ z=>z.mono T4,good,good.inr n _ _ er (by simp[fK]),_,rfl,aI,nb,q2,_,_,rfl,aA.mono T4,s4 _ _ Z,by rw[wide _ _ f4];exact j,by rw[wide _ _ f4,D4,ol],λb2 H5 ax s5=>q b2 H5 ?_ (u.trans s5)⟩)⟩)⟩;rw[ax,X,af];refine⟨λz t aN n2 q3 Y h2 h3=>?_,λz=>z 1 C _ q2 rfl rfl f4⟩
    match t with
    |0=>cases Y;cases h2;rw[d] at h3;cases h3;exact f1
    |1=>cases Y;cases h2;rw[f4] at h3;cases h3;exact z
    |t+2=>simp[ij] at Y
  refine⟨_,rfl,Zt (I _ _ J) rfl ⟨Zx,λt nt=>⟨t,_,rfl,.inr (fA.of cW),rfl,rfl,_,rfl,?_⟩⟩⟩;have G:du H (upd H2 t (.tup [V.str "num",V.str "op",V.str "call"])):=I.new nt;generalize upd H2 t (.tup [V.str "num",V.str "op",V.str "call"])=S at G ⊢;rw[show(if false=true then !kM (V.str (eZ c)) [V.str "num",V.str "op",V.str "call"] else kM (V.str (eZ c)) [V.str "num",V.str "op",V.str "call"])=qB c from AE c];refine jU (λhi=>?_) (λhi=>?_)
  ·obtain⟨x,ex⟩:=Vh v.wd hi;obtain⟨xs,hx⟩:=R6 P ex;have eb:BE c f (jt r)=jg (f.map (jz x)) (some x):=by rw[ex];exact Qx f x hi
   rw[eb] at ah;refine⟨_,rfl,_,rfl,eP (G _ _ O) n0 (by rw[c8];exact ab) (Zt (G _ _ hx) rfl ?_)⟩;refine .inr ⟨_,rfl,T,rfl,⟨_,fA.of (G _ _ g)⟩,λD nD=>?_⟩;refine jd (xs:=gs f) (λi aa H'=>∃o,aa=[XU rt,XU ct,XU pp,XW m,XW n,XU T,XU cp,some (.str x),o]/\H' D=some (.lst (gs ((f.take i).map (jz x))))/\du S H') ⟨none,rfl,cW,(du.refl S).new nD⟩ ?_ ?_ ?_
   ·rintro i aa H' _ ⟨_,_,_,s⟩;exact fA.of (s _ _ (G _ _ g))
   ·rintro i y aa U hy ⟨o,rfl,hD,s4⟩;obtain⟨z,ez,rfl⟩:∃z,f[i]?=some z/\y=oV z:=by
     unfold gs at hy;rw[dw] at hy;obtain⟨z,ez,e⟩:=iK.mp hy;exact⟨z,ez,e.symm⟩
    have il:=(cR.mp ez).1;refine ib ⟨_,rfl,Zw,λl nl=>?_⟩;have s5:du S (upd U l (.lst [oV z,.non])):=s4.new nl;have aj:=((du.refl U).new (o:=.lst [oV z,.non]) nl) _ _ hD;have hl:upd U l (.lst [oV z,.non]) l=some (.lst [oV z,.non]):=cW;refine⟨_,rfl,_,rfl,.inl ⟨AC z (some x),.inr ⟨_,rfl,?_⟩⟩⟩;show eJ K (.ref l) (.int (if decide (oV z=V.str x)=true then 1 else 0)) (upd U l (.lst [oV z,.non])) _;generalize upd U l (.lst [oV z,.non])=H5 at s5 aj hl;have ai:∀w:Option Str,w=jz x z->∃ys,H5 D=some (.lst ys)/\ys.length<c6/\∃o,([XU rt,XU ct,XU pp,XW m,XW n,XU T,XU cp,some (.str x),some (oV z)]:St)=[XU rt,XU ct,XU pp,XW m,XW n,XU T,XU cp,some (.str x),o]/\upd H5 D (.lst (ys++[oV w])) D=some (.lst (gs ((f.take (i+1)).map (jz x))))/\du S (upd H5 D (.lst (ys++[oV w]))):=λw ew=>by
     refine⟨_,aj,fE (by rw[fk,cT,dB];lia),_,rfl,?_,mq s5 nD⟩;rw[cW,hY ez,dt,ew];unfold gs;rw[dt];rfl
    by_cases c1:z=some x
    ·rw[decide_eq_true (show oV z=V.str x by rw[c1];rfl),if_pos rfl];exact nI (fR.of hl) (by decide) rfl (ai none (by unfold jz;rw[if_pos c1]))
    ·rw[decide_eq_false (show ¬oV z=V.str x from λw=>c1 (xi (b:=some x) w)),if_neg Bool.false_ne_true];exact nI (fR.of hl) (by decide) rfl (ai z (by unfold jz;rw[if_neg c1]))
   ·rintro aa U ⟨o,_,hD,s4⟩;rw[fk,fV] at hD;refine⟨D,_,rfl,.inl ⟨fR.of hD,λt nt=>⟨_,rfl,t,f.map (jz x),some x,rfl,cW,by rw[cT];lia,by rw[cT];lia,λnb H6 Z s6=>?_⟩⟩⟩;exact ah nb _ H6 ((G.trans (s4.new nt)).trans s6) Z
  ·have eb:=Qw f (jt r) hi hs;exact ah T none S G (by rw[eb];exact G _ _ g)
def Wt{K:Fg}{vs:List V}{H:Hp}{Q:VK}{E:XK}(h:Jx K vs H Q E):Tj K {nx:=λ_ H'=>Q .non H',rt:=Q} (fQ SL vs) H:=by
 obtain⟨places,L,cps,aR,⟨pg,pp,cv,aa,aU,rfl,r,hP,ay,⟨ca,cq,aj,rfl,g,C,hC⟩,⟨aL,az⟩,aF,hQ,⟨p1,k⟩,R⟩,p2,q⟩:=h;have aW:=ay.1;have bl:=hP.len;have cl:=hC.len;refine⟨_,rfl,_,_,rfl,.inr ⟨_,fA.of r,rfl⟩,_,rfl,Zt g rfl ⟨_,_,rfl,.inr ⟨_,fA.of C,rfl⟩,_,_,rfl,?_⟩⟩;have mx:(if((aj.length:Nat):Int)>((aa.length:Nat):Int) then((aj.length:Nat):Int) else((aa.length:Nat):Int))=((max L.length cps.length:Nat):Int):=by
  rw[bl,cl];split<;>lia
 rw[mx];obtain⟨aI,U⟩:=BV λi a H'=>∃o3,a=[XU pg,XU ca,XU pp,o3,none,none,none]/\(∀j,j<i->¬Kc L cps j)/\du H H';refine⟨_,rfl,by lia,by lia,jO (n:=((max L.length cps.length:Nat):Int).toNat) aI (U.mpr ⟨none,rfl,(λj P=>absurd P (fN j)),du.refl H⟩) ?_ ?_⟩
 ·rintro i a H1 hi G;obtain⟨o3,rfl,all,d⟩:=U.mp G;rw[c8] at hi;have e0:(0:Int)+(i:Int)=((i:Nat):Int):=by lia
  rw[e0];have u:∀(f:Hp) (t:c7),du H f->f t=none->Kc L cps i->Q (.ref t) (upd f t (.tup [.int (i:Nat),.int 0])):=λf t x s hu=>
   q (some (i,0)) _ _ (.inl ⟨i,⟨hi,hu,all⟩,rfl⟩) ⟨t,rfl,cW⟩ (x.new s)
  refine⟨_,rfl,_,rfl,_,_,rfl,.inr ⟨_,fA.of (d _ _ r),rfl⟩,_,_,rfl,rfl,_,rfl,fM (λh=>sH ⟨_,rfl,Zw,λt s=>u _ t d s ?_⟩) (λh=>?_)⟩
  ·unfold Kc;rw[fI (by lia)];intro z;rw[cP (by lia)] at z;cases z
  have O:i<L.length:=by lia
  refine⟨_,rfl,_,rfl,Zt (d _ _ g) rfl ⟨_,_,rfl,.inr ⟨_,fA.of (d _ _ C),rfl⟩,_,_,rfl,rfl,_,rfl,fM (λh=>sH ⟨_,rfl,Zw,λt s=>u _ t d s ?_⟩) (λh=>?_)⟩⟩
  ·unfold Kc;rw[fI (l:=cps) (by lia),cP O];exact λz=>by cases z
  have h2:i<cps.length:=by lia
  obtain⟨bv,b,ak,eb,pa,qa,ra,aw,rfl,T,au,av,hR⟩:=hP.get O;obtain⟨cv,c,ao,ec,aA,aB,B,rfl,p,D,ar⟩:=hC.get h2;have un:Kc L cps i↔¬((b.params.length:Nat):Int)=c.1:=by
   unfold Kc;rw[eb,ec];exact⟨λz w=>z (congrArg some w),λz w=>z (Option.some.inj w)⟩
  refine⟨_,rfl,_,rfl,eP (d _ _ r) (dz _) (by rw[c8];exact ak) (Zt (d _ _ T) rfl ⟨_,_,rfl,.inr ⟨_,fA.of (d _ _ au),rfl⟩,_,rfl,Zt (d _ _ g) rfl ⟨_,rfl,eP (d _ _ C) (dz _) (by rw[c8];exact ao) (Zt (d _ _ p) rfl (.inl ⟨rfl,_,rfl,pj (λh=>?_) (λh=>?_)⟩))⟩⟩)⟩
  ·refine⟨_,rfl,Zw,λt s=>u _ t d s (un.mpr λz=>h ?_)⟩;rw[cT,z]
  ·refine U.mpr ⟨_,rfl,λj P=>?_,d⟩;by_cases c1:j=i
   ·rw[c1,un];have h:=V.int.inj h;rw[cT] at h;exact λz=>z h
   ·exact all j (by lia)
 ·rintro a H1 G;obtain⟨o3,rfl,all,d⟩:=U.mp G;rw[c8] at all;have hu:vk (Kc L cps) (max L.length cps.length) none:=all;have l1:=Kx hu;obtain⟨l2,sh⟩:=R l1;obtain⟨aJ,X⟩:=BV λi a H'=>∃o3 o4 o5 Z,a=[XU pg,XU ca,XU pp,o3,o4,o5,Z]/\(∀(j:Nat) b c I,j<i->L[j]?=some b->cps[j]?=some c->aR[j]?=some I->uf places b c.2 I none)/\du H H';refine⟨_,rfl,_,_,rfl,.inr ⟨_,fA.of (d _ _ r),rfl⟩,_,rfl,by lia,by lia,jO (n:=((aa.length:Nat):Int).toNat) aJ (X.mpr ⟨_,none,none,none,rfl,(λj _ _ _ P=>absurd P (fN j)),d⟩) ?_ ?_⟩
  ·rintro i a f hi G;obtain⟨o3,o4,o5,Z,rfl,all,x⟩:=X.mp G;rw[c8,bl] at hi;have e0:(0:Int)+(i:Int)=((i:Nat):Int):=by lia
   have i0:(0:Int)<=((i:Nat):Int):=dz _;obtain⟨bv,b,ak,eb,pa,qa,ra,aw,rfl,T,au,av,hR⟩:=hP.get hi;obtain⟨cv,c,ao,ec,aA,aB,B,rfl,p,D,ar⟩:=hC.get (i:=i) (by lia);obtain⟨qv,I,eqv,aq,aG,aT,rfl,ah,aE⟩:=hQ.get (i:=i) (by lia);obtain⟨g1,g2,g3⟩:=ay.2 b (dg eb);have S:=sh i b c I eb ec aq;have ae:aa[((i:Nat):Int).toNat]?=some (.ref pa):=by rw[c8];exact ak
   have af:aj[((i:Nat):Int).toNat]?=some (.ref aA):=by rw[c8];exact ao
   have ag:aU[((i:Nat):Int).toNat]?=some (.ref aG):=by rw[c8];exact eqv
   rw[e0];refine⟨_,rfl,_,rfl,eP (x _ _ r) i0 ae (Zt (x _ _ T) rfl ?_)⟩;refine⟨_,rfl,_,rfl,eP (x _ _ r) i0 ae (Zt (x _ _ T) rfl ⟨qa,_,rfl,fA.of (x _ _ au),λp3 aO=>⟨Zv,λp4 aP=>?_⟩⟩)⟩;have s3:=x.new (o:=.tup (b.params.map V.str).reverse) aO;have h3:upd f p3 (.tup (b.params.map V.str).reverse) p3=some (.tup (b.params.map V.str).reverse):=cW;have ai:upd f p3 (.tup (b.params.map V.str).reverse) p4=none:=aP;generalize upd f p3 (.tup (b.params.map V.str).reverse)=H3 at s3 h3 ai ⊢;have ab:=(du.refl H3).new (o:=.tup [.non]) ai;have h4:upd H3 p4 (.tup [V.non]) p4=some (.tup [V.non]):=cW;show dF (eJ K) (cU 1) Za [XU pg,XU ca,XU pp,XW i,XU ra,o5,Z] (upd H3 p4 (.tup [.non])) _;generalize upd H3 p4 (.tup [V.non])=H4 at ab h4;have s4:=s3.trans ab;refine⟨_,rfl,Zt (s4 _ _ g) rfl (J0 h4 p2 k λp5 H5 h5 s5=>?_)⟩;refine Qa ((ab.trans s5) _ _ h3) h5 (by rw[fk,d3,e6,cT];lia) λp6 H6 h6 s6=>?_;have ax:=s4.trans (s5.trans s6);refine⟨_,rfl,Zt (ax _ _ g) rfl ⟨_,rfl,AF h6 λp7 H7 h7 s7=>?_⟩⟩;have aM:H7 p7=some (.tup (gs ((b.params.reverse.map some++dm places none).take places))):=by
    rw[h7];unfold gs;rw[gv,dt,gZ,mN];rfl
   have J:=ax.trans s7;clear h7 h6 h5 h4 h3 s5 s6 s7 ab s3 s4 ax;obtain⟨aS,q0,aD,M,aN⟩:=aE.get (i:=0) (by rw[S.len];exact S.pos);have T7:=Tp.of_same J;refine⟨_,rfl,_,rfl,eP (J _ _ aF) i0 ag (Zt (J _ _ ah) aD ⟨_,rfl,ra,0,aw,b.rows,rfl,J _ _ av,hR.imp λ_ _ z=>z.mono T7,g1,eL.mpr g2,_,rfl,aS,p7,q0,_,_,rfl,aN.mono T7,aM,by rw[S.wide _ _ M];exact k,by rw[S.wide _ _ M,dB,c9,d3];lia,λt H8 ht s8=>⟨_,rfl,?_⟩⟩)⟩;have v:=J.trans s8;have f0:t=true↔Qg places b I:=ht.trans ⟨λz=>⟨q0,M,z⟩,λ⟨q',e,z⟩=>by rw[M] at e;cases e;exact z⟩;have u:∀(m:Nat) (f:Hp) (t:c7),du H f->f t=none->uf places b c.2 I (some m)->Q (.ref t) (upd f t (.tup [.int (i:Nat),.int (m:Nat)])):=λm f t x s hw=>
    q (some (i,m)) _ _ (.inr ⟨hu,.inr ⟨i,m,rfl,⟨b,c,I,eb,ec,aq,hw⟩,all⟩⟩) ⟨t,rfl,cW⟩ (x.new s)
   refine jU (λe=>?_) (λe=>?_)
   ·have e:t=false:=by simpa using e
    exact⟨_,rfl,Zw,λt s=>u 0 _ t v s (.inl ⟨(λz=>by rw[f0.mpr z] at e;cases e),rfl⟩)⟩
   have f0:=f0.mp (by simpa using e);have aC:=ar.len;have c5:=az c (dg ec);obtain⟨aK,Y⟩:=BV λj a H'=>∃Z,a=[XU pg,XU ca,XU pp,XW i,XU ra,XU p7,Z]/\(∀m,m<j->Im b.rows c.2 I m)/\du H H';refine⟨_,rfl,Zt (v _ _ g) rfl ⟨_,rfl,eP (v _ _ C) i0 af (Zt (v _ _ p) rfl ⟨_,_,rfl,.inr ⟨_,fA.of (v _ _ D),rfl⟩,_,rfl,by lia,by lia,jO (n:=((B.length:Nat):Int).toNat) aK (Y.mpr ⟨Z,rfl,(λm hm=>absurd hm (fN m)),v⟩) ?_ ?_⟩)⟩⟩
   ·rintro j a H9 P G;obtain⟨Z,rfl,good,y⟩:=Y.mp G;rw[c8,aC] at P;have e0:(0:Int)+(j:Int)=((j:Nat):Int):=by lia
    have T9:=Tp.of_same y;rw[e0];refine⟨_,rfl,_,rfl,Zt (y _ _ g) rfl ⟨_,rfl,eP (y _ _ C) i0 af (Zt (y _ _ p) rfl ⟨_,rfl,_,rfl,eP (y _ _ aF) i0 ag ⟨_,rfl,ra,aB,aG,j,places,aw,B,aT,b.rows,c.2,I,rfl,y _ _ av,hR.imp λ_ _ z=>z.mono T9,g1,y _ _ D,ar.imp λ_ _ z=>z.mono T9,y _ _ ah,aE.imp λ_ _ z=>z.mono T9,p2,k,S.wide,S.row j P,λt aV ht aH=>⟨_,rfl,jU (λe=>?_) (λe=>?_)⟩⟩⟩)⟩⟩
    ·have e:t=false:=by simpa using e
     exact⟨_,rfl,_,rfl,Zw,λt s=>u j _ t (y.trans aH) s (.inr ⟨f0,P,(λz=>by rw[ht.mpr z] at e;cases e),λm hm z=>z (good m hm)⟩)⟩
    ·refine Y.mpr ⟨_,rfl,λm hm=>?_,y.trans aH⟩;by_cases c1:m=j
     ·rw[c1];exact ht.mp (by simpa using e)
     ·exact good m (by lia)
   ·rintro a H9 G;obtain⟨Z,rfl,good,y⟩:=Y.mp G;rw[c8,aC] at good;refine X.mpr ⟨_,_,_,_,rfl,λj b' c' aQ P O h2 h3=>?_,y⟩;by_cases e:j=i
    ·subst e;rw[eb] at O;cases O;rw[ec] at h2;cases h2;rw[aq] at h3;cases h3;exact .inr ⟨f0,λm hm z=>z (good m hm)⟩
    ·exact all j b' c' aQ (by lia) O h2 h3
  ·rintro a f G;obtain⟨o3,o4,o5,Z,rfl,all,x⟩:=X.mp G;rw[c8,bl] at all;exact q none _ f (.inr ⟨hu,.inl ⟨rfl,λj b c I O=>all j b c I (cR.mp O).1 O⟩⟩) rfl x
def za(a:List (Option Str))(i:Nat)(o:Option Str):(gs a).set i (oV o)=gs (a.set i o):=by
 unfold gs;rw[List.map_set]
def Pg{xs:List V}{i:Nat}(h:i<xs.length):P9 xs.length ((i:Nat):Int)=some i:=by
 unfold P9;simp;lia
def yB{K:Fg}{vs:List V}{H:Hp}{Q:VK}{E:XK}(h:mX K vs H Q E):rY K {nx:=λ_ H'=>Q .non H',rt:=Q} (fQ nX vs) H:=by
 obtain⟨f,rt,nm,v,k,aG,U,us,⟨n,b⟩,rfl,S,k8,af,hR,good,ax,aq,aD,ul,⟨pa,na,rfl,ae,J⟩,nl,o2,s,q⟩:=h;have nl:n<U.length:=nl;have o2:2<=b.length:=o2;have s:b.length<=1000:=s;have ae:H pa=some (.tup [.int (n:Nat),.ref na]):=ae;have J:H na=some (.tup (gs b)):=J;have rl:=hR.len;have rf:=good.few;have aF:=S.tup_ne af;have P:=S.tup_ne J;obtain⟨sy,az⟩:=S.lst;have I:∀(n':Nat) (a:c7) (T:List (Option Str)) (k':Nat) (H':Hp) (t:c7),n'<U.length->T.length=b.length->H' a=some (.tup (gs T))->j5 K H' f k'->k'<=k+5->iO f H H'->H' t=none->Q (.ref t) (upd H' t (.tup [.int (n':Nat),.ref a])):=λn' a T k' H' t h1 h2 h3 S' kl B x=>
  q (.ref t) (n',T) k' _ ⟨t,a,rfl,cW,((du.refl H').new x) _ _ h3⟩ h1 h2 (S'.new x) kl (B.new x)
 refine⟨_,rfl,pa,_,rfl,fA.of ae,rfl,_,_,rfl,_,_,rfl,rfl,?_⟩;obtain⟨m0,r0,aA,av,aC⟩:∃m r,m<U.length/\U[m]?=some r/\je r=false:=by
  have hl:=rr good U.length good.pos;exact⟨_,U[runJ U U.length 0],hl,cP hl,good.ring 0 good.pos _ (cP hl)⟩
 refine⟨_,rfl,_,_,rfl,.inr ⟨_,fA.of af,rfl⟩,_,rfl,by lia,by lia,λD nD=>?_⟩;have ag:D≠f:=λz=>by rw[z,az] at nD;cases nD
 refine mR (λi ah H'=>∃o O,ah=[XU f,XU rt,XU nm,XU pa,XW n,XU na,none,none,none,none,none,o]/\H' D=some (.lst (eU O))/\O.length<=i/\(∀m∈O,m<U.length)/\(m0<i->O≠[])/\du H H') ⟨none,[],rfl,cW,dk _,(λm hm=>by cases hm),λz=>absurd z (fN _),(du.refl H).new nD⟩ ?_ ?_
 ·rintro i ah H1 hi ⟨o,O,rfl,hD,ml,mi,M,s1⟩;rw[c8,rl] at hi;have e0:(0:Int)+(i:Int)=((i:Nat):Int):=by lia
  obtain⟨rv,r,aw,er,hr⟩:=hR.get hi;obtain⟨rp,xs,rfl,ay⟩:=hr.ref;rw[e0];refine⟨_,rfl,_,rfl,eP (s1 _ _ af) (dz _) (by rw[c8];exact aw) (Zt (s1 _ _ ay) rfl (.inl ⟨rfl,_,rfl,pj (λe=>?_) (λe=>?_)⟩))⟩
  ·refine⟨_,rfl,_,hD,fE (by rw[hW];lia),_,O++[i],rfl,?_,by rw[c9];simp;lia,λm hm=>?_,λ_ z=>by simp at z,mq s1 nD⟩
   ·rw[cW];unfold eU;rw[dt];rfl
   ·rcases d9.mp hm with hm|hm
    ·exact mi m hm
    ·rw[dc.mp hm];exact hi
  ·refine⟨_,O,rfl,hD,by lia,mi,λz=>M ?_,s1⟩;have:m0≠i:=λz=>by
    subst z;rw[av] at er;cases er;have e:=V.str.inj e;cases r0 with
    |jump to=>cases aC
    |_=>exact absurd e (by simp only[gG];decide +kernel)
   lia
 rintro ah H1 ⟨o,O,_,hD,ml,mi,M,s1⟩;rw[c8,rl] at ml M;have aB:=M aA;clear M;refine⟨_,rfl,f,5,k,rfl,S.same s1,by lia,by decide,by decide,λw H2 w0 w1 S2 B2=>?_⟩;have b2:iO f H H2:=λa o n e=>B2 _ _ n (s1 _ _ e);refine⟨_,rfl,_,rfl,_,_,rfl,.inr ⟨_,fA.of (b2 _ _ P J),rfl⟩,f,((gs b).length:Nat),k+1,rfl,S2,by lia,by rw[fk];lia,by rw[fk];lia,λd H3 d0 d1 S3 B3=>?_⟩;rw[fk] at d1;obtain⟨i,rfl⟩:=fb d0;have il:i<(gs b).length:=by rw[fk];lia
 have b3:=gS b2 B3;have ai:=B3 _ _ ag (B2 _ _ ag hD);have c:=b3 _ _ P J;have aa:=b3 _ _ aq ax;have xl:(gs b).length<=1000:=by rw[fk];exact s
 refine⟨_,rfl,.inr (.inl ⟨rfl,_,rfl,fM (λ_=>?_) (λ_=>?_)⟩)⟩
 ·-- another row
  have mp:=eL.mpr aB;refine fj (d7 ⟨_,rfl,_,rfl,_,rfl,_,_,rfl,.inl ⟨_,fR.of ai,rfl⟩,f,((eU O).length:Nat),k+2,rfl,S3,by lia,by rw[hW];lia,by rw[hW];lia,λj g j0 j1 S4 X=>?_⟩);rw[hW] at j1;obtain⟨j,rfl⟩:=fb j0;have jl:j<O.length:=by lia
  refine nI (fR.of (X _ _ ag ai)) (dz _) (by rw[c8];unfold eU;rw[dw,cP jl];rfl) ⟨_,rfl,Zw,λt x=>?_⟩;exact I O[j] na b (k+2+1) g t (mi _ (gg jl)) rfl (X _ _ P c) S4 (by lia) (gS b3 X) x
 refine⟨_,rfl,.inr (.inl ⟨rfl,_,rfl,fM (λ_=>?_) (λ_=>?_)⟩)⟩
 ·-- a name left out
  refine fj ⟨_,rfl,d7 (OI (xs:=gs b) (λv' g=>v'=.non/\du H3 g) rfl rfl c il xl (λR g C h=>h .non g ⟨rfl,C⟩ (.refl g)) λv' g p' u ⟨ev,C⟩ ab G=>⟨Zw,λt x=>?_⟩)⟩;subst ev;exact I n p' (b.set i none) (k+2) u t nl (eX ..) (by rw[ab,<-za];rfl) (S3.same (C.trans G)) (by lia) (fJ b3 (C.trans G)) x
 refine⟨_,rfl,.inr (.inl ⟨rfl,_,rfl,fM (λ_=>?_) (λ_=>?_)⟩)⟩
 ·-- another name
  have aE:=eL.mpr aD;refine fj ⟨_,rfl,d7 (OI (xs:=gs b) (λv' g=>∃y,v'=.str y/\j5 K g f (k+3)/\iO f H g) rfl rfl c il xl (λR g C h=>?_) λv' g p' u ⟨y,ev,S4,X⟩ ab G=>⟨Zw,λt x=>?_⟩)⟩
  ·refine⟨_,rfl,_,rfl,_,rfl,_,_,rfl,.inl ⟨_,fR.of (C _ _ aa),rfl⟩,f,((us.map V.str).length:Nat),k+2,rfl,S3.same C,by lia,by rw[cT];lia,by rw[cT];lia,λj u j0 j1 S5 B5=>?_⟩;rw[cT] at j1;obtain⟨j,rfl⟩:=fb j0;have jl:j<us.length:=by lia
   refine nI (fR.of (B5 _ _ aq (C _ _ aa))) (dz _) (by rw[c8,dw,cP jl];rfl) (h _ u ⟨_,rfl,S5,gS (fJ b3 C) B5⟩ ?_);obtain⟨zs,e⟩:=(S3.same C).lst;exact .of_but B5 e
  ·subst ev;exact I n p' (b.set i (some y)) (k+3) u t nl (eX ..) (by rw[ab,<-za];rfl) (S4.same G) (by lia) (fJ X G) x
 refine⟨_,rfl,.inr (.inl ⟨rfl,_,rfl,fM (λ_=>?_) (λ_=>?_)⟩)⟩
 ·-- turned round
  refine fj ⟨_,rfl,d7 ⟨_,rfl,_,rfl,_,rfl,?_⟩⟩;show jH K (.ref na) none (some ((1:Nat):Int)) H3 _;refine AF c λp4 g h4 C=>Qa (C _ _ c) h4 (by rw[dB];lia) λp5 u h5 G=>⟨_,rfl,?_⟩;show jH K (.ref p5) (some ((1:Nat):Int)) none u _;refine Wx h5 λp6 Y h6 s6=>⟨Zw,λt x=>?_⟩;have au:=C.trans (G.trans s6);refine I n p6 ((b++b.take 1).drop 1) (k+2) Y t nl (by rw[gm,c9,dB];lia) ?_ (S3.same au) (by lia) (fJ b3 au) x;rw[h6];unfold gs;rw[kA,dt,gv]
 refine⟨_,rfl,_,rfl,_,_,rfl,.inr ⟨_,fA.of c,rfl⟩,f,((gs b).length:Nat),k+2,rfl,S3,by lia,by rw[fk];lia,by rw[fk];lia,λd g j0 j1 S4 X=>?_⟩;rw[fk] at j1;obtain⟨j,rfl⟩:=fb j0;have jl:j<b.length:=by lia
 have i2:i<b.length:=by lia
 have b4:=gS b3 X;have L:=X _ _ P c;refine⟨_,rfl,na,_,rfl,.inr (fA.of L),λl p=>?_⟩;have G:=(du.refl g).new (o:=.lst (gs b)) p;have h5:upd g l (.lst (gs b)) l=some (.lst (gs b)):=cW;have ak:na≠l:=de L p;have aj:H l=none:=by
  cases z:H l with
  |none=>rfl
  |some o=>
   have:l≠f:=λw=>by obtain⟨zs,e⟩:=S4.lst;rw[w,e] at p;cases p
   rw[b4 _ _ this z] at p;cases p
 generalize upd g l (.lst (gs b))=u at G h5;have Z:=G _ _ L;have S5:=S4.same G;have ao:f≠l:=by
  obtain⟨zs,e⟩:=S4.lst;exact de e p
 refine⟨_,rfl,_,rfl,eP Z (dz _) (by rw[c8];exact lh (cP jl)) ⟨_,rfl,_,rfl,l,_,_,i,rfl,rfl,h5,Pg il,?_⟩⟩;rw[za];have B6:iO l u (upd u l (.lst (gs (b.set i b[j])))):=iO.upd_at;have h6:upd u l (.lst (gs (b.set i b[j]))) l=some (.lst (gs (b.set i b[j]))):=cW;have S6:j5 K (upd u l (.lst (gs (b.set i b[j])))) f (k+2+1):=S5.mono B6 h5 ao;generalize upd u l (.lst (gs (b.set i b[j])))=Y at B6 h6 S6;refine⟨_,rfl,_,rfl,eP (B6 _ _ ak Z) (dz _) (by rw[c8];exact lh (cP i2)) ⟨_,rfl,_,rfl,l,_,_,j,rfl,rfl,h6,Pg (by rw[fk,eX];exact jl),?_⟩⟩;rw[za];have B7:iO l Y (upd Y l (.lst (gs ((b.set i b[j]).set j b[i])))):=iO.upd_at;have h7:upd Y l (.lst (gs ((b.set i b[j]).set j b[i]))) l=some (.lst (gs ((b.set i b[j]).set j b[i]))):=cW;show pR K _ [XU f,XU rt,XU nm,XU pa,XW n,XU na,XU D,XX w,XW i,XW j,XU l] (upd Y l (.lst (gs ((b.set i b[j]).set j b[i]))));have S7:j5 K (upd Y l (.lst (gs ((b.set i b[j]).set j b[i])))) f (k+2+1):=S6.mono B7 h6 ao;generalize upd Y l (.lst (gs ((b.set i b[j]).set j b[i])))=H7 at B7 h7 S7;have b7:iO f H H7:=λa o n e=>B7 _ _ (de e aj) (B6 _ _ (de e aj) (G _ _ (b4 a o n e)));refine fj ⟨_,rfl,d7 ⟨_,rfl,l,_,rfl,.inl ⟨fR.of h7,λp8 ar=>⟨Zw,λt x=>?_⟩⟩⟩⟩;exact I n p8 _ (k+2+1) _ t nl (by rw[eX,eX]) cW (S7.new ar) (by lia) (b7.new ar) x
def Ah{r:R2}{b c:TE}{a:St}{H:Hp}{Q:VK}(h:b a H λx d=>c a d λy H2=>r x y H2 Q):dF r b c a H Q:=h
def SY{K:Fg}{b c d l:c7}{H:Hp}{Q:VK}{i:Nat}(a:H l=some (.lst [.ref b,.ref c,.ref d]))(f:Q (.ref b) H)(g:Q (.ref c) H)(h:Q (.ref d) H):eJ K (.ref l) (.int (((i:Nat):Int) % 3)) H Q:=by
 have:((i:Nat):Int) % 3=0\/((i:Nat):Int) % 3=1\/((i:Nat):Int) % 3=2:=by lia
 rcases this with e|e|e<;>rw[e]
 ·exact nI (fR.of a) (by decide) rfl f
 ·exact nI (fR.of a) (by decide) rfl g
 ·exact nI (fR.of a) (by decide) rfl h
def As{K:Fg}{vs:List V}{H:Hp}{Q:VK}{E:XK}(h:oi K vs H Q E):tq K {nx:=λ_ H'=>Q .non H',rt:=Q} (fQ sv vs) H:=by
 obtain⟨D,ca,cq,u,k,m,places,az,c,rfl,S,k8,ar,aA,p1,aE,cne,cl,m1,aB,hu,J,q⟩:=h;have aG:=eL.mpr cne;refine⟨_,rfl,_,rfl,Zt ar rfl ⟨D,(places:Nat),k,rfl,S,by lia,by lia,by lia,λd H1 d0 d1 X B1=>?_⟩⟩;obtain⟨i,rfl⟩:=fb d0;have r:∀{a:c7} {xs:List V},H a=some (.tup xs)->H1 a=some (.tup xs):=λh=>B1 _ _ (S.tup_ne h) h;have ag:∀(p:c7) (w:Str) (x:Int) (ys:List V) (c':gb) (k2:Nat) (U:Hp),U p=some (.tup (.str w::.int x::ys))->ys.length<=10->(∀t H',H' t=some (.tup (.str w::.int (i:Nat)::ys))->hI H' (.ref t) c')->(d5 c').length<=1000->j5 K U D k2->k2<=k+2->iO D H U->
   qK K {nx:=λ_ H'=>Q .non H',rt:=Q} [XU D,XU ca,XU p,XW m,XW i,none,none] U:=λp w x ys c' k2 U j yl mk ah I kl v=>by
  refine⟨_,rfl,D,6,k2,rfl,I,by lia,by decide,by decide,λd H3 d0 d1 S3 B3=>.inr (.inl ⟨rfl,_,rfl,fM (λ_=>?_) (λ_=>?_)⟩)⟩
  ·refine nC (Ah (vF (jv [.str "say",.int (i:Nat)] (λR h=>⟨_,rfl,h⟩) (by simp) λL H4 h4 O=>jv [.str "keep",.int (i:Nat)] (λR h=>⟨_,rfl,h⟩) (by simp) λy H5 h5 P=>jv [.str "num",.int (i:Nat)] (λR h=>⟨_,rfl,h⟩) (by simp) λa3 H6 h6 Y=>⟨Zx,λl nl=>⟨_,rfl,_,_,rfl,rfl,(by show(0:Int)<3;decide),?_⟩⟩)));have n:=(O.trans (P.trans Y)).new (o:=.lst [.ref L,.ref y,.ref a3]) nl;have G:=(du.refl H6).new (o:=.lst [.ref L,.ref y,.ref a3]) nl;exact SY cW (q _ (.say i) _ _ ⟨L,rfl,G _ _ (Y _ _ (P _ _ h4))⟩ (by simp[d5]) (S3.same n) (by lia) (fJ (gS v B3) n)) (q _ (.keep i) _ _ ⟨y,rfl,G _ _ (Y _ _ h5)⟩ (by simp[d5]) (S3.same n) (by lia) (fJ (gS v B3) n)) (q _ (.num i) _ _ ⟨a3,rfl,G _ _ h6⟩ (by simp[d5]) (S3.same n) (by lia) (fJ (gS v B3) n))
  ·have aw:=B3 _ _ (I.tup_ne j) j;show qJ K _ [XU D,XU ca,XU p,XW m,XW i,none,none] H3;refine nC (Ah (fj (d7 ⟨_,rfl,Zt aw rfl ⟨_,rfl,Zw,λt r=>?_⟩⟩)));have O:=(du.refl H3).new (o:=.tup [.str w,.int (i:Nat)]) r;have h4:upd H3 t (.tup [.str w,.int (i:Nat)]) t=some (.tup [.str w,.int (i:Nat)]):=cW;refine⟨_,rfl,_,rfl,?_⟩;show jH K (.ref p) (some ((2:Nat):Int)) none (upd H3 t (.tup [.str w,.int (i:Nat)])) _;generalize upd H3 t (.tup [.str w,.int (i:Nat)])=H4 at O h4;refine Wx (O _ _ aw) λp5 H5 h5 P=>Qa (P _ _ h4) h5 (by simp;lia) λp6 H6 h6 Y=>?_;have n:=O.trans (P.trans Y);exact q _ c' _ _ (mk p6 H6 h6) ah (S3.same n) (by lia) (fJ (gS v B3) n)
 have rest:∀(p:c7) (w:Str) (x:Int) (ys:List V) (c':gb),H1 p=some (.tup (.str w::.int x::ys))->ys.length<=10->(∀t H',H' t=some (.tup (.str w::.int (i:Nat)::ys))->hI H' (.ref t) c')->(d5 c').length<=1000->¬V.str w=V.str "num"->¬V.str w=V.str "op"->¬V.str w=V.str "call"->¬V.str w=V.str "jump"->((V.str w=V.str "test")->qL K {nx:=λ_ H'=>Q .non H',rt:=Q} [XU D,XU ca,XU p,XW m,XW i,none,none] H1)->
   qO K {nx:=λ_ H'=>Q .non H',rt:=Q} [XU D,XU ca,XU p,XW m,XW i,none,none] H1:=λp w x ys c' j yl mk ah n1 n2 n3 n4 aF=>by
  refine⟨_,rfl,Zt j rfl (.inr (.inl ⟨rfl,_,rfl,no n1 ⟨_,rfl,Zt j rfl (.inr (.inl ⟨rfl,_,rfl,no n2 ⟨_,rfl,Zt j rfl (.inr (.inl ⟨rfl,_,rfl,no n3 ⟨_,rfl,Zt j rfl (.inr (.inl ⟨rfl,_,rfl,no n4 ?_⟩))⟩⟩))⟩⟩))⟩⟩))⟩;by_cases ht:V.str w=V.str "test"
  ·exact aF ht
  ·exact⟨_,rfl,Zt j rfl (.inr (.inl ⟨rfl,_,rfl,no ht (lT (ag p w x ys c' (k+1) H1 j yl mk ah X (by lia) B1))⟩))⟩
 cases c with
 |num z=>
  obtain⟨p,rfl,j⟩:=hu;have j:=r j;refine⟨_,rfl,Zt j rfl (.inr (.inl ⟨rfl,_,rfl,yes ?_⟩))⟩;refine fj (nY (d7 ⟨_,rfl,Zt j rfl (.inr (.inl ⟨_,_,rfl,rfl,_,_,rfl,rfl,⟨by decide,by decide,by decide⟩,_,_,rfl,rfl,(by show(0:Int)<2 ^ iA 64;decide),Zw,λt r=>?_⟩))⟩));exact q _ (.num _) _ _ ⟨t,rfl,cW⟩ (by simp[d5]) (X.new r) (by lia) (B1.new r)
 |op s a b=>
  obtain⟨p,rfl,j⟩:=hu;have j:=r j;refine⟨_,rfl,Zt j rfl (.inr (.inl ⟨rfl,_,rfl,Zs ⟨_,rfl,Zt j rfl (.inr (.inl ⟨rfl,_,rfl,yes ?_⟩))⟩⟩))⟩;refine⟨_,rfl,D,5,k+1,rfl,X,by lia,by decide,by decide,λe U e0 e1 I v=>?_⟩;obtain⟨g,g1,_⟩:=KO e.toNat (by lia);refine WN (by decide +kernel) e0 g1 ?_;have C:=v _ _ (X.tup_ne j) j;show qN K _ [XU D,XU ca,XU p,XW m,XW i,some (.str ⟨#[g]⟩),none] U;refine nC (Ah (vF (jv [.str "op",.str ⟨#[g]⟩,.int a,.int b] (λR h=>⟨_,rfl,_,rfl,Zt C rfl ⟨_,rfl,Zt C rfl h⟩⟩) (by simp) λL H4 h4 O=>?_)));have M:=O _ _ C;refine jv [.str "op",.str s,.int (i:Nat),.int b] (λR h=>⟨_,rfl,Zt M rfl ⟨_,rfl,_,rfl,Zt M rfl h⟩⟩) (by simp) λy H5 h5 P=>?_;have ai:=P _ _ M;refine jv [.str "op",.str s,.int b,.int a] (λR h=>⟨_,rfl,Zt ai rfl ⟨_,rfl,Zt ai rfl ⟨_,rfl,Zt ai rfl h⟩⟩⟩) (by simp) λa3 H6 h6 Y=>⟨Zx,λl nl=>⟨_,rfl,_,_,rfl,rfl,(by show(0:Int)<3;decide),?_⟩⟩;have n:=(O.trans (P.trans Y)).new (o:=.lst [.ref L,.ref y,.ref a3]) nl;have G:=(du.refl H6).new (o:=.lst [.ref L,.ref y,.ref a3]) nl;have B:=fJ (gS B1 v) n;exact SY cW (q _ (.op ⟨#[g]⟩ a b) _ _ ⟨L,rfl,G _ _ (Y _ _ (P _ _ h4))⟩ (by simp[d5]) (I.same n) (by lia) B) (q _ (.op s i b) _ _ ⟨y,rfl,G _ _ (Y _ _ h5)⟩ (by simp[d5]) (I.same n) (by lia) B) (q _ (.op s b a) _ _ ⟨a3,rfl,G _ _ h6⟩ (by simp[d5]) (I.same n) (by lia) B)
 |call kk as=>
  obtain⟨p,qa,rfl,j,ae⟩:=hu;have j:=r j;have ae:=r ae;have J:as.length<=1000:=J;have au:=r ar;have av:=r aA;refine⟨_,rfl,Zt j rfl (.inr (.inl ⟨rfl,_,rfl,Zs ⟨_,rfl,Zt j rfl (.inr (.inl ⟨rfl,_,rfl,Zs ⟨_,rfl,Zt j rfl (.inr (.inl ⟨rfl,_,rfl,yes ?_⟩))⟩⟩))⟩⟩))⟩;refine⟨_,rfl,_,rfl,Zt au rfl ⟨_,_,rfl,.inr ⟨_,fA.of av,rfl⟩,D,((az.length:Nat):Int),k+1,rfl,X,by lia,by lia,by lia,λe U e0 e1 I v=>?_⟩⟩;have C:=v _ _ (X.tup_ne j) j;have af:=v _ _ (X.tup_ne ae) ae;show qM K _ [XU D,XU ca,XU p,XW m,XW i,none,XX e] U;refine nC (Ah (vF (jv [.str "call",.int e,.ref qa] (λR h=>⟨_,rfl,_,rfl,Zt C rfl h⟩) (by simp) λL H4 h4 O=>?_)));have M:=O _ _ C;refine d7 (fj (nY (d7 ⟨_,rfl,Zt M rfl (d7 ⟨_,rfl,Zt M rfl (fj (pX rfl ⟨Zv,λp5 aD=>?_⟩))⟩)⟩)));have P:=(du.refl H4).new (o:=.tup [.int (i:Nat)]) aD;have h5:upd H4 p5 (.tup [.int (i:Nat)]) p5=some (.tup [.int (i:Nat)]):=cW;show gD K (.ref qa) (.ref p5) (upd H4 p5 (.tup [.int (i:Nat)])) _;generalize upd H4 p5 (.tup [.int (i:Nat)])=H5 at P h5;refine Qa ((O.trans P) _ _ af) h5 (by rw[cT];simp;lia) λp6 H6 h6 Y=>⟨_,rfl,?_⟩;show jH K (.ref p6) (some ((1:Nat):Int)) none H6 _;refine Wx h6 λp7 H7 h7 s7=>⟨Zx,λy aC=>?_⟩;have ao:=P.trans (Y.trans s7);have Z:=(du.refl H7).new (o:=.tup [.str "call",.int kk,.ref p7]) aC;have h8:upd H7 y (.tup [.str "call",.int kk,.ref p7]) y=some (.tup [.str "call",.int kk,.ref p7]):=cW;refine⟨Zw,λl nl=>⟨_,rfl,?_⟩⟩;have aj:upd H7 y (.tup [.str "call",.int kk,.ref p7]) l=none:=nl;generalize upd H7 y (.tup [.str "call",.int kk,.ref p7])=H8 at Z h8 aj ⊢;have aa:=(du.refl H8).new (o:=.lst [.ref L,.ref y]) aj;have hl:upd H8 l (.lst [.ref L,.ref y]) l=some (.lst [.ref L,.ref y]):=cW;generalize upd H8 l (.lst [.ref L,.ref y])=H9 at aa hl ⊢;have ak:=O.trans (ao.trans (Z.trans aa));have S9:=I.same ak;refine⟨D,2,k+2,rfl,S9,by lia,by decide,by decide,λf ay f0 f1 aq ab=>?_⟩;have T:Tp H9 ay:=by obtain⟨zs,ez⟩:=S9.lst;exact .of_but ab ez
  have ax:l≠D:=λz=>by
   obtain⟨zs,ez⟩:=I.lst;have:=(O.trans (ao.trans Z)) _ _ ez;rw[<-z,aj] at this;cases this
  have B:=gS (fJ (gS B1 v) ak) ab;have:f=0\/f=1:=by lia
  rcases this with e|e<;>subst e
  ·exact nI (fR.of (ab _ _ ax hl)) (by decide) rfl (q _ (.call e as) _ _ ⟨L,qa,rfl,T _ _ ((ao.trans (Z.trans aa)) _ _ h4),T _ _ (ak _ _ af)⟩ J aq (by lia) B)
  ·refine nI (fR.of (ab _ _ ax hl)) (by decide) rfl (q _ (.call kk ((as++[((i:Nat):Int)]).drop 1)) _ _ ⟨y,p7,rfl,T _ _ (aa _ _ h8),?_⟩ (by show((as++[((i:Nat):Int)]).drop 1).length<=1000;rw[gm,c9];simp;exact J) aq (by lia) B);rw[T _ _ ((Z.trans aa) _ _ h7),kA,dt];rfl
 |jump to=>
  obtain⟨p,rfl,j⟩:=hu;have j:=r j;refine⟨_,rfl,Zt j rfl (.inr (.inl ⟨rfl,_,rfl,Zs ⟨_,rfl,Zt j rfl (.inr (.inl ⟨rfl,_,rfl,Zs ⟨_,rfl,Zt j rfl (.inr (.inl ⟨rfl,_,rfl,Zs ⟨_,rfl,Zt j rfl (.inr (.inl ⟨rfl,_,rfl,yes ?_⟩))⟩⟩))⟩⟩))⟩⟩))⟩;refine fj (nY (d7 ⟨_,rfl,_,rfl,D,(m:Nat),k+1,rfl,X,by lia,by lia,by lia,λf U f0 f1 I v=>⟨Zw,λt r=>?_⟩⟩));exact q _ (.jump f) _ _ ⟨t,rfl,cW⟩ (by simp[d5]) (I.new r) (by lia) ((gS B1 v).new r)
 |keep x=>
  obtain⟨p,rfl,j⟩:=hu;exact rest p _ x [] (.keep i) (r j) (by simp) (λt H' h=>⟨t,rfl,h⟩) (by simp[d5]) (by decide +kernel) (by decide +kernel) (by decide +kernel) (by decide +kernel) (λz=>absurd z (by decide +kernel))
 |say x=>
  obtain⟨p,rfl,j⟩:=hu;exact rest p _ x [] (.say i) (r j) (by simp) (λt H' h=>⟨t,rfl,h⟩) (by simp[d5]) (by decide +kernel) (by decide +kernel) (by decide +kernel) (by decide +kernel) (λz=>absurd z (by decide +kernel))
 |give x=>
  obtain⟨p,rfl,j⟩:=hu;exact rest p _ x [] (.give i) (r j) (by simp) (λt H' h=>⟨t,rfl,h⟩) (by simp[d5]) (by decide +kernel) (by decide +kernel) (by decide +kernel) (by decide +kernel) (λz=>absurd z (by decide +kernel))
 |test x to=>
  obtain⟨p,rfl,j⟩:=hu;have j:=r j;refine rest p _ x [.int to] (.test i to) j (by simp) (λt H' h=>⟨t,rfl,h⟩) (by simp[d5]) (by decide +kernel) (by decide +kernel) (by decide +kernel) (by decide +kernel) λ_=>?_;refine⟨_,rfl,Zt j rfl (.inr (.inl ⟨rfl,_,rfl,yes ⟨_,rfl,D,2,k+1,rfl,X,by lia,by decide,by decide,λf U f0 f1 I v=>.inr (.inl ⟨rfl,_,rfl,fM (λ_=>?_) (λ_=>?_)⟩)⟩⟩))⟩
  ·have C:=v _ _ (X.tup_ne j) j;refine fj (nY (d7 ⟨_,rfl,Zt C rfl (d7 ⟨_,rfl,_,rfl,D,(m:Nat),k+2,rfl,I,by lia,by lia,by lia,λg H3 g0 g1 S3 B3=>⟨Zx,λt r=>?_⟩⟩)⟩));exact q _ (.test x g) _ _ ⟨t,rfl,cW⟩ (by simp[d5]) (S3.new r) (by lia) ((gS (gS B1 v) B3).new r)
  ·exact ag p _ x [.int to] (.test i to) (k+2) U (v _ _ (X.tup_ne j) j) (by simp) (λt H' h=>⟨t,rfl,h⟩) (by simp[d5]) I (by lia) (gS B1 v)
theorem vk.uniq{P:Nat->Prop}{n:Nat}:∀{a b:Option Nat},vk P n a->vk P n b->a=b
 |none,none,_,_=>rfl
 |none,some k,c,d=>absurd d.2.1 (c k d.1)
 |some k,none,c,d=>absurd c.2.1 (d k c.1)
 |some j,some k,c,d=>by
  rcases me j k with z|z|z
  ·exact absurd c.2.1 (d.2.2 j z)
  ·rw[z]
  ·exact absurd d.2.1 (c.2.2 k z)
def uf.uniq{places:Nat}{b:gQ}{a:List gb}{ps:List oJ}{x y:Option Nat}(g:uf places b a ps x)(h2:uf places b a ps y):x=y:=by
 rcases g with⟨h,rfl⟩|⟨e,c⟩<;>rcases h2 with⟨i,rfl⟩|⟨f,d⟩
 ·rfl
 ·exact absurd f h
 ·exact absurd e i
 ·exact c.uniq d
def tJ.uniq{places:Nat}{bs:List gQ}{a:List jb}{b:List (List oJ)}{x y:Option (Nat×Nat)}(C:tJ places bs a b x)(h2:tJ places bs a b y):x=y:=by
 rcases C with⟨f,h,rfl⟩|⟨h,w⟩<;>rcases h2 with⟨g,i,rfl⟩|⟨i,B⟩
 ·rw[Option.some.inj (h.uniq i)]
 ·exact absurd (h.uniq i) (λz=>by cases z)
 ·exact absurd (h.uniq i) (λz=>by cases z)
 ·rcases w with⟨rfl,j⟩|⟨f,D,rfl,⟨q,s,u,l,m,n,o⟩,j⟩<;>rcases B with⟨rfl,k⟩|⟨g,E,rfl,⟨r,t,v,c,d,e,p⟩,k⟩
  ·rfl
  ·exact absurd ((j g r t v c d e).uniq p) (λz=>by cases z)
  ·exact absurd ((k f q s u l m n).uniq o) (λz=>by cases z)
  ·rcases me f g with z|z|z
   ·exact absurd ((k f q s u z l m n).uniq o) (λz=>by cases z)
   ·subst z;rw[l] at c;cases c;rw[m] at d;cases d;rw[n] at e;cases e;rw[Option.some.inj (o.uniq p)]
   ·exact absurd ((j g r t v z c d e).uniq p) (λz=>by cases z)
def Jt{places:Nat}{bs:List gQ}{a:List jb}{d:List (List oJ)}(h:wW places bs a d):tJ places bs a d none:=by
 refine .inr ⟨λj _ z=>z ?_,.inl ⟨rfl,λj b c E o p q=>?_⟩⟩
 ·have:=congrArg (λl=>l[j]?) h.cnt;simp only[dw] at this;exact this.symm
 ·have k:=h.part j b c E o p q;refine .inr ⟨k.fst,λm D z=>z λH J O f g i=>?_⟩;obtain⟨I,K,P,r,s,u,_,_,v,_,_,w⟩:=(k.row m D).ex;rw[r] at f;cases f;rw[s] at g;cases g;rw[u] at i;cases i;refine⟨v,λt G n L x y B=>?_⟩;obtain⟨_,M,e,C⟩:=w t G n x y;rw[B] at e;cases e;exact C
def Od{a:List gb}{m:Nat}{c:gb}(h:a.getLast?.map wZ=some true)(e:a[m]?=some c)(b:¬m+1<a.length):wZ c=true:=by
 have d:=(cR.mp e).1;rw[fY,show a.length-1=m by lia,e] at h;exact Option.some.inj h
def sC.sh{places:Nat}{bs:List gQ}{d:List jb}{f:List (List oJ)}(h:sC places bs d f):Nl places bs d f:=λl=>by
 refine⟨h.len l,λk b c B E s G=>?_⟩;have p:=dg s;obtain⟨_,K,last,rows,_⟩:=(h.fits l).2 c p;obtain⟨o,y⟩:=h.paps l k b c B E s G;refine⟨o,eL.mpr K,λi q e=>(y i q e).2,λm v=>?_⟩;have g:=cP v;have u:=cP (l:=B) (i:=m) (by rw[o];exact v);have C:=dg g;obtain⟨H,j,_⟩:=rows _ C;refine⟨_,_,_,g,u,cP (y m _ u).1,(h.rows c p).2 _ C,λi I=>?_,λD a=>?_⟩
 ·obtain⟨J,x⟩:=H i I;have x:i<((places:Nat):Int):=x;exact⟨J,by lia⟩
 ·have n:wZ c.2[m]=false->m+1<c.2.length:=λz=>by
   by_cases w:m+1<c.2.length
   ·exact w
   ·rw[Od last g w] at z;cases z
  generalize c.2[m]=r at j a n;rw[o];cases r with
  |jump t=>rw[dc.mp a];have:=j t rfl;exact⟨this.1,by lia⟩
  |give i=>cases a
  |test i t=>
   have a:D∈[((m:Nat):Int)+1,t]:=a;simp only[dW,gq,or_false] at a;rcases a with rfl|rfl
   ·have:=n rfl;exact⟨by lia,by lia⟩
   ·have:=j D rfl;exact⟨this.1,by lia⟩
  |_=>rw[dc.mp a];have:=n rfl;exact⟨by lia,by lia⟩
def LV{places:Nat}{ys:List Str}{cs:List Nat}{bs:List gQ}{a:List jb}{o:List (List oJ)}(B:DU ys cs bs)(h:wW places bs a o)(p1:1<=places)(ae:places<=16)(v:∀b∈bs,b.rows.length<=6)(md:∀(k:Nat) b c,bs[k]?=some b->a[k]?=some c->J9 6 b c.2):sC places bs a o:=by
 have aa:=B.few;have all:∀c∈a,∃k b g,bs[k]?=some b/\a[k]?=some c/\o[k]?=some g:=λc J=>by
  obtain⟨k,hk,e⟩:=eH.mp J;exact⟨k,_,_,cP (by rw[<-h.len];exact hk),by rw[cP hk,e],cP (by rw[h.ln2,<-h.len];exact hk)⟩
 have G:∀(k:Nat) b c,bs[k]?=some b->a[k]?=some c->c.1=((b.params.length:Nat):Int):=λk b c d f=>by
  have:=congrArg (λl=>l[k]?) h.cnt;simp only[dw,d,f,fO] at this;exact Option.some.inj this
 have p4:∀b∈bs,b.params.length<=4:=λb hb=>B.c4 _ (by rw[<-B.cnt];exact jS.mpr ⟨b,hb,rfl⟩);have u:∀(k:Nat) b c g,bs[k]?=some b->a[k]?=some c->o[k]?=some g->∀(m:Nat) r,c.2[m]?=some r->(∀i∈d5 r,0<=i/\i<((places:Nat):Int))/\(d5 r).length<=1000/\(∀w∈ij (m:Nat) r,0<=w/\w<(c.2.length:Int))/\∀M D,r=.call M D->zp a M D:=λk b c g d f n m r I=>by
  have P:=h.part k b c g d f n;obtain⟨T,q,O,Y,Z,f3,ql,f4,f5,_,f6,f7⟩:=(P.row m (cR.mp I).1).ex;rw[I] at Y;cases Y;have S:=dg d;have po:=B.part b S;have ro:=po.rows O (dg f3);have rf:(iw O).length<=4:=by
   cases O with
   |call x M D=>exact B.c4 _ (dg ro.2.1)
   |_=>simp[iw]
  refine⟨λi hi=>?_,?_,λw s=>?_,λM D e=>?_⟩
  ·cases L:lE r with
   |true=>
    cases r with
    |keep j=>rw[dc.mp hi];have:=f4 j rfl;exact⟨this.1,by lia⟩
    |jump t=>cases hi
    |_=>cases L
   |false=>
    have C:=f5 L;obtain⟨t,s,e⟩:=eH.mp hi;have X:(d5 r)[t]?=some i:=by rw[cP s,e]
    obtain⟨i0,il⟩:=C.at_ t i _ X (cP (by rw[<-C.len];exact s));have:=(cR.mp il).1;exact⟨i0,by lia⟩
  ·cases L:lE r with
   |true=>cases r<;>first|(cases L;done)|simp[d5]
   |false=>rw[(f5 L).len];lia
  ·obtain⟨t,hl,e⟩:=eH.mp s;have X:(ij (m:Nat) r)[t]?=some w:=by rw[cP hl,e]
   obtain⟨t0,q',U,_⟩:=f7 t w _ X (cP (by rw[<-f6];exact hl));have:=(cR.mp U).1;rw[P.len] at this;exact⟨t0,by lia⟩
  ·subst e;have C:=f5 rfl;cases O with
   |call x R E=>
    have ea:M=((R:Nat):Int):=(V.int.inj C.arg).symm;subst ea;have y:cs[R]?=some E.length:=ro.2.1;rw[<-B.cnt,dw] at y;cases Q:bs[R]? with
    |none=>rw[Q] at y;cases y
    |some b0=>
     rw[Q] at y;have y:=Option.some.inj y;have kl:=(cR.mp Q).1;refine⟨dz _,by rw[h.len];lia,λT H=>?_⟩;rw[c8] at H;rw[G R b0 T Q H];have:=C.len;have:D.length=E.length:=this;lia
   |_=>exact absurd C.wd (by simp only[gG,eZ];decide +kernel)
 refine⟨by rw[h.len];lia,λc J=>?_,λ_=>⟨⟨by show(1:Int)<=(places:Nat);lia,by show((places:Nat):Int)<=16;lia⟩,λc J=>?_⟩,λ_=>h.ln2,λ_ k b c g d f n=>?_⟩
 ·obtain⟨k,b,g,d,f,n⟩:=all c J;have h1:=(md k b c d f).2;have h2:=v b (dg d);refine⟨by lia,λr hr=>?_⟩;obtain⟨m,K,e⟩:=eH.mp hr;exact(u k b c g d f n m r (by rw[cP K,e])).2.1
 ·obtain⟨k,b,g,d,f,n⟩:=all c J;have P:=h.part k b c g d f n;have S:=dg d;have c4:=p4 b S;obtain⟨q0,W,_⟩:=P.fst;have p:0<c.2.length:=by rw[<-P.len];exact(cR.mp W).1
  have ab:=G k b c d f;refine⟨⟨by lia,by lia⟩,λz=>?_,?_,λr hr=>?_,(md k b c d f).1⟩
  ·rw[z] at p;exact absurd p (ih _)
  ·have K:c.2.length-1<c.2.length:=by lia
   have I:=cP K;have ld:=(u k b c g d f n _ _ I).2.2.1;rw[fY,I];generalize c.2[c.2.length-1]=r at ld;show some (wZ r)=some true;have no:((c.2.length-1:Nat):Int)+1∈ij ((c.2.length-1:Nat):Int) r->False:=λz=>by have:=(ld _ z).2;lia
   cases r with
   |jump t=>rfl
   |give i=>rfl
   |_=>exact(no (by simp[ij])).elim
  ·obtain⟨m,K,e⟩:=eH.mp hr;obtain⟨g1,_,g3,g4⟩:=u k b c g d f n m r (by rw[cP K,e]);refine⟨g1,λw s=>g3 w ?_,g4⟩;cases r<;>first|(cases s;simp[ij];done)|(cases s;done)
 ·have P:=h.part k b c g d f n;refine⟨P.len,λi q e=>⟨?_,P.wide i q e⟩⟩;obtain⟨T,q',O,Y,Z,f3,_⟩:=(P.row i (by rw[<-P.len];exact(cR.mp e).1)).ex;rw[e] at Z;cases Z;exact(cR.mp f3).1
def Mb{K:Fg}{vs:List V}{H:Hp}{Q:VK}{E:XK}(h:xt K vs H Q E):wq K {nx:=λ_ H'=>Q .non H',rt:=Q} (fQ vn vs) H:=by
 obtain⟨v,r,rfl,c,q⟩:=h;obtain⟨p,j,rfl,b⟩:=c.ref;refine Ar (E:=E) ⟨p,eZ r,j,rfl,b,λe=>?_,λe=>?_,λf g=>?_⟩
 ·cases r with
  |jump d=>obtain⟨_,a,h⟩:=c;cases a;rw[b] at h;cases h;exact⟨_,rfl,q⟩
  |_=>exact absurd e (by simp only[eZ];decide +kernel)
 ·cases r with
  |test i d=>obtain⟨_,a,h⟩:=c;cases a;rw[b] at h;cases h;exact⟨_,rfl,q⟩
  |_=>exact absurd e (by simp only[eZ];decide +kernel)
 ·cases r with
  |jump d=>exact absurd rfl f
  |test i d=>exact absurd rfl g
  |_=>exact q
def Jk{K:Fg}{vs:List V}{H:Hp}{Q:VK}{E:XK}(h:uV K vs H Q E):tS K {nx:=λ_ H'=>Q .non H',rt:=Q} (fQ tI vs) H:=by
 obtain⟨rt,n,b,v,r,rfl,a,e,d,q⟩:=h;obtain⟨p,g,rfl,c,f⟩:=x5 n d;exact xn (E:=E) ⟨rt,p,n,b,g,_,_,rfl,.inr a,e,c,f,q⟩
def Xu{K:Fg}{a:c7}{xs:List V}{H:Hp}{Q:VK}(c:H a=some (.tup xs))(d:xs≠[])(q:∀(p:c7) (H':Hp),H' p=some (.tup xs.dropLast)->du H H'->Q (.ref p) H'):jH K (.ref a) none (some (-1)) H Q:=by
 have g:=eL.mpr d;have e:HT.sIx xs.length xs.length (some (-1))=xs.length-1:=by
  show(if(-1:Int)<0 then((-1:Int)+(xs.length:Int)).toNat else min (-1:Int).toNat xs.length)=xs.length-1;rw[if_pos (by decide)];lia
 refine .inr (.inr ⟨a,xs,rfl,fA.of c,λz=>?_,λp f=>?_⟩)
 ·have:=z.2;rw[e] at this;lia
 ·have b:ph xs none (some (-1))=xs.dropLast:=by
   unfold ph;rw[e,kE];rfl
  rw[b];exact q p _ cW ((du.refl H).new f)
def dZ.take{d:Type}{R:V->d->Prop}{vs:List V}{rs:List d}(h:dZ R vs rs)(n:Nat):dZ R (vs.take n) (rs.take n):=⟨by rw[dB,dB,h.len],λi v r a b=>by
 rw[iV] at a b;by_cases c:i<n
 ·rw[if_pos c] at a b;exact h.at_ i v r a b
 ·rw[if_neg c] at a;cases a⟩
def dZ.app{f:Type}{R:V->f->Prop}{vs e:List V}{rs d:List f}(h:dZ R vs rs)(h':dZ R e d):dZ R (vs++e) (rs++d):=⟨by rw[c9,c9,h.len,h'.len],λi v r a b=>by
 by_cases c:i<vs.length
 ·rw[dX c] at a;rw[dX (by rw[<-h.len];exact c)] at b;exact h.at_ i v r a b
 ·rw[dA (by lia)] at a;rw[dA (by rw[<-h.len];lia),<-h.len] at b;exact h'.at_ _ v r a b⟩
def dZ.dropLast{a:Type}{R:V->a->Prop}{vs:List V}{rs:List a}(h:dZ R vs rs):dZ R vs.dropLast rs.dropLast:=by
 rw[kE,kE,h.len];exact h.take _
def TL{sp:Sp}{t:TA}{a:St}{H:Hp}{Q:Bool->Hp->Prop}(h:t a H λvs b=>sp (vs++[]) b (λx H2=>tB (λ_ H' c=>c x H') a H2 Q) E0):tB (dR sp [] E0 t) a H Q:=h
def KN{K:Fg}{i:St}{H:Hp}{Q:VK}{f g:c7}{x:V}{a:List V}(e:i[4]?=some (some (.ref f)))(b:H f=some (.tup [x,.ref g]))(d:H g=some (.tup a))(l:a≠[])(q:∀(p h:c7) (H':Hp),H' p=some (.tup [x,.ref h])->H' h=some (.tup a.dropLast)->du H H'->Q (.ref p) H') :
  eR (cQ (dF (eJ K) (cU 4) Za) (cQ (oz (jH K) (dF (eJ K) (cU 4) Zb) fo (gH (Sf Jj Zb))) dh)) i H Q:=by
 refine fj (d7 ⟨_,e,Zt b rfl (d7 ⟨_,e,Zt b rfl ⟨_,rfl,_,rfl,Xu d l λm j k o=>⟨Zw,λn c=>?_⟩⟩⟩)⟩);exact q n m _ cW (((du.refl j).new c) _ _ k) (o.new c)
def GN{K:Fg}{vs:List V}{H:Hp}{Q:VK}{E:XK}(h:rM K vs H Q E):yh K {nx:=λ_ H'=>Q .non H',rt:=Q} (fQ xX vs) H:=by
 obtain⟨I,pg,nm,pr,k,places,us,bs,cps,ao,rfl,S,k7,⟨⟨bH,aZ,hB⟩,bR,cC,b5⟩,b7,bB,cB,ul,p2,cM,⟨cv,pp,aC,bA,⟨ca,cq,ai,rfl,v,M,hC⟩,ab,hQ⟩,x,len,q⟩:=h;have v:H ca=some (.tup [.int (places:Nat),.ref cq]):=v;have bl:=hB.len;have cl:=hC.len;have pl:=x.len len;have ql:=hQ.len;have aW:ai≠[]:=λz=>by rw[z] at cl;have:(0:Nat)=cps.length:=cl;lia
 have n:∀{H':Hp} {a:c7} {xs:List V},iO I H H'->H a=some (.tup xs)->H' a=some (.tup xs):=λB h=>B _ _ (S.tup_ne h) h;have tp:∀{H':Hp},iO I H H'->Tp H H':=λB=>by obtain⟨zs,e⟩:=S.lst;exact .of_but B e
 refine⟨_,rfl,pr,_,rfl,fA.of bA,rfl,_,_,rfl,_,_,rfl,rfl,?_⟩;refine⟨_,rfl,I,8,k,rfl,S,by lia,by decide,by decide,λw H1 w0 w1 S1 B1=>?_⟩;refine⟨_,rfl,_,rfl,_,_,rfl,.inr ⟨_,fA.of (n B1 aZ),rfl⟩,I,((bH.length:Nat):Int),k+1,rfl,S1,by lia,by lia,by lia,λd H2 d0 d1 S2 a8=>?_⟩;obtain⟨i,rfl⟩:=fb d0;have B2:=gS B1 a8;have il:i<bs.length:=by lia
 have i0:(0:Int)<=((i:Nat):Int):=dz _;clear a8 S1 B1;have ar:∀(k3:Nat) (H3:Hp),j5 K H3 I k3->k3<=k+3->iO I H H3->tj K {nx:=λ_ H'=>Q .non H',rt:=Q} [XU I,XU pg,XU nm,XU pr,XU ca,XU pp,XX w,XW i,none,none,none,none,none,none] H3:=λk3 H3 S3 cI B3=>by
  obtain⟨bv,b,bT,eb,pa,cN,ra,cz,rfl,b8,_,cc,hR⟩:=hB.get il;obtain⟨cv,c,bU,ec,bj,aa,C,rfl,bz,O,aJ⟩:=hC.get (i:=i) (by show i<cps.length;lia);obtain⟨qv,ps,eqv,aX,qa,aL,rfl,aK,aw⟩:=hQ.get (i:=i) (by lia);have ec:cps[i]?=some c:=ec;have bo:bH[((i:Nat):Int).toNat]?=some (.ref pa):=by rw[c8];exact bT
  have bq:ai[((i:Nat):Int).toNat]?=some (.ref bj):=by rw[c8];exact bU
  have aO:aC[((i:Nat):Int).toNat]?=some (.ref qa):=by rw[c8];exact eqv
  have cm:=dg ec;obtain⟨_,bh,_,_,_⟩:=(x.fits len).2 c cm;have cD:=eL.mpr bh;obtain⟨cE,au⟩:=x.rows c cm;obtain⟨bG,pq⟩:=x.paps len i b c ps eb ec aX;have cH:=aJ.len;have cO:=aw.len;have bY:=x.few;refine⟨_,rfl,Zt (n B3 v) rfl ⟨_,rfl,eP (n B3 M) i0 bq ⟨bj,_,rfl,fA.of (n B3 bz),rfl,_,_,rfl,_,_,rfl,rfl,?_⟩⟩⟩;refine⟨_,rfl,_,rfl,_,_,rfl,.inr ⟨_,fA.of (n B3 O),rfl⟩,I,((C.length:Nat):Int),k3,rfl,S3,by lia,by lia,by lia,λd H4 d0 d1 S4 aG=>?_⟩;obtain⟨j,rfl⟩:=fb d0;have U:=gS B3 aG;have jl:j<c.2.length:=by lia
  have j0:(0:Int)<=((j:Nat):Int):=dz _;obtain⟨qw,q0,bW,bV,b9⟩:=aw.get (i:=j) (by lia);obtain⟨bI,r0,erw,bX,cb⟩:=aJ.get (i:=j) jl;have br:aL[((j:Nat):Int).toNat]?=some qw:=by rw[c8];exact bW
  have bt:C[((j:Nat):Int).toNat]?=some bI:=by rw[c8];exact erw
  refine⟨_,rfl,_,_,rfl,rfl,_,rfl,fM (λ_=>?_) (λ_=>?_)⟩
  ·-- a paper
   have T4:=tp U;obtain⟨cu,cw⟩:=pq j q0 bV;refine⟨_,rfl,_,rfl,_,rfl,eP (n U aZ) i0 bo (Zt (n U b8) rfl ⟨_,rfl,_,rfl,_,rfl,eP (n U ab) i0 aO ⟨_,rfl,eP (n U aK) j0 br ⟨I,ra,nm,qw,k3+1,cz,b.rows,us,q0,rfl,S4,by lia,n U cc,hR.imp λ_ _ z=>z.mono T4,(bR.2 b (dg eb)).1,U _ _ bB b7,bB,cB,ul,b9.mono T4,cu,by lia,by lia,λu q' k5 H5 hu g1 g2 S5 cf aT=>?_⟩⟩⟩)⟩;have B5:=gS U aT;refine nC (fj (pX rfl (d7 ⟨_,rfl,_,rfl,_,rfl,_,rfl,eP (n B5 ab) i0 aO ⟨_,rfl,_,rfl,qa,j,u,aL,rfl,n B5 aK,by lia,by lia,λp6 y h6 s6=>⟨pp,i,.ref p6,aC,rfl,s6 _ _ (n B5 ab),by lia,by lia,λD H7 h7 s7=>⟨Zw,λt np=>?_⟩⟩⟩⟩)));have s8:=(du.refl H7).new (o:=.tup [.ref ca,.ref D]) np;have bN:=s7.trans s8;have a6:=s6.trans bN;have B8:=fJ B5 a6;have T8:=tp B8;refine q t cps (ao.set i (ps.set j q')) k5 _ ⟨.ref ca,D,_,cW,⟨ca,cq,ai,rfl,n B8 v,n B8 M,hC.imp λ_ _ z=>z.mono T8⟩,s8 _ _ h7,dZ.set (hQ.imp λ_ _ z=>z.mono T8) ⟨p6,_,rfl,bN _ _ h6,dZ.set (aw.imp λ_ _ z=>z.mono T8) (hu.mono (.of_same a6))⟩⟩ ⟨x.few,x.rows,x.fits,λl=>by rw[eX];exact x.len l,λl k' b' Z a3 e1 e2 e3=>?_⟩ (S5.same a6) (by lia) B8;by_cases ck:i=k'
   ·subst ck;rw[d6 (by lia)] at e3;cases e3;rw[eb] at e1;cases e1;rw[ec] at e2;cases e2;refine⟨by rw[eX];exact bG,λm qm em=>?_⟩;by_cases cj:j=m
    ·subst cj;rw[d6 (by lia)] at em;cases em;exact⟨g1,g2.trans cw⟩
    ·rw[eC cj] at em;exact pq m qm em
   ·rw[eC ck] at e3;exact x.paps l k' b' Z a3 e1 e2 e3
  have aY:∀(s:Int) (T:c7) (ag:List V) (p:List gb) (k6:Nat) (y:Hp),y T=some (.tup ag)->dZ (hI y) ag p->p.length=c.2.length->(∀r∈p,(d5 r).length<=1000)->j5 K y I k6->k6<=k+12->iO I H y->
    qj K {nx:=λ_ H'=>Q .non H',rt:=Q} [XU I,XU pg,XU nm,XU pr,XU ca,XU pp,XX w,XW i,none,XX s,XU aa,XW j,none,XU T] y:=λs T ag p k6 y h6 b4 cy aI S6 cJ B6=>by
   refine vw (fj (d7 ⟨_,rfl,Zt (n B6 v) rfl (d7 ⟨_,rfl,Zt (n B6 v) rfl ⟨_,rfl,d7 (fj (pX rfl (pX rfl ⟨Zw,λD a0=>?_⟩)))⟩⟩)⟩));have s7:=(du.refl y).new (o:=.tup [.int s,.ref T]) a0;have h7:upd y D (.tup [.int s,.ref T]) D=some (.tup [.int s,.ref T]):=cW;generalize upd y D (.tup [.int s,.ref T])=H7 at s7 h7 ⊢;have B7:=fJ B6 s7;refine⟨cq,i,.ref D,ai,rfl,n B7 M,by rw[cl];show i<cps.length;lia,by rw[cl];show cps.length<=1000;lia,λG H8 h8 s8=>⟨Zw,λX az=>?_⟩⟩;have s9:=(du.refl H8).new (o:=.tup [.int (places:Nat),.ref G]) az;have h9:upd H8 X (.tup [.int (places:Nat),.ref G]) X=some (.tup [.int (places:Nat),.ref G]):=cW;generalize upd H8 X (.tup [.int (places:Nat),.ref G])=H9 at s9 h9;have aF:=s7.trans (s8.trans s9);have B9:=fJ B6 aF;have T9:=tp B9;have J:∀Z∈cps.set i (s,p),Z.2.length<=1000/\∀r∈Z.2,(d5 r).length<=1000:=λZ b6=>by
    rcases ly b6 with h|h
    ·exact x.rows Z h
    ·rw[h];exact⟨by show p.length<=1000;lia,aI⟩
   have av:qY H9 (.ref X) (((places:Nat):Int),cps.set i (s,p)):=⟨X,G,_,rfl,h9,s9 _ _ h8,dZ.set (hC.imp λ_ _ z=>z.mono T9) ⟨D,T,ag,rfl,(s8.trans s9) _ _ h7,aF _ _ h6,b4.imp λ_ _ z=>z.mono (.of_same aF)⟩⟩;refine⟨_,rfl,.ref X,_,rfl,av,⟨by show(cps.set i (s,p)).length<=1000;rw[eX];lia,λZ h=>(J Z h).1,λZ h=>(J Z h).2⟩,λbb aq hb aD=>⟨_,rfl,jU (λe=>?_) (λ_=>?_)⟩⟩
   ·refine nC (fj (pX rfl (pX rfl ⟨Zw,λt np=>?_⟩)));have af:=aD.new (o:=.tup [.ref X,.ref pp]) np;have Y:=fJ B9 af;have bQ:=tp Y;refine q t (cps.set i (s,p)) ao k6 _ ⟨.ref X,pp,aC,cW,av.mono (.of_same af),n Y ab,hQ.imp λ_ _ z=>z.mono bQ⟩ ⟨by rw[eX];exact x.few,J,λ_=>hb.mp e,λ_=>pl,λl k' b' Z a3 e1 e2 e3=>?_⟩ (S6.same (aF.trans af)) (by lia) Y;by_cases ck:i=k'
    ·subst ck;rw[d6 (by lia)] at e2;cases e2;rw[eb] at e1;cases e1;rw[aX] at e3;cases e3;exact⟨bG.trans cy.symm,pq⟩
    ·rw[eC ck] at e2;exact x.paps len k' b' Z a3 e1 e2 e3
   ·have ah:=fJ B9 aD;have bc:=tp ah;exact⟨_,rfl,q pr cps ao k6 _ ⟨.ref ca,pp,aC,n ah bA,⟨ca,cq,ai,rfl,n ah v,n ah M,hC.imp λ_ _ z=>z.mono bc⟩,n ah ab,hQ.imp λ_ _ z=>z.mono bc⟩ x (S6.same (aF.trans aD)) (by lia) ah⟩
  refine⟨_,rfl,_,rfl,_,rfl,_,rfl,_,rfl,_,rfl,eP (n U O) j0 bt ⟨_,rfl,_,_,rfl,.inr ⟨_,fA.of (n U O),rfl⟩,I,ca,cq,bI,k3+1,C.length,places,ai,r0,rfl,S4,by lia,n U v,n U M,by lia,by lia,aW,by rw[cl];show cps.length<=1000;lia,by lia,by lia,cb.mono (tp U),au r0 (dg bX),λu Z k5 H5 hu bg S5 cf aT=>?_⟩⟩;have B5:=gS U aT;refine⟨aa,j,u,C,rfl,n B5 O,by lia,by lia,λp6 y h6 s6=>?_⟩;have B6:=fJ B5 s6;have T6:=tp B6;have A6:dZ (hI y) (C.set j u) (c.2.set j Z):=dZ.set (aJ.imp λ_ _ z=>z.mono T6) (hu.mono (.of_same s6));have aI:∀r∈c.2.set j Z,(d5 r).length<=1000:=λr hr=>by
   rcases ly hr with h|h
   ·exact au r h
   ·rw[h];exact bg
  refine⟨_,rfl,.inr (.inl ⟨rfl,_,rfl,fM (λ_=>?_) (λ_=>lT (aY c.1 p6 _ _ k5 y h6 A6 (eX ..) aI (S5.same s6) (by lia) B6))⟩)⟩;refine⟨_,rfl,I,3,k5,rfl,S5.same s6,by lia,by decide,by decide,λf H7 f0 f1 S7 aU=>.inr (.inl ⟨rfl,_,rfl,fM (λ_=>?_) (λ_=>?_)⟩)⟩
  ·have B7:=gS B6 aU;refine⟨_,rfl,?_⟩;show uC K _ [XU I,XU pg,XU nm,XU pr,XU ca,XU pp,XX w,XW i,none,some (.int c.1),XU aa,XW j,none,XU aa] H7;refine Ah (vF (d7 ⟨_,rfl,.inr (.inl ⟨_,_,rfl,rfl,nY ⟨Zw,λl nl=>⟨_,rfl,I,2,k5+1,rfl,S7.new nl,by lia,by decide,by decide,λg H8 g0 g1 S8 a9=>?_⟩⟩⟩)⟩));have s7:=(du.refl H7).new (o:=.lst [.int (c.1+1),.int 0]) nl;have B8:=gS (fJ B7 s7) a9;have cg:l≠I:=λz=>by obtain⟨zs,ez⟩:=S7.lst;rw[z,ez] at nl;cases nl
   have hl:=a9 _ _ cg (show upd H7 l (.lst [.int (c.1+1),.int 0]) l=some (.lst [.int (c.1+1),.int 0]) from cW);have aP:∀s,qj K {nx:=λ_ H'=>Q .non H',rt:=Q} [XU I,XU pg,XU nm,XU pr,XU ca,XU pp,XX w,XW i,none,XX s,XU aa,XW j,none,XU aa] H8:=λs=>
    aY s aa C c.2 (k5+1+1) H8 (n B8 O) (aJ.imp λ_ _ z=>z.mono (tp B8)) rfl au S8 (by lia) B8
   have:g=0\/g=1:=by lia
   rcases this with e|e<;>subst e
   ·exact nI (fR.of hl) (by decide) rfl (aP _)
   ·exact nI (fR.of hl) (by decide) rfl (aP _)
  ·have B7:=gS B6 aU;have bf:Tp y H7:=by obtain⟨zs,e⟩:=(S5.same s6).lst;exact .of_but aU e
   exact aY c.1 p6 _ _ (k5+1) H7 (bf _ _ h6) (A6.imp λ_ _ z=>z.mono bf) (eX ..) aI S7 (by lia) B7
 have ay:∀(H3:Hp),du H2 H3->tm K {nx:=λ_ H'=>Q .non H',rt:=Q} [XU I,XU pg,XU nm,XU pr,XU ca,XU pp,XX w,XW i,none,none,none,none,none,none] H3:=λH3 s3=>by
  obtain⟨qv,ps,eqv,aX,qa,aL,rfl,aK,aw⟩:=hQ.get (i:=0) (by lia);have B3:=fJ B2 s3;refine⟨_,rfl,.inr (.inl ⟨rfl,_,rfl,fM (λ_=>?_) (λ_=>lT (ar (k+2) H3 (S2.same s3) (by lia) B3))⟩)⟩;refine⟨_,rfl,_,_,rfl,.inr ⟨_,fA.of (n B3 aZ),rfl⟩,_,_,rfl,rfl,_,rfl,fM (λ_=>?_) (λ_=>lT (ar (k+2) H3 (S2.same s3) (by lia) B3))⟩;refine⟨_,rfl,I,3,k+2,rfl,S2.same s3,by lia,by decide,by decide,λf H4 f0 f1 S4 aG=>.inr (.inl ⟨rfl,_,rfl,fM (λ_=>?_) (λ_=>ar (k+2+1) H4 S4 (by lia) (gS B3 aG))⟩)⟩;have U:=gS B3 aG;refine vw (fj (nY (d7 (fj (jv [.str "num",.int 1] (λR h=>h) (by simp) λa1 H5 h5 s5=>jv [.str "give",.int 0] (λR h=>h) (by simp) λa2 y h6 s6=>⟨Zw,λD a0=>⟨Zw,λG cn=>?_⟩⟩)))));have s7:=(du.refl y).new (o:=.tup [.ref a1,.ref a2]) a0;have h7:upd y D (.tup [.ref a1,.ref a2]) D=some (.tup [.ref a1,.ref a2]):=cW;have aQ:upd y D (.tup [.ref a1,.ref a2]) G=none:=cn;generalize upd y D (.tup [.ref a1,.ref a2])=H7 at s7 h7 aQ ⊢;have s8:=(du.refl H7).new (o:=.tup [.int 0,.ref D]) aQ;have h8:upd H7 G (.tup [.int 0,.ref D]) G=some (.tup [.int 0,.ref D]):=cW;generalize upd H7 G (.tup [.int 0,.ref D])=H8 at s8 h8 ⊢;have bM:=s5.trans (s6.trans (s7.trans s8));have B8:=fJ U bM;have bS:j7 H8 (.ref G) (0,[.num 1,.give 0]):=⟨G,D,_,rfl,h8,s8 _ _ h7,.cons ⟨a1,rfl,(s6.trans (s7.trans s8)) _ _ h5⟩ (.cons ⟨a2,rfl,(s7.trans s8) _ _ h6⟩ .nil)⟩;refine nC (fj (d7 (fj (d7 ⟨_,rfl,Zt (n B8 v) rfl (d7 ⟨_,rfl,Zt (n B8 v) rfl (fj (pX rfl ⟨Zv,λX az=>?_⟩))⟩)⟩))));have s9:=(du.refl H8).new (o:=.tup [.ref G]) az;have h9:upd H8 X (.tup [.ref G]) X=some (.tup [.ref G]):=cW;show gD K (.ref cq) (.ref X) (upd H8 X (.tup [.ref G])) _;generalize upd H8 X (.tup [.ref G])=H9 at s9 h9;have bY:=x.few;refine Qa (s9 _ _ (n B8 M)) h9 (by rw[cl];simp;lia) λaj aq bZ aD=>⟨Zw,λP bC=>?_⟩;have af:=(du.refl aq).new (o:=.tup [.int (places:Nat),.ref aj]) bC;have bu:upd aq P (.tup [.int (places:Nat),.ref aj]) P=some (.tup [.int (places:Nat),.ref aj]):=cW;show(cQ (dF (gD K) (cU 5) (eR (cQ (dF (gD K) (oz (jH K) (dF (eJ K) (cU 5) Za) fo (gH Zb)) (oz (jH K) (dF (eJ K) (cU 5) Za) fo (gH Zb))) dh))) dh) _ (upd aq P (.tup [.int (places:Nat),.ref aj])) _;generalize upd aq P (.tup [.int (places:Nat),.ref aj])=bO at af bu;have aR:=s9.trans (aD.trans af);have Y:=fJ B8 aR;have ae:=n Y ab;have ax:=n Y aK;refine d7 ⟨_,rfl,fj (d7 ⟨_,rfl,Zt ae eqv ⟨_,rfl,?_⟩⟩)⟩;show jH K (.ref qa) none (some ((1:Nat):Int)) bO _;refine AF ax λcK bP b0 a4=>⟨_,rfl,Zt (a4 _ _ ae) eqv ⟨_,rfl,?_⟩⟩;show jH K (.ref qa) none (some ((1:Nat):Int)) bP _;refine AF (a4 _ _ ax) λcL cF b1 bJ=>Qa (bJ _ _ b0) b1 (by simp;lia) λak aH b2 cA=>⟨Zv,λaA bD=>?_⟩;have aE:=a4.trans (bJ.trans cA);have aM:=(du.refl aH).new (o:=.tup [.ref ak]) bD;have bw:upd aH aA (.tup [.ref ak]) aA=some (.tup [.ref ak]):=cW;show gD K (.ref pp) (.ref aA) (upd aH aA (.tup [.ref ak])) _;generalize upd aH aA (.tup [.ref ak])=cG at aM bw;refine Qa ((aE.trans aM) _ _ ae) bw (by rw[ql,pl];simp;lia) λaB ba b3 bK=>⟨Zw,λbF bE=>?_⟩;have a5:=(du.refl ba).new (o:=.tup [.ref P,.ref aB]) bE;have L:=aE.trans (aM.trans (bK.trans a5));have a7:=fJ Y L;have aS:=aR.trans L;have aV:=tp a7;refine q bF (cps++[(0,[.num 1,.give 0])]) (ao++[ps.take 1++ps.take 1]) (k+2+1) _ ⟨.ref P,aB,_,cW,⟨P,aj,_,rfl,L _ _ bu,(af.trans L) _ _ bZ,?_⟩,a5 _ _ b3,?_⟩ ?_ (S4.same (bM.trans aS)) (by lia) a7
  ·exact(hC.imp λ_ _ z=>z.mono aV).snoc (bS.mono (.of_same aS))
  ·refine(hQ.imp λ_ _ z=>z.mono aV).snoc ⟨ak,_,rfl,(aM.trans (bK.trans a5)) _ _ b2,?_⟩;have bx:dZ (sD (upd ba bF (.tup [.ref P,.ref aB]))) (aL.take 1) (ps.take 1):=(aw.imp λ_ _ z=>z.mono aV).take 1;exact bx.app bx
  ·have hl:(cps++[((0:Int),[gb.num 1,.give 0])]).length=cps.length+1:=by rw[c9];rfl
   refine⟨by rw[hl];lia,λc hc=>?_,λz=>by rw[hl] at z;lia,λz=>by rw[hl] at z;lia,λz=>by rw[hl] at z;lia⟩;rcases d9.mp hc with hc|hc
   ·exact x.rows c hc
   ·rw[dc.mp hc];refine⟨by show 2<=1000;decide,λr hr=>?_⟩;have hr:r∈[gb.num 1,.give 0]:=hr;simp only[dW,gq,or_false] at hr;rcases hr with rfl|rfl<;>simp[d5]
 refine⟨_,rfl,.inr (.inl ⟨rfl,_,rfl,fM (λ_=>?_) (λ_=>lT (ay H2 (du.refl H2)))⟩)⟩;refine⟨_,rfl,_,_,rfl,rfl,_,rfl,fM (λ_=>?_) (λ_=>lT (ay H2 (du.refl H2)))⟩;refine TL (d7 (KN (by rfl) (n B2 v) (n B2 M) aW λp3 p4 H3 h3 h4 s3=>?_));have T3:=tp (fJ B2 s3);have fw:Tt (((places:Nat):Int),cps.dropLast):=⟨by show cps.dropLast.length<=1000;rw[jR];have:=x.few;lia,λc hc=>(x.rows c ((mI _).subset hc)).1,λc hc=>(x.rows c ((mI _).subset hc)).2⟩;refine⟨.ref p3,(((places:Nat):Int),cps.dropLast),rfl,⟨p3,p4,_,rfl,h3,h4,(hC.imp λ_ _ z=>z.mono T3).dropLast⟩,fw,λb H5 _ s5=>⟨_,rfl,jU (λ_=>?_) (λ_=>ay H5 (s3.trans s5))⟩⟩;have bL:=s3.trans s5;have B5:=fJ B2 bL;refine nC (fj (d7 (KN (by rfl) (n B5 v) (n B5 M) aW λp6 D y h6 h7 s6=>?_)));have B6:=fJ B5 s6;have cx:aC≠[]:=λz=>by rw[z] at ql;have:(0:Nat)=ao.length:=ql;lia
 refine d7 ⟨_,rfl,_,rfl,_,rfl,Xu (n B6 ab) cx λG H8 h8 s8=>⟨Zw,λX az=>?_⟩⟩;have s9:=(du.refl H8).new (o:=.tup [.ref p6,.ref G]) az;have aN:=s8.trans s9;have B9:=fJ B6 aN;have T9:=tp B9;have hl:cps.dropLast.length=cps.length-1:=jR;exact q X cps.dropLast ao.dropLast (k+2) _ ⟨.ref p6,G,_,cW,⟨p6,D,_,rfl,aN _ _ h6,aN _ _ h7,(hC.imp λ_ _ z=>z.mono T9).dropLast⟩,s9 _ _ h8,(hQ.imp λ_ _ z=>z.mono T9).dropLast⟩ ⟨by rw[hl];have:=x.few;lia,λc hc=>x.rows c ((mI _).subset hc),λz=>by rw[hl] at z;lia,λz=>by rw[hl] at z;lia,λz=>by rw[hl] at z;lia⟩ (S2.same (bL.trans (s6.trans aN))) (by lia) B9
def IZ{H:Hp}{j p k:c7}{e:V}{places:Nat}{bs:List gQ}{a:List jb}{b:List (List oJ)}{d:List V}(P:uO H j bs)(f:qY H e (((places:Nat):Int),a))(h:H k=some (.tup d))(o:dZ (ue H) d b)(i:sC places bs a b)(s:2<=places)(r:places<=16):HZ [.ref j,e,.ref k] H places bs a b:=by
 obtain⟨l,g,n⟩:=P.at_;have m:=i.few;exact⟨j,k,e,l,d,rfl,g,n,P.ok,f,⟨by lia,λc q=>by have:=(i.rows c q).1;lia⟩,h,o,⟨by lia,by lia⟩,i.sh⟩
def EH{K:Fg}{vs:List V}{H:Hp}{Q:VK}{E:XK}(h:nq K vs H Q E):wu K {nx:=λ_ H'=>Q .non H',rt:=Q} (fQ vp vs) H:=by
 obtain⟨X,y,places,u,cps,g,rfl,P,s,f,⟨T,Y,L,a,c,d,w⟩,x,q⟩:=h;refine⟨_,rfl,_,rfl,Zt a rfl ⟨_,rfl,Zt a rfl ⟨places,u,cps,g,IZ (p:=y) P c d w x s f,λo v S O l j=>?_⟩⟩⟩;have r:=Tp.of_same j;refine⟨_,rfl,_,rfl,Zt (j _ _ a) rfl ⟨_,rfl,Zt (j _ _ a) rfl ⟨places,u,cps,g,IZ (p:=y) (P.mono r) (c.mono r) (j _ _ d) (w.imp λ_ _ z=>z.mono r) x s f,s,λU M t R n B=>?_⟩⟩⟩;have e:=O.uniq R;subst e;have i:=j.trans B;cases o with
 |none=>
  have l:v=.non:=l;have n:M=.non:=n;subst l n;exact⟨_,rfl,rfl,_,rfl,sH ⟨_,rfl,rfl,q t i⟩⟩
 |some J=>
  obtain⟨k,m⟩:=J;obtain⟨C,rfl,b⟩:=l;obtain⟨D,rfl,I⟩:=n;have b:=B _ _ b;refine⟨_,rfl,rfl,_,rfl,lT ?_⟩;refine⟨_,rfl,_,_,true,rfl,.tup_tuple (fA.of b),_,rfl,lT ⟨_,rfl,_,_,rfl,.inr ⟨_,fA.of b,rfl⟩,.inl ⟨rfl,_,rfl,lT ?_⟩⟩⟩;refine⟨_,rfl,_,rfl,.inr (.inl ⟨C,D,_,_,rfl,rfl,fA.of b,fA.of I,rfl,rfl,_,rfl,?_⟩)⟩;have G:lM [V.int (k:Nat),.int (m:Nat)] [V.int (k:Nat),.int (m:Nat)]=true:=by simp[lM,qx,jr,jr.loop]
  rw[if_neg Bool.false_ne_true,G];refine sH ⟨_,rfl,Zt b rfl ⟨_,_,_,rfl,.int_bool _,_,rfl,_,rfl,sH ⟨_,rfl,Zt b rfl ⟨_,_,_,rfl,.int_bool _,_,rfl,q t i⟩⟩⟩⟩
def Gu{ys:List Str}{o:List Nat}{b:gQ}(u:pf ys o b){n:Nat}{r:ed}{y:Str}(w:Fv b.rows none n)(f:b.rows[n]?=some r)(g:y∈iw r):m7 [b] y:=by
 obtain⟨c,l,j,v⟩:=u.known;have d:∀n,Fv b.rows none n->∀a,c[n]?=some a->∀y∈a,m7 [b] y:=λn w=>by
  induction w with
  |zero=>exact λa e y g=>⟨b,dc.mpr rfl,.inl (j.zero a e y g)⟩
  |@step n m r w f _ q s=>
   intro t p y g;obtain⟨h,i⟩:∃k,c[n]?=some k:=⟨_,cP (by rw[l];exact(cR.mp f).1)⟩;rcases j.on n m r h t f q i p y g with z|z
   ·exact s h i y z
   ·exact⟨b,dc.mpr rfl,.inr ⟨r,dg f,qF.mp z⟩⟩
 obtain⟨a,e⟩:∃k,c[n]?=some k:=⟨_,cP (by rw[l];exact(cR.mp f).1)⟩;exact d n w a e y (v n r a f e y g)
def Mq{ys:List Str}{l:List Nat}{b:gQ}(j:pf ys l b):∃y,m7 [b] y:=by
 have g:=j.good;have m:=rr g b.rows.length g.pos;have h:=cP m;have i:=g.ring 0 g.pos _ h;have w:Fv b.rows none (runJ b.rows b.rows.length 0):=zf g _ 0 .zero;have f:=dg h;have e:∀y∈iw b.rows[runJ b.rows b.rows.length 0],m7 [b] y:=λy n=>Gu j w h n;generalize b.rows[runJ b.rows b.rows.length 0]=r at i f e;cases r with
 |num x z=>exact⟨x,b,dc.mpr rfl,.inr ⟨_,f,rfl⟩⟩
 |op x s c d=>exact⟨x,b,dc.mpr rfl,.inr ⟨_,f,rfl⟩⟩
 |call x k p=>exact⟨x,b,dc.mpr rfl,.inr ⟨_,f,rfl⟩⟩
 |jump o=>cases i
 |say a=>exact⟨a,e a (dc.mpr rfl)⟩
 |test a o=>exact⟨a,e a (dc.mpr rfl)⟩
 |give a=>exact⟨a,e a (dc.mpr rfl)⟩
def Wu{K:Fg}{vs:List V}{H:Hp}{Q:VK}{E:XK}(h:EU K vs H Q E):Tn K {nx:=λ_ H'=>Q .non H',rt:=Q} (fQ SM vs) H:=by
 obtain⟨J,ns,rfl,hs,aK,q⟩:=h;refine⟨_,rfl,Zx,λt aL=>?_⟩;have S0:j5 K (upd H t (.lst [.ref J,.int 0,.int 0])) t 0:=⟨J,ns,0,cW,hs.mono (.of_same ((du.refl H).new aL)),aK⟩;generalize upd H t (.lst [.ref J,.int 0,.int 0])=H0 at S0;refine⟨_,rfl,t,5,0,rfl,S0,by decide,by decide,by decide,λT Z C ys cs k1 H1 M hB k bl S1 aX B1=>?_⟩;have b5:=k.few;have ab:∀b∈C,b.rows.length<=100/\b.params.length<=100:=λb x=>by
  have c4:b.params.length<=4:=k.c4 _ (by rw[<-k.cnt];exact jS.mpr ⟨b,x,rfl⟩);exact⟨by have:=(k.part b x).few;lia,by lia⟩
 refine⟨_,rfl,T,Z,C,rfl,M,hB,by lia,ab,λnm us H2 aJ aE nd um s2=>?_⟩;have S2:=S1.same s2;have Y:nm≠t:=by obtain⟨zs,e⟩:=S1.lst;exact Ne.symm (de e aJ)
 have ul:us.length<=6:=by
  have:=vE nd (zs:=ys) λy hy=>by
   obtain⟨b,x,h⟩:=(um y).mp hy;have L:=k.part b x;rcases h with h|⟨r,hr,e⟩
   ·exact L.pin y h
   ·exact KL (L.rows r hr) e
  have:=k.y6;lia
 have aP:us≠[]:=λz=>by
  have x:=gg (l:=C) (n:=0) k.pos;obtain⟨y,b',aD,h⟩:=Mq (k.part _ x);have:=(um y).mpr ⟨C[0]'k.pos,x,by rw[dc.mp aD] at h;exact h⟩;rw[z] at this;cases this
 have P2:uO H2 T C:=⟨⟨Z,s2 _ _ M,hB.imp λ_ _ z=>z.mono (.of_same s2)⟩,⟨by lia,λb x=>⟨(k.part b x).good,(k.part b x).pos,(ab b x).2⟩⟩,k.pos,k.few⟩;refine⟨_,rfl,_,rfl,t,T,Z,k1,ys,cs,C,rfl,S2,by lia,s2 _ _ M,hB.imp λ_ _ z=>z.mono (.of_same s2),k,λp3 pp cv a w aO R k3 H3 ao ai aF hQ pr p2 G md S3 aY B3=>?_⟩;have s:=LV k pr (by lia) G bl md;have aa:Tp H2 H3:=by obtain⟨zs,e⟩:=S2.lst;exact .of_but B3 e
 have P3:=P2.mono aa;have ak:=B3 _ _ Y aE;have m:sA H3 p3 a w R:=⟨cv,pp,aO,ao,ai,aF,hQ⟩;clear B3 aa P2 S2 S1 M hB bl;obtain⟨sy,aG⟩:=S3.lst;have tp:∀{H':Hp},iO t H3 H'->Tp H3 H':=λB=>.of_but B aG;have fw:Tt (((a:Nat):Int),w):=⟨by show w.length<=1000;have:=s.few;lia,λc hc=>(s.rows c hc).1,λc hc=>(s.rows c hc).2⟩;refine⟨_,rfl,Zt ao rfl ⟨cv,_,rfl,ai,fw,λb H4 x s4=>?_⟩⟩;have eb:b=true:=x.mpr (s.fits pr.len);subst eb;have T4:=Tp.of_same s4;refine⟨_,rfl,lT ⟨_,rfl,_,rfl,T,p3,a,C,w,R,rfl,P3.mono T4,p2,G,m.mono T4,s,λH5 s5=>⟨_,rfl,lT ?_⟩⟩⟩;have aw:=s4.trans s5;obtain⟨ay,O⟩:=BV λi u H'=>∃o5 o6 S k',u=[XU J,XU t,XU T,XU nm,XU p3,o5,o6,S]/\j5 K H' t k'/\k'<=k3+100*i/\iO t H3 H';refine⟨_,rfl,by decide,by decide,jO (n:=(3:Int).toNat) ay (O.mpr ⟨none,none,none,k3,rfl,S3.same aw,by lia,λb o _ e=>aw _ _ e⟩) ?_ ?_⟩
 ·rintro i u H6 hi X;obtain⟨o5,o6,S,k6,rfl,S6,aH,B6⟩:=O.mp X;have hi:i<3:=hi;refine⟨_,rfl,?_⟩;refine⟨_,rfl,t,3,k6,rfl,S6,by lia,by decide,by decide,λd H7 d0 d1 S7 ax=>.inr (.inl ⟨_,_,rfl,rfl,_,rfl,?_⟩)⟩;have B7:=gS B6 ax;obtain⟨dd,rfl⟩:=fb d0;obtain⟨az,D⟩:=BV λj u H'=>∃L S f g k',u=[XU J,XU t,XU T,XU nm,XU p3,some (.int ((0:Int)+(i:Int))),XU L,S]/\sA H' L a f g/\sC a C f g/\j5 K H' t k'/\k'<=k6+1+20*j/\iO t H3 H';refine⟨by lia,by lia,jO (n:=((1:Int)+((dd:Nat):Int)).toNat) az (D.mpr ⟨p3,S,w,R,k6+1,rfl,m.mono (tp B7),s,S7,by lia,B7⟩) ?_ ?_⟩
  ·rintro j u H8 hj X;obtain⟨L,S,f,g,k8,rfl,I,P,S8,aI,U⟩:=D.mp X;have P8:=P3.mono (tp U);obtain⟨aQ,aq,aA⟩:=P8.at_;have au:=I;obtain⟨aW,a3,aS,h8,⟨aT,aU,af,rfl,ag,ah,aB⟩,_,_⟩:=au;have l1:af.length=f.length:=aB.len;have l2:=aA.len;refine⟨_,rfl,Zt h8 rfl (Zt ag rfl ⟨_,_,rfl,.inr ⟨_,fA.of ah,rfl⟩,_,rfl,_,_,rfl,.inr ⟨_,fA.of aq,rfl⟩,.inr (.inl ⟨rfl,_,rfl,fM (λe=>?_) (λ_=>?_)⟩)⟩)⟩
   ·have e:=V.int.inj e;refine⟨_,rfl,_,rfl,_,rfl,_,rfl,t,T,nm,L,k8,a,us,C,f,g,rfl,S8,by lia,P8,U _ _ Y ak,Y,aP,by lia,p2,G,I,P,by lia,λp9 ae av k9 H9 aN aM S9 aZ B9=>?_⟩;exact D.mpr ⟨p9,_,ae,av,k9,rfl,aN,aM,S9,by lia,gS U B9⟩
   ·exact D.mpr ⟨L,_,f,g,k8,rfl,I,P,S8,by lia,U⟩
  ·rintro u H8 X;obtain⟨L,S,f,g,k8,rfl,I,P,S8,aI,U⟩:=D.mp X;refine⟨_,rfl,_,rfl,T,L,a,C,f,g,rfl,P3.mono (tp U),p2,G,I,P,λH9 s9=>⟨_,rfl,lT (O.mpr ⟨_,_,_,k8,rfl,S8.same s9,by lia,fJ U s9⟩)⟩⟩
 ·rintro u H6 X;obtain⟨o5,o6,S,k6,rfl,S6,aH,B6⟩:=O.mp X;have T6:=tp B6;obtain⟨aV,a0,aR,h6,aj,ar,aC⟩:=m.mono T6;refine⟨_,rfl,_,rfl,Zt h6 rfl ⟨_,rfl,Zt h6 rfl ⟨a,C,w,R,IZ (p:=p3) (P3.mono T6) aj ar aC s p2 G,λo v H7 w7 t7 s7=>?_⟩⟩⟩;have e:=w7.uniq (Jt pr);subst e;have t7:v=.non:=t7;subst t7;exact⟨rfl,q H7⟩
end Bg
namespace Bg
open PySem PySem.Spec PyProof.Rows L2
section
variable{P:dv}{w:dQ}{K:Fg}{mg:Str->Option cV}{base:Heap}
def Ex{vs:List V}{H:Hp}{Q:VK}{E:XK}(h:lS K vs H Q E):vs.length=lR.length:=by
 first|(obtain⟨_,_,_,_,rfl,_⟩:=h;rfl)
def GB{f:c7}{fd:iQ}{d:cV}(F:Qh K "walked" "walked" j4 d f fd)(B:mC mg)(a:wG P w K mg base)(b:vf P w K mg base):wK P w K mg base J5 uJ f fd lR (lS K):=
 F.ok GT (λg H Q E h=>Ex h) λc A outer s H g Q E e h=>⟨_,IC B a b e,Jq (E:=E) h⟩
end
def all_mk{l:PySem.W.OpenLaw}{w:dQ}{K:Fg}{h:Heap}{c:Str->Option cV}{fa:c7}(X:K.In h)(G:h.Ns eB c)(bA:c "law"=some (.ref fa))
  (l0:gx K "pushed" Az)
  (l1:gx K "set_anew" rB)
  (l2:gx K "behind" Ax)
  (l3:gx K "goal" GS)
  (l4:gx K "leads" Do)
  (l5:gx K "weaker" uT)
  (l6:gx K "fits_behind" rT)
  (l7:gx K "sets" GR)
  (l8:gx K "places_read" rV)
  (l9:gx K "reads" Dm)
  (bB:gx K "same_work" qc)
  (bC:gx K "stands" AA)
  (bD:gx K "is_right" oF)
  (bE:gx K "begun" Dl)
  (bF:gx K "row_wrong" uo)
  (bG:gx K "unlike" rC)
  (bH:gx K "wrong" Dn)
  (bI:gx K "_law_follows" xq)
  (bJ:gx K "_law_in" Ww)
  (bK:gx K "_law_spoken" AB)
  (bL:gx K "_law_plain_spoken" sQ)
  (bM:gx K "_law_row_good" uU)
  (bN:gx K "_law_due" Tg)
  (bO:gx K "_law_told_right" vR)
  (bP:gx K "_law_draw" Pe)
  (bQ:gx K "has_ring" vQ)
  (bR:gx K "is_number_of" qE)
  (bS:gx K "call_fits" uk)
  (bT:gx K "row_fits" rA)
  (bU:gx K "part_fits" qb)
  (bV:gx K "fits" Ay)
  (bW:gx K "_law_put" Ti)
  (bX:gx K "_law_work_changed" sR)
  (bY:gx K "_law_paper_changed" og)
  (bZ:gx K "_law_changed" x9)
  {bt aQ:Option c7} {bu:Array (Option cV)} {br aT aS aU aI aR:cV} {aZ:c7}
  {aV:c7} {a0:cV} {a3:Option c7} {bq:Nat} {a4:Array (Option cV)}
  (bx:fz K eB "walked"=some (some (.ref aZ)))
  (b0:K.lookup aZ=some ⟨br,bt,.func (hH "walked" "walked" (lJ j4) (j8 j4) (gk j4) (.ref aV) aT aS aU aQ aI aR),bu⟩) (bz:jE K aI "walked"=true) (bj:iL K (.ref aZ)=true)
  (cu:K.lookup aV=some ⟨a0,a3,.seq #[cV.none] bq,a4⟩)
  (b1:gx K "come_to" sP)
  (b2:gx K "_law_brought" Dk)
  (b3:gx K "_law_place" ER)
  (b4:gx K "_law_code_row" rD)
  (b5:gx K "_law_forgot" GP)
  (b6:gx K "_law_block" EN)
  (bo:gx K "_law_set_names" ni)
  (b7:gx K "_law_part_made" nF)
  (b8:gx K "_law_names_of" rz)
  (b9:gx K "_law_made" Aw)
  (cb:gx K "_law_worth" Dp)
  (cc:gx K "_law_rough_row" uq)
  (cf:gx K "_law_filled" Av)
  (cg:gx K "_law_mended" GQ)
  (cj:gx K "_law_part" Jv)
  (ck:gx K "_law_names" EO)
  (cn:gx K "_law_program" xr)
  (cq:gx K "law" Th)
  (a9:fz K eB "len"=some none) (aJ:fz K eB "range"=some none) (aC:fz K eB "divmod"=some none) (ba:fz K eB "max"=some none) (bb:fz K eB "min"=some none) (bg:fz K eB "sum"=some none) (a6:fz K eB "all"=some none) (R:fz K eB "isinstance"=some none) (a8:fz K eB "int"=some none) (aN:fz K eB "bool"=some none) (aP:fz K eB "list"=some none) (aK:fz K eB "tuple"=some none) (af:fz K eB "enumerate"=some none) (bh:fz K eB "zip"=some none) (aD:fz K eB "sorted"=some none) (bc:fz K eB "set"=some none) (aO:fz K eB "dict"=some none) (bf:fz K eB "str"=some none) (a7:fz K eB "any"=some none) (aj:fz K eB "reversed"=some none) (a5:fz K eB "abs"=some none) :
  ∃fd:iQ,(∀(s:da) (v:cV),tw s fd ⟨[v],[]⟩ [("_law_script",v)])/\∀a:Heap,K.In a->a.Ns eB c->wK l.prog w K c a J5 M8 fa fd Nh (EU K):=by
 have B:mC c:=⟨eD X G a9,eD X G aJ,eD X G aC,eD X G ba,eD X G bb,eD X G bg,eD X G a6,eD X G R,eD X G a8,eD X G aN,eD X G aP,eD X G aK,eD X G af,eD X G bh,eD X G aD,eD X G bc,eD X G aO,eD X G bf,eD X G a7,eD X G aj,eD X G a5⟩;have bw:=QU (st:=j4) b0 bz bj;refine V1 (k:=SU) X G bA cq (λa=>?_) λ_ _ _ _=>Wu;have j:qX l.prog w K c a:=mF X G l0 (Iz B) λ_ _ _ _=>Jn;have O:ve l.prog w K c a:=mF X G l1 (Ef B j) λ_ _ _ _=>EG;have U:xQ l.prog w K c a:=mF X G l2 (Iy B O j) λ_ _ _ _=>GK;have o:FC l.prog w K c a:=mF X G l3 (zQ B) λ_ _ _ _=>Ar;have aA:FB l.prog w K c a:=mF X G l3 (zQ B) λ_ _ _ _=>Me;have aw:Fw l.prog w K c a:=mF X G l3 (zQ B) λ_ _ _ _=>Mb;have m:wI l.prog w K c a:=mF X G l4 (xb B o) λ_ _ _ _=>xn;have aq:wG l.prog w K c a:=mF X G l4 (xb B o) λ_ _ _ _=>Jm;have ak:CI l.prog w K c a:=mF X G l4 (xb B o) λ_ _ _ _=>Jk;have ah:zm l.prog w K c a:=mF X G l5 (ID B) λ_ _ _ _=>Jr;have g:nR l.prog w K c a:=mF X G l6 (yq B ah) λ_ _ _ _=>yz;have T:vf l.prog w K c a:=mF X G l7 (NG B) λ_ _ _ _=>OY;have i:nS l.prog w K c a:=mF X G l8 (yt B) λ_ _ _ _=>yA;have ar:CK l.prog w K c a:=mF X G l9 (Lv B) λ_ _ _ _=>Mf;have D:t5 l.prog w K c a:=mF X G bB (B0 B i ar) λ_ _ _ _=>Co;have d:lL l.prog w K c a:=mF X G bC (IA B aA) λ_ _ _ _=>Jo;have L:vc l.prog w K c a:=mF X G bD (Ed B U m g T D d) λ_ _ _ _=>EE;have ao:CJ l.prog w K c a:=mF X G bE (Lu B j) λ_ _ _ _=>Md;have C:tZ l.prog w K c a:=mF X G bF (BZ B L d ao g) λ_ _ _ _=>Cn;have ag:zk l.prog w K c a:=mF X G bG (IB B) λ_ _ _ _=>Jp;have H:wH l.prog w K c a:=mF X G bH (Lw B C ag) (λ_ _ _ _=>Mg) (z:={len:=λ_ _ _ _ h=>by obtain⟨_,_,_,_,⟨_,_,_,_,_,e,_⟩,_⟩:=h;rw[e];rfl});have u:wF l.prog w K c a:=mF X G bI (Ls B) λ_ _ _ _=>Mc;have aF:Qc l.prog w K c a:=mF X G bJ (TR B) λ_ _ _ _=>W7;have aB:FD l.prog w K c a:=mF X G bK (NH B) λ_ _ _ _=>OZ;have q:sj l.prog w K c a:=mF X G bL (zP B) λ_ _ _ _=>Aq;have ai:zo l.prog w K c a:=mF X G bM (IE B d u aF aB q) λ_ _ _ _=>Js;have aX:SF l.prog w K c a:=mF X G bN (VP B ai d u) (λ_ _ _ _=>Wt) (z:={len:=λ_ _ _ _ h=>by obtain⟨_,_,_,_,⟨_,_,_,_,_,e,_⟩,_⟩:=h;rw[e];rfl});have P:vg l.prog w K c a:=mF X G bO (Eg B aX H) λ_ _ _ _=>EH;have b:lA l.prog w K c a:=mF X G bP (TN B) λ_ _ _ _=>Va;have J:vb l.prog w K c a:=mF X G bQ (Ec B ak) λ_ _ _ _=>ED;have f:mO l.prog w K c a:=mF X G bR (xa B) λ_ _ _ _=>xm;have x:tX l.prog w K c a:=mF X G bS (BX B f) λ_ _ _ _=>Cj;have M:vd l.prog w K c a:=mF X G bT (Ee B aw x f i) λ_ _ _ _=>EF;have y:tY l.prog w K c a:=mF X G bU (BY B J M) λ_ _ _ _=>Ck;have S:zj l.prog w K c a:=mF X G bV (NF B y) λ_ _ _ _=>OX;have aY:SG l.prog w K c a:=mF X G bW (VR B) λ_ _ _ _=>Wv;have r:so l.prog w K c a:=mF X G bX (zR B b) λ_ _ _ _=>As;have n:rP l.prog w K c a:=mF X G bY (yu B b) λ_ _ _ _=>yB;have ae:xV l.prog w K c a:=mF X G bZ (Ga B S aY b r n) λ_ _ _ _=>GN;have aW:xP K _ lR [cV.none]:=λs us X hl=>by(obtain⟨_,rfl⟩:=Xl (us:=us) (show us.length=1 from by rw[c9] at hl;exact Nat.succ.inj hl));exact PySem.W.binds_K (fd:=hH "walked" "walked" (lJ j4) (j8 j4) (gk j4) (.ref aV) aT aS aU aQ aI aR) X rfl cu rfl rfl rfl
 have E:y0 l.prog w K c a "walked" lR uJ [.non] (lS K):=⟨⟨_,_,_,tV X G bx,bj,aW,.cons rfl .nil,GB bw B aq T⟩⟩;have Y:xR l.prog w K c a:=mF X G b1 (F8 B E) λ_ _ _ _=>GL;have t:wD l.prog w K c a:=mF X G b2 (Lr B aF) λ_ _ _ _=>Ma;have aH:J8 l.prog w K c a:=mF X G b3 (@QJ _ _ _ _ _ B b) λ_ _ _ _=>R0;have Q:vh l.prog w K c a:=mF X G b4 (Eh B aH) λ_ _ _ _=>EI;have ay:Fy l.prog w K c a:=mF X G b5 (NC B b) λ_ _ _ _=>OV;have aE:J6 l.prog w K c a:=mF X G b6 (QC B b t d aF Q ay) λ_ _ _ _=>RY;have I:t8 l.prog w K c a:=mF X G bo (ug B m) λ_ _ _ _=>ui;have ab:xU l.prog w K c a:=mF X G bo (ug B m) λ_ _ _ _=>Cp;have Z:xS l.prog w K c a:=mF X G b7 (F9 B Y aE b t d I) λ_ _ _ _=>GM;have p:uH l.prog w K c a:=mF X G b8 (Iw B) λ_ _ _ _=>Jl;have aL:MX l.prog w K c a:=mF X G b9 (TU B Z b p) λ_ _ _ _=>Vb;have av:CM l.prog w K c a:=mF X G cb (Lz B b) λ_ _ _ _=>Mi;have aa:xT l.prog w K c a:=mF X G cc (Ca B b av) λ_ _ _ _=>Cq;have ax:Fx l.prog w K c a:=mF X G cf (NB B b) λ_ _ _ _=>OU;have az:FA l.prog w K c a:=mF X G cg (ND B) λ_ _ _ _=>OW;have aM:MY l.prog w K c a:=mF X G cj (TV B ab aa ax az b) λ_ _ _ _=>Vc;have aG:J7 l.prog w K c a:=mF X G ck (QF B b) λ_ _ _ _=>RZ;have au:CL l.prog w K c a:=mF X G cn (Lx B aM b aG) λ_ _ _ _=>Mh;intro _ _ _ _ _ _ _ hr;exact VQ B H P b ae S aL p au hr
def Vg{K:Fg}{H:Hp}{a:c7}{ns:List Int}(o:Qm H)(h:fR K H a (ns.map V.int)):pM K H a ns:=by
 rcases h with(h|h)|h
 ·rcases o a with z|⟨b,c,z⟩<;>rw[h] at z<;>cases z
 ·exact .inl h
 ·exact .inr h
def walk{l:PySem.W.OpenLaw}{q:dv}{c:List Str}{m:(Str->Option cV)->Heap->Prop}{i:dQ->Heap->Prop}{d:DefRec}{K:Params->Fg}(v:l.most=some 63)(g:d.params.defaults=[])
  (r:∀(w:dQ) (h:Heap),i w h->(K w.params).In h)
  (F:∀(w:dQ) (e:Str->Option cV) (j:c7) (h:Heap),(K w.params).In h->h.Ns eB e->e d.name=some (.ref j)->
   ∃fd:iQ,(∀(s:da) (u:cV),tw s fd ⟨[u],[]⟩ [("_law_script",u)])/\∀b:Heap,(K w.params).In b->b.Ns eB e->wK l.prog w (K w.params) e b J5 M8 j fd Nh (EU (K w.params))) :
  PySem.W.WalkO q c m i l.row.toRowW d [] (λf vs=>zh f vs):=
 L2.walk_of (n:=63) (k:=M8) (x:="_law_script") (CX:=λ_=>J5) (sp:=λw=>EU (K w.params)) v (by decide) g ⟨rfl,by decide,by decide⟩ r F (λ_ _ a y t o p=>⟨a,y,rfl,Vg o p,t,λ_=>rfl⟩) λ_ _ _ _ _ z=>z
end Bg
open PySem PySem.W PyProof.Rows
namespace PySem.W.Fast
def tw17523189388345232626:=()
def tw1541716307321371:=()
def tw9948058571339158143:=()
def tw11046391183838166403:=()
def tw7339737988910403058:=()
def tw2644775756246341929:=()
def tw6249174937450839062:=()
def tw6710124251780297754:=()
def tw6149709354702044574:=()
def tw1716478094317687873:=()
def tw7498950862562503498:=()
def tw16347497721662498046:=()
def tw17595310966372170199:=()
def tw6792695012393894604:=()
def tw4988006111633650755:=()
def tw383230990881874738:=()
def tw12418851052300180088:=()
def tw11739004836670607669:=()
def tw105436798020378421:=()
def tw5663609035161424438:=()
def tw1179252736539723608:=()
def tw12748949776782473225:=()
def tw8322219158390287071:=()
def tw10679181357727871162:=()
def tw5963171461261942130:=()
def tw13484035610818343728:=()
def tw7345771506080005893:=()
def tw11789289970857299741:=()
def tw4466073717001123477:=()
def tw14429911335539283040:=()
def tw885716051104534229:=()
def tw6006604865552573365:=()
def tw15107341010814527390:=()
def tw2485541938557567118:=()
def tw2603319893258400394:=()
def tw2195122398157401766:=()
def tw9683539672938757469:=()
def tw8193912270106329908:=()
def tw7109451742749995356:=()
def tw16360565084631225558:=()
def tw8359960213265660422:=()
def tw11918203918586663985:=()
def tw10268941974985606252:=()
def tw10410674618861419384:=()
def tw9019607553689366898:=()
def tw300568289611072400:=()
def tw12579231898572635016:=()
def tw3831960909202860832:=()
def tw2614574695868246007:=()
def tw7670396891119540893:=()
def tw7029549166311145618:=()
def tw14028631652322489193:=()
def tw12299849572257828954:=()
def tw11906378716645552991:=()
def tw8159530854535726030:=()
def tw14444410698265486299:=()
def tw6490578478111290301:=()
def tw17165169779070476209:=()
def tw4870934475491200998:=()
def tw7621292463254294047:=()
def tw16935143623265685201:=()
def tw6355854177328032541:=()
def tw17539501182621256114:=()
def tw3455502218572719197:=()
def tw13930294199547373623:=()
def tw15846647794577160408:=()
def tw6171766656496343191:=()
def tw13418287427047901830:=()
def tw8792939725350586494:=()
def tw9930981634064369991:=()
def tw18276665079182820605:=()
def tw2280474505913031527:=()
def tw3839109238894374910:=()
def tw8716035394407991005:=()
def tw16884485779282172294:=()
def tw5727070744768164055:=()
def tw6149086146072006268:=()
def tw11330569206073293424:=()
def tw16113120949271050799:=()
def tw7308896492011627415:=()
def tw11119591483010229766:=()
def tw3891671039577556643:=()
def tw13295746465791526276:=()
def tw5178185738028944256:=()
def tw2989002336063677775:=()
def tw12450650748565089510:=()
def tw15940676175629787045:=()
def tw4105069331119453882:=()
def tw17418622101101252226:=()
def tw9767557165791023462:=()
def tw6932216080282778367:=()
def tw10746815088601181287:=()
def tw15314960852234431854:=()
def tw17854209090334509317:=()
def tw12888167481331353822:=()
def tw17224274581219134709:=()
def tw15793274349392284979:=()
def tw8606961592744690440:=()
def tw1752466555920412691:=()
def tw9290583154876049182:=()
def tw11420382511276519591:=()
def tw15308038315355225116:=()
def tw8228246973077732509:=()
def tw14610616542796265382:=()
def tw2894890360980737056:=()
def tw1452440109678267937:=()
def tw106149371600493611:=()
def tw9700449272562845231:=()
def tw15376760159096701356:=()
def tw14404654916457713128:=()
def tw5859082759284416902:=()
def tw10904635562518824531:=()
def tw7179228616740263320:=()
def tw9645689475787608687:=()
def tw9605110026004128844:=()
def tw4343901298266142485:=()
def tw17990960755043941586:=()
def tw9564597775630591293:=()
def tw10285029766277120941:=()
def tw679115070102259560:=()
def tw4050519351318811958:=()
def tw10620147359866094239:=()
def tw9042119820379279746:=()
def tw17811393966106532334:=()
def tw418889787214294216:=()
def tw14057935708342134366:=()
def tw4801861406787302687:=()
def tw9886749952040931403:=()
def tw8672219483116978315:=()
def tw9155008388620096335:=()
def tw12310385485169293337:=()
def tw6224398212302316976:=()
def tw6099632820581889713:=()
def tw7627336030565386656:=()
def tw180801865824754959:=()
def tw3741627275402850715:=()
def tw3211614451542546352:=()
def tw3369610925846873533:=()
def tw12811409760638956107:=()
def tw4283738226503201562:=()
def tw13932620941140627085:=()
def tw572945493109363186:=()
def tw3690821430425772012:=()
def tw13723461129334041193:=()
end PySem.W.Fast
set_option maxRecDepth 100000 in
set_option maxHeartbeats 0 in
theorem PySem.Challenge.cw_beltgarth_k53_the_first_wrong_row_holds : PySem.Challenge.rw_beltgarth_k53_the_first_wrong_row.Holds := by
 w_on;o_law;k_head;(case hw=>w_witness2)
 k_fill
 refine Bg.walk (l:=PySem.Challenge.rw_beltgarth_k53_the_first_wrong_row) rfl rfl (λw h Y=>PySem.W.kIn_of Y) ?F
 case F=>
  intro w mg fa h KX G hmg
  refine' Bg.all_mk KX G hmg ?l0 ?l1 ?l2 ?l3 ?l4 ?l5 ?l6 ?l7 ?l8 ?l9 ?l10 ?l11 ?l12 ?l13 ?l14 ?l15 ?l16 ?l17 ?l18 ?l19 ?l20 ?l21 ?l22 ?l23 ?l24 ?l25 ?l26 ?l27 ?l28 ?l29 ?l30 ?l31 ?l32 ?l33 ?l34 ?a35 ?l35 ?c35 ?k35 ?t35 ?l36 ?l37 ?l38 ?l39 ?l40 ?l41 ?l42 ?l43 ?l44 ?l45 ?l46 ?l47 ?l48 ?l49 ?l50 ?l51 ?l52 ?l53 ?z_len ?z_range ?z_divmod ?z_max ?z_min ?z_sum ?z_all ?z_isinstance ?z_int ?z_bool ?z_list ?z_tuple ?z_enumerate ?z_zip ?z_sorted ?z_set ?z_dict ?z_str ?z_any ?z_reversed ?z_abs
  case a35|l35|c35|k35|t35|z_len|z_range|z_divmod|z_max|z_min|z_sum|z_all|z_isinstance|z_int|z_bool|z_list|z_tuple|z_enumerate|z_zip|z_sorted|z_set|z_dict|z_str|z_any|z_reversed|z_abs=>k_is
  all_goals (refine' Bg.defAt ?a ?l ?c ?k;(case a|l|c|k=>k_is))
