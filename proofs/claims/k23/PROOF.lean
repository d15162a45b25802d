import PyProof.Rows.All
import Wide.All
import OpenK.AllK
import Wide.FinOn
import Lean
import PyProof.EqAt
import PyProof.EqKinds
import PyProof.TupleCall
import PyProof.SetKind
import PyProof.Rows.SetFrom
import PyProof.FactsAll.set
import PyProof.DictIter
import PyProof.DictWalks
import PyProof.WalksMore
import PyProof.MakeMany
import PyProof.FactsAll.subtypes_4
import KE.KDictSum
import KE.KIntText
import KE.IntTextLaws
import PyProof.FString5
import PyProof.StrBlock2
import PyProof.FitsReplace
import PySem.Challenge.RW_beltgarth_k23_whole_texts_read
set_option Elab.async false
set_option autoImplicit true
set_option linter.all false
set_option maxHeartbeats 1000000
set_option maxHeartbeats 3200000
set_option maxHeartbeats 4000000
set_option maxRecDepth 100000
set_option relaxedAutoImplicit true
set_option hygiene false
set_option compiler.extract_closed false
def jaa:Lean.Macro
|`(À)=>`(rfl)
|`(Ã)=>`(by lia)
|`(â)=>`(by decide +kernel)
|`(Ñ)=>`(List Str)
|`(ó)=>`(s.heap.objs.size)
|`(Ï)=>`(by decide)
|`(ċ)=>`(sG K)
|`(Ò)=>`(by simp)
|`(Ê)=>`(V.str)
|`(Û)=>`(X.env)
|`(Ç)=>`(none)
|`(Đ)=>`(by simp only[sS];decide +kernel)
|`(Ü)=>`(false)
|`(ë)=>`(X.prog)
|`(í)=>`(Q .non H')
|`(ò)=>`(fH 1)
|`(ø)=>`(fI 0)
|`(ï)=>`(Hd _)
|`(ú)=>`(fH 0)
|_=>Lean.Macro.throwUnsupported
def jab:Lean.Macro
|`(Á $a)=>`(some $a)
|`(Ą $a $b)=>`(⟨$a,rfl,$b⟩)
|`(Ð $a)=>`(some (.lst $a))
|`(ô $a $b $c)=>`(fV $a (fI $b) $c)
|`(Â $a)=>`(.ref $a)
|`(Ä $a)=>`(.str $a)
|`(Þ $a)=>`(fX $a lN)
|`(ñ $a $b $c $d)=>`(.inl ⟨$a,$b,$c,$d⟩)
|`(ì $a $b)=>`({nx:=λ_ H'=>$a,rt:=$b})
|`(Ì $a $b)=>`(absurd $a $b)
|`(Ý $a $b $c)=>`(upd $a $b (.lst $c))
|`(ă $a $b)=>`(iV (fH $a) $b)
|`(Ø $a)=>`(gJ.refl $a)
|`(û $a $b)=>`(Sx $a rfl $b)
|`(ä $a)=>`(some (.tup $a))
|`(ý $a)=>`(fX (fI $a) lN)
|`(Æ $a $b)=>`(⟨$a,$b⟩)
|`(Ô $a)=>`(($a).length)
|`(ß $a $b)=>`(gI $a (f7 $b))
|`(Ú $a)=>`(⟨_,rfl,$a⟩)
|`(ö $a $b $c $d $e $f $g)=>`(gN (model $a $b) $c $d $e $f $g)
|`(ü $a $b $c)=>`(iM $a (iM $b $c))
|`(Ē $a)=>`(by have z:=$a;unfold gu ma at z;simp only[kL,ub,g] at z;exact z)
|`(È $a)=>`(.inl $a)
|`(á $a $b)=>`(⟨_,rfl,Sx $a rfl $b⟩)
|`(é $a $b $c $d)=>`(.inl ⟨$a,$b,$c,kig $d⟩)
|`(ć $a $b)=>`({cls:=.type $a,data:=$b})
|`(É $a)=>`(List $a)
|`(Õ $a $b $c $d)=>`(⟨$a,$b,$c,rfl,$d⟩)
|`(Ó $a $b)=>`(fV (sG K) (fI $a) $b)
|`(ą $a)=>`(Txt.split $a " ")
|`(Ā $a $b $c)=>`(upd $a $b (.tup $c))
|`(ç $a $b)=>`(fX $a (fX $b lN))
|`(Ë $a)=>`(.int $a)
|`(Å $a)=>`(kO $a)
|`(ê $a)=>`(f7 (fH $a))
|`(Í $a)=>`(.inr $a)
|`(đ $a $b)=>`(mB $a (gB $b))
|`(Ù $a)=>`(hH.of $a)
|`(ĉ $a $b $c $d $e)=>`(kih $a $b $c $d λ_ _ _ _=>$e)
|_=>Lean.Macro.throwUnsupported
def jac:Lean.Macro
|`(î $a)=>`(some (.str $a))
|`(Ć $a)=>`(s.heap.get? $a)
|`(Ď $a $b)=>`({s with heap:=$a,toks:=$b})
|`(æ $a)=>`(decide $a)
|`(ē $a)=>`(Q .non $a)
|`(Ċ $a $b $c $d)=>`(⟨_,rfl,m8 (i:=$a) $b $c $d⟩)
|`(ð $a $b $c)=>`(iY (fV $a $b $c))
|`(õ $a $b $c)=>`(iA (mB $a (gB $b)) $c)
|`(Î $a $b $c)=>`(⟨$a,$b,$c⟩)
|`(à $a)=>`(iV (fH $a) fL)
|`(ď $a)=>`(Option.some.inj $a)
|`(Č $a $b $c $d $e)=>`(.Call (.Name $a $b) $c $d $e)
|`(Ĉ $a $b $c $d)=>`(upd $a $b (.lst $c) $d)
|`(þ $a)=>`(eval $a X.env)
|`(ã $a $b $c)=>`(kh9 $a $b $c rfl)
|`(ÿ $a $b)=>`(iO $a (fX (fI $b) lN))
|`(Ö $a)=>`(gJ H $a)
|`(å $a $b $c)=>`(Sn $a [] $b $c)
|`(ā $a $b $c $d)=>`(iA (lI $a $b $c) $d)
|`(č $a)=>`({s with heap:=$a})
|`(Ă $a $b)=>`(oi $a (iE $b))
|`(ù $a)=>`(if_neg $a)
|`(è $a)=>`(V.str $a)
|_=>Lean.Macro.throwUnsupported
def jad:Lean.Name->Bool
|.str .anonymous s=>s.front.val>127||s.length>1&&"jqzJQZ".any (·==s.front)
|_=>false
local macro_rules|`($f:ident)=>if jad f.getId then jaa f else Lean.Macro.throwUnsupported
local macro_rules|`($f:ident $a*)=>if jad f.getId then do let s<-`($f:ident $a*);jab s<|>jac s else Lean.Macro.throwUnsupported
open List renaming length_map->fP,getElem?_eq_getElem->gF,getElem?_eq_some_iff->gR,mem_singleton->g_,length_append->ie,size_toArray->iq,map_append->g8,mem_of_getElem?->iS,mem_cons->g7,length_cons->iN,getElem?_map->i3,mem_append->iT,length_take->kz,map_cons->kL,mem_cons_of_mem->my,take_of_length_le->m5,mem_append_right->mO,mem_append_left->mP,mem_map->kA,take_add_one->mq,replicate->lq,mem_iff_getElem->nB,not_mem_nil->mz,getElem?_set_self->ph,length_singleton->pk,getElem_mem->nE,getElem?_append_right->tr,length_eq_zero_iff->sH,append_nil->oe,mem_cons_self->pH,getElem?_append_left->uc,getElem?_set_ne->rW,range->lH,map_nil->ub,length_pos_iff->sJ,flatten_cons->rY,getElem?_eq_none->ue,length_replicate->uQ,append_assoc->sM,filterMap_cons->uf,getLast?_eq_getElem?->wG,dropLast_concat_getLast->xU,length_drop->tu,mem_of_mem_take->vJ,map_map->pJ,nodup_cons->tv,filterMap_append->wD,length_filter_le->wF,length_range->uX,getElem?_replicate->y9,mem_range->tE,all_eq_true->uT,take_append_drop->xW,length_set->uV,take_length->vL,replicate_succ->xX,range_succ->vO,map_take->uY,length->tG,foldl_append->xZ,mem_filter->wJ,lookup_cons->x9,mem_or_eq_of_mem_set->DI,pairwise_iff_getElem->DJ,find?_cons->x5,mem_of_mem_drop->Bs,getElem?_take_of_lt->DK,getElem?_range->Bq,contains_cons->Bu,filter_append->Bv,foldl_cons->Ae,lookup->wU,filter_cons->BA,drop_eq_getElem_cons->Hq,flatten_append->DP,map_congr_left->DQ,length_filterMap_le->Hn,ext_getElem?->DT,head?_eq_getElem?->Hr,length_eq_one_iff->Hs,take_sublist->DU,any_cons->BO,map_drop->BP,dropLast_concat->HK,pairwise_append->HM,length_nil->Ee,drop_zero->Ef,of_mem_zip->II,sum_append->IJ,map->Az,nodup_nil->Kb,map_id->Fv,foldl->FG
open PySem renaming Value->c_,wpAny_bind->fN,Addr->d_,sizeLine->gM,Shared->fU,Program->f5,wpAny_pure->gH,World->fW,wpAny->gN,starEach->gK,Around->ig,mainGlobals->i7,SetTable->iz,PassesOwn->kg,compareOp->kj,NameKind->lA,wpAny_holding->oh,wpAny_loadPart_at->ud,wpAny_mono->og,mem_of_lookup->vI,wpAny_newObj_type->uW,FuncData->m6,wpAny_isSubtype_exc->wH,wpAny_truthy_bool->vK,attributeBase->tx,assignEach->pN,wpAny_Call_Name_kw->wI,wpAny_callSpecial?_slot->y1,backTo->lR,foldedSetIterable->wK,codeAny_builtin->vN,binaryOp->oz,wpAny_field->tF,bootBuiltins->uZ,plainId_quiet->vR,wpAny_call_entry->x8,wpAny_passesOwn->x4,codeAny_call_builtin->Br,sizeLine_eq->u4,call_meets->uh,codeAny->pB,checkBuiltinCall->Ac,wpAny_getItem_str_slice->DM,wpAny_pyIter_tuple->Bt,wpAny_ite_split->Ad,wpAny_standAt->yd,excClassObj->wV,keywordEach->wW,sysModules->vS,wpAny_tryCatch->Af,Keyword->sR,swapsWith->u6,strLen_append->Ag,wpAny_updateSeq->BE,tupleKind_room_in1->DR,sliceBounds->yj,codeAny_mono->Am,relayAll->vb,wpAny_pyIter_enum->D4,wpAny_seqItems->BM,wpAny_typeOf->An,typeLookup->ym,wpAny_call->yn,GenState->D',letOwnedTupleGo->Eb,wpAny_execs_nil->Ec,wpAny_specialOf->Ed,getItem->vg,noteFrame->yo,backToKw->w_,excMatches->As,intItems->xa,wpAny_Name->Au,wpAny_rule->Av,wpAny_setField->Eh,argBest->v8,wpAny_of_eq->BX,behindInMarks->Ej,pyNext->uz,rawInt->uA,strKind->Ek,IsPart->vm,wpAny_letGo->EE,BindsTo->yy,callerA->yz,plainKind->Cm,seqItems?->Cn,tupleKind->Co,valueAt->yw,PlainAttrs->ER,call->FI
open Nat renaming le_refl->Hd,lt_of_lt_of_le->l',ne_of_lt->kP,not_lt_zero->mH,zero_le->lu,le_of_lt->mv,le_trans->mC,lt_succ_iff_lt_or_eq->ua,mul_le_mul_right->tw,toDigits->nI,lt_irrefl->px,digitChar->wO,add_sub_cancel->Bw,lt_of_le_of_lt->Bx,ne_of_gt->yb,sub_self->yc,pos_of_ne_zero->DS,toDigits_of_lt_base->HC,lt_succ_of_lt->DV,mul_comm->Ai,le_succ->Ao,add_le_add_left->HU,lt_trichotomy->Iy,le_add_right->Ii,lt_succ_self->IF,lt_trans->Eu,mod_lt->B0,div_add_mod->IK,le_add_left->IL,le_antisymm->IM,le_of_eq->EW,lt_or_ge->EX,pow_succ->EY,log2_lt->Fw,not_lt->FH
open PySem.Heap renaming get?_push_of_some->i5,lt_size->iD,get?_push_size->mr,get?_update_other->rf,get?_update_self->uS,size_push->wQ
open Array renaming length_toList->lO,getElem?_eq_some_iff->tm,getElem?_toList->uR,toList_append->vH,eq_empty_of_size_eq_zero->Hg,toList_inj->Ih
open Option renaming map_eq_some_iff->pj,map_some->pL,isSome_iff_exists->DL,bind_some->BB,getD_some->BC,isSome_map->Iz,getD_none->IG
open PySem.F renaming plainAttrs_str->pd,slot_str_split->pI,type_str_split->sI,plainAttrs_list->y4,excBase_ValueError->Hh,args_str_split_2->Ho,entry_str_split->HD
open PySem.W renaming mg_none_of->nH,nsIn->ly,findIn->nF,keepIn->rh,fnOf->pK,mroIn->rX,mg_of->tD,codeIn->u0,emptyDict->x3,looks_clsIn->HV,methodObj->IA,clsIn->Kh,isFn->EZ
open Int renaming toNat_natCast->sL,emod_lt_of_pos->vM,emod_nonneg->ug,toNat->pA,fdiv_eq_ediv_of_nonneg->Hm,zero_add->ya,not_lt->ES
open PyProof.Rows renaming callWith_type1->xV,boot_tuple->pM,slot_tuple_getitem->y_,envOfC->oB,boot_int->uq,boot_list->vY,AllBare->ve,IntsAre->vf,boot_all->Ay,StrsAre->yx
abbrev a_ := PySem.W.Frag
def mU:0<=PySem.sizeLine:=Ï
def kK:1<=PySem.sizeLine:=Ï
def ka:2<=PySem.sizeLine:=Ï
def kM:3<=PySem.sizeLine:=Ï
def va:4<=PySem.sizeLine:=Ï
def yh:5<=PySem.sizeLine:=Ï
def D0:6<=PySem.sizeLine:=Ï
abbrev gC:=PySem.Value->PySem.Shared->Prop
namespace Bg
def kid{b:Type}{P:List b->Prop}{us:List b}(h:us.length=0)(k:P []):P us:=by cases us with|nil=>exact k|cons a r=>cases h
def vE{b:Type}{P:List b->Prop}{us:List b}(h:us.length=1)(k:∀c,P [c]):P us:=by cases us with|nil=>cases h|cons a r=>exact kid (P:=λr=>P (a::r)) (Nat.succ.inj h) (k a)
def Ss{b:Type}{P:List b->Prop}{us:List b}(h:us.length=2)(k:∀c d,P [c,d]):P us:=by cases us with|nil=>cases h|cons a r=>exact vE (P:=λr=>P (a::r)) (Nat.succ.inj h) (k a)
def Su{b:Type}{P:List b->Prop}{us:List b}(h:us.length=3)(k:∀c d e,P [c,d,e]):P us:=by cases us with|nil=>cases h|cons a r=>exact Ss (P:=λr=>P (a::r)) (Nat.succ.inj h) (k a)
def Sv{b:Type}{P:List b->Prop}{us:List b}(h:us.length=4)(k:∀c d e f,P [c,d,e,f]):P us:=by cases us with|nil=>cases h|cons a r=>exact Su (P:=λr=>P (a::r)) (Nat.succ.inj h) (k a)
def kie{b:Type}{P:List b->Prop}{us:List b}(h:us.length=5)(k:∀c d e f g,P [c,d,e,f,g]):P us:=by cases us with|nil=>cases h|cons a r=>exact Sv (P:=λr=>P (a::r)) (Nat.succ.inj h) (k a)
def kif{b:Type}{P:List b->Prop}{us:List b}(h:us.length=6)(k:∀c d e f g i,P [c,d,e,f,g,i]):P us:=by cases us with|nil=>cases h|cons a r=>exact kie (P:=λr=>P (a::r)) (Nat.succ.inj h) (k a)
def kia{b:Type}{us:List b}(h:us.length=1):∃a,us=[a]:=vE (P:=λus=>∃a,us=[a]) h λa=>Æ a À
def Hf{c:Type}{us:List c}(h:us.length=2):∃a b,us=[a,b]:=Ss (P:=λus=>∃a b,us=[a,b]) h λa b=>Î a b À
def kib{d:Type}{us:List d}(h:us.length=3):∃a b c,us=[a,b,c]:=Su (P:=λus=>∃a b c,us=[a,b,c]) h λa b c=>⟨a,b,c,À⟩
def Sr{e:Type}{us:List e}(h:us.length=4):∃a b c d,us=[a,b,c,d]:=Sv (P:=λus=>∃a b c d,us=[a,b,c,d]) h λa b c d=>⟨a,b,c,d,À⟩
def kic{g:Type}{us:List g}(h:us.length=6):∃a b c d e f,us=[a,b,c,d,e,f]:=kif (P:=λus=>∃a b c d e f,us=[a,b,c,d,e,f]) h λa b c d e f=>⟨a,b,c,d,e,f,À⟩
end Bg
namespace L2
open PySem PySem.Spec PyProof.Rows
abbrev iQ:=Sum Int Str
def yQ:iQ->c_->Bool
 |.inl k,v=>c_.isInt k v
 |.inr x,v=>c_.isStrOf x v
def kkO(w:fW):iQ->Int
 |.inl k=>hashInt k
 |.inr x=>hashStr w x
theorem vQ:∀{k:iQ} {v:c_},yQ k v=true->(∃i t,k=Sum.inl i/\v=c_.int i t)\/(∃x t,k=Sum.inr x/\v=c_.str x t)
 |.inl i,v,h=>by
  obtain⟨t,e⟩:=c_.isInt_shape (k:=i) (v:=v) h;exact ñ i t À e
 |.inr x,v,h=>by
  obtain⟨t,e⟩:=c_.isStrOf_shape (x:=x) (v:=v) h;exact Í ⟨x,t,À,e⟩
def kcI(i:Int)(t:Tok):yQ (È i) (.int i t)=true:=by simp[yQ,c_.isInt]
def kdH(x:Str)(t:Tok):yQ (Í x) (.str x t)=true:=by simp[yQ,c_.isStrOf]
def kjB(a b:Int):æ ((Sum.inl a:iQ)=Sum.inl b)=(a==b):=by
 by_cases e:a=b
 .subst e;simp
 .have h:¬(Sum.inl a:iQ)=Sum.inl b:=λq=>e (Sum.inl.inj q);rw[decide_eq_false h];exact(beq_eq_false_iff_ne.mpr e).symm
def kiU(a b:Str):æ ((Sum.inr a:iQ)=Sum.inr b)=æ (a=b):=by
 by_cases e:a=b
 .subst e;simp
 .have h:¬(Sum.inr a:iQ)=Sum.inr b:=λq=>e (Sum.inr.inj q);rw[decide_eq_false h,decide_eq_false e]
def kiS(a:Int)(b:Str):æ ((Sum.inl a:iQ)=Sum.inr b)=false:=decide_eq_false (λq=>nomatch q)
def kiT(a:Str)(b:Int):æ ((Sum.inr a:iQ)=Sum.inl b)=false:=decide_eq_false (λq=>nomatch q)
def oA(prog:f5)(w:fW):PySem.KeyKind prog w iQ where
 is:=yQ
 hash:=kkO w
 inj:=λv a b f d=>by
  rcases vQ f with⟨i,t,rfl,rfl⟩|⟨x,t,rfl,rfl⟩
  .rcases vQ d with⟨j,u,rfl,e⟩|⟨y,u,rfl,e⟩
   .injection e with e1 _;rw[e1]
   .exact nomatch e
  .rcases vQ d with⟨j,u,rfl,e⟩|⟨y,u,rfl,e⟩
   .exact nomatch e
   .injection e with e1 _;rw[e1]
 byValue:=λk v h=>by
  rcases vQ h with⟨i,t,rfl,rfl⟩|⟨x,t,rfl,rfl⟩<;>rfl
 pyHash:=λc h=>by
  rcases vQ c with⟨i,t,rfl,rfl⟩|⟨x,t,rfl,rfl⟩
  .exact wpAny_pyHash_int h
  .exact wpAny_pyHash_str h
 eqBool:=λg c h=>by
  rcases vQ g with⟨i,t,rfl,rfl⟩|⟨x,t,rfl,rfl⟩
  .rcases vQ c with⟨j,u,rfl,rfl⟩|⟨y,u,rfl,rfl⟩
   .rw[kjB] at h;exact wpAny_eqBool_int h
   .rw[kiS] at h;exact SeqAt.EqAt.int_str i t y u _ _ _ _ h
  .rcases vQ c with⟨j,u,rfl,rfl⟩|⟨y,u,rfl,rfl⟩
   .rw[kiT] at h;exact SeqAt.EqAt.str_int x t j u _ _ _ _ h
   .rw[kiU] at h;exact wpAny_eqBool_str h
 «strs»:=λk x t v h=>by
  rcases vQ h with⟨i,u,rfl,e⟩|⟨y,u,rfl,e⟩
  .exact nomatch e
  .injection e with e1 _;subst e1;cases v<;>rfl
def Y_(prog:f5)(w:fW)(i:Int)(t:Tok):(oA prog w).is (È i) (.int i t)=true:=kcI i t
def Y'(prog:f5)(w:fW)(x:Str)(t:Tok):(oA prog w).is (Í x) (.str x t)=true:=kdH x t
inductive V where
 |non|bl (b:Bool)|int (i:Int)|str (x:Str)|byt (b:Array UInt8)|flt (b:UInt64)|ref (a:d_)|ty (n:String)
 deriving DecidableEq
abbrev kO(p:d_):Option V:=Á (Â p)
abbrev gm(n:Nat):Option V:=Á (Ë (n:Nat))
abbrev iX(n:Int):Option V:=Á (Ë n)
def hW:V->c_->Prop
 |.non,u=>u=c_.none
 |.bl b,u=>u=c_.bool b
 |.int i,u=>∃t,u=c_.int i t
 |.str x,u=>∃t,u=c_.str x t
 |.byt b,u=>∃t,u=c_.bytes b t
 |.flt b,u=>∃t,u=c_.float b t
 |.ref a,u=>u=c_.ref a
 |.ty n,u=>u=c_.type n
abbrev gQ:É V->É c_->Prop:=Paired hW
def gQ.length(r:gQ xs us):xs.length=us.length:=Paired.length r
theorem gQ.get:∀{xs:List V} {us:List c_} {i:Nat} {x:V},gQ xs us->xs[i]?=Á x->∃u,us[i]?=Á u/\hW x u
 |_,_,_,_,.nil,e=>by simp at e
 |_,_,0,_,.cons r _,e=>by simp at e;subst e;exact Ú r
 |_,_,i+1,x,.cons _ t,e=>by
  obtain⟨u,a,b⟩:=gQ.get (i:=i) (x:=x) t (by simpa using e);exact Î u (by simpa using a) b
theorem gQ.set(r:hW x u):∀{xs:List V} {us:List c_} (i:Nat),gQ xs us->gQ (xs.set i x) (us.set i u)
 |_,_,_,.nil=>.nil
 |_,_,0,.cons _ t=>.cons r t
 |_,_,i+1,.cons q t=>.cons q (gQ.set r i t)
theorem gQ.append:∀{xs ys:List V} {us ws:List c_},gQ xs us->gQ ys ws->gQ (xs++ys) (us++ws)
 |_,_,_,_,.nil,s=>s
 |_,_,_,_,.cons r t,s=>.cons r (gQ.append t s)
theorem gQ.take:∀{xs:List V} {us:List c_} (n:Nat),gQ xs us->gQ (xs.take n) (us.take n)
 |_,_,0,_=>.nil
 |_,_,_+1,.nil=>.nil
 |_,_,n+1,.cons r t=>.cons r (gQ.take n t)
theorem gQ.drop:∀{xs:List V} {us:List c_} (n:Nat),gQ xs us->gQ (xs.drop n) (us.drop n)
 |_,_,0,r=>r
 |_,_,_+1,.nil=>.nil
 |_,_,n+1,.cons _ t=>gQ.drop n t
def pS:Option V->Option c_->Prop
 |some v,some u=>hW v u
 |none,none=>True
 |_,_=>False
def lU:É (a×V)->É (a×c_)->Prop:=Paired λ(p:a×V) (q:a×c_)=>p.1=q.1/\hW p.2 q.2
def iP:iQ->V
 |.inl i=>Ë i
 |.inr x=>Ä x
inductive lj where
 |lst (xs:É V)
 |tup (xs:É V)
 |dK (kvs:É (iQ×V))|dT (kvs:List (List iQ×V))
 |set (S:Int->Bool) (n:Nat)
 |ins (C dx:d_) (fs:É (Str×V))
 |own (x:d_)
 |xd (fs:É (Str×V))
 |met (f x:d_)
 |rng (lo hi:Int)
 |frz (o:Obj) (u:lj)
 |tbl (ps:Array c_)
 |ext (φ:Heap->Prop)
abbrev b_:=d_->Option lj
def upd(H:b_)(a:d_)(o:lj):b_:=λb=>if b=a then Á o else H b
def fG:upd H a o a=Á o:=by unfold upd;rw[if_pos À]
def fM(h:b≠a):upd H a o b=H b:=by unfold upd;rw[ù h]
def AE:upd (upd H a o) a u=upd H a u:=by
 funext b;unfold upd;split<;>rfl
def U'{H:b_}{a b:d_}{o u:lj}(h:H a=Á o)(h':H b=Á u)(d:o≠u):a≠b:=by
 intro e;subst e;rw[h] at h';exact d (ď h')
def f6{H:b_}{a b:d_}{o:lj}(h:H a=Á o)(h':H b=none):a≠b:=by
 intro e;subst e;rw[h] at h';cases h'
def vj(h:Heap)(a:d_)(items:Array c_):Prop:=∃o,h.get? a=Á o/\(o.cls=.type "tuple"/\o.dict=none)/\∃n,o.data=.seq items n
def vj.tup(x:vj h a items):IsTup h a items:=let⟨o,e,c,n⟩:=x;⟨o,e,c.1,n⟩
def vj.lt(x:vj h a items):a<h.objs.size:=let⟨_,e,_⟩:=x;iD e
def vj.new(h:Heap)(items:Array c_):vj (h.push (ć "tuple" (.seq items))) h.objs.size items:=⟨_,mr _ À,Æ À À,_,À⟩
section
variable(P:f5)(w:fW)
def kY(H:b_)(h:Heap)(a:d_):lj->Prop
 |.lst d=>d.length<=gM/\∃(b:List c_) (n:Nat),gQ d b/\h.get? a=Á (ć "list" (.seq b.toArray n))
 |.tup d=>d.length<=gM/\∃b:List c_,gQ d b/\vj h a b.toArray
 |.dK c=>c.length<=gM/\(a==vS)=false/\∃r,lU c r/\h.DictOf (oA P w) a r
 |.dT c=>c.length<=gM/\(a==vS)=false/\∃d:List (List iQ×d_×c_),
   Paired (λ(p:List iQ×V) (q:List iQ×d_×c_)=>p.1=q.1/\H q.2.1=ä (p.1.map iP)/\hW p.2 q.2.2) c d/\
   ∃o k s,h.get? a=Á o/\o.ExactDict/\o.data=.dict k s/\k.toList=d.map (entryOfKey (Co (oA P w)))/\(d.map (·.1)).Nodup
 |.set S n=>h.SetOf (intKind P w) a S n
 |.ins C i g=>H i=Á (.own a)/\g.length<=1000/\i≠a/\h.get? a=Á (PySem.W.instObj C i)/\
   ∃e,h.Ns1 i e/\(∀f,pS (g.lookup f) (e f))/\PySem.Within e (g.map (·.1))
 |.own _=>∃o,h.get? a=Á o
 |.xd g=>∃e,h.Ns1 a e/\∀f,pS (g.lookup f) (e f)
 |.rng z y=>∃t u v,h.get? a=Á (ć "range" (.fields #[.int z t,.int y u,.int 1 v]))
 |.frz o u=>h.get? a=Á o/\kY H h a u
 |.tbl B=>h.get? a=Á {cls:=.none,data:=.fields B}
 |.met f x=>h.get? a=Á (IA (Â f) (Â x))
 |.ext j=>j h/\(∃o,h.get? a=Á o)/\∀l m:Heap,j l->(∀o,l.get? a=Á o->m.get? a=Á o)->j m
def kN(H:b_)(h:Heap):Prop:=∀a o,H a=Á o->kY P w H h a o
end
def kY.lt(x:kY P w H h a o):a<h.objs.size:=by
 cases o with
 |lst c=>obtain⟨_,_,_,_,e⟩:=x;exact iD e
 |tup c=>obtain⟨_,_,_,p⟩:=x;exact p.lt
 |set S n=>obtain⟨o,_,_,_,e,_⟩:=x;exact iD e
 |ins C d b=>obtain⟨_,_,_,e,_⟩:=x;exact iD e
 |own y=>obtain⟨_,e⟩:=x;exact iD e
 |xd b=>obtain⟨_,⟨_,_,_,e,_⟩,_⟩:=x;exact iD e
 |rng i g=>obtain⟨_,_,_,e⟩:=x;exact iD e
 |frz j u=>obtain⟨e,_⟩:=x;exact iD e
 |tbl k=>exact iD (show h.get? a=Á _ from x)
 |met f y=>exact iD (show h.get? a=Á _ from x)
 |ext l=>obtain⟨_,⟨_,e⟩,_⟩:=x;exact iD e
 |_=>obtain⟨_,_,_,_,o,_,_,e,_⟩:=x;exact iD e
theorem Paired.mapP:∀{l₁:List d} {c:List e},Paired F l₁ c->(∀a b,F a b->G a b)->Paired G l₁ c
 |_,_,.nil,_=>.nil
 |_,_,.cons r t,f=>.cons (f _ _ r) (Paired.mapP t f)
def kY.stay(x:kY P w H h a o)(k:∀b u,(b=a\/H b=Á (.own a))->h.get? b=Á u->h'.get? b=Á u)
  (J:∀b,H b=Á (.own a)->H' b=Á (.own a)) (K:∀b xs,H b=ä xs->H' b=ä xs):kY P w H' h' a o:=by
 induction o with
 |lst xs=>obtain⟨z,l,n,r,e⟩:=x;exact⟨z,l,n,r,k _ _ (È À) e⟩
 |tup xs=>obtain⟨z,l,r,g,e,c⟩:=x;exact⟨z,l,r,g,k _ _ (È À) e,c⟩
 |dK m=>obtain⟨z,y,O,r,g,j,i,e,c⟩:=x;exact⟨z,y,O,r,g,j,i,k _ _ (È À) e,c⟩
 |dT m=>
  obtain⟨z,y,xs,r,g,j,i,e,c⟩:=x;exact⟨z,y,xs,Paired.mapP r λp q z=>Î z.1 (K _ _ z.2.1) z.2.2,g,j,i,k _ _ (È À) e,c⟩
 |set S n=>obtain⟨g,j,i,t,e,c⟩:=x;exact⟨g,j,i,t,k _ _ (È À) e,c⟩
 |ins C Q I=>
  obtain⟨d,z,M,e,s,⟨B,j,i,G,c⟩,r⟩:=x;exact⟨J _ d,z,M,k _ _ (È À) e,s,⟨B,j,i,k _ _ (Í d) G,c⟩,r⟩
 |own y=>obtain⟨g,e⟩:=x;exact Æ g (k _ _ (È À) e)
 |xd I=>obtain⟨s,⟨B,j,i,e,c⟩,r⟩:=x;exact Î s ⟨B,j,i,k _ _ (È À) e,c⟩ r
 |rng T R=>obtain⟨t,u,v,e⟩:=x;exact⟨t,u,v,k _ _ (È À) e⟩
 |frz g u L=>obtain⟨e,q⟩:=x;exact⟨k _ _ (È À) e,L q⟩
 |tbl D=>
  have e:h.get? a=Á {cls:=.none,data:=.fields D}:=x;show h'.get? a=Á {cls:=.none,data:=.fields D};exact k a _ (È À) e
 |met f y=>
  have e:h.get? a=Á (IA (Â f) (Â y)):=x;show h'.get? a=Á (IA (Â f) (Â y));exact k a _ (È À) e
 |ext U=>obtain⟨p,⟨o,e⟩,E⟩:=x;exact⟨E _ _ p λo q=>k _ _ (È À) q,Æ o (k _ _ (È À) e),E⟩
def kN.lt(x:kN P w H h)(e:H a=Á o):a<h.objs.size:=(x a o e).lt
def kN.fresh{a:d_}(x:kN P w H h)(e:h.objs.size<=a):H a=none:=by
 cases q:H a with
 |none=>rfl
 |some u=>exact Ì (l' (x.lt q) e) (px _)
def kN.kept(x:kN P w H h)(k:∀b u,h.get? b=Á u->h'.get? b=Á u):kN P w H h':=λa o e=>
 (x a o e).stay (λb u _ q=>k b u q) (λ_ q=>q) λ_ _ q=>q
def kN.laid{P:f5}{w:fW}{H:b_}{h h':Heap}{a:d_}{o:lj}(x:kN P w H h)(k:∀b u,h.get? b=Á u->h'.get? b=Á u)(i:h.objs.size<=a)(d:kY P w (upd H a o) h' a o):kN P w (upd H a o) h':=λb u e=>by
 have g:=x.fresh i;by_cases f:b=a
 .subst f;rw[fG] at e;cases e;exact d
 .rw[fM f] at e;exact(x b u e).stay (λc v _ q=>k c v q) (λc q=>by rw[fM (f6 q g)];exact q) λc j q=>by rw[fM (f6 q g)];exact q
def uK(H:b_)(a:d_)(u:lj):Prop:=H a=Á u\/∃o,H a=Á (.frz o u)
def uK.ok(r:uK H a u)(x:kN P w H h):kY P w H h a u:=by
 rcases r with r|⟨o,r⟩
 .exact x a u r
 .obtain⟨_,q⟩:=x a _ r;exact q
def A8:Option lj->Prop
 |some (.lst _)=>True
 |some (.dK _)=>True
 |some (.dT _)=>True
 |some (.set _ _)=>True
 |some (.ins _ _ _)=>True
 |some (.ext _)=>True
 |_=>False
def kN.write(B:kN P w H h)(j:A8 (H x))(p:e=x\/H e=Á (.own x))(k:∀b u,b≠e->h.get? b=Á u->h'.get? b=Á u)(m:∃u,h'.get? e=Á u)
  (n:kY P w (upd H x o) h' x o):kN P w (upd H x o) h':=λb u q=>by
 have d:∀c y,H c=Á (.own y)->c≠x:=λc y r z=>by subst z;rw[r] at j;exact j
 have f:∀c l,H c=ä l->c≠x:=λc l r z=>by subst z;rw[r] at j;exact j
 by_cases g:b=x
 .subst g;rw[fG] at q;cases q;exact n
 .rw[fM g] at q;by_cases a:b=e
  .have s:H b=Á (.own x):=by
    rcases p with z|z
    .exact Ì (a.trans z) g
    .rw[a];exact z
   rw[q] at s;cases s;obtain⟨v,t⟩:=m;exact Æ v (by rw[a];exact t)
  .refine(B b u q).stay (λc v i r=>k c v ?_ r) (λc r=>by rw[fM (d c b r)];exact r) λc l r=>by rw[fM (f c l r)];exact r
   rcases i with rfl|i
   .exact a
   .rintro rfl;rcases p with z|z
    .exact d c b i z
    .rw[i] at z;cases z;exact g À
structure l_(fs ex:É d_)(H H':b_)(h h':Heap):Prop where
 keep:∀b o,h.get? b=Á o->H b=none->b∉fs->b∉ex->h'.get? b=Á o
 slot:∀b o,h.get? b=Á o->H b=none->b∈fs->b∉ex->∃sl,h'.get? b=Á {o with slots:=sl}
 free:∀b o,h.get? b=Á o->H b=none->b∉ex->H' b=none
 there:∀b o,h.get? b=Á o->b∉ex->∃o',h'.get? b=Á o'
 tups:∀b xs,H b=ä xs->H' b=ä xs
 frzs:∀b o u,H b=Á (.frz o u)->H' b=Á (.frz o u)
 tbls:∀b ps,H b=Á (.tbl ps)->∃more,H' b=Á (.tbl (ps++more))
def l_.any(u:l_ fs ex H e h a)(q:h.get? b=Á ob)(n:H b=none)(d:b∉ex):∃sl,a.get? b=Á {ob with slots:=sl}:=by
 by_cases c:b∈fs
 .exact u.slot b ob q n c d
 .exact Æ ob.slots (u.keep b ob q n c d)
def l_.kept(k:∀b u,h.get? b=Á u->h'.get? b=Á u):l_ fs ex H H h h':=
 ⟨λb a q _ _ _=>k b a q,λb a q _ _ _=>Æ a.slots (k b a q),λ_ _ _ n _=>n,λb a q _=>Æ a (k b a q),λ_ _ q=>q,λ_ _ _ q=>q,λ_ c q=>Æ #[] (by rw[q];simp)⟩
def l_.refl:l_ fs ex H H h h:=l_.kept λ_ _ q=>q
def l_.laid{fs ex:List d_}{H:b_}{h h':Heap}{a:d_}{o:lj}(k:∀b u,h.get? b=Á u->h'.get? b=Á u)(d:h.objs.size<=a)(c:H a=none):l_ fs ex H (upd H a o) h h' where
 keep:=λb u q _ _ _=>k b u q
 slot:=λb u q _ _ _=>Æ u.slots (k b u q)
 free:=λb u q n _=>by rw[fM (kP (l' (iD q) d))];exact n
 there:=λb u q _=>Æ u (k b u q)
 tups:=λb e q=>by rw[fM (f6 q c)];exact q
 frzs:=λb u e q=>by rw[fM (f6 q c)];exact q
 tbls:=λb f q=>Æ #[] (by rw[fM (f6 q c),q];simp)
def l_.write(c:A8 (H x))(j:e=x\/H e=Á (.own x))(k:∀b u,b≠e->h.get? b=Á u->h'.get? b=Á u)(d:∃u,h'.get? e=Á u):l_ fs ex H (upd H x o) h h':=by
 have i:∀b,H b=none->b≠x:=λb n z=>by subst z;rw[n] at c;exact c
 have g:∀b,H b=none->b≠e:=λb n z=>by
  subst z;rcases j with r|r
  .exact i b n r
  .rw[n] at r;cases r
 have f:∀b u,H b=Á u->¬A8 (Á u)->b≠x:=λb u q l z=>by subst z;rw[q] at c;exact l c
 refine⟨λb u q n _ _=>k b u (g b n) q,λb u q n _ _=>Æ u.slots (k b u (g b n) q),λb u q n _=>by rw[fM (i b n)];exact n,λb u q _=>?_,
  λb m q=>by rw[fM (f b _ q λz=>z)];exact q,λb u m q=>by rw[fM (f b _ q λz=>z)];exact q,λb p q=>Æ #[] (by rw[fM (f b _ q λz=>z),q];simp)⟩
 by_cases a:b=e
 .subst a;exact d
 .exact Æ u (k b u a q)
def l_.mono(u:l_ fs ex H g h i)(k:∀b∈fs,b∈d)(f:∀b∈ex,b∈c):l_ d c H g h i:=
 ⟨λb e q n j a=>u.keep b e q n (λz=>j (k b z)) λz=>a (f b z),λ_ _ q n _ a=>u.any q n λz=>a (f _ z),λb e q n a=>u.free b e q n λz=>a (f b z),λb e q a=>u.there b e q λz=>a (f b z),u.tups,u.frzs,u.tbls⟩
def Eg(h:Heap)(H:b_):É d_:=(lH h.objs.size).filter λa=>(H a).isSome
def vA(h:Heap)(H:b_):Heap:=PySem.W.hideAll h (Eg h H)
def kcS(h:Heap)(H:b_):(vA h H).objs.size=h.objs.size:=PySem.W.hideAll_size _ _
def kfe(e:h.get? b=Á o)(n:H b=none):(vA h H).get? b=Á o:=
 PySem.W.hideAll_get _ e λa=>by
  have q:(H b).isSome=true:=(wJ.mp a).2;rw[n] at q;simp at q
def kgW(e:(vA h H).get? b=Á o):h.get? b=Á o/\H b=none:=by
 have a:h.get? b=Á o:=PySem.W.of_hideAll (Eg h H) e;refine Æ a ?_;cases q:H b with
 |none=>rfl
 |some x=>
  have c:b∈Eg h H:=wJ.mpr ⟨tE.mpr (iD a),by simp[q]⟩;have z:(vA h H).get? b=none:=PySem.W.hideAll_none (Eg h H) c;rw[z] at e;cases e
structure Mod(K:a_)(mg:Str->Option c_)(base:Heap):Prop where
 kin:K.In base
 glob:base.Ns i7 mg
 blt:∃mb,base.Ns builtinsNs mb/\∀x:Str,x≠"__name__"->mb x=uZ x
 nolimit:base.NoLimit
structure fQ where
 prog:f5
 w:fW
 K:a_
 mg:Str->Option c_
 base:Heap
 A:ig
 N:Ñ
 s₀:fU
 H₀:b_
 env:Env
 outer:É Env
 stack:É Env
 ex:É d_
 fn:Str->Bool
 calm:Bool
 pn:É (d_×Obj)
 xe:c_->fU->Prop
def oN(l:É Env):É d_:=l.filterMap (·.frame)
abbrev fQ.fs(X:fQ):É d_:=oN X.outer
def Bh(a:Scope)(x:Str):Prop:=a.names.lookup x=Á .local\/a.names.lookup x=Á .cell\/a.names.lookup x=Á .free
def t4(a:Scope)(x:Str):Prop:=a.names.lookup x=Á .local\/a.names.lookup x=Á .cell
def kkr(env:Env)(h:Heap)(m:Str->Option c_)(x:Str)(u:c_):Prop:=
 (env.kindOf x=Á .local/\m x=Á u)\/((env.kindOf x=Á .cell\/env.kindOf x=Á .free)/\∃c,env.cells.lookup x=Á c/\h.IsCell c (Á u))
structure fQ.Ok(X:fQ):Prop where
 mod:Mod X.K X.mg X.base
 kind:X.env.scope.kind=.function
 glob:X.env.globals=i7
 blt:X.env.builtins=builtinsNs
 above:X.s₀.heap.objs.size<=X.env.locals
 inj:∀x y c,X.env.cells.lookup x=Á c->X.env.cells.lookup y=Á c->x=y
 has:∀x,(X.env.kindOf x=Á .cell\/X.env.kindOf x=Á .free)->∃c,X.env.cells.lookup x=Á c
 cab:∀x c,X.fn x=true->X.env.cells.lookup x=Á c->X.s₀.heap.objs.size<=c
 hd:X.calm=true->X.A.handled=none
 frames:X.A.frames=Á X.stack
 stk:X.stack=X.outer\/(X.stack=X.env::X.outer/\X.env.frame=Á X.env.locals)
 exf:∀b∈X.ex,b≠X.env.locals/\∀x c,X.env.cells.lookup x=Á c->c≠b
 bs:∀b o,X.base.get? b=Á o->X.s₀.heap.get? b=Á o/\X.H₀ b=none
 bsz:X.base.objs.size<=X.s₀.heap.objs.size
 noex:∀b o,X.base.get? b=Á o->b∉X.ex
 exfs:∀b∈X.ex,b∉X.fs
 funs:X.s₀.heap.FunFrames X.base X.outer
 frf:∀b∈X.fs,X.H₀ b=none
structure fJ(X:fQ)(pins:É (d_×Obj))(σ:É (Option V))(H:b_)(s:fU):Prop where
 ok:X.Ok
 os:s.os=X.s₀.os
 bare:ve s.gens
 base:l_ X.fs X.ex X.H₀ H X.s₀.heap s.heap
 loc:∃m,s.heap.Ns X.env.locals m/\∀(i:Nat) (x:Str) (v:V),X.N[i]?=Á x->σ[i]?=Á (Á v)->Bh X.env.scope x->∃u,hW v u/\kkr Û s.heap m x u
 cell:∀x c,X.env.cells.lookup x=Á c->∃v,s.heap.IsCell c v
 free:H X.env.locals=none
 freeC:∀x c,X.env.cells.lookup x=Á c->H c=none
 pin:∀p∈X.pn++pins,Ć p.1=Á p.2/\H p.1=none/\p.1≠X.env.locals/\p.1∉X.fs/\∀v,p.2.data≠.cell v
 hok:kN ë X.w H s.heap
 len:σ.length=X.N.length
def fQ.Ok.nofr{X:fQ}(c:X.Ok){b:d_}{o:Obj}(e:X.base.get? b=Á o):b∉X.fs:=λa=>by
 have:=(c.funs.mem a).1;rw[e] at this;cases this
def fJ.bs{X:fQ}{a:List (d_×Obj)}{c:List (Option V)}{H:b_}{s:fU}(I:fJ X a c H s):∀b o,X.base.get? b=Á o->Ć b=Á o/\H b=none:=λb o e=>
 ⟨I.base.keep b o (I.ok.bs b o e).1 (I.ok.bs b o e).2 (I.ok.nofr e) (I.ok.noex b o e),I.base.free b o (I.ok.bs b o e).1 (I.ok.bs b o e).2 (I.ok.noex b o e)⟩
def fJ.bk(I:fJ X a c H s):∀b o,X.base.get? b=Á o->Ć b=Á o:=λb o e=>(I.bs b o e).1
def fJ.mod(I:fJ X a b H s):Mod X.K X.mg X.base:=I.ok.mod
def fJ.kIn(I:fJ X a b H s):X.K.In s.heap:=I.ok.mod.kin.keeps I.bk
def fJ.lt(I:fJ X a c H s):X.env.locals<s.heap.objs.size:=let⟨_,b,_⟩:=I.loc;b.lt
def fJ.sz(I:fJ X a b H s):X.s₀.heap.objs.size<=s.heap.objs.size:=mC I.ok.above (mv I.lt)
def fJ.nofs(I:fJ X b e H s){a:d_}(h:s.heap.objs.size<=a):a∉X.fs:=λc=>by
 obtain⟨_,o,d,_⟩:=I.ok.funs.mem c;exact Ì (l' (iD d) (mC I.sz h)) (px _)
def fJ.cne(I:fJ X a h H s):∀x c,X.env.cells.lookup x=Á c->c≠X.env.locals:=λx c e z=>by
 obtain⟨v,o,g,f⟩:=I.cell x c e;obtain⟨m,⟨k,j,i,d,b,_⟩,_⟩:=I.loc;rw[z,d] at g;cases g;rw[b] at f;cases f
def fJ.funs(I:fJ X a q H s):s.heap.FunFrames X.base X.outer:=by
 have all:∀(l:List Env),(∀b∈oN l,b∈X.fs)->X.s₀.heap.FunFrames X.base l->s.heap.FunFrames X.base l:=by
  intro l
  induction l with
  |nil=>intro _ _;trivial
  |cons env r p=>
   intro g j;obtain⟨i,⟨L,o,f,k,m,h⟩,n⟩:=j;have c:L∈X.fs:=g L (by unfold oN;rw[uf,f];exact pH);obtain⟨t,e⟩:=I.base.slot L o m (I.ok.frf L c) c λz=>I.ok.exfs L z c;exact Î i ⟨L,_,f,k,e,h⟩ (p (λb d=>g b (by unfold oN;rw[uf,f];exact my _ d)) n)
 exact all X.outer (λ_ d=>d) I.ok.funs
def fJ.stack(I:fJ X a d H s):s.heap.FunFrames X.base X.stack:=by
 rcases I.ok.stk with e|⟨e,b⟩
 .rw[e];exact I.funs
 .rw[e];obtain⟨m,c,_⟩:=I.loc;refine .cons (by rw[I.ok.kind];decide) b c ?_ I.funs;exact Heap.get?_none_of_le (mC I.ok.bsz I.ok.above)
def fJ.stkSub(I:fJ X c f H s):∀b∈oN X.stack,b∈X.env.locals::X.fs:=λb a=>by
 rcases I.ok.stk with e|⟨e,d⟩
 .rw[e] at a;exact my _ a
 .rw[e] at a;unfold oN at a;rw[uf,d] at a;exact a
def fJ.stkFree(I:fJ X c f H s):∀b∈oN X.stack,H b=none:=λb a=>by
 rcases g7.mp (I.stkSub b a) with e|a
 .rw[e];exact I.free
 .obtain⟨_,o,d,_⟩:=I.ok.funs.mem a;exact I.base.free b o d (I.ok.frf b a) λz=>I.ok.exfs b z a
def fJ.step{X:fQ}{y:List (d_×Obj)}{σ:List (Option V)}{H H':b_}{s:fU}{h':Heap}{g':Array D'}{t':Nat}{d':Drawn}{ch:List d_}(I:fJ X y σ H s)
  (h:∀b∈ch,(b∈X.ex\/X.s₀.heap.objs.size<=b)/\b≠X.env.locals/\(∀x c,X.env.cells.lookup x=Á c->c≠b)/\∀p∈X.pn++y,p.1≠b)
  (j:∀b o,b≠X.env.locals->b∉X.fs->b∉ch->Ć b=Á o->H b=none->h'.get? b=Á o)
  (D:∀b o,b≠X.env.locals->b∈X.fs->b∉ch->Ć b=Á o->H b=none->∃sl,h'.get? b=Á {o with slots:=sl}) (f:∀b o,b∉ch->Ć b=Á o->H b=none->H' b=none)
  (G:∀b o,b∉ch->Ć b=Á o->∃P,h'.get? b=Á P)
  (R:∀b xs,H b=ä xs->H' b=ä xs) (L:∀b o u,H b=Á (.frz o u)->H' b=Á (.frz o u)) (Q:∀b ps,H b=Á (.tbl ps)->∃M,H' b=Á (.tbl (ps++M)))
  (ns:∀m,s.heap.Ns X.env.locals m->h'.Ns X.env.locals m) (T:kN ë X.w H' h') (hg:ve g') :
  fJ X y σ H' {s with heap:=h',gens:=g',drawn:=d',toks:=t'}:=by
 have O:∀b o,X.s₀.heap.get? b=Á o->b≠X.env.locals:=λb o e=>kP (l' (iD e) I.ok.above);have C:∀b o,X.s₀.heap.get? b=Á o->b∉X.ex->b∉ch:=λb o e a E=>by
  rcases(h b E).1 with z|z
  .exact a z
  .exact Ì (l' (iD e) z) (px _)
 have g:∀x c,X.env.cells.lookup x=Á c->∀v,s.heap.IsCell c v->h'.IsCell c v:=λx c e v ⟨o,J,S⟩=>by
  have t:c∉ch:=λz=>(h c z).2.2.1 x c e À;by_cases W:c∈X.fs
  .obtain⟨sl,q⟩:=D c o (I.cne x c e) W t J (I.freeC x c e);exact Î _ q S
  .exact Î o (j c o (I.cne x c e) W t J (I.freeC x c e)) S
 refine⟨I.ok,I.os,hg,⟨λb o e n E a=>?_,λb o e n E a=>?_,λb o e n a=>?_,λb o e a=>?_,λb xs e=>R b xs (I.base.tups b xs e),λb o xs e=>L b o xs (I.base.frzs b o xs e),λb ps e=>?_⟩,?_,λx c e=>?_,?_,λx c e=>?_,λp Y=>?_,T,I.len⟩
 .exact j b o (O b o e) E (C b o e a) (I.base.keep b o e n E a) (I.base.free b o e n a)
 .obtain⟨sl,B⟩:=I.base.slot b o e n E a;obtain⟨U,K⟩:=D b _ (O b o e) E (C b o e a) B (I.base.free b o e n a);exact Æ U K
 .obtain⟨P,B⟩:=I.base.there b o e a;exact f b P (C b o e a) B (I.base.free b o e n a)
 .obtain⟨P,B⟩:=I.base.there b o e a;exact G b P (C b o e a) B
 .obtain⟨m1,B⟩:=I.base.tbls b ps e;obtain⟨m2,K⟩:=Q b _ B;exact⟨m1++m2,by rw[K,Array.append_assoc]⟩
 .obtain⟨m,hn,hl⟩:=I.loc;refine⟨m,ns m hn,λi x v B K e3=>?_⟩;obtain⟨u,r,l⟩:=hl i x v B K e3;refine Î u r ?_;rcases l with l|⟨k,c,e,z⟩
  .exact È l
  .exact Í ⟨k,c,e,g x c e _ z⟩
 .obtain⟨v,z⟩:=I.cell x c e;exact Æ v (g x c e v z)
 .obtain⟨m,⟨o,_,_,J,_⟩,_⟩:=I.loc;exact f _ o (λz=>(h _ z).2.1 À) J I.free
 .obtain⟨v,o,J,S⟩:=I.cell x c e;exact f c o (λz=>(h c z).2.2.1 x c e À) J (I.freeC x c e)
 .obtain⟨e,n,Z,nf,d⟩:=I.pin p Y;have t:p.1∉ch:=λz=>(h p.1 z).2.2.2 p Y À;exact⟨j p.1 p.2 Z nf t e n,f p.1 p.2 t e n,Z,nf,d⟩
def fJ.un{X:fQ}{a:List (d_×Obj)}{j:List (Option V)}{H H':b_}{s:fU}{h':Heap}{t':Nat}(I:fJ X a j H s)(u:l_ X.fs [] H H' s.heap h')(h:kN ë X.w H' h'):fJ X a j H' (Ď h' t'):=by
 obtain⟨m,⟨o,t,q,i,r⟩,_⟩:=id I.loc;obtain⟨y,k⟩:=u.any i I.free Ò;exact I.step (g':=s.gens) (d':=s.drawn) (ch:=[]) (λ_ z=>nomatch z) (λb o _ g _ e n=>u.keep b o e n g Ò) (λb o _ g _ e n=>u.slot b o e n g Ò) (λb o _ e n=>u.free b o e n Ò) (λb o _ e=>u.there b o e Ò) u.tups u.frzs u.tbls (λv l=>by
  obtain⟨x,f,d,c,p⟩:=l;rw[i] at c;cases c;exact⟨_,f,d,k,p⟩) h I.bare
def fJ.call(I:fJ X a q H s)(u:l_ (oN X.stack) ch H H' s.heap h')(k:kN ë X.w H' h')(v:ve g')
  (f:∀b∈ch,(b∈X.ex\/X.s₀.heap.objs.size<=b)/\b≠X.env.locals/\(∀x c,X.env.cells.lookup x=Á c->c≠b)/\∀p∈X.pn++a,p.1≠b) :
  fJ X a q H' {s with heap:=h',gens:=g',drawn:=d',toks:=t'}:=by
 obtain⟨m,⟨o,D,C,l,r⟩,_⟩:=id I.loc;obtain⟨J,j⟩:=u.any l I.free λz=>(f _ z).2.1 À;exact I.step (ch:=ch) f (λb o j t d e n=>u.keep b o e n (λz=>(g7.mp (I.stkSub b z)).elim j t) d) (λb o _ _ d e n=>u.any e n d) (λb o d e n=>u.free b o e n d) (λb o d e=>u.there b o e d) u.tups u.frzs u.tbls (λE y=>by
  obtain⟨G,i,h,g,B⟩:=y;rw[l] at g;cases g;exact⟨_,i,h,j,B⟩) k v
def fJ.turned(I:fJ X a h H s)(k:∀b o,b≠it->Ć b=Á o->h'.get? b=Á o)(C:H it=none)(g:it≠X.env.locals)
  (l:it∈X.ex\/X.s₀.heap.objs.size<=it) (t:∀x c,X.env.cells.lookup x=Á c->c≠it) (w:∀p∈X.pn++a,p.1≠it):fJ X a h H (Ď h' t'):=by
 have f:∀b u,H b=Á u->b≠it:=λb u e z=>by rw[z,C] at e;cases e
 refine I.step (g':=s.gens) (d':=s.drawn) (ch:=[it]) (λb y=>?_) (λb o _ _ d e _=>k b o (λz=>d (by simp[z])) e) (λb o _ _ d e _=>Æ o.slots (k b o (λz=>d (by simp[z])) e)) (λ_ _ _ _ n=>n)
  (λb o d e=>Æ o (k b o (λz=>d (by simp[z])) e)) (λ_ _ e=>e) (λ_ _ _ e=>e) (λb E e=>Æ #[] (by rw[e];simp)) (λm B=>?_) (λb u e=>?_) I.bare
 .have e:b=it:=by simpa using y
  subst e;exact⟨l,g,t,w⟩
 .obtain⟨o,j,i,D,r⟩:=B;exact⟨o,j,i,k _ o (Ne.symm g) D,r⟩
 .refine(I.hok b u e).stay (λc v d q=>k c v ?_ q) (λ_ q=>q) λ_ _ q=>q;rcases d with z|z
  .rw[z];exact f b u e
  .exact f c _ z
def fJ.tok(I:fJ X a b H s)(t:Nat):fJ X a b H {s with toks:=t}:=I.un (h':=s.heap) (t':=t) l_.refl I.hok
def fJ.kept(I:fJ X a c H s)(k:∀b u,Ć b=Á u->h'.get? b=Á u):fJ X a c H (Ď h' t'):=I.un (l_.kept k) (I.hok.kept k)
def fJ.laid{a:d_}(I:fJ X c f H s)(k:∀b u,Ć b=Á u->h'.get? b=Á u)(d:s.heap.objs.size<=a)(e:kY ë X.w (upd H a o) h' a o) :
  fJ X c f (upd H a o) (Ď h' t'):=I.un (l_.laid k d (I.hok.fresh d)) (I.hok.laid k d e)
def fJ.write(I:fJ X a h H s)(g:A8 (H x))(f:e=x\/H e=Á (.own x))(k:∀b u,b≠e->Ć b=Á u->h'.get? b=Á u)(c:∃u,h'.get? e=Á u)
  (d:kY ë X.w (upd H x o) h' x o):fJ X a h (upd H x o) (Ď h' t'):=I.un (l_.write g f k c) (I.hok.write g f k c d)
def fJ.weak(I:fJ X a d H s)(h:b.length=d.length)(w:∀(i:Nat) v,b[i]?=Á (Á v)->d[i]?=Á (Á v)):fJ X a b H s:=
 ⟨I.ok,I.os,I.bare,I.base,let⟨m,j,c⟩:=I.loc;Î m j (λi x v e f g=>c i x v e (w i v f) g),I.cell,I.free,I.freeC,I.pin,I.hok,h.trans I.len⟩
def fJ.pins_of(I:fJ X b c H s)(h:∀p∈a,Ć p.1=Á p.2/\H p.1=none/\p.1≠X.env.locals/\p.1∉X.fs/\∀v,p.2.data≠.cell v):fJ X a c H s:=
 ⟨I.ok,I.os,I.bare,I.base,I.loc,I.cell,I.free,I.freeC,λp d=>(iT.mp d).elim (λz=>I.pin p (mP _ z)) (h p),I.hok,I.len⟩
def FU{N:List Str}(e:N.Nodup){i j:Nat}{x:Str}(a:N[i]?=Á x)(b:N[j]?=Á x):i=j:=by
 obtain⟨f,c⟩:=gR.mp a;obtain⟨g,d⟩:=gR.mp b;exact(List.getElem_inj e).mp (c.trans d.symm)
def Of{X:fQ}{K:List (d_×Obj)}{σ:List (Option V)}{H:b_}{s:fU}{M:Model}{A:ig}{E:gC}{i:Nat}{x:Str}{v:V}{u:c_}{Q:Unit->fU->Prop}(I:fJ X K σ H s)(hN:X.N.Nodup)(Y:X.N[i]?=Á x)(B:t4 X.env.scope x)(r:hW v u)
  (h:∀s',fJ X K (σ.set i (Á v)) H s'->(∃a,Heap.SameBut a s.heap s'.heap/\(a=X.env.locals\/X.env.cells.lookup x=Á a))->Q () s') (hf:X.fn x=true\/X.env.scope.names.lookup x=Á .local:=by first|exact .inl rfl|exact .inr rfl|assumption):gN M A (storeName Û x u) Q E s:=by
 obtain⟨m,hn,hl⟩:=id I.loc;have W:(X.env.scope.kind==.class || (X.env.scope.kind==.module&&X.env.locals != X.env.globals))=false:=by rw[I.ok.kind];rfl
 have G:i<σ.length:=by rw[I.len];exact(gR.mp Y).1
 have L:=I.cne;have l:∀{a:d_} {S:Heap},(∃o,Ć a=Á o/\H a=none)->Heap.SameBut a s.heap S->kN ë X.w H S:=λ{a S} ha f b ob e=>by
  obtain⟨_,_,C⟩:=ha;refine(I.hok b ob e).stay (λc w' t q=>(f.2 c ?_).trans q) (λ_ q=>q) λ_ _ q=>q;rintro rfl;rcases t with rfl|t
  .rw[C] at e;cases e
  .rw[C] at t;cases t
 rcases B with J|J
 .refine wpAny_storeName_local J hn (λS ab f=>?_) W;obtain⟨oL,_,_,ae,_⟩:=id hn;refine h _ ⟨I.ok,I.os,I.bare,⟨λb o e n O B=>?_,λb o e n O B=>?_,I.base.free,λb o e B=>?_,I.base.tups,I.base.frzs,I.base.tbls⟩,Î _ ab (λj y v' g D e3=>?_),λy c e=>?_,I.free,I.freeC,λp hp=>?_,l (Î oL ae I.free) f,by simpa using I.len⟩ ⟨_,f,È À⟩
  .exact(f.2 b (kP (l' (iD e) I.ok.above))).trans (I.base.keep b o e n O B)
  .obtain⟨sl,g⟩:=I.base.slot b o e n O B;exact Æ sl ((f.2 b (kP (l' (iD e) I.ok.above))).trans g)
  .obtain⟨o',g⟩:=I.base.there b o e B;exact Æ o' ((f.2 b (kP (l' (iD e) I.ok.above))).trans g)
  .by_cases R:j=i
   .subst R;rw[Y] at g;cases g;rw[ph G] at D;cases D;exact Î u r (È ⟨J,Ò⟩)
   .rw[rW (Ne.symm R)] at D;obtain⟨u',r',q⟩:=hl j y v' g D e3;refine Î u' r' ?_;rcases q with⟨k,e⟩|⟨k,c,e,z⟩
    .refine È (Æ k ?_);have:y≠x:=λe=>R (FU hN g (e ▸ Y));simp[this,e]
    .exact Í ⟨k,c,e,z.sameBut f (L y c e)⟩
  .obtain⟨w',z⟩:=I.cell y c e;exact Æ w' (z.sameBut f (L y c e))
  .obtain⟨e,n,ne,nf,d⟩:=I.pin p hp;exact⟨(f.2 p.1 ne).trans e,n,ne,nf,d⟩
 .have P:X.fn x=true:=by
   rcases hf with z|z
   .exact z
   .rw[z] at J;cases J
  obtain⟨c,t⟩:=I.ok.has x (È J);obtain⟨w',z⟩:=I.cell x c t;refine wpAny_storeName_cell I.ok.kind J t z (λS T f=>?_);obtain⟨oc,Z,aa⟩:=id z;refine h (č S) ⟨I.ok,I.os,I.bare,⟨λb o e n O B=>?_,λb o e n O B=>?_,I.base.free,λb o e B=>?_,I.base.tups,I.base.frzs,I.base.tbls⟩,⟨m,hn.sameBut f (Ne.symm (L x c t)),λj y v' g D e3=>?_⟩,λy c' e=>?_,I.free,I.freeC,λp hp=>?_,l ⟨oc,Z,I.freeC x c t⟩ f,by simpa using I.len⟩ ⟨c,f,Í t⟩
  .exact(f.2 b (kP (l' (iD e) (I.ok.cab x c P t)))).trans (I.base.keep b o e n O B)
  .obtain⟨sl,g⟩:=I.base.slot b o e n O B;exact Æ sl ((f.2 b (kP (l' (iD e) (I.ok.cab x c P t)))).trans g)
  .obtain⟨o',g⟩:=I.base.there b o e B;exact Æ o' ((f.2 b (kP (l' (iD e) (I.ok.cab x c P t)))).trans g)
  .by_cases R:j=i
   .subst R;rw[Y] at g;cases g;rw[ph G] at D;cases D;exact Î u r (Í ⟨È J,c,t,T⟩)
   .rw[rW (Ne.symm R)] at D;obtain⟨u',r',q⟩:=hl j y v' g D e3;refine Î u' r' ?_;rcases q with q|⟨k,c',e,z'⟩
    .exact È q
    .refine Í ⟨k,c',e,z'.sameBut f ?_⟩;rintro rfl;exact R (FU hN g (I.ok.inj _ _ _ e t ▸ Y))
  .by_cases U:c'=c
   .subst U;exact Æ _ T
   .obtain⟨w2,z2⟩:=I.cell y c' e;exact Æ w2 (z2.sameBut f U)
  .obtain⟨e,n,ne,nf,d⟩:=I.pin p hp;refine⟨(f.2 p.1 ?_).trans e,n,ne,nf,d⟩;intro q;rw[q,Z] at e;have q':oc=p.2:=ď e;exact d w' (by rw[<-q'];exact aa)
def Cq{X:fQ}{a:List (d_×Obj)}{b:List (Option V)}{H:b_}{s:fU}{M:Model}{A:ig}{E:gC}{i:Nat}{x:Str}{v:V}{u:c_}{Q:Unit->fU->Prop}(I:fJ X a b H s)(d:X.N.Nodup)(f:X.N[i]?=Á x)(g:t4 X.env.scope x)(r:hW v u)
  (h:∀s',fJ X a (b.set i (Á v)) H s'->Q () s') (e:X.fn x=true\/X.env.scope.names.lookup x=Á .local:=by first|exact .inl rfl|exact .inr rfl|assumption):gN M A (storeName Û x u) Q E s:=
 Of I d f g r (λs' c _=>h s' c) e
def fJ.call'(I:fJ X a g H s)(i:s'.os=s.os)(u:l_ (oN X.stack) ch H H' s.heap s'.heap)(f:kN ë X.w H' s'.heap)(h:ve s'.gens)
  (d:∀b∈ch,(b∈X.ex\/X.s₀.heap.objs.size<=b)/\b≠X.env.locals/\(∀x c,X.env.cells.lookup x=Á c->c≠b)/\∀p∈X.pn++a,p.1≠b):fJ X a g H' s':=by
 obtain⟨k,g',d',t',j⟩:=s';have e:j=s.os:=i;subst e;exact I.call (g':=g') (t':=t') (d':=d') u f h d
abbrev f_:=c_->Option d_->b_->Prop
abbrev fO:=É (Option V)
abbrev fS:=V->b_->Prop
abbrev gp:=fO->b_->fS->Prop
abbrev kU:=fO->b_->(Bool->b_->Prop)->Prop
abbrev kF:=fO->b_->(É V->b_->Prop)->Prop
structure sW where
 nx:fO->b_->Prop
 rt:fS
 bk:fO->b_->Prop:=λ_ _=>False
 ct:fO->b_->Prop:=λ_ _=>False
abbrev e_:=sW->fO->b_->Prop
def lG(X:fQ)(a:É (d_×Obj))(c:fO)(Q:fS)(u:c_)(s':fU):Prop:=∃v b,fJ X a c b s'/\hW v u/\Q v b
def GW(X:fQ)(a:É (d_×Obj))(d:fO)(Q:Bool->b_->Prop)(b:Bool)(s':fU):Prop:=∃c,fJ X a d c s'/\Q b c
def KM(X:fQ)(a:É (d_×Obj))(d:fO)(Q:É V->b_->Prop)(us:É c_)(s':fU):Prop:=∃c b,fJ X a d b s'/\gQ c us/\Q c b
def tj(X:fQ)(b:É (d_×Obj))(D:sW)(f:Flow)(s':fU):Prop:=
 match f with
 |.next=>∃a c,fJ X b a c s'/\D.nx a c
 |.brk=>∃a c,fJ X b a c s'/\D.bk a c
 |.cont=>∃a c,fJ X b a c s'/\D.ct a c
 |.ret u=>∃v a c,fJ X b a c s'/\hW v u/\D.rt v c
def gL(X:fQ)(e:Expr)(t:gp):Prop:=
 ∀(a:List (d_×Obj)) (s:fU) (b:fO) (H:b_) (Q:fS),fJ X a b H s->t b H Q->ö ë X.w X.A (þ e) (lG X a b Q) X.xe s
def pZ(X:fQ)(e:Expr)(t:kU):Prop:=
 ∀(a:List (d_×Obj)) (s:fU) (b:fO) (H:b_) (Q:Bool->b_->Prop),fJ X a b H s->t b H Q->ö ë X.w X.A (isTrue e Û (þ e)) (GW X a b Q) X.xe s
def uJ(X:fQ)(e:Expr)(t:kU):Prop:=
 ∀(b:Sem c_) (a:List (d_×Obj)) (s:fU) (c:fO) (H:b_) (Q:Bool->b_->Prop),fJ X a c H s->t c H Q->ö ë X.w X.A (isTrue e Û b) (GW X a c Q) X.xe s
def uJ.pt(h:uJ X e t):pZ X e t:=h _
def ny(X:fQ)(es:É Expr)(t:kF):Prop:=
 ∀(b:Pos) (a:List (d_×Obj)) (s:fU) (c:fO) (H:b_) (Q:List V->b_->Prop),fJ X a c H s->t c H Q->ö ë X.w X.A (spliced (lR b (gK es Û))) (KM X a c Q) X.xe s
def rS(X:fQ)(st:Stmt)(t:e_):Prop:=
 ∀(a:List (d_×Obj)) (s:fU) (b:fO) (H:b_) (D:sW),fJ X a b H s->t D b H->ö ë X.w X.A (exec st Û) (tj X a D) X.xe s
def nq(X:fQ)(st:É Stmt)(t:e_):Prop:=
 ∀(a:List (d_×Obj)) (s:fU) (b:fO) (H:b_) (D:sW),fJ X a b H s->t D b H->ö ë X.w X.A (execs st Û) (tj X a D) X.xe s
def gq{c:Type}{t:Sem c}{Q b:c->fU->Prop}{E:gC}(h:gN M A t Q E s)(d:∀a s,Q a s->b a s):gN M A t b E s:=og h d λ_ _ x=>x
inductive kki(i:Nat)(σ:fO)(H:b_)(Q:fS):Prop where
 |mk (v:V) (e:σ[i]?=Á (Á v)) (h:Q v H)
def fI(i:Nat):gp:=λa H Q=>kki i a H Q
def fY(v:V):gp:=λ_ H Q=>Q v H
abbrev gj:=fY (Ë 0)
abbrev gA:=fY (Ë 1)
abbrev iC:=fY (Ë 2)
abbrev k9:=fY (Ë 3)
abbrev lF:=fY (Ä " ")
abbrev mT:=fY (Ä "call")
abbrev nV:=fY (Ä "jump")
abbrev pD:=fY (Ä "give")
abbrev pR:=fY (Ä "")
abbrev rB:=fY (Ä "part")
abbrev rC:=fY (Ä "test")
abbrev rD:=fY (Ë 4)
abbrev sf:=fY (Ë 5)
abbrev u9:=fY (Ä "op")
abbrev u_:=fY (Ä "num")
abbrev vX:=fY (Ä "say")
abbrev yg:=fY (Ä "=")
abbrev Aj:=fY (Ä "0")
abbrev BJ:=fY (Ë 12)
abbrev BK:=fY (Ë 8)
abbrev BL:=fY (Ë 10)
abbrev DY:=fY (Ë 18)
abbrev DZ:=fY (Ä "part ")
abbrev Hw:=fY (Ä "-")
abbrev Hx:=fY (Ä "row")
abbrev Hy:=fY (Ä "name")
abbrev Hz:=fY (Ä "1")
abbrev HA:=fY (Ä "read")
abbrev HB:=fY (Ä "line")
abbrev Sw:=fY (Ä "abcdefghijklmnopqrstuvwxyz")
def kiM{X:fQ}{i:Nat}{x:Str}{pos:Pos}(n:X.N[i]?=Á x)(t:Bh X.env.scope x)(j:(x==("__debug__":Str))=false:=by decide)(g:(x==("__classdict__":Str))=false:=by decide):gL X (.Name x pos) (fI i):=by
 intro f s w H Q I h;obtain⟨v,e,h⟩:=h;obtain⟨m,q,o⟩:=I.loc;obtain⟨u,r,l⟩:=o i x v n e t;have b:lG X f w Q u s:=⟨v,H,I,r,h⟩;rcases l with⟨d,p⟩|⟨d,c,k,a⟩
 .exact Au (wpAny_loadName_local I.ok.kind d q p b) j
 .rcases d with d|d
  .exact Au (wpAny_loadName_cell I.ok.kind d k a b) j
  .exact Au (wpAny_loadName_free I.ok.kind d k a b g) j
def kje:gL X (.Constant (Ë i) j pos) (fY (Ë i)):=λ_ _ _ H _ I h=>wpAny_Constant_int ⟨Ë i,H,I.tok _,Æ _ À,h⟩
def kkB:gL X (.Constant (.bool b) j pos) (fY (.bl b)):=λ_ _ _ H _ I h=>Constant_bool (Õ (.bl b) H I h)
def R9:gL X (.Constant .none j pos) (fY .non):=λ_ _ _ H _ I h=>Constant_none (Õ .non H I h)
def kiK:gL X (.Constant (Ä x) j pos) (fY (Ä x)):=λ_ _ _ H _ I h=>Calls.Constant_str ⟨Ä x,H,I.tok _,Æ _ À,h⟩
def ko(X:fQ)(x:Str):Prop:=X.env.kindOf x=Á .globalImplicit
def yu{E:gC}{e:fO}{Q:gC}(I:fJ X a e H s)(c:ko X x)(d:X.mg x=Á u)(h:Q u s)
  (b:(x==("__debug__":Str))=false:=by decide):ö ë X.w X.A (þ (.Name x pos)) Q E s:=
 Calls.Name_function_global I.ok.kind c (Calls.loadGlobal_global (by rw[I.ok.glob];exact I.mod.glob.keeps I.bk) d h) b
def uw{X:fQ}{E:gC}{a:List (d_×Obj)}{s:fU}{j:fO}{H:b_}{x:Str}{u:c_}{pos:Pos}{Q:gC}(I:fJ X a j H s)(e:ko X x)(f:X.mg x=none)(i:uZ x=Á u)(h:Q u s)
  (g:x≠"__name__":=by decide) (d:(x==("__debug__":Str))=false:=by decide):ö ë X.w X.A (þ (.Name x pos)) Q E s:=by
 obtain⟨k,b,c⟩:=I.mod.blt;exact Calls.Name_function_global I.ok.kind e (Calls.loadGlobal_builtin (by rw[I.ok.glob];exact I.mod.glob.keeps I.bk) f (by rw[I.ok.blt];exact b.keeps I.bk) ((c x g).trans i) h) d
def kgv{X:fQ}{x:Str}{v:V}{u:c_}{pos:Pos}(b:ko X x)(c:X.mg x=none)(e:uZ x=Á u)(r:hW v u)(d:x≠"__name__":=by decide)(a:(x==("__debug__":Str))=false:=by decide):gL X (.Name x pos) (fY v):=
 λ_ _ _ H _ I h=>uw I b c e ⟨v,H,I,r,h⟩ d a
inductive GV(x:V)(P:Bool->Prop):Prop where
 |mk (c:Bool) (e:x=.bl c) (h:P c)
def mF(t:gp):kU:=λb H Q=>t b H λx a=>GV x λc=>Q c a
def kj1{X:fQ}{e:Expr}{t:gp}(h:gL X e t)(g:∀a,isTrue e X.env a=(do let v <-a;standAt e.pos;holding [v] (truthy v)):=by intro _;rfl):pZ X e (mF t):=by
 intro b s l H Q I i;refine isTrue_plain (gq (h b s l H _ I i) λv m ⟨x,c,f,k,j⟩=>?_) (g _);obtain⟨d,rfl,q⟩:=j;cases k;exact vK (Î c f q)
def kZ(t u:kU):kU:=λb H Q=>t b H λc a=>if c=true then u b a Q else Q Ü a
def oy(t u:kU):kU:=λb H Q=>t b H λc a=>if c=true then Q true a else u b a Q
def xQ(t:kU):kU:=λb H Q=>t b H λc a=>Q (!c) a
def kh7{X:fQ}{a:Expr}{pos:Pos}{d:kU}(f:pZ X a d):uJ X (.BoolOp .And [a] pos) d:=by
 intro j b s g H Q I h;refine isTrue_and (gq (f b s g H Q I h) λc i e=>?_);cases c with
 |true=>exact isTrue_and_nil e
 |false=>exact e
def kj3{X:fQ}{a:Expr}{pos:Pos}{d:kU}(f:pZ X a d):uJ X (.BoolOp .Or [a] pos) d:=by
 intro j b s g H Q I h;refine isTrue_or (gq (f b s g H Q I h) λc i e=>?_);cases c with
 |false=>exact isTrue_or_nil e
 |true=>exact e
def kj2{X:fQ}{a b:Expr}{pos:Pos}{j e:kU}{rest:List Expr}(l:pZ X a j)(m:uJ X (.BoolOp .And (b::rest) pos) e):uJ X (.BoolOp .And (a::b::rest) pos) (kZ j e):=by
 intro o d s k H Q I h;refine isTrue_and (gq (l d s k H _ I h) λc n p=>?_);obtain⟨f,g,i⟩:=p;cases c with
 |true=>exact m o d n k f Q g i
 |false=>exact Î f g i
def kkJ{X:fQ}{a b:Expr}{pos:Pos}{j e:kU}{rest:List Expr}(l:pZ X a j)(m:uJ X (.BoolOp .Or (b::rest) pos) e):uJ X (.BoolOp .Or (a::b::rest) pos) (oy j e):=by
 intro o d s k H Q I h;refine isTrue_or (gq (l d s k H _ I h) λc n p=>?_);obtain⟨f,g,i⟩:=p;cases c with
 |true=>exact Î f g i
 |false=>exact m o d n k f Q g i
def kj0(f:pZ X a d):pZ X (.UnaryOp .Not a pos) (xQ d):=by
 intro b s g H Q I h;exact isTrue_not (f b s g H (λc e=>Q (!c) e) I h)
def oS(d e:gp):gp:=λb H Q=>d b H λx a=>∃c,x=.bl c/\if c=true then e b a Q else Q (.bl Ü) a
def EV(d e:gp):gp:=λb H Q=>d b H λx a=>∃c,x=.bl c/\if c=true then Q (.bl true) a else e b a Q
def kiJ(h:gL X a t):gL X (.BoolOp op [a] pos) t:=λb s d H Q I c=>BoolOp_one (h b s d H Q I c)
def kja{X:fQ}{a b:Expr}{i j:gp}{pos:Pos}{rest:List Expr}(l:gL X a i)(m:gL X (.BoolOp .And (b::rest) pos) j):gL X (.BoolOp .And (a::b::rest) pos) (oS i j):=by
 intro d s k H Q I h;refine BoolOp_and (gq (l d s k H _ I h) λv o p=>?_);obtain⟨x,f,g,n,e⟩:=p;obtain⟨c,rfl,e⟩:=e;cases n;refine vK ?_;cases c with
 |true=>exact m d o k f Q g e
 |false=>exact Õ (.bl Ü) f g e
def kkG{X:fQ}{a b:Expr}{i j:gp}{pos:Pos}{rest:List Expr}(l:gL X a i)(m:gL X (.BoolOp .Or (b::rest) pos) j):gL X (.BoolOp .Or (a::b::rest) pos) (EV i j):=by
 intro d s k H Q I h;refine BoolOp_or (gq (l d s k H _ I h) λv o p=>?_);obtain⟨x,f,g,n,e⟩:=p;obtain⟨c,rfl,e⟩:=e;cases n;refine vK ?_;cases c with
 |false=>exact m d o k f Q g e
 |true=>exact Õ (.bl true) f g e
def HX(t:kU)(d e:gp):gp:=λa H Q=>t a H λc b=>if c=true then d a b Q else e a b Q
def kfC{X:fQ}{a b:Expr}{m n:gp}{pos:Pos}{l:kU}{c:Expr}(q:pZ X c l)(o:gL X a m)(p:gL X b n):gL X (.IfExp c a b pos) (HX l m n):=by
 intro e s f H Q I h;refine wpAny_IfExp (gq (q e s f H _ I h) λd k r=>?_);obtain⟨g,i,j⟩:=r;cases d with
 |true=>exact o e k f g Q i j
 |false=>exact p e k f g Q i j
def hH(K:a_)(H:b_)(a:d_)(xs:É V):Prop:=
 uK H a (.lst xs)\/
  ∃(o:Obj) (b:Array c_) (n:Nat),K.lookup a=Á o/\o.cls=.type "list"/\o.dict=none/\o.data=.seq b n/\b.size<=gM/\gQ xs b.toList
def fR(K:a_)(H:b_)(a:d_)(xs:É V):Prop:=
 uK H a (.tup xs)\/
  ∃(o:Obj) (b:Array c_) (n:Nat),K.lookup a=Á o/\o.cls=.type "tuple"/\o.data=.seq b n/\b.size<=gM/\gQ xs b.toList
def kkM:c_->Option V
 |.none=>Á .non
 |.bool b=>Á (.bl b)
 |.int i _=>Á (Ë i)
 |.str x _=>î x
 |.bytes b _=>Á (.byt b)
 |.float b _=>Á (.flt b)
 |.ref a=>Á (Â a)
 |.type n=>Á (.ty n)
 |_=>none
def hW.abs(r:hW x u):kkM u=Á x:=by
 cases x with
 |non=>cases r;rfl
 |bl _=>cases r;rfl
 |ref _=>cases r;rfl
 |ty _=>cases r;rfl
 |_=>obtain⟨t,rfl⟩:=r;rfl
def hW.inj(r:hW x u)(q:hW y u):x=y:=ď (r.abs.symm.trans q.abs)
theorem gQ.inj:∀{xs ys:List V} {us:List c_},gQ xs us->gQ ys us->xs=ys
 |_,_,_,.nil,.nil=>rfl
 |_,_,_,.cons r t,.cons a b=>by rw[r.inj a,gQ.inj t b]
def hH.of{H:b_}{a:d_}{xs:List V}{K:a_}(h:H a=Ð xs):hH K H a xs:=È (È h)
def fR.of{H:b_}{a:d_}{xs:List V}{K:a_}(h:H a=ä xs):fR K H a xs:=È (È h)
def fJ.list{j:fO}(I:fJ X c j H s)(h:hH X.K H a xs):∃b:List c_,gQ xs b/\PlainL s.heap a b.toArray/\xs.length<=gM:=by
 rcases h with h|⟨o,b,n,g,d,f,i,k,r⟩
 .obtain⟨z,b,n,r,e⟩:=h.ok I.hok;exact⟨b,r,⟨_,n,e,À,À,À⟩,z⟩
 .refine⟨b.toList,r,⟨o,n,I.kIn a o g,d,f,by simpa using i⟩,?_⟩;have e:=r.length;simp only[lO] at e;lia
def fJ.tuple{i:fO}(I:fJ X c i H s)(h:fR X.K H a xs):∃b:List c_,gQ xs b/\IsTup s.heap a b.toArray/\xs.length<=gM:=by
 rcases h with h|⟨o,b,n,f,d,g,j,r⟩
 .obtain⟨z,b,r,p⟩:=h.ok I.hok;exact⟨b,r,p.tup,z⟩
 .refine⟨b.toList,r,⟨o,I.kIn a o f,d,n,by simpa using g⟩,?_⟩;have e:=r.length;simp only[lO] at e;lia
def fJ.list_inj{k:fO}(I:fJ X c k H s)(h:hH X.K H a xs)(h':hH X.K H a ys):xs=ys:=by
 obtain⟨f,r,⟨o,n,e,_,_,d⟩,_⟩:=I.list h;obtain⟨b,j,⟨m,l,i,_,_,g⟩,_⟩:=I.list h';rw[e] at i;cases i;rw[d] at g;injection g with d1 _;have:f=b:=by simpa using congrArg Array.toList d1
 subst this;exact r.inj j
def fJ.tuple_inj{k:fO}(I:fJ X c k H s)(h:fR X.K H a xs)(h':fR X.K H a ys):xs=ys:=by
 obtain⟨f,r,⟨o,e,_,n,d⟩,_⟩:=I.tuple h;obtain⟨b,j,⟨m,i,_,l,g⟩,_⟩:=I.tuple h';rw[e] at i;cases i;rw[d] at g;injection g with d1 _;have:f=b:=by simpa using congrArg Array.toList d1
 subst this;exact r.inj j
abbrev fQ.wish(X:fQ)(E:gC):fQ:={X with xe:=E}
abbrev fQ.nox(X:fQ):fQ:=X.wish λ_ _=>False
def fQ.Ok.wish{X:fQ}(a:X.Ok)(E:gC):(X.wish E).Ok:=
 ⟨a.mod,a.kind,a.glob,a.blt,a.above,a.inj,a.has,a.cab,a.hd,a.frames,a.stk,a.exf,a.bs,a.bsz,a.noex,a.exfs,a.funs,a.frf⟩
def fQ.Ok.unwish{X:fQ}{E:gC}(a:(X.wish E).Ok):X.Ok:=
 ⟨a.mod,a.kind,a.glob,a.blt,a.above,a.inj,a.has,a.cab,a.hd,a.frames,a.stk,a.exf,a.bs,a.bsz,a.noex,a.exfs,a.funs,a.frf⟩
def fJ.wish{X:fQ}{a:List (d_×Obj)}{b:fO}{H:b_}{s:fU}(I:fJ X a b H s)(E:gC):fJ (X.wish E) a b H s:=⟨I.ok.wish E,I.os,I.bare,I.base,I.loc,I.cell,I.free,I.freeC,I.pin,I.hok,I.len⟩
def fJ.unwish{X:fQ}{a:List (d_×Obj)}{b:fO}{H:b_}{s:fU}{E:gC}(I:fJ (X.wish E) a b H s):fJ X a b H s:=⟨I.ok.unwish,I.os,I.bare,I.base,I.loc,I.cell,I.free,I.freeC,I.pin,I.hok,I.len⟩
def tj.unwish(h:tj (X.wish E) a D f s'):tj X a D f s':=by
 cases f with
 |ret u=>obtain⟨v,b,c,I,r,q⟩:=h;exact⟨v,b,c,I.unwish,r,q⟩
 |_=>obtain⟨b,c,I,q⟩:=h;exact⟨b,c,I.unwish,q⟩
def nq.nox{X:fQ}{st:List Stmt}{t:e_}(h:nq X.nox st t):nq X st t:=λa s c H D I b=>
 og (h a s c H D (I.wish _) b) (λ_ _ q=>q.unwish) λ_ _ z=>False.elim z
def gk:e_:=λD a H=>D.nx a H
def iA(t u:e_):e_:=λD a H=>t {D with nx:=u D} a H
def kh4:nq X [] gk:=λ_ _ a H _ I h=>Ec ⟨a,H,I,h⟩
def kfM{X:fQ}{st:Stmt}{rest:List Stmt}{t u:e_}(e:rS X st t)(g:nq X rest u):nq X (st::rest) (iA t u):=by
 intro a s j H D I h;refine wpAny_execs_cons (gq (e a s j H {D with nx:=u D} I h) λf i q=>?_);cases f with
 |next=>
  obtain⟨b,c,d,q⟩:=q;exact g a i b c D d q
 |_=>exact q
def kh5{X:fQ}{st:Stmt}{t:e_}(b:rS X st t):nq X [st] t:=by
 intro a s c H D I h;refine wpAny_execs_cons (gq (b a s c H D I h) λf d q=>?_);cases f with
 |next=>exact Ec q
 |_=>exact q
def fJ.quiet{b:fO}(I:fJ X a b H s):interactive Û=false:=by simp[interactive,I.ok.kind]
def lS(c:gp):e_:=λD a H=>c a H λ_ b=>D.nx a b
def kh1{X:fQ}{e:Expr}{b:gp}{pos:Pos}(g:gL X e b)(i:u6 e Ç pos.line Û=pure Ü:=by rfl):rS X (.Expr e pos) (lS b):=by
 intro a s c H D I h;exact wpAny_Expr_any (gq (g a s c H _ I h) λv l ⟨x,d,f,k,j⟩=>⟨c,d,f,j⟩) I.quiet i
def fZ(a:gp):e_:=λD b H=>a b H D.rt
def kjY{X:fQ}{e:Expr}{b:gp}{pos:Pos}(g:gL X e b):rS X (.Return (Á e) pos) (fZ b):=by
 intro a s c H D I h;exact wpAny_Return_some (gq (g a s c H _ I h) λv k ⟨x,d,f,j,i⟩=>⟨x,c,d,f,j,i⟩)
def lI(c:kU)(t u:e_):e_:=λD a H=>c a H λb d=>if b=true then t D a d else u D a d
def kkI{X:fQ}{t u:e_}{pos:Pos}{c:Expr}{a b:List Stmt}{l:kU}(o:pZ X c l)(m:nq X a t)(n:nq X b u):rS X (.If c a b pos) (lI l t u):=by
 intro e s f H D I h;refine wpAny_If (gq (o e s f H _ I h) λd k p=>?_);obtain⟨g,i,j⟩:=p;cases d with
 |true=>exact m e k f g D i j
 |false=>exact n e k f g D i j
abbrev lW:=V->fO->b_->(fO->b_->Prop)->Prop
abbrev sD:=É V->fO->b_->(fO->b_->Prop)->Prop
def tW(X:fQ)(a:Expr)(t:lW):Prop:=
 ∀(b:List (d_×Obj)) (s:fU) (e:fO) (H:b_) (v:V) (u:c_) (Q:fO->b_->Prop),fJ X b e H s->hW v u->t v e H Q->
  ö ë X.w X.A (assign a Û u) (λ_ f=>∃c d,fJ X b c d f/\Q c d) X.xe s
def yT(X:fQ)(h:É Expr)(t:sD):Prop:=
 ∀(a:List (d_×Obj)) (s:fU) (f:fO) (H:b_) (e:List V) (d:List c_) (Q:fO->b_->Prop),fJ X a f H s->gQ e d->t e f H Q->
  ö ë X.w X.A (assignInOrder ((pN h X.env).map (·.2)) d) (λ_ g=>∃b c,fJ X a b c g/\Q b c) X.xe s
abbrev DB:=V->V->V->b_->(b_->Prop)->Prop
def DA(X:fQ)(t:DB):Prop:=
 ∀(a:List (d_×Obj)) (s:fU) (e:fO) (H:b_) (o i v:V) (d c u:c_) (Q:b_->Prop),fJ X a e H s->hW o d->hW i c->hW v u->t o i v H Q->
  ö ë X.w X.A (setItem d c u) (λ_ f=>∃b,fJ X a e b f/\Q b) X.xe s
def gB(i:Nat):lW:=λv a H Q=>Q (a.set i (Á v)) H
def khL(c:X.N.Nodup)(e:X.N[i]?=Á x)(f:t4 X.env.scope x)(d:X.fn x=true\/X.env.scope.names.lookup x=Á .local:=by first|exact .inl rfl|exact .inr rfl|assumption):tW X (.Name x pos) (gB i):=by
 intro a s j H v u Q I r h;exact wpAny_assign_Name (Cq I c e f r (λg b=>⟨_,H,b,h⟩) d)
def pU:sD:=λa b H Q=>a=[]/\Q b H
def lg(t:lW)(u:sD):sD:=λc d H Q=>∃v r,c=v::r/\t v d H λa b=>u r a b Q
def khN:yT X [] pU:=by
 intro a s b H d c Q I r h;obtain⟨e,h⟩:=h;subst e;cases r;exact assignInOrder_nil ⟨b,H,I,h⟩
def kfF{X:fQ}{e:Expr}{es:List Expr}{t:lW}{u:sD}(g:tW X e t)(i:yT X es u)
  (j:(pN (e::es) Û).map (·.2)=assign e Û::(pN es Û).map (·.2):=by rfl):yT X (e::es) (lg t u):=by
 intro a s o H w p Q I r h;obtain⟨v,q,f,h⟩:=h;subst f;cases r with
 |cons r l=>
  rw[j];refine assignInOrder_cons (gq (g a s o H _ _ _ I r h) λ_ m n=>?_);obtain⟨b,c,d,k⟩:=n;exact i a m b c _ _ Q d l k
def rL(K:a_)(n:Nat)(t:sD):lW:=λv c H Q=>∃a b,v=Â a/\fR K H a b/\b.length=n/\t b c H Q
def kiO{X:fQ}{pos:Pos}{es:List Expr}{k:Nat}{t:sD}{n:Nat}(p:X.calm=true)(h:yT X es t)
  (w:Ô (pN es Û)=n:=by rfl) (d:(pN es Û).findIdx? (·.1)=none:=by rfl):tW X (.Tuple es k pos) (rL X.K n t):=by
 intro c s i H v u Q I r f;obtain⟨a,C,l,x,q,f⟩:=f;subst l;cases r;obtain⟨B,g,y,D⟩:=I.tuple x;refine assign_Tuple_tuple (I.ok.hd p) y (by simp[w,<-q,g.length]) d λm z=>?_;have j:fJ X c i H (č m):=I.kept (t':=s.toks) λb o e=>z b o (kP (iD e)) e;exact h c _ i H C _ Q j (by simpa using g) f
def oW(f e:gp)(t:DB):lW:=λv a H Q=>f a H λo b=>e a b λi c=>t o i v c λd=>Q a d
def kiN{X:fQ}{pos:Pos}{o i:Expr}{g f:gp}{t:DB}(z:gL X o g)(w:gL X i f)(B:DA X t)
  (q:∀v,assign (.Subscript o i pos) X.env v=(do
   let b <-holding [v] (eval o X.env);let c <-holding [v,b] (eval i X.env)
   standAt pos
   holding [v,b,c] (setItem b c v)
   release [v,b,c] []):=by intro _;rfl):tW X (.Subscript o i pos) (oW g f t):=by
 intro a s e H v u Q I r h;rw[q];refine fN (oh (gq (z a s e H _ I h) λb K d=>?_));obtain⟨x,j,m,G,C⟩:=d;refine fN (oh (gq (w a K e j _ m C) λc L d=>?_));obtain⟨y,k,n,J,D⟩:=d;refine fN (yd (fN (oh (gq (B a L e k x y v b c u _ n G J r D) λ_ M d=>?_))));obtain⟨l,p,E⟩:=d;exact wpAny_release ⟨e,l,p,E⟩
def mB(c:gp)(g:lW):e_:=λD a H=>c a H λx b=>g x a b D.nx
def kjW{X:fQ}{pos:Pos}{b e:Expr}{c:gp}{g:lW}(k:gL X e c)(l:tW X b g)(m:swapsWithSole [b] e pos.line Û=pure Ü:=by rfl)(n:swappedStores [b] e Û=pure Ç:=by rfl)
  (j:(pN [b] Û).map (·.2)=[assign b Û]:=by rfl):rS X (.Assign [b] e pos) (mB c g):=by
 intro a s d H D I h;refine wpAny_Assign_stores (gq (k a s d H _ I h) λv r ⟨x,f,i,p,o⟩=>?_) m n;rw[j];exact gq (l a r d f x v _ i p o) λ_ t q=>q
def kjZ{X:fQ}{pos:Pos}{i:Nat}{x:Str}{e:Expr}{c:gp}{a:Pos}(j:X.N.Nodup)(m:X.N[i]?=Á x)(o:t4 X.env.scope x)(k:gL X e c)(n:u6 e (Á (.Name x a)) pos.line Û=pure Ü:=by rfl)(l:X.fn x=true\/X.env.scope.names.lookup x=Á .local:=by first|exact .inl rfl|exact .inr rfl|assumption) :
  rS X (.Assign [.Name x a] e pos) (đ c i):=by
 intro b s r H D I h;refine wpAny_Assign_Name (gq (k b s r H _ I h) λv t ⟨y,d,f,q,p⟩=>?_) n;exact Cq f j m o q (λu g=>⟨_,d,g,p⟩) l
def xt(c:kU)(h:e_):e_:=λD a H=>∃W:Nat->fO->b_->Prop,(∃m,W m a H)/\∀m a H,W m a H->
 c a H λb f=>if b=true then ∃N:fO->b_->Prop,(∀d e,N d e->∃g,g<m/\W g d e)/\h {D with nx:=N,ct:=N,bk:=D.nx} a f else D.nx a f
def kfL{X:fQ}{pos:Pos}{c:Expr}{g:List Stmt}{E:kU}{C:e_}(B:kg (model ë X.w) X.A Û X.xe)(K:pZ X c E)(J:nq X g C):rS X (.While c g [] pos) (xt E C):=by
 intro a s T H D I h;obtain⟨W,⟨L,Q⟩,turn⟩:=h;refine wpAny_While (codeAny_whileLoop (λn M=>∃j t,fJ X a j t M/\W n j t) ?_ L ⟨T,H,I,Q⟩);rintro n O ⟨e,u,G,R⟩;refine x4 B (gq (K a O e u _ G (turn n e u R)) λb P S=>?_);obtain⟨x,y,k⟩:=S;cases b with
 |true=>
  obtain⟨N,z,k⟩:=k;rw[if_pos À];refine x4 B (gq (J a P e x _ y k) λf U l=>?_);cases f with
  |next=>
   obtain⟨d,i,m,q⟩:=l;obtain⟨p,o,r⟩:=z d i q;exact⟨p,o,d,i,m,r⟩
  |cont=>
   obtain⟨d,i,m,q⟩:=l;obtain⟨p,o,r⟩:=z d i q;exact⟨p,o,d,i,m,r⟩
  |brk=>exact l
  |ret v=>exact l
 |false=>
  rw[ù Bool.false_ne_true];exact Ec ⟨e,x,y,k⟩
structure su where
 go:Nat->b_->Prop
 yld:Nat->b_->V->b_->Prop
 stop:Nat->b_->Prop
def rK(X:fQ)(a:É (d_×Obj))(H:b_)(b:d_):Prop:=
 H b=none/\b≠X.env.locals/\b∉X.fs/\(b∈X.ex\/X.s₀.heap.objs.size<=b)/\(∀x c,X.env.cells.lookup x=Á c->c≠b)/\∀p∈X.pn++a,p.1≠b
def fJ.fpOk{h:fO}{b:d_}(I:fJ X a h H s)(d:s.heap.objs.size<=b)(f:H' b=none):rK X a H' b:=by
 refine⟨f,yb (l' I.lt d),I.nofs d,Í (mC I.sz d),λx c e z=>?_,λp g z=>?_⟩
 .obtain⟨v,q⟩:=I.cell x c e;exact Ì (l' q.lt (by rw[z];exact d)) (px _)
 .exact Ì (l' (iD (I.pin p g).1) (by rw[z];exact d)) (px _)
structure vx(P:f5)(w:fW)(K:a_)(tg:Expr)(J:su)(fp:É d_)(it:d_)(tn:Nat->Heap->Prop):Prop where
 mem:it∈fp
 obj:∀i h,tn i h->∀b∈fp,∃o,h.get? b=Á o/\∀v,o.data≠.cell v
 keep:∀i h h',tn i h->(∀b∈fp,∀o,h.get? b=Á o->h'.get? b=Á o)->tn i h'
 item:∀(X:fQ),X.prog=P->X.w=w->X.K=K->X.calm=true->∀(i:Nat) (pins:List (d_×Obj)) (s:fU) (σ:fO) (H:b_) (E:gC),fJ X pins σ H s->(∀b∈fp,rK X pins H b)->tn i s.heap->J.go i H->
  ö P w X.A (uz (Â it)) (λr s1=>∃u,r=Á u/\
   ö P w X.A (Eb tg (Â it) u) (λ_ s2=>∃x H',fJ X pins σ H' s2/\hW x u/\J.yld i H x H'/\tn (i+1) s2.heap/\∀b∈fp,H' b=none) E s1) E s
 done:∀(X:fQ),X.prog=P->X.w=w->X.K=K->X.calm=true->∀(i:Nat) (pins:List (d_×Obj)) (s:fU) (σ:fO) (H:b_) (E:gC),fJ X pins σ H s->(∀b∈fp,rK X pins H b)->tn i s.heap->J.stop i H->
  ö P w X.A (uz (Â it)) (λr s1=>r=none/\fJ X pins σ H s1) E s
 self:∀(A:ig) (i:Nat) (s:fU) (Q:gC) (E:gC),tn i s.heap->Q (Â it) s->ö P w A (pyIter (Â it)) Q E s
abbrev mY:=fO->b_->(su->b_->Prop)->Prop
def Po(X:fQ)(a:É (d_×Obj))(i:fO)(h:Expr)(R:su->b_->Prop)(d:c_)(s2:fU):Prop:=
 ∃(f:d_) (e:List d_) (g:Nat->Heap->Prop) (J:su) (c:b_),d=Â f/\fJ X a i c s2/\vx ë X.w X.K h J e f g/\g 0 s2.heap/\(∀b∈e,rK X a c b)/\R J c
def sy(X:fQ)(e b:Expr)(f:mY):Prop:=
 ∀(a:List (d_×Obj)) (s:fU) (c:fO) (H:b_) (R:su->b_->Prop),fJ X a c H s->f c H R->
  ö ë X.w X.A (þ b) (λv d=>ö ë X.w X.A (pyIter v) (Po X a c e R) X.xe d) X.xe s
def Dk{E:gC}(f:Ć it=Á o)(c:o.cls=.type n)(d:o.data=.fields vs)
  (e:["enumerate","zip","dict_itemiterator","dict_reverseitemiterator","odict_iterator","itertools.zip_longest","itertools.pairwise"].contains n=false) (a:Q () s):gN M A (Eb b (Â it) u) Q E s:=by
 unfold Eb;cases b<;>first
  |exact gH a
  |(cases u<;>first
    |exact gH a
    |(refine fN (wpAny_load f ?_)
      rw[c,d];show gN M A (if(["enumerate","zip","dict_itemiterator","dict_reverseitemiterator","odict_iterator","itertools.zip_longest","itertools.pairwise"].contains n&&vs[0]?==some (uA _))=true then _ else _) Q E s;rw[if_neg (by intro h;rw[e,Bool.false_and] at h;cases h)];exact gH a))
def wm(K:a_)(a:d_):su:=
 ⟨λi H=>∃b x,hH K H a b/\b[i]?=Á x,λi H x c=>c=H/\∀b,hH K H a b->b[i]?=Á x,λi H=>∃b,hH K H a b/\b.length<=i⟩
def wo(K:a_)(a:d_):su:=
 ⟨λi H=>∃b x,fR K H a b/\b[i]?=Á x,λi H x c=>c=H/\∀b,fR K H a b->b[i]?=Á x,λi H=>∃b,fR K H a b/\b.length<=i⟩
def vD(b:Int)(n:Nat):su:=⟨λi _=>i<n,λi H x a=>a=H/\x=Ë (b+i),λi _=>n<=i⟩
def keB{P:f5}{w:fW}{K:a_}{tg:Expr}(a it:d_):vx P w K tg (wm K a) [it] it (λi h=>h.IsListIter it a i) where
 mem:=Ò
 obj:=λi h f b j=>by
  have e:b=it:=by simpa using j
  subst e;obtain⟨o,e,c,d⟩:=f;exact Î o e (λv z=>by rw[d] at z;cases z)
 keep:=λi h m f k=>f.at λo e=>k it Ò o e
 item:=by
  intro X G L D R i g s S H E I n f J;subst G L D;obtain⟨xs,x,q,M⟩:=J;obtain⟨O,Q,p,hz⟩:=I.list q;obtain⟨u,Z,ru⟩:=Q.get M;obtain⟨r,t,Y,y,B,C⟩:=n it Ò;refine wpAny_pyNext_list_item f p.isList (x:=u) (by simpa using Z) λm l sb=>?_;have T:fJ X g S H (č m):=I.turned (t':=s.toks) (λb o j e=>(sb.2 b j).trans e) r t y B C;obtain⟨o,e,c,d⟩:=id l;exact Ą u (Dk (s:=č m) e c d Ï ⟨x,H,T,ru,Æ À (λys hy=>by rw[I.list_inj hy q];exact M),l,λb j=>(n b j).1⟩)
 done:=by
  intro X G L D R i g s S H E I n f J;subst G L D;obtain⟨xs,q,M⟩:=J;obtain⟨O,Q,p,hz⟩:=I.list q;obtain⟨r,t,Y,y,B,C⟩:=n it Ò;have hl:=Q.length;exact wpAny_pyNext_list_end (I.ok.hd R) f p.isList (by simp;lia) λm U=>Æ À (I.turned (t':=s.toks) (λb o j e=>U b o j e) r t y B C)
 self:=λ_ _ _ _ _ f h=>wpAny_pyIter_listiter f h
def kcs{P:f5}{w:fW}{K:a_}{tg:Expr}(a it:d_):vx P w K tg (wo K a) [it] it (λi h=>h.IsTupleIter it a i) where
 mem:=Ò
 obj:=λi h f b j=>by
  have e:b=it:=by simpa using j
  subst e;obtain⟨o,e,c,d⟩:=f;exact Î o e (λv z=>by rw[d] at z;cases z)
 keep:=λi h n f k=>f.at λo e=>k it Ò o e
 item:=by
  intro X J M G R i g s S H E I q f L;subst J M G;obtain⟨xs,x,r,O⟩:=L;obtain⟨l,Q,p,hz⟩:=I.tuple r;obtain⟨u,Z,ru⟩:=Q.get O;obtain⟨t,y,Y,B,C,D⟩:=q it Ò;refine wpAny_pyNext_tuple_item f (show s.heap.IsTuple a l.toArray from p) (x:=u) (by simpa using Z) λn m sb=>?_;have T:fJ X g S H (č n):=I.turned (t':=s.toks) (λb o j e=>(sb.2 b j).trans e) t y B C D;obtain⟨o,e,c,d⟩:=id m;exact Ą u (Dk (s:=č n) e c d Ï ⟨x,H,T,ru,Æ À (λys hy=>by rw[I.tuple_inj hy r];exact O),m,λb j=>(q b j).1⟩)
 done:=by
  intro X J M G R i g s S H E I q f L;subst J M G;obtain⟨xs,r,O⟩:=L;obtain⟨l,Q,p,hz⟩:=I.tuple r;obtain⟨t,y,Y,B,C,D⟩:=q it Ò;have hl:=Q.length;exact wpAny_pyNext_tuple_end (I.ok.hd R) f (show s.heap.IsTuple a l.toArray from p) (by simp;lia) λn U=>Æ À (I.turned (t':=s.toks) (λb o j e=>U b o j e) t y B C D)
 self:=λ_ _ _ _ _ f h=>wpAny_pyIter_tupleiter f h
def kcr{P:f5}{w:fW}{K:a_}{S:Expr}(it:d_)(l:Int)(n:Nat):vx P w K S (vD l n) [it] it (λi h=>IsRangeIter h it (l+(i:Nat)*1) ((n:Int)-(i:Nat)) 1) where
 mem:=Ò
 obj:=λi h a b d=>by
  have e:b=it:=by simpa using d
  subst e;exact Î _ a (λv z=>by
   have T:Data.fields _=Data.cell v:=z;cases T)
 keep:=λi h g a k=>k it Ò _ a
 item:=by
  intro X y D x B i c s J H E I j a C;subst y D x;obtain⟨m,p,O,q,r,u⟩:=j it Ò;have W:=Walks.range (prog:=ë) (w:=X.w) (I.ok.hd B) it l 1 n;refine W.item i s _ _ C a λv g G Q f R=>?_;obtain⟨t,rfl⟩:=Q;have L:fJ X c J H (Ď g G):=I.turned (λb o d e=>R b o (by simpa using d) e) m p q r u;refine Ú (Dk (s:=Ď g G) (n:="range_iterator") f À À Ï ⟨Ë (l+i),H,L,Æ t ?_,Æ À À,f,λb d=>(j b d).1⟩);rw[Int.mul_one]
 done:=by
  intro X y D x B i c s J H E I j a C;subst y D x;obtain⟨m,p,O,q,r,u⟩:=j it Ò;exact wpAny_pyNext_range_end (I.ok.hd B) a (by have:n<=i:=C;lia) λg M=>Æ À (I.turned (t':=s.toks) (λb o d e=>M b o d e) m p q r u)
 self:=λ_ _ _ _ _ a h=>wpAny_pyIter_rangeiter a h
def U6(K:a_)(c:gp):mY:=λe H R=>c e H λx b=>∃a,x=Â a/\(∃d,hH K b a d)/\R (wm K a) b
def Vc(K:a_)(c:gp):mY:=λe H R=>c e H λx b=>∃a,x=Â a/\(∃d,fR K b a d)/\R (wo K a) b
def khP{X:fQ}{u:Expr}{l:Expr}{g:gp}(k:gL X l g):sy X u l (U6 X.K g):=by
 intro c s y H R I h;refine gq (k c s y H _ I h) λv f w=>?_;obtain⟨x,i,d,t,r⟩:=w;obtain⟨a,e,⟨C,m⟩,q⟩:=r;subst e;cases t;obtain⟨n,B,p,z⟩:=d.list m;refine wpAny_pyIter_list p.isList ?_;refine⟨f.heap.objs.size,[f.heap.objs.size],_,_,i,À,d.kept (t':=f.toks) λb o e=>i5 _ e,keB a _,⟨_,mr _ À,À,À⟩,λb j=>?_,q⟩;have e:b=f.heap.objs.size:=by simpa using j
 subst e;exact d.fpOk ï (d.hok.fresh ï)
def kiR{X:fQ}{u:Expr}{l:Expr}{i:gp}(m:gL X l i):sy X u l (Vc X.K i):=by
 intro c s y H R I h;refine gq (m c s y H _ I h) λv d w=>?_;obtain⟨x,j,f,t,r⟩:=w;obtain⟨a,e,⟨C,n⟩,q⟩:=r;subst e;cases t;obtain⟨g,B,p,z⟩:=f.tuple n;refine Bt (show d.heap.IsTuple a g.toArray from p) ?_;refine⟨d.heap.objs.size,[d.heap.objs.size],_,_,j,À,f.kept (t':=d.toks) λb o e=>i5 _ e,kcs a _,⟨_,mr _ À,À,À⟩,λb k=>?_,q⟩;have e:b=d.heap.objs.size:=by simpa using k
 subst e;exact f.fpOk ï (f.hok.fresh ï)
def kfr{h:fO}{E:gC}(I:fJ X d h H s)(k:-(2 ^ 62)<=a)(l:a<2 ^ 62)(m:-(2 ^ 62)<=c)(n:c<2 ^ 62)
  (q:R (vD a (c-a).toNat) H):ö ë X.w X.A (pyIter (Â ó)) (Po X d h r R) E (Ď (s.heap.push (ć "range" (.fields #[.int a t,.int c u,.int 1 v]))) g):=by
 refine wpAny_pyIter_range (IsRange.new ..) (small_one k l m n) ?_;have f:fJ X d h H (Ď (s.heap.push (ć "range" (.fields #[.int a t,.int c u,.int 1 v]))) g):=I.kept λb o e=>i5 _ e;refine⟨(s.heap.push (ć "range" (.fields #[.int a t,.int c u,.int 1 v]))).objs.size,[(s.heap.push (ć "range" (.fields #[.int a t,.int c u,.int 1 v]))).objs.size],_,_,H,À,
  f.kept (t':=g) λb o e=>i5 _ e,kcr _ a (c-a).toNat,?_,λb p=>?_,q⟩
 .have i:a+((0:Nat):Int)*1=a:=Ò
  have j:(((c-a).toNat:Nat):Int)-((0:Nat):Int)=Builtin.Range.rangeSize a c 1:=by rw[rangeSize_one];split<;>lia
  show IsRangeIter _ _ (a+((0:Nat):Int)*1) ((((c-a).toNat:Nat):Int)-((0:Nat):Int)) 1;rw[i,j];exact mr _ À
 .have e:b=(s.heap.push (ć "range" (.fields #[.int a t,.int c u,.int 1 v]))).objs.size:=by simpa using p
  subst e;exact f.fpOk ï (f.hok.fresh ï)
def om(b:kF):mY:=λd H R=>b d H λc a=>∃j:Int,c=[Ë j]/\-(2 ^ 62)<=j/\j<2 ^ 62/\R (vD 0 j.toNat) a
def kdX(i:ko X "range")(k:X.mg "range"=none)(g:ny X [a] d)(l:gK [a] Û=[(Ü,þ a)]:=by rfl):sy X u (Č "range" p [a] [] pos) (om d):=by
 intro b s v H R I h;refine Call_ (uw I i k boot_range (xV (gq (g pos b s v H _ I h) λy x ⟨z,w,f,n,c⟩=>?_) l À));obtain⟨j,e,c,m,q⟩:=c;subst e;cases n with
 |cons r o=>
  cases o;obtain⟨t,rfl⟩:=r;exact call_range_1 (kfr f Ã Ã c m (by simpa using q))
def kD(k:mY)(g:lW)(j:e_):e_:=λD a H=>k a H λJ f=>∃W:Nat->Nat->fO->b_->Prop,(∃m,W 0 m a f)/\∀i m a H,W i m a H->
 (J.stop i H/\D.nx a H)\/(J.go i H/\∃N:fO->b_->Prop,(∀c b,N c b->∃e,e<m/\W (i+1) e c b)/\∀x b,J.yld i H x b->g x a b λd h=>j {D with nx:=N,ct:=N,bk:=D.nx} d h)
def AO(a:É d_)(h:Heap):É (d_×Obj):=a.filterMap λb=>(h.get? b).map λo=>(b,o)
def Ey(c:b∈a)(e:h.get? b=Á o):(b,o)∈AO a h:=List.mem_filterMap.mpr ⟨b,c,by rw[e];rfl⟩
def kdS(f:p∈AO a h):p.1∈a/\h.get? p.1=Á p.2:=by
 obtain⟨b,d,e⟩:=List.mem_filterMap.mp f;cases q:h.get? b with
 |none=>rw[q] at e;cases e
 |some o=>
  rw[q] at e;have c:(b,o)=p:=ď e;subst c;exact Æ d q
def fJ.pinned{h:fO}(I:fJ X a h H s)(l:∀b∈c,rK X a H b)(m:∀b∈c,∃o,Ć b=Á o/\∀v,o.data≠.cell v):fJ X (a++AO c s.heap) h H s:=
 I.pins_of λp n=>(iT.mp n).elim (λz=>I.pin p (mO _ z)) λz=>by
  obtain⟨g,e⟩:=kdS z;obtain⟨i,j,k,_⟩:=l p.1 g;obtain⟨o,f,d⟩:=m p.1 g;rw[e] at f;cases f;exact⟨e,i,j,k,d⟩
def fJ.unpinned{b:fO}(I:fJ X (a++pl) b H s):fJ X a b H s:=I.pins_of λp c=>I.pin p (mO _ (mP _ c))
def kjX(O:kg (model ë X.w) X.A Û X.xe)(hc:X.calm=true)(hi:sy X tg k wi)(hg:tW X tg g)(j:nq X B tb)
  (hs:∀x,wK k Û x=pure x:=by intro _;rfl):rS X (.For tg k B [] pos) (kD wi g tb):=by
 intro a s σ H D I h;refine wpAny_For (gq (hi a s σ H _ I h) λv s1 h1=>gq h1 λae s2 h2=>?_) hs;obtain⟨it,L,tn,J,H2,e,I2,T,aa,f2,W,⟨m0,w0⟩,turn⟩:=h2;subst e;have l:∀{t:b_},(∀b∈L,t b=none)->∀b∈L,rK X a t b:=λhn b j=>Æ (hn b j) (f2 b j).2;refine codeAny_forLoop_any (λn s'=>∃i p t,fJ X a p t s'/\tn i s'.heap/\(∀b∈L,t b=none)/\W i n p t) ?_ m0 ⟨0,σ,H2,I2,aa,λb j=>(f2 b j).1,w0⟩;rintro n s3 ⟨i,q,Q,I3,P,M,w3⟩;rcases turn i n q Q w3 with⟨stop,qn⟩|⟨go,N,hN,step⟩
 .refine x4 O (gq (T.done X À À À hc i a s3 q Q X.xe I3 (l M) P stop) λr s4 K=>?_);obtain⟨U,I4⟩:=K;subst U;exact Ec ⟨q,Q,I4,qn⟩
 .refine x4 O (gq (T.item X À À À hc i a s3 q Q X.xe I3 (l M) P go) λr s4 K=>?_);obtain⟨u,U,h4⟩:=K;subst U;refine x4 O (gq h4 λ_ s5 K=>?_);obtain⟨x,H5,I5,r5,y5,G,S⟩:=K;have R:=I5.pinned (l S) (T.obj _ _ G);refine x4 O (gq (hg _ s5 q H5 x u _ R r5 (step x H5 y5)) λ_ s6 K=>?_);obtain⟨ab,H6,I6,q6⟩:=K;refine x4 O (gq (j _ s6 ab H6 _ I6 q6) λf Z E=>?_);have C:∀{c:fO} {y:b_},fJ X (a++AO L s5.heap) c y Z->N c y->∃m,m<n/\∃i p t,fJ X a p t Z/\tn i Z.heap/\(∀b∈L,t b=none)/\W i m p t:=λ{c y} z Y=>by
   obtain⟨m',hm,w7⟩:=hN c y Y;refine⟨m',hm,i+1,c,y,z.unpinned,T.keep _ _ _ G λb j o e=>(z.pin (b,o) (mO _ (mO _ (Ey j e)))).1,λb j=>?_,w7⟩;obtain⟨o,e,d⟩:=T.obj _ _ G b j;exact(z.pin (b,o) (mO _ (mO _ (Ey j e)))).2.1
  cases f with
  |brk=>obtain⟨c,y,z,E⟩:=E;exact⟨c,y,z.unpinned,E⟩
  |ret v=>obtain⟨x7,c,y,z,r7,E⟩:=E;exact⟨x7,c,y,z.unpinned,r7,E⟩
  |_=>obtain⟨c,y,z,Y⟩:=E;exact C z Y
def wZ{K:a_}{a:d_}{xs:List V}{g:lW}{l:e_}{D:sW}{b:fO}{H:b_}(c:Nat->fO->b_->Prop)(n:c 0 b H)(s:∀i b H,i<=xs.length->c i b H->hH K H a xs)
  (t:∀i x b H,xs[i]?=Á x->c i b H->g x b H λf j=>l {D with nx:=c (i+1),ct:=c (i+1),bk:=D.nx} f j) (o:∀b H,c xs.length b H->D.nx b H) :
  ∃W:Nat->Nat->fO->b_->Prop,(∃m,W 0 m b H)/\∀i m b H,W i m b H->
   ((wm K a).stop i H/\D.nx b H)\/((wm K a).go i H/\∃N:fO->b_->Prop,(∀d H',N d H'->∃k,k<m/\W (i+1) k d H')/\∀x H',(wm K a).yld i H x H'->g x b H' λf j=>l {D with nx:=N,ct:=N,bk:=D.nx} f j):=by
 refine Î (λi m b H=>m=xs.length-i/\i<=xs.length/\c i b H) ⟨xs.length,Ò,lu _,n⟩ ?_;rintro i m b H ⟨rfl,r,p⟩;have q:=s i b H r p;by_cases h:i<xs.length
 .refine Í ⟨⟨xs,xs[i],q,by simp[h]⟩,c (i+1),λd H' u=>⟨xs.length-(i+1),Ã,À,h,u⟩,λx H' y=>?_⟩;obtain⟨e,y⟩:=y;subst e;exact t i x b _ (y xs q) p
 .have e:i=xs.length:=Ã
  subst e;exact È ⟨Î xs q ï,o b H p⟩
def v7{K:a_}{a:d_}{xs:List V}{g:lW}{l:e_}{D:sW}{b:fO}{H:b_}(c:Nat->fO->b_->Prop)(n:c 0 b H)(s:∀i b H,i<=xs.length->c i b H->fR K H a xs)
  (t:∀i x b H,xs[i]?=Á x->c i b H->g x b H λf j=>l {D with nx:=c (i+1),ct:=c (i+1),bk:=D.nx} f j) (o:∀b H,c xs.length b H->D.nx b H) :
  ∃W:Nat->Nat->fO->b_->Prop,(∃m,W 0 m b H)/\∀i m b H,W i m b H->
   ((wo K a).stop i H/\D.nx b H)\/((wo K a).go i H/\∃N:fO->b_->Prop,(∀d H',N d H'->∃k,k<m/\W (i+1) k d H')/\∀x H',(wo K a).yld i H x H'->g x b H' λf j=>l {D with nx:=N,ct:=N,bk:=D.nx} f j):=by
 refine Î (λi m b H=>m=xs.length-i/\i<=xs.length/\c i b H) ⟨xs.length,Ò,lu _,n⟩ ?_;rintro i m b H ⟨rfl,r,p⟩;have q:=s i b H r p;by_cases h:i<xs.length
 .refine Í ⟨⟨xs,xs[i],q,by simp[h]⟩,c (i+1),λd H' u=>⟨xs.length-(i+1),Ã,À,h,u⟩,λx H' y=>?_⟩;obtain⟨e,y⟩:=y;subst e;exact t i x b _ (y xs q) p
 .have e:i=xs.length:=Ã
  subst e;exact È ⟨Î xs q ï,o b H p⟩
def sP{h:Int}{n:Nat}{g:lW}{l:e_}{D:sW}{a:fO}{H:b_}(b:Nat->fO->b_->Prop)(o:b 0 a H)
  (r:∀i a H,i<n->b i a H->g (Ë (h+i)) a H λf j=>l {D with nx:=b (i+1),ct:=b (i+1),bk:=D.nx} f j) (q:∀a H,b n a H->D.nx a H) :
  ∃W:Nat->Nat->fO->b_->Prop,(∃m,W 0 m a H)/\∀i m a H,W i m a H->
   ((vD h n).stop i H/\D.nx a H)\/((vD h n).go i H/\∃N:fO->b_->Prop,(∀d H',N d H'->∃k,k<m/\W (i+1) k d H')/\∀x H',(vD h n).yld i H x H'->g x a H' λf j=>l {D with nx:=N,ct:=N,bk:=D.nx} f j):=by
 refine Î (λi m a H=>m=n-i/\i<=n/\b i a H) ⟨n,Ò,lu _,o⟩ ?_;rintro i m a H ⟨rfl,t,p⟩;by_cases c:i<n
 .refine Í ⟨c,b (i+1),λd H' s=>⟨n-(i+1),Ã,À,c,s⟩,λx H' y=>?_⟩;obtain⟨e,y⟩:=y;subst e y;exact r i a _ c p
 .have e:i=n:=Ã
  subst e;exact È ⟨ï,q a H p⟩
abbrev i6:=V->V->b_->fS->Prop
def iB(X:fQ)(f:c_->c_->Sem c_)(r:i6):Prop:=
 ∀(a:List (d_×Obj)) (s:fU) (b:fO) (H:b_) (x y:V) (v u:c_) (Q:fS),fJ X a b H s->hW x v->hW y u->r x y H Q->
  ö ë X.w X.A (f v u) (lG X a b Q) X.xe s
def Dq(X:fQ)(f:c_->Sem c_)(r:V->b_->fS->Prop):Prop:=
 ∀(a:List (d_×Obj)) (s:fU) (b:fO) (H:b_) (x:V) (v:c_) (Q:fS),fJ X a b H s->hW x v->r x H Q->
  ö ë X.w X.A (f v) (lG X a b Q) X.xe s
def mS(X:fQ)(f:c_)(r:É V->b_->fS->Prop):Prop:=
 ∀(a:List (d_×Obj)) (s:fU) (d:fO) (H:b_) (c:List V) (b:List c_) (Q:fS),fJ X a d H s->gQ c b->r c H Q->
  ö ë X.w X.A (call f b) (lG X a d Q) X.xe s
def fV(r:i6)(d e:gp):gp:=λa H Q=>d a H λx b=>e a b λy c=>r x y c Q
def sE(r:V->b_->fS->Prop)(b:gp):gp:=λc H Q=>b c H λx a=>r x a Q
def vc(C:Int->Int->Prop)(g:Int->Int->V):i6:=λx y H Q=>∃i j,x=Ë i/\y=Ë j/\C i j/\Q (g i j) H
def rV(g:Int->Int->V):i6:=λx y H Q=>∃i j,x=Ë i/\y=Ë j/\Q (g i j) H
def HN(g:Int->V):V->b_->fS->Prop:=λx H Q=>∃i,x=Ë i/\Q (g i) H
def KA{X:fQ}{a b:Expr}{l m:gp}(p:gL X a l)(q:gL X b m){c:List (d_×Obj)}{s:fU}{e:fO}{H:b_}{R:V->V->b_->Prop}(I:fJ X c e H s)
  (h:l e H λx j=>m e j λy d=>R x y d) {Q:gC} {f:c_->c_->Sem c_}
  (r:∀v u s2 x y d,fJ X c e d s2->hW x v->hW y u->R x y d->ö ë X.w X.A (f v u) Q X.xe s2) :
  ö ë X.w X.A (þ a) (λv g=>ö ë X.w X.A (þ b) (λu i=>ö ë X.w X.A (f v u) Q X.xe i) X.xe g) X.xe s:=by
 refine gq (p c s e H _ I h) λv D k=>?_;obtain⟨x,j,n,B,t⟩:=k;refine gq (q c D e j _ n t) λu s2 k=>?_;obtain⟨y,d,o,C,z⟩:=k;exact r v u s2 x y d o B C z
def kkF{X:fQ}{a b:Expr}{d e:gp}{pos:Pos}{op:Operator}{r:i6}(k:iB X (oz op) r)(i:gL X a d)(j:gL X b e):gL X (.BinOp a op b pos) (fV r d e):=by
 intro c s o H Q I h;exact wpAny_BinOp (KA i j I h λv u n x y f g l m q=>k c n o f x y v u Q g l m q)
def kkH(i:Dq X (unaryOp op) r)(g:gL X a c):gL X (.UnaryOp op a pos) (sE r c):=by
 intro b s d H Q I h;exact UnaryOp_ (gq (g b s d H _ I h) λv l ⟨x,e,f,k,j⟩=>i b l d e x v Q f k j)
def BD{X:fQ}{f:c_->c_->Sem c_}{C:Int->Int->Prop}{g:Int->Int->Int}
  (a:∀(i j:Int) (t u:Tok) (s:fU) (Q:gC) (E:gC),C i j->Q (.int (g i j) s.toks) {s with toks:=s.toks+1}->ö ë X.w X.A (f (.int i t) (.int j u)) Q E s) :
  iB X f (vc C λi j=>Ë (g i j)):=by
 intro b s l H x y v u Q I d e h;obtain⟨i,j,rfl,rfl,c,q⟩:=h;obtain⟨t,rfl⟩:=d;obtain⟨k,rfl⟩:=e;exact a i j t k s _ _ c ⟨Ë (g i j),H,I.tok _,Æ _ À,q⟩
def Vs{X:fQ}{f:c_->c_->Sem c_}{g:Int->Int->Int}
  (a:∀(i j:Int) (t u:Tok) (s:fU) (Q:gC) (E:gC),Q (.int (g i j) s.toks) {s with toks:=s.toks+1}->ö ë X.w X.A (f (.int i t) (.int j u)) Q E s) :
  iB X f (rV λi j=>Ë (g i j)):=by
 intro b s k H x y v u Q I c d h;obtain⟨i,j,rfl,rfl,q⟩:=h;obtain⟨t,rfl⟩:=c;obtain⟨e,rfl⟩:=d;exact a i j t e s _ _ ⟨Ë (g i j),H,I.tok _,Æ _ À,q⟩
def Dz{X:fQ}{f:c_->c_->Sem c_}{g:Int->Int->Bool}
  (a:∀(i j:Int) (t u:Tok) (s:fU) (Q:gC) (E:gC),Q (.bool (g i j)) s->ö ë X.w X.A (f (.int i t) (.int j u)) Q E s) :
  iB X f (rV λi j=>.bl (g i j)):=by
 intro b s k H x y v u Q I c d h;obtain⟨i,j,rfl,rfl,q⟩:=h;obtain⟨t,rfl⟩:=c;obtain⟨e,rfl⟩:=d;exact a i j t e s _ _ (Õ (.bl (g i j)) H I q)
def Vd(i j:Int):Prop:=0<j/\j<1073741824
def Ve(i j:Int):Prop:=0<=j/\j<=1000000/\i.natAbs<2 ^ 64
def Dv(i j:Int):Prop:=(-(2 ^ 64)<i/\i<2 ^ 64)\/(-(2 ^ 64)<j/\j<2 ^ 64)
def Dv.ok(h:Dv i j):IntMulOk i j:=by
 rcases h with⟨a,b⟩|⟨a,b⟩
 .exact .of_left (intBits_le_64 a b)
 .exact .of_right (intBits_le_64 a b)
def kiV:iB X (oz .Add) (rV λi j=>Ë (i+j)):=Vs λ_ _ _ _ _ _ _ q=>add_int q
def xj:iB X (oz .Sub) (rV λi j=>Ë (i-j)):=Vs λ_ _ _ _ _ _ _ q=>sub_int q
def ki3{X:fQ}:iB X (oz .Mult) (vc Dv λi j=>Ë (i*j)):=BD λ_ _ _ _ _ _ _ a q=>mul_int q a.ok
def Gh{X:fQ}:iB X (oz .FloorDiv) (vc Vd λi j=>Ë (i / j)):=BD λi j _ _ _ _ _ a q=>by
 have b:(0:Int)<j:=a.1;have c:j<1073741824:=a.2;exact floordiv_int Ã (by rw[Hm i Ã];exact q) (È (PyProof.noPylong_small Ã))
def se{X:fQ}:iB X (oz .Mod) (vc (λ_ j=>0<j) λi j=>Ë (i % j)):=BD λi j _ _ _ _ _ a q=>by
 have b:(0:Int)<j:=a;exact mod_int' Ã (by rw[Int.fmod_eq_emod_of_nonneg i Ã];exact q)
def v9{X:fQ}:iB X (oz .Pow) (vc Ve λi j=>Ë (i ^ j.toNat)):=BD λ_ _ _ _ _ _ _ a q=>pow_int_small a.1 a.2.1 a.2.2 q
def kii{X:fQ}{f:c_->Sem c_}{g:Int->Int}
  (a:∀(i:Int) (t:Tok) (s:fU) (Q:gC) (E:gC),Q (.int (g i) s.toks) {s with toks:=s.toks+1}->ö ë X.w X.A (f (.int i t)) Q E s) :
  Dq X f (HN λi=>Ë (g i)):=by
 intro b s d H x v Q I c h;obtain⟨i,rfl,q⟩:=h;obtain⟨t,rfl⟩:=c;exact a i t s _ _ ⟨Ë (g i),H,I.tok _,Æ _ À,q⟩
def uy:Dq X (unaryOp .USub) (HN λi=>Ë (-i)):=kii λ_ _ _ _ _ q=>neg_int q
def Vp:V->V->Bool
 |.non,.non=>true|.non,.int _=>true|.int _,.non=>true|.non,.bl _=>true|.bl _,.non=>true|.non,.str _=>true|.str _,.non=>true
 |.int _,.int _=>true|.bl _,.bl _=>true|.str _,.str _=>true|.byt _,.byt _=>true
 |.int _,.str _=>true|.str _,.int _=>true|.bl _,.str _=>true|.str _,.bl _=>true
 |_,_=>false
def Sy:i6:=λx y H Q=>Vp x y=true/\Q (.bl (æ (x=y))) H
def Sz:i6:=λx y H Q=>Vp x y=true/\Q (.bl (! æ (x=y))) H
def Pt:æ (V.int i=V.int j)=(i==j):=by
 rw[Bool.eq_iff_iff];simp
def RQ:æ (V.bl i=V.bl j)=(i==j):=by
 rw[Bool.eq_iff_iff];simp
def Pu:æ (è i=è j)=(i==j):=by
 rw[Bool.eq_iff_iff];simp
def Pr:æ (V.byt i=V.byt j)=(i.toList==j.toList):=by
 rw[Bool.eq_iff_iff];cases i;cases j;simp
def k_{c:fO}(I:fJ X a c H s)(q:Q (.bl k) H)(e:k=b):lG X a c Q (.bool b) s:=by
 subst e;exact Õ (.bl k) H I q
def kkx:iB X (kj .Eq) Sy:=by
 intro e s f H x y v u Q I d a h;obtain⟨c,q⟩:=h;cases x with
 |non=>
  cases d;cases y with
  |non=>cases a;exact PySem.EqNone.eq_none_none (k_ I q Ò)
  |bl j=>cases a;exact PySem.EqNone.eq_none_bool (k_ I q Ò)
  |int j=>obtain⟨b,rfl⟩:=a;exact PySem.EqNone.eq_none_int (k_ I q Ò)
  |str j=>obtain⟨b,rfl⟩:=a;exact PySem.EqNone.eq_none_str (k_ I q Ò)
  |_=>exact Ì (show false=true from c) Bool.false_ne_true
 |bl i=>
  cases d;cases y with
  |non=>cases a;exact PySem.EqNone.eq_bool_none (k_ I q Ò)
  |bl j=>cases a;exact eq_bool (k_ I q RQ)
  |str j=>obtain⟨b,rfl⟩:=a;exact PySem.EqMixed.eq_bool_str (k_ I q Ò)
  |_=>exact Ì (show false=true from c) Bool.false_ne_true
 |int i=>
  obtain⟨t,rfl⟩:=d;cases y with
  |non=>cases a;exact PySem.EqNone.eq_int_none (k_ I q Ò)
  |int j=>obtain⟨b,rfl⟩:=a;exact eq_int (k_ I q Pt)
  |str j=>obtain⟨b,rfl⟩:=a;exact PySem.EqMixed.eq_int_str (k_ I q Ò)
  |_=>exact Ì (show false=true from c) Bool.false_ne_true
 |str i=>
  obtain⟨t,rfl⟩:=d;cases y with
  |non=>cases a;exact PySem.EqNone.eq_str_none (k_ I q Ò)
  |bl j=>cases a;exact PySem.EqMixed.eq_str_bool (k_ I q Ò)
  |int j=>obtain⟨b,rfl⟩:=a;exact PySem.EqMixed.eq_str_int (k_ I q Ò)
  |str j=>obtain⟨b,rfl⟩:=a;exact eq_str (k_ I q Pu)
  |_=>exact Ì (show false=true from c) Bool.false_ne_true
 |byt i=>
  obtain⟨t,rfl⟩:=d;cases y with
  |byt j=>obtain⟨b,rfl⟩:=a;exact PySem.W.eq_bytes (k_ I q Pr)
  |_=>exact Ì (show false=true from c) Bool.false_ne_true
 |_=>cases y<;>exact Ì (show false=true from c) Bool.false_ne_true
def kkz:iB X (kj .NotEq) Sz:=by
 intro e s f H x y v u Q I d a h;obtain⟨c,q⟩:=h;cases x with
 |non=>
  cases d;cases y with
  |non=>cases a;exact PySem.EqNone.ne_none_none (k_ I q Ò)
  |bl j=>cases a;exact PySem.EqNone.ne_none_bool (k_ I q Ò)
  |int j=>obtain⟨b,rfl⟩:=a;exact PySem.EqNone.ne_none_int (k_ I q Ò)
  |str j=>obtain⟨b,rfl⟩:=a;exact PySem.EqNone.ne_none_str (k_ I q Ò)
  |_=>exact Ì (show false=true from c) Bool.false_ne_true
 |bl i=>
  cases d;cases y with
  |non=>cases a;exact PySem.EqNone.ne_bool_none (k_ I q Ò)
  |bl j=>cases a;exact ne_bool (k_ I q (congrArg not RQ))
  |str j=>obtain⟨b,rfl⟩:=a;exact PySem.EqMixed.ne_bool_str (k_ I q Ò)
  |_=>exact Ì (show false=true from c) Bool.false_ne_true
 |int i=>
  obtain⟨t,rfl⟩:=d;cases y with
  |non=>cases a;exact PySem.EqNone.ne_int_none (k_ I q Ò)
  |int j=>obtain⟨b,rfl⟩:=a;exact ne_int (k_ I q (congrArg not Pt))
  |str j=>obtain⟨b,rfl⟩:=a;exact PySem.EqMixed.ne_int_str (k_ I q Ò)
  |_=>exact Ì (show false=true from c) Bool.false_ne_true
 |str i=>
  obtain⟨t,rfl⟩:=d;cases y with
  |non=>cases a;exact PySem.EqNone.ne_str_none (k_ I q Ò)
  |bl j=>cases a;exact PySem.EqMixed.ne_str_bool (k_ I q Ò)
  |int j=>obtain⟨b,rfl⟩:=a;exact PySem.EqMixed.ne_str_int (k_ I q Ò)
  |str j=>obtain⟨b,rfl⟩:=a;exact ne_str (k_ I q (congrArg not Pu))
  |_=>exact Ì (show false=true from c) Bool.false_ne_true
 |byt i=>
  obtain⟨t,rfl⟩:=d;cases y with
  |byt j=>obtain⟨b,rfl⟩:=a;exact PySem.W.ne_bytes (k_ I q (congrArg not Pr))
  |_=>exact Ì (show false=true from c) Bool.false_ne_true
 |_=>cases y<;>exact Ì (show false=true from c) Bool.false_ne_true
def nQ:iB X (kj .Lt) (rV λi j=>.bl (æ (i<j))):=Dz λ_ _ _ _ _ _ _ q=>lt_int q
def kky:iB X (kj .LtE) (rV λi j=>.bl (æ (i<=j))):=Dz λ_ _ _ _ _ _ _ q=>le_int q
def sY:iB X (kj .Gt) (rV λi j=>.bl (æ (j<i))):=Dz λ_ _ _ _ _ _ _ q=>gt_int q
def yR:iB X (kj .GtE) (rV λi j=>.bl (æ (j<=i))):=Dz λ_ _ _ _ _ _ _ q=>ge_int q
def kdT:iB X (kj .In) (λx y H Q=>∃i j,x=Ä i/\y=Ä j/\Q (.bl (!(Builtin.Str.occurrences j i 0 j.length 1).isEmpty)) H):=by
 intro a s e H x y v u Q I b c h;obtain⟨i,j,rfl,rfl,q⟩:=h;obtain⟨t,rfl⟩:=b;obtain⟨d,rfl⟩:=c;exact in_str (k_ I q À)
def RK:iB X (kj .Is) (λx y H Q=>y=.non/\Q (.bl (æ (x=.non))) H):=by
 intro a s d H x y v u Q I b c h;obtain⟨rfl,q⟩:=h;cases c;refine is_none_gen (k_ I q ?_);cases x<;>first
  |(cases b;rfl)
  |(obtain⟨t,rfl⟩:=b;rfl)
def Ri:iB X (kj .IsNot) (λx y H Q=>y=.non/\Q (.bl (! æ (x=.non))) H):=by
 intro a s d H x y v u Q I b c h;obtain⟨rfl,q⟩:=h;cases c;refine isnot_none_gen (k_ I q ?_);cases x<;>first
  |(cases b;rfl)
  |(obtain⟨t,rfl⟩:=b;rfl)
def iB.or(h:iB X f r)(h':iB X f b):iB X f (λx y H Q=>r x y H Q\/b x y H Q):=by
 intro a s e H x y v u Q I c d q;rcases q with q|q
 .exact h a s e H x y v u Q I c d q
 .exact h' a s e H x y v u Q I c d q
def kgw{X:fQ}{a b:Expr}{d e:gp}{pos:Pos}{op:CmpOp}{r:i6}(l:iB X (kj op) r)(i:gL X a d)(j:gL X b e)(k:Ej op b=false):gL X (.Compare a [op] [b] pos) (fV r d e):=by
 intro c s p H Q I h;exact wpAny_Compare1 (KA i j I h λv u o x y f g m n q=>l c o p f x y v u Q g m n q) k
def iY(t:gp):kU:=λb H Q=>t b H λx a=>GV x λk=>Q k a
def kh6(B:iB X (kj op) r)(q:gL X a g)(t:gL X b i)(w:Ej op b=false):pZ X (.Compare a [op] [b] pos) (ð r g i):=by
 intro d s f H Q I h;refine wpAny_isTrue_Compare1 (gq (q d s f H _ I h) λv L Z=>?_) w;obtain⟨x,j,n,G,C⟩:=Z;refine gq (t d L f j _ n C) λu M Z=>?_;obtain⟨y,l,o,J,D⟩:=Z;refine gq (B d M f l x y v u _ o G J D) λc O Z=>?_;obtain⟨z,m,p,K,k,e,E⟩:=Z;subst e;cases K;exact vK (Î m p E)
def wa(r f:i6)(g h i:gp):gp:=λa H Q=>g a H λx c=>h a c λy d=>r x y d λz b=>∃k,z=.bl k/\
 (if k=true then i a b λj e=>f y j e Q else Q (.bl Ü) b)
def kfA(P:iB X (kj op) r)(j:iB X (kj g) o)(K:gL X a q)(L:gL X b t)(M:gL X c w)
  (O:lastMarks [op,g] [b,c]=false:=by with_unfolding_all rfl):gL X (.Compare a [op,g] [b,c] pos) (wa r o q t w):=by
 intro f s i H Q I h;refine Compare_chain (gq (K f s i H _ I h) λv Z A=>?_) O;obtain⟨x,B,E,U,R⟩:=A;refine chain_link (gq (L f Z i B _ E R) λu s2 A=>?_);obtain⟨y,C,G,p,S⟩:=A;refine gq (P f s2 i C x y v u _ G U p S) λd s3 A=>?_;obtain⟨z,l,m,W,k,e,n⟩:=A;subst e;cases W;refine vK ?_;cases k with
 |false=>exact ite_ff (Õ (.bl Ü) l m n)
 |true=>exact ite_tt (chain_last (gq (M f s3 i l _ m n) λw' s4 ⟨z',D,J,Y,T⟩=>j f s4 i D y z' u w' Q J p Y T))
def kfN(U:iB X (kj op) r)(j:iB X (kj g) o)(P:gL X a q)(R:gL X b t)(S:gL X c w)
  (T:lastMarks [op,g] [b,c]=false:=by with_unfolding_all rfl):pZ X (.Compare a [op,g] [b,c] pos) (iY (wa r o q t w)):=by
 intro f s i H Q I h;refine isTrue_chain (gq (P f s i H _ I h) λv s1 A=>?_) T;obtain⟨x,B,G,r1,Y⟩:=A;refine test_link (gq (R f s1 i B _ G Y) λu s2 A=>?_);obtain⟨y,C,J,p,Z⟩:=A;refine gq (U f s2 i C x y v u _ J r1 p Z) λd s3 A=>?_;obtain⟨z,l,m,r3,k,e,n⟩:=A;subst e;cases r3;refine vK ?_;cases k with
 |false=>
  obtain⟨k',M,W⟩:=n;cases M;exact ite_ff (Î l m W)
 |true=>
  refine ite_tt (test_last (gq (S f s3 i l _ m n) λw' s4 ⟨z',D,K,r4,q4⟩=>gq (j f s4 i D y z' u w' _ K p r4 q4) λd' s5 zz=>?_));obtain⟨z2,E,L,r5,k2,O,q5⟩:=zz;subst O;cases r5;exact vK (Î E L q5)
def yF:(gM:Nat)<2 ^ 63:=by rw[u4];decide
def kb8:iB X (oz .Add) (λx y H Q=>∃i j,x=Ä i/\y=Ä j/\i.length+j.length<=gM/\Q (Ä (i++j)) H):=by
 intro a s g H x y v u Q I c d h;obtain⟨i,j,rfl,rfl,b,q⟩:=h;obtain⟨t,rfl⟩:=c;obtain⟨e,rfl⟩:=d;exact add_str (λe f=>⟨Ä (i++j),H,I.tok _,Æ _ À,q⟩) b
def oU(r:gQ [x] us):∃u,us=[u]/\hW x u:=by
 cases r with
 |cons a b=>cases b;exact Ú a
def Dj(r:gQ [x,y] us):∃u a,us=[u,a]/\hW x u/\hW y a:=by
 cases r with
 |cons b c=>
  cases c with
  |cons d e=>cases e;exact⟨_,_,À,b,d⟩
def kd4:mS X (.builtin "abs") (λxs H Q=>∃i,xs=[Ë i]/\Q (Ë (if i<0 then -i else i)) H):=by
 intro a s d H xs c Q I r h;obtain⟨i,rfl,q⟩:=h;obtain⟨u,rfl,t,rfl⟩:=oU r;exact call_abs_int λu b=>⟨Ë (if i<0 then -i else i),H,I.tok _,Æ _ À,q⟩
def kc8(c:X.calm=true):mS X (.builtin "max") (λxs H Q=>∃i j,xs=[Ë i,Ë j]/\Q (Ë (if j>i then j else i)) H):=by
 intro b s m H xs g Q I r h;obtain⟨i,j,rfl,q⟩:=h;obtain⟨u,l,rfl,⟨t,rfl⟩,⟨e,rfl⟩⟩:=Dj r;refine max_two_ints (I.ok.hd c) λd f k=>⟨_,H,I.kept k,?_,q⟩;by_cases a:j>i
 .rw[if_pos a,if_pos a];exact Æ _ À
 .rw[ù a,ù a];exact Æ _ À
def kda(c:X.calm=true):mS X (.builtin "min") (λxs H Q=>∃i j,xs=[Ë i,Ë j]/\Q (Ë (if j<i then j else i)) H):=by
 intro b s m H xs g Q I r h;obtain⟨i,j,rfl,q⟩:=h;obtain⟨u,l,rfl,⟨t,rfl⟩,⟨e,rfl⟩⟩:=Dj r;refine min_two_ints (I.ok.hd c) λd f k=>⟨_,H,I.kept k,?_,q⟩;by_cases a:j<i
 .rw[if_pos a,if_pos a];exact Æ _ À
 .rw[ù a,ù a];exact Æ _ À
def EG:mS X (.type "int") (λxs H Q=>(∃i,xs=[Ë i]/\Q (Ë i) H)\/∃k,xs=[.bl k]/\Q (Ë (if k then 1 else 0)) H):=by
 intro a s d H xs c Q I r h;rcases h with⟨i,rfl,q⟩|⟨k,rfl,q⟩
 .obtain⟨u,rfl,t,rfl⟩:=oU r;exact call_int_int ⟨Ë i,H,I,Æ _ À,q⟩
 .obtain⟨u,rfl,b⟩:=oU r;cases b;exact call_int_bool ⟨Ë (if k then 1 else 0),H,I.tok _,Æ _ À,q⟩
def Yo:mS X (.type "str") (λxs H Q=>∃i,xs=[Ë i]/\i.natAbs.log2<1920/\Q (Ä (toString i)) H):=by
 intro a s d H xs c Q I r h;obtain⟨i,rfl,b,q⟩:=h;obtain⟨u,rfl,t,rfl⟩:=oU r;exact PySem.P.str_of_int b ⟨Ä _,H,I.tok _,Æ _ À,q⟩
def Dr(K:a_)(x:V)(H:b_)(n:Nat):Prop:=
 match x with
 |.str y=>y.length<=gM/\n=y.length
 |.byt y=>y.size<=gM/\n=y.size
 |.ref p=>(∃a,hH K H p a/\n=a.length)\/∃a,fR K H p a/\n=a.length
 |_=>False
def kd6:mS X (.builtin "len") (λxs H Q=>∃x n,xs=[x]/\Dr X.K x H n/\Q (Ë n) H):=by
 intro j s w H xs v Q I r h;obtain⟨x,n,rfl,e,q⟩:=h;obtain⟨u,rfl,i⟩:=oU r;have m:=yF;have o:gM=16777216:=u4;cases x with
 |str y=>
  obtain⟨t,rfl⟩:=i;obtain⟨k,b⟩:y.length<=gM/\n=y.length:=e;subst b;exact len_str Ã ⟨Ë _,H,I.tok _,Æ _ À,q⟩
 |byt y=>
  obtain⟨t,rfl⟩:=i;obtain⟨k,b⟩:y.size<=gM/\n=y.size:=e;subst b;exact PySem.W.len_bytes Ã ⟨Ë _,H,I.tok _,Æ _ À,q⟩
 |ref p=>
  cases i;have b:(∃xs,hH X.K H p xs/\n=xs.length)\/∃xs,fR X.K H p xs/\n=xs.length:=e;rcases b with⟨xs,c,b⟩|⟨xs,c,b⟩
  .subst b;obtain⟨d,g,f,l⟩:=I.list c;have a:=g.length;exact Calls.call_len_list f.isList (by simp only[iq];lia) ⟨Ë xs.length,H,I.tok _,Æ _ (by simp only[iq];rw[a]),q⟩
  .subst b;obtain⟨d,g,f,l⟩:=I.tuple c;have a:=g.length;exact len_tuple f (by simp only[iq];lia) ⟨Ë xs.length,H,I.tok _,Æ _ (by simp only[iq];rw[a]),q⟩
 |_=>exact(show False from e).elim
def N4{h:Heap}{c:d_}{mA:Str->Option c_}(n:h.Ns1 c mA):∃od,h.get? c=Á od/\∀name,PySem.W.lookIn name od=Á (mA name):=by
 obtain⟨o,d,m,k,g,i,_,j⟩:=n;refine Î o k (λname=>?_);have e:=j name;unfold nsFind findBy at e;rw[<-Array.find?_toList] at e;unfold PySem.W.lookIn;rw[g];dsimp only;split
 .rename_i y q;rw[q] at e;exact congrArg some e
 .rename_i q;rw[q] at e;have a:d.toList.any (·.refKey)=false:=by
   rw[List.any_eq_false];intro y l;obtain⟨z,t,b⟩:=i y (Array.mem_toList_iff.mp l);simp[DictEntry.refKey,b]
  have f:¬d.toList.any (·.refKey)=true:=by rw[a];exact Bool.false_ne_true
  rw[ù f];exact congrArg some e
def nY(f:Str)(v:V):É (Str×V)->É (Str×V)
 |[]=>[(f,v)]
 |(g,x)::r=>if g=f then(g,v)::r else(g,x)::nY f v r
theorem LV(f g:Str)(v:V):∀fs:List (Str×V),(nY f v fs).lookup g=if g=f then Á v else fs.lookup g
 |[]=>by
  show wU g [(f,v)]=_;by_cases h:g=f
  .have a:(g==f)=true:=beq_iff_eq.mpr h;simp only[wU,a,if_pos h]
  .have a:(g==f)=false:=beq_eq_false_iff_ne.mpr h;simp only[wU,a,ù h]
 |(k,x)::r=>by
  have c:=LV f g v r;rw[show nY f v ((k,x)::r)=(if k=f then(k,v)::r else(k,x)::nY f v r) from À];by_cases b:k=f
  .rw[if_pos b];by_cases h:g=k
   .have a:(g==k)=true:=beq_iff_eq.mpr h;simp only[wU,a,if_pos (h.trans b)]
   .have a:(g==k)=false:=beq_eq_false_iff_ne.mpr h;simp only[wU,a,ù (λe:g=f=>h (e.trans b.symm))]
  .rw[ù b];by_cases h:g=k
   .have a:(g==k)=true:=beq_iff_eq.mpr h;simp only[wU,a,ù (λe:g=f=>b (h.symm.trans e))]
   .have a:(g==k)=false:=beq_eq_false_iff_ne.mpr h;simp only[wU,a];exact c
theorem FB(f:Str)(v:V):∀fs:List (Str×V),f∈(nY f v fs).map (·.1)/\∀g,g∈fs.map (·.1)->g∈(nY f v fs).map (·.1)
 |[]=>⟨by simp[nY],λg h=>by simp at h⟩
 |(k,x)::r=>by
  obtain⟨b,c⟩:=FB f v r;rw[show nY f v ((k,x)::r)=(if k=f then(k,v)::r else(k,x)::nY f v r) from À];by_cases a:k=f
  .rw[if_pos a];subst a;exact⟨Ò,λg h=>by simpa using h⟩
  .rw[ù a];refine Æ ?_ (λg h=>?_)
   .rw[kL];exact my _ b
   .rw[kL] at h ⊢;rcases g7.mp h with e|e
    .exact g7.mpr (È e)
    .exact my _ (c g e)
theorem LU(f:Str)(v:V):∀fs:List (Str×V),Ô (nY f v fs)<=fs.length+1
 |[]=>by simp[nY]
 |(k,x)::r=>by
  have b:=LU f v r;rw[show nY f v ((k,x)::r)=(if k=f then(k,v)::r else(k,x)::nY f v r) from À];by_cases a:k=f
  .rw[if_pos a,iN,iN];lia
  .rw[ù a,iN,iN];lia
def pS.some_of(r:pS (Á v) o):∃u,o=Á u/\hW v u:=by
 cases o with
 |none=>exact(show False from r).elim
 |some u=>exact Ą u r
def kcP(r:hW v u):PySem.W.handedIn u=true:=by
 cases v with
 |non=>cases(show u=c_.none from r);rfl
 |bl b=>cases(show u=c_.bool b from r);rfl
 |int i=>obtain⟨t,e⟩:=(show ∃t,u=c_.int i t from r);cases e;rfl
 |str x=>obtain⟨t,e⟩:=(show ∃t,u=c_.str x t from r);cases e;rfl
 |byt b=>obtain⟨t,e⟩:=(show ∃t,u=c_.bytes b t from r);cases e;rfl
 |flt b=>obtain⟨t,e⟩:=(show ∃t,u=c_.float b t from r);cases e;rfl
 |ref a=>cases(show u=c_.ref a from r);rfl
 |ty n=>cases(show u=c_.type n from r);rfl
def r8(K:a_)(C:d_)(f:Str):Prop:=nF K (Â C) f=Á Ç
def kg0{E:gC}{Q:gC}(b:tx e f env (eval e env)=eval e env)
  (h:ö prog w A (eval e env) (λo a=>ö prog w A (getAttr o f true) Q E a) E s):ö prog w A (eval (.Attribute e f pos) env) Q E s:=
 Attribute_any_ h (by rw[arm_eval_Attribute,b])
structure ku(k:Nat)(A:ig):Prop where
 hd:A.handled=none
 dp:A.depth+3*k+5<recursionLimit
 un:A.units+16*k+200<cLine
def ku.mono(r:ku k A)(h:j<=k):ku j A:=⟨r.hd,by have:=r.dp;lia,by have:=r.un;lia⟩
def ku.deeper(r:ku (k+1) A)(env:Env):ku k (A.deeper env):=
 ⟨r.hd,by have:=r.dp;show A.depth+1+3*k+5<_;lia,by have:=r.un;show A.units+3+16*k+200<_;lia⟩
def kbX{A:ig}{C:d_}{us:List c_}{a:List (Str×c_)}:(A.under (.builtin "type.__call__" ⟨Â C::us,a⟩)).depth=A.depth+1:=by
 first|rfl|simp[ig.under,Code.weight,Code.isCreation,Code.isGuard,Code.isCaller,Code.frames,Code.isFrame,guardIds]
def kbY{A:ig}{C:d_}{us:List c_}{a:List (Str×c_)}:(A.under (.builtin "type.__call__" ⟨Â C::us,a⟩)).units=A.units+1:=by
 first|rfl|simp[ig.under,Code.cUnits,Code.frames,Code.isFrame]
def ku.make(r:ku (k+1) A)(C:d_)(us:É c_)(a:É (Str×c_)):ku k (A.under (.builtin "type.__call__" ⟨Â C::us,a⟩)):=
 ⟨r.hd,by have:=r.dp;rw[kbX];lia,by have:=r.un;rw[kbY];lia⟩
def ku.depth(r:ku k A):A.depth<recursionLimit:=by have:=r.dp;lia
def ku.units(r:ku k A):A.units+64<cLine:=by have:=r.un;lia
def ku.units0(r:ku k A):A.units<cLine:=by have:=r.un;lia
def lN:kF:=λ_ H Q=>Q [] H
def fX(d:gp)(e:kF):kF:=λa H Q=>d a H λx b=>e a b λf c=>Q (x::f) c
def ki7:ny X [] lN:=λ_ _ _ _ H Q I h=>Calls.spliced_nil ⟨[],H,I,.nil,h⟩
def kgu(k:gL X e c)(l:ny X es t)(m:gK (e::es) Û=(Ü,þ e)::gK es Û:=by rfl):ny X (e::es) (fX c t):=by
 intro b a s d H Q I h;rw[m];show gN _ _ (spliced ((Ü,þ e)::lR b (gK es Û))) _ _ s;refine Calls.spliced_cons (gq (k a s d H _ I h) λu r w=>?_);obtain⟨x,f,i,p,n⟩:=w;exact gq (l b a r d f _ i n) λz y ⟨v,g,j,q,o⟩=>⟨x::v,g,j,.cons p q,o⟩
def h9(t:kF):gp:=λc H Q=>t c H λb a=>b.length<=gM/\∀p,a p=none->Q (Â p) (Ā a p b)
def h_(t:kF):gp:=λc H Q=>t c H λb a=>b.length<=gM/\∀p,a p=none->Q (Â p) (Ý a p b)
def kiL(h:ny X es t):gL X (.Tuple es x1 pos) (h9 t):=by
 intro a s l H Q I i;refine wpAny_Tuple_spliced (gq (h pos a s l H _ I i) λj c ⟨k,d,f,r,z,q⟩=>Æ (by rw[<-r.length];exact z) ?_);have g:d c.heap.objs.size=none:=f.hok.fresh ï;refine⟨Â c.heap.objs.size,Ā d c.heap.objs.size k,f.laid (t':=c.toks) (λb u e=>i5 _ e) ï ?_,À,q _ g⟩;exact⟨z,j,r,⟨_,mr _ À,Æ À À,_,À⟩⟩
def kiI(h:ny X es t):gL X (.List es pos) (h_ t):=by
 intro a s l H Q I i;refine wpAny_List_spliced (gq (h pos a s l H _ I i) λj c ⟨k,d,f,r,z,q⟩=>Æ (by rw[<-r.length];exact z) ?_);have g:d c.heap.objs.size=none:=f.hok.fresh ï;refine⟨Â c.heap.objs.size,Ý d c.heap.objs.size k,f.laid (t':=c.toks) (λb u e=>i5 _ e) ï ?_,À,q _ g⟩;exact⟨z,j,0,r,mr _ À⟩
abbrev gO:=É V->b_->fS->f_->Prop
abbrev t9:=É Env->b_->fU->f_->c_->fU->Prop
structure xK(P:f5)(w:fW)(K:a_)(mg:Str->Option c_)(base:Heap)(A:ig)(outer:É Env)(s:fU)(H:b_):Prop where
 frames:A.frames=Á outer
 mod:Mod K mg base
 bs:∀b o,base.get? b=Á o->Ć b=Á o/\H b=none
 bsz:base.objs.size<=s.heap.objs.size
 funs:s.heap.FunFrames base outer
 frf:∀b∈oN outer,H b=none
 hok:kN P w H s.heap
 bare:ve s.gens
def Fn(outer:É Env)(P:f5)(w:fW)(H:b_)(s:fU)(Q:fS)(u:c_)(s':fU):Prop:=
 ∃v a,s'.os=s.os/\ve s'.gens/\l_ (oN outer) [] H a s.heap s'.heap/\kN P w a s'.heap/\hW v u/\Q v a
def V'(CX:t9)(outer:É Env)(P:f5)(w:fW)(H:b_)(s:fU)(Q:fS)(E:f_)(r:Result)(s':fU):Prop:=
 match r with
 |.ok (.ret u)=>Fn outer P w H s Q u s'
 |.ok _=>False
 |.error e=>CX outer H s E e s'
structure oI(P:f5)(w:fW)(K:a_)(mg:Str->Option c_)(base:Heap)(CX:t9)(k:Nat)(f:d_)(fd:m6)(ps:Ñ)(sp:gO):Prop where
 len:∀vs H Q E,sp vs H Q E->vs.length=ps.length
 run:∀(A:ig) (outer:List Env) (s:fU) (H:b_) (args:Args) (us:List c_) (vs:List V) (Q:fS) (E:f_),ku k A->xK P w K mg base A outer s H->yy s fd args (ps.zip us)->gQ vs us->sp vs H Q E->
  pB (model P w) A (.call (Â f) args) (V' CX outer P w H s Q E) s
def xK.make{P:f5}{w:fW}{K:a_}{b:Str->Option c_}{a:Heap}{A:ig}{outer:List Env}{s:fU}{H:b_}(e:xK P w K b a A outer s H)(C:d_)(us:É c_)(c:É (Str×c_)) :
  xK P w K b a (A.under (.builtin "type.__call__" ⟨Â C::us,c⟩)) outer s H:=⟨by first|exact e.frames|(simpa[ig.under,Code.envs,Code.isFrame,pushEnvs] using e.frames),e.mod,e.bs,e.bsz,e.funs,e.frf,e.hok,e.bare⟩
def fJ.env0{b:fO}(I:fJ X a b H s):xK ë X.w X.K X.mg X.base X.A X.stack s H:=
 ⟨I.ok.frames,I.ok.mod,I.bs,mC I.ok.bsz I.sz,I.stack,I.stkFree,I.hok,I.bare⟩
def fJ.after{e:fO}(I:fJ X a e H s)(h:Fn X.stack ë X.w H s Q u s'):lG X a e Q u s':=by
 obtain⟨v,f,j,bare,k,hok,r,q⟩:=h;obtain⟨i,g,d,t,c⟩:=s';obtain rfl:c=s.os:=j;exact⟨v,f,I.call (h':=i) (g':=g) (d':=d) (t':=t) (ch:=[]) k hok bare (λb z=>Ì z Ò),r,q⟩
def Sn(sp:gO)(a:É V)(E:f_)(t:kF):gp:=λd H Q=>t d H λc b=>sp (c++a) b Q E
def uC(K:a_)(fd:m6)(ps:Ñ)(b:É c_):Prop:=
 ∀(s:fU) (a:List c_),K.In s.heap->Ô (a++b)=ps.length->yy s fd (Æ a []) (ps.zip (a++b))
def uC.all{K:a_}{fd:m6}{ps:List Str}(h:∀us:List c_,us.length=ps.length->bindArgs fd (Æ us [])=pure (ps.zip us)):uC K fd ps []:=λs us _ a=>by
 rw[oe] at a ⊢;exact .of_eq (h us a)
def vk(CX:t9)(X:fQ)(E:f_):Prop:=∀(a:List (d_×Obj)) (c:fO) (H:b_) (s:fU) (e:c_) (b:fU),fJ X a c H s->CX X.stack H s E e b->X.xe e b
def kkc{g:fO}(F:oI ë X.w X.K X.mg X.base CX k f fd ps sp)(o:ku k X.A)(l:uC X.K fd ps c)(m:gQ b c)(p:vk CX X E)
  (I:fJ X a g H s) (r:gQ vs us) (h:sp (vs++b) H Q E):ö ë X.w X.A (call (Â f) us) (lG X a g Q) X.xe s:=by
 have i:gQ (vs++b) (us++c):=r.append m;have n:Ô (us++c)=ps.length:=by rw[<-i.length];exact F.len _ _ _ _ h
 refine yn (Am (F.run X.A X.stack s H (Æ us []) (us++c) (vs++b) Q E o I.env0 (l s us I.kIn n) i h) λr q d=>?_);cases r with
 |error e=>exact p a g H s e q I d
 |ok j=>
  cases j with
  |ret u=>exact I.after d
  |next=>exact False.elim d
  |brk=>exact False.elim d
  |cont=>exact False.elim d
def Rj{X:fQ}{CX:t9}{k:Nat}{f:d_}{fd:m6}{ps:List Str}{sp:gO}{a:List V}{i:List c_}{E:f_}{x:Str}{p pos:Pos}{e:Expr}{es:List Expr}{t:kF}(F:oI ë X.w X.K X.mg X.base CX k f fd ps sp)(y:ku k X.A)(o:ko X x)(v:X.mg x=Á (Â f))(u:rh X.K (Â f)=true)(l:uC X.K fd ps i)(m:gQ a i)(z:vk CX X E)
  (j:ny X (e::es) t) (c:(x==("__debug__":Str))=false:=by decide) (n:gK (e::es) Û=(Ü,þ e)::gK es Û:=by rfl) (d:(lR pos (gK es Û)).any (·.1)=false:=by rfl) :
  gL X (Č x p (e::es) [] pos) (Sn sp a E t):=by
 intro b s B H Q I h;refine wI (yu I o v ?_ c);refine PySem.W.callWith_K (h₀:=X.base) I.ok.mod.kin u (gq (j pos b s B H _ I h) λG D ⟨J,C,g,r,q⟩=>Æ g.kIn ?_) n d;exact kkc F y l m z g r q
def GK(X:fQ)(b:É sR)(t:kF):Prop:=
 ∀(c:Pos) (a:List (d_×Obj)) (s:fU) (d:fO) (H:b_) (Q:List V->b_->Prop),fJ X a d H s->t d H Q->ö ë X.w X.A (evalAll ((w_ c (wW b X.env)).map (·.2))) (KM X a d Q) X.xe s
def kjV:GK X [] lN:=λ_ _ _ _ H Q I h=>wpAny_evalAll_nil ⟨[],H,I,.nil,h⟩
def khT(l:gL X e d)(m:GK X b t):GK X (Î nm e kpos::b) (fX d t):=by
 intro c a s f H Q I h;show gN _ _ (evalAll ((do let v <-eval e X.env;standAt c;pure v)::(w_ c (wW b X.env)).map (·.2))) _ _ s;refine wpAny_evalAll_cons (fN (gq (l a s f H _ I h) λu r ⟨x,g,j,p,n⟩=>fN (yd (gH ?_))));exact gq (m c a r f g _ j n) λz y ⟨w,i,k,q,o⟩=>⟨x::w,i,k,.cons p q,o⟩
structure vZ(N P:Ñ)(sc:Scope):Prop where
 kind:sc.kind=.function
 co:sc.isCoroutine=false
 gen:sc.isGenerator=false
 nd:N.Nodup
 pre:N.take P.length=P
 par:∀x∈P,sc.names.lookup x=Á .local\/sc.names.lookup x=Á .cell
 nofree:∀y∈sc.names,y.2≠.free
theorem Nc:∀{a:List (Str×c_)} {m:Str->Option c_},(∀v,(x,v)∉a)->bindL b a m x=m x
 |[],_,_=>rfl
 |(n,v)::r,m,h=>by
  unfold bindL;rw[Nc λw c=>h w (my _ c)];split
  .have:x≠n:=by rintro rfl;exact h v pH
   simp[this]
  .rfl
theorem M':∀{a:List (Str×c_)} {m:Str->Option c_},(∀v,(x,v)∉a)->bindC b a m x=m x
 |[],_,_=>rfl
 |(n,v)::r,m,h=>by
  unfold bindC;rw[M' λw c=>h w (my _ c)];split
  .rfl
  .have:x≠n:=by rintro rfl;exact h v pH
   simp[this]
theorem Na:∀{P:List Str} {vs:List c_} {i:Nat} {m:Str->Option c_},P.Nodup->P[i]?=Á x->vs[i]?=Á v->a x=Á .local->
  bindL a (P.zip vs) m x=Á v
 |[],_,_,_,_,h,_,_=>by simp at h
 |_::_,[],_,_,_,_,h,_=>by simp at h
 |p::P,w::vs,0,m,e,b,c,d=>by
  simp at b c;subst b;subst c;show bindL a ((p,w)::P.zip vs) m p=_;unfold bindL;rw[Nc λv f=>(tv.mp e).1 (II f).1,if_pos d];simp
 |p::P,w::vs,i+1,m,e,b,c,d=>by
  show bindL a ((p,w)::P.zip vs) m x=_;unfold bindL;exact Na (i:=i) (tv.mp e).2 (by simpa using b) (by simpa using c) d
theorem M_:∀{P:List Str} {vs:List c_} {i:Nat} {m:Str->Option c_},P.Nodup->P[i]?=Á x->vs[i]?=Á v->a x≠Á .local->
  bindC a (P.zip vs) m x=Á v
 |[],_,_,_,_,h,_,_=>by simp at h
 |_::_,[],_,_,_,_,h,_=>by simp at h
 |p::P,w::vs,0,m,e,b,c,d=>by
  simp at b c;subst b;subst c;show bindC a ((p,w)::P.zip vs) m p=_;unfold bindC;rw[M' λv f=>(tv.mp e).1 (II f).1,ù d];simp
 |p::P,w::vs,i+1,m,e,b,c,d=>by
  show bindC a ((p,w)::P.zip vs) m x=_;unfold bindC;exact M_ (i:=i) (tv.mp e).2 (by simpa using b) (by simpa using c) d
def gW(N:Ñ)(vs:É V):fO:=vs.map some++lq (N.length-vs.length) Ç
def pT(CX:t9)(P:f5)(w:fW)(K:a_)(mg:Str->Option c_)(base:Heap)(N:Ñ)(a:Str)(scope:Scope)(f:d_)(c:c_)(A:ig)(outer:É Env)(s:fU)(H:b_)(E:f_):fQ where
 prog:=P
 w:=w
 K:=K
 mg:=mg
 base:=base
 A:=A.deeper (oB a scope ó f c)
 N:=N
 s₀:=s
 H₀:=H
 env:=oB a scope ó f c
 outer:=outer
 stack:=oB a scope ó f c::outer
 ex:=[]
 calm:=true
 fn:=λ_=>true
 pn:=[]
 xe:=λe g=>ö P w (A.deeper (oB a scope ó f c)) (leaving (oB a scope ó f c) e) (λ_ b=>CX outer H s E e b) (λd b=>CX outer H s E d b) g
def Ov{a:Scope}{n:Nat}{x:Str}(h:a.names.lookup x=Á .cell):∃c,(cellsFrom n a.names []).lookup x=Á c:=by
 have q:=PySem.W.cellsFrom_some a.names n [] (È h);exact DL.mp q
def kcU{CX:t9}{P:f5}{w:fW}{K:a_}{I:Str->Option c_}{j:Heap}{N ps:List Str}{d:Str}{scope:Scope}{f:d_}{C:c_}{A:ig}{outer:List Env}{s M:fU}{H:b_}{E:f_}{us:List c_}{vs:List V}
  (S:vZ N ps scope) (Q:A.handled=none) (l:xK P w K I j A outer s H) (X:vs.length=ps.length) (r:gQ vs us)
  (x:InCallC s ó (bindL (oB d scope ó f C).kindOf (ps.zip us) λ_=>Ç) (cellsFrom (s.heap.objs.size+1) scope.names []) (bindC (oB d scope ó f C).kindOf (ps.zip us) λ_=>Ç) M) :
  fJ (pT CX P w K I j N d scope f C A outer s H E) [] (gW N vs) H M:=by
 have R:ps.length<=N.length:=by have:=congrArg tG S.pre;rw[kz] at this;lia
 obtain⟨D,Y,rfl,J⟩:=x.done;have o:∀b:d_,b∉(pT CX P w K I j N d scope f C A outer s H E).ex:=λb z=>Ì (show b∈([]:É d_) from z) Ò;refine⟨⟨l.mod,S.kind,À,À,ï,λy z c D g=>?_,λy m=>?_,λy c _ h=>?_,λ_=>Q,ig.frames_deeper l.frames,Í (Æ À À),λb z=>Ì z (o b),l.bs,l.bsz,λb _ _=>o b,λb z=>Ì z (o b),l.funs,l.frf⟩,
  rfl,l.bare,l_.kept J,Î _ x.toInCall.ns (λi y v D g U=>?_),λy c h=>Æ _ (x.cell y c h),l.hok.fresh ï,λy c h=>?_,λp t=>Ì (show p∈([]:É (d_×Obj)) from t) Ò,l.hok.kept J,?_⟩
 .exact name_of_addr x.apart (vI D) (vI g)
 .have m:scope.names.lookup y=Á .cell\/scope.names.lookup y=Á .free:=m;rcases m with m|m
  .exact Ov m
  .exact Ì À (S.nofree _ (vI m))
 .exact mv (x.above y c (vI h))
 .have G:i<vs.length:=by
   unfold gW at g;by_cases G:i<vs.length
   .exact G
   .rw[tr (by simpa using G)] at g;rw[y9] at g;split at g<;>cases g
  have O:vs[i]?=Á v:=by
   unfold gW at g;rw[uc (by simpa using G),i3] at g;cases e:vs[i]? with
   |none=>rw[e] at g;cases g
   |some a=>rw[e] at g;cases g;rfl
  obtain⟨u,L,T⟩:=r.get O;have t:ps[i]?=Á y:=by
   rw[<-S.pre,DK Ã];exact D
  have B:ps.Nodup:=by rw[<-S.pre];exact S.nd.sublist (DU _ _)
  refine Î u T ?_;rcases S.par y (iS t) with k|k
  .exact È ⟨k,Na B t L k⟩
  .obtain⟨c,e⟩:=Ov (n:=s.heap.objs.size+1) k;refine Í ⟨È k,c,e,?_⟩;have q:=x.cell y c e;rw[M_ B t L (by show scope.names.lookup y≠_;rw[k];decide)] at q;exact q
 .exact l.hok.fresh (mv (x.above y c (vI h)))
 .unfold gW;show _=N.length;rw[ie,fP,uQ];lia
def G5{CX:t9}{P:f5}{w:fW}{K:a_}{G:Str->Option c_}{d:Heap}{k:Nat}{f:d_}{name a:Str}{g:Arguments}{h:List Stmt}{scope:Scope}{Z iP p pm c ct oc:c_}{Y od:Option d_}
  {R:Array (Option c_)} {N ps:List Str} {sp:gO} (lk:K.lookup f=Á ⟨oc,od,.func (pK name a g h scope Z iP p pm Y c ct),R⟩) (L:u0 K c a=true) (S:vZ N ps scope)
  (D:∀vs H Q E,sp vs H Q E->vs.length=ps.length)
  (j:∀(A:ig) (outer:List Env) (s:fU) (H:b_) (vs:List V) (Q:fS) (E:f_),ku k (A.deeper (oB a scope ó f c))->sp vs H Q E->
   ∃t,nq (pT CX P w K G d N a scope f c A outer s H E) h t/\t (ì í Q) (gW N vs) H) :
  oI P w K G d CX (k+1) f (pK name a g h scope Z iP p pm Y c ct) ps sp:=by
 refine Æ D (λA outer s H args us vs Q E M z hb r C=>?_);have hl:=D _ _ _ _ C;have X:K.In s.heap:=z.mod.kin.keeps λb o e=>(z.bs b o e).1;have O:s.heap.NoLimit:=z.mod.nolimit.keeps λb o e=>(z.bs b o e).1;have l:∀y∈ps.zip us,scope.names.lookup y.1=Á .local\/(scope.names.lookup y.1=Á .cell/\((cellsFrom (s.heap.objs.size+1) scope.names []).lookup y.1).isSome=true):=λ⟨n,v⟩ hy=>by
  rcases S.par n (II hy).1 with q|q
  .exact È q
  .exact Í ⟨q,PySem.W.cellsFrom_some _ _ _ (È q)⟩
 refine codeAny_call_function M.depth (X _ _ lk) À S.co S.gen À (PySem.W.codeRec_of X L) (hb _ _ _ _ ?_);refine wpAny_newFunctionEnv_cells S.kind l λenv he s1 x=>?_;subst he;refine⟨O.keeps x.toInCall.keep,codeAny_func ?_⟩;obtain⟨t,ht,hq⟩:=j A outer s H vs Q E (M.deeper _) C;have I:fJ (pT CX P w K G d N a scope f c A outer s H E) [] (gW N vs) H s1:=kcU S M.hd z hl r x;refine og (ht [] s1 (gW N vs) H _ I hq) (λfl U m=>?_) λe U m=>m;have B:∀{i:fO} {H':b_} {v:V} {u:c_},fJ (pT CX P w K G d N a scope f c A outer s H E) [] i H' U->hW v u->Q v H'->Fn outer P w H s Q u U:=
  λ{i H' v u} J T q=>⟨v,H',J.os,J.bare,J.base,J.hok,T,q⟩
 cases fl with
 |ret u=>
  obtain⟨v,i,H',J,T,q⟩:=m;exact B J T q
 |next=>
  obtain⟨i,H',J,q⟩:=m;exact B (v:=V.non) (u:=c_.none) J À q
 |brk=>
  obtain⟨_,_,_,q⟩:=m;exact False.elim q
 |cont=>
  obtain⟨_,_,_,q⟩:=m;exact False.elim q
def iO(r:É V->b_->fS->Prop)(t:kF):gp:=λc H Q=>t c H λb a=>r b a Q
def kfy{X:fQ}{x:Str}{p pos:Pos}{e:Expr}{es:List Expr}{t:kF}{id:String}{r:List V->b_->fS->Prop}(j:mS X (.builtin id) r)(l:ko X x)(m:X.mg x=none)(o:uZ x=Á (.builtin id))(i:ny X (e::es) t)(n:x≠"__name__":=by decide)(b:(x==("__debug__":Str))=false:=by decide)
  (k:gK (e::es) Û=(Ü,þ e)::gK es Û:=by rfl) (c:(lR pos (gK es Û)).any (·.1)=false:=by rfl):gL X (Č x p (e::es) [] pos) (iO r t):=by
 intro a s d H Q I h;refine wI (uw I l m o ?_ n b);exact PyProof.Rows.callWith_builtin1 (gq (i pos a s d H _ I h) λw v ⟨y,f,g,u,q⟩=>j a v d f y w Q g u q) k c
def kdU{X:fQ}{x:Str}{p pos:Pos}{e:Expr}{es:List Expr}{t:kF}{T:String}{r:List V->b_->fS->Prop}(j:mS X (.type T) r)(l:ko X x)(m:X.mg x=none)(o:uZ x=Á (.type T))(i:ny X (e::es) t)(n:x≠"__name__":=by decide)(b:(x==("__debug__":Str))=false:=by decide)
  (k:gK (e::es) Û=(Ü,þ e)::gK es Û:=by rfl) (c:(lR pos (gK es Û)).any (·.1)=false:=by rfl):gL X (Č x p (e::es) [] pos) (iO r t):=by
 intro a s d H Q I h;refine wI (uw I l m o ?_ n b);exact xV (gq (i pos a s d H _ I h) λw v ⟨y,f,g,u,q⟩=>j a v d f y w Q g u q) k c
end L2
namespace HT
open PySem PyProof.Rows
section
open PySem.SeqAt
open PySem.AutoSeq1 (wpAny_loadPart')
open PySem.MeetsSeq PySem.MeetsSeq2 PySem.MeetsSeq3
end
def cat_tup{E:gC}{Q:gC}(v:IsTup s.heap t vs.toArray)(u:IsTup s.heap b ws.toArray)(m:vs≠[])
  (q:ws=[]->Q (Â t) s) (r:ws≠[]->Q (Â ó) (č (s.heap.push (ć "tuple" (.seq (vs++ws).toArray)))))
  (hsz:vs.length+ws.length<=gM):ö prog w A (oz .Add (Â t) (Â b)) Q E s:=by
 obtain⟨⟨cls,j,data,p⟩,g,k,n,l⟩:=id v;obtain⟨⟨i,c,data2,f⟩,a,d,o,hd2⟩:=id u;simp only at k l d hd2;subst k l d hd2;have e:vs.toArray++ws.toArray=(vs++ws).toArray:=Ò
 by_cases h:ws=[]
 .exact concat_meets (Î _ g À) (Î _ a À) noFill_tuple_add seq_tuple_add PySem.F.slot_tuple_add PySem.F.entry_tuple_add (PySem.F.args_tuple_add_2 _ _)
   (tuple_addW1 t b vs.toArray ws.toArray n o j c p f (by simpa using m) (by simp[h])) ⟨g,a,q h⟩
 .refine concat_meets (Î _ g À) (Î _ a À) noFill_tuple_add seq_tuple_add PySem.F.slot_tuple_add PySem.F.entry_tuple_add (PySem.F.args_tuple_add_2 _ _)
   (tuple_addW2 t b vs.toArray ws.toArray n o j c p f (by simpa using m) (by simpa using h) (by rw[iq,iq];exact hsz)) (Î g a ?_)
  rw[e];exact r h
def sIx(n d:Nat):Option Int->Nat
 |none=>d
 |some v=>if v<0 then(v+(n:Int)).toNat else min v.toNat n
def sIx_none(n d:Nat):sIx n d Ç=d:=rfl
def sIx_nat(n d k:Nat):sIx n d (Á (k:Int))=min k n:=by
 show(if(k:Int)<0 then((k:Int)+(n:Int)).toNat else min (k:Int).toNat n)=min k n;rw[ù Ã,sL]
def kke(n d:Nat)(b:d<=n)(o:Option Int):sIx n d o<=n:=by
 cases o with
 |none=>exact b
 |some v=>
  show(if v<0 then(v+(n:Int)).toNat else min v.toNat n)<=n;by_cases a:v<0
  .rw[if_pos a];lia
  .rw[ù a];exact Nat.min_le_right _ _
def Pp(v:Int)(n d:Nat):(if v<0 then max (v+(n:Int)) 0 else min v (n:Int))=((sIx n d (Á v):Nat):Int):=by
 show(if v<0 then max (v+(n:Int)) 0 else min v (n:Int))=(((if v<0 then(v+(n:Int)).toNat else min v.toNat n):Nat):Int);by_cases a:v<0
 .simp only[if_pos a];lia
 .simp only[ù a];lia
def kbd(b a:Option Int)(n:Nat):Builtin.Slice.sliceAdjust b a 1 (n:Int)=(((sIx n 0 b:Nat):Int),((sIx n n a:Nat):Int)):=by
 have c:¬((1:Int)<0):=Ã
 unfold Builtin.Slice.sliceAdjust;simp only[c,if_false];refine Prod.ext ?_ ?_
 .cases b with
  |none=>rfl
  |some v=>exact Pp v n 0
 .cases a with
  |none=>rfl
  |some v=>exact Pp v n n
def kbC(i j:Nat):Builtin.Slice.slicePlaces (i:Int) (j:Int) 1=j-i:=by
 unfold Builtin.Slice.slicePlaces;have a:(1:Int)>0:=Ã
 simp only[a,if_true,Int.ediv_one];split<;>lia
def MV{E:gC}(p:vm v o)(h:Q o s):ö prog w A (Builtin.Slice.slicePartIndex v) Q E s:=by
 cases p with
 |none=>exact slicePart_none h
 |int i t=>exact slicePart_int h
def Tn{prog:f5}{w:fW}{A:ig}{E:gC}{s:fU}{sl:d_}{e f:c_}{a c:Option Int}{n:Nat}{Q:Int×Int×Nat->fU->Prop}(i:s.heap.IsSliceOf sl e f .none)(pl:vm e a)(j:vm f c)
  (h:Q (((sIx n 0 a:Nat):Int),1,sIx n n c-sIx n 0 a) s):ö prog w A (Builtin.Slice.sliceApplied (Â sl) (pure (n:Int))) Q E s:=by
 obtain⟨k,d,g,b⟩:=id i;unfold Builtin.Slice.sliceApplied Builtin.Slice.sliceFields;refine fN (fN (tF d b (x:=e) À (fN (tF d b (x:=f) À (fN (tF d b (x:=.none) À (gH ?_)))))));refine fN (slicePart_none ?_);show gN _ _ (if((1:Int)==0)=true then _ else _) _ _ s;rw[ù Ï];refine fN (MV pl (fN (MV j (fN (gH ?_)))));show gN _ _ (match Builtin.Slice.sliceAdjust a c 1 (n:Int) with|(a,c)=>pure (a,(1:Int),Builtin.Slice.slicePlaces a c 1)) _ _ s
 rw[kbd a c n];show gN _ _ (pure (((sIx n 0 a:Nat):Int),(1:Int),Builtin.Slice.slicePlaces ((sIx n 0 a:Nat):Int) ((sIx n n c:Nat):Int) 1)) _ _ s;rw[kbC];exact gH h
def kfH(xs:Array c_)(i k:Nat):((lH k).filterMap λ(m:Nat)=>xs[((i:Int)+(m:Int)*1).toNat]?).toArray=((xs.toList.drop i).take k).toArray:=by
 have e:(λ(m:Nat)=>xs[((i:Int)+(m:Int)*1).toNat]?)=λm=>xs[i+m]?:=by
  funext m;have:((i:Int)+(m:Int)*1).toNat=i+m:=Ã
  rw[this]
 rw[e];have:=pick_run xs i k;rw[List.filterMap_map] at this;have a:((λx=>xs[x]?) ∘ λx=>i+x)=λm=>xs[i+m]?:=rfl;rw[a] at this;rw[this]
def getItem_tuple_cut{E:gC}{Q:gC}(d:IsTup s.heap t items)(j:s.heap.IsSliceOf sl k l .none)(pl:vm k b)(r:vm l c)
  (o:¬(sIx items.size 0 b=0/\sIx items.size items.size c=items.size))
  (h:Q (Â ó) (č (s.heap.push (ć "tuple" (.seq ((items.toList.drop (sIx items.size 0 b)).take (sIx items.size items.size c-sIx items.size 0 b)).toArray)))))
  (hsz:items.size<=gM):ö prog w A (vg (Â t) (Â sl)) Q E s:=by
 have a:sizeOk (.seq ((items.toList.drop (sIx items.size 0 b)).take (sIx items.size items.size c-sIx items.size 0 b)).toArray):=by
  show((items.toList.drop (sIx items.size 0 b)).take (sIx items.size items.size c-sIx items.size 0 b)).toArray.size<=gM;rw[iq,kz,tu,lO];lia
 have u:sIx items.size items.size c<=items.size:=kke _ _ ï c;obtain⟨p,i,f,n⟩:=id j;have e:s.TypeIs (Â sl) "slice":=Î p i f;unfold vg
 try with_reducible refine oh ?_
 first|refine fN (gH ?_)|skip
 refine fN (wpAny_sequenceKey d.typeIs Ï ?_);refine fN (y1 (name:=Str.ofString "__getitem__") d.typeIs y_
  (x8 y_ d.typeIs entry_tuple_getitem ?_ (args_tuple_getitem _ _)))
 show gN _ _ (Builtin.Tuple.tupleItemsOf (Â t) >>= _) _ _ s;refine fN (tupleItemsOf_ d ?_);refine fN (An e ?_);rw[if_pos Ï];refine fN (Tn j pl r ?_);have g:¬((((sIx items.size 0 b:Nat):Int)==0&&(1:Int)==1&&(sIx items.size items.size c-sIx items.size 0 b)==items.size)=true):=by
  intro q;rw[Bool.and_eq_true,Bool.and_eq_true] at q;have v:((sIx items.size 0 b:Nat):Int)=0:=eq_of_beq q.1.1;have x:sIx items.size items.size c-sIx items.size 0 b=items.size:=eq_of_beq q.2;exact o (Æ Ã Ã)
 show gN _ _ (if(((sIx items.size 0 b:Nat):Int)==0&&(1:Int)==1&&(sIx items.size items.size c-sIx items.size 0 b)==items.size)=true then _ else _) _ _ s;rw[ù g,kfH]
 first
  |exact fN (m:=Builtin.Tuple.tupleExact _) (uW (gH (Ú (gH h))) a)
  |exact fN (m:=Builtin.Tuple.tupleExact _) (uW (fN (gH (gH (Ú (gH h))))) a)
  |exact fN (fN (m:=Builtin.Tuple.tupleExact _) (uW (gH (gH (Ú (gH h)))) a))
  |exact fN (fN (m:=Builtin.Tuple.tupleExact _) (uW (gH (Ú (gH h))) a))
end HT
namespace L2
open PySem PySem.Spec PyProof.Rows
abbrev sF:=fO->b_->(Option Int->b_->Prop)->Prop
def A_(X:fQ)(e:Option Expr)(t:sF):Prop:=
 ∀(a:List (d_×Obj)) (s:fU) (b:fO) (H:b_) (Q:Option Int->b_->Prop),fJ X a b H s->t b H Q->
  ö ë X.w X.A (evalPart e Û) (λu d=>∃o c,fJ X a b c d/\vm u o/\Q o c) X.xe s
def kH:sF:=λ_ H Q=>Q Ç H
def kB(t:gp):sF:=λb H Q=>t b H λx a=>∃i,x=Ë i/\Q (Á i) a
def khU:A_ X Ç kH:=by
 intro a s b H Q I h;rw[evalPart_none];exact gH ⟨Ç,H,I,.none,h⟩
def khV(h:gL X e b):A_ X (Á e) (kB b):=by
 intro a s l H Q I f;rw[evalPart_some];refine gq (h a s l H _ I f) λu m k=>?_;obtain⟨x,c,d,j,g⟩:=k;obtain⟨i,rfl,q⟩:=g;obtain⟨t,rfl⟩:=j;exact⟨Á i,c,d,.int i t,q⟩
def sC(X:fQ)(r:V->Option Int->Option Int->b_->fS->Prop):Prop:=
 ∀(a:List (d_×Obj)) (s:fU) (g:fO) (H:b_) (x:V) (v e f:c_) (c b:Option Int) (d:d_) (Q:fS),fJ X a g H s->hW x v->s.heap.IsSliceOf d e f .none->vm e c->vm f b->r x c b H Q->
  ∃T h,ym (.type T) "__getitem__"=pure (Á (.builtin h))/\s.TypeIs v T/\ö ë X.w X.A (vg v (Â d)) (lG X a g Q) X.xe s
def sC.or(h:sC X r)(h':sC X g):sC X (λx c b H Q=>r x c b H Q\/g x c b H Q):=by
 intro a s m H x v k l c b j Q I i d e f q;rcases q with q|q
 .exact h a s m H x v k l c b j Q I i d e f q
 .exact h' a s m H x v k l c b j Q I i d e f q
def kE(r:V->Option Int->Option Int->b_->fS->Prop)(e:gp)(g f:sF):gp:=λa H Q=>e a H λx b=>g a b λl c=>f a c λu d=>r x l u d Q
def kfE(M:sC X r)(J:gL X e o)(L:A_ X j t)(P:A_ X i p):gL X (.Subscript e (.Slice j i Ç n) pos) (kE r o t p):=by
 intro a s d H Q I h;refine Subscript_ (gq (J a s d H _ I h) λv s1 k=>?_);obtain⟨x,y,B,Z,U⟩:=k;refine wpAny_Slice (gq (L a s1 d y _ B U) λf s2 ⟨l,z,C,R,W⟩=>gq (P a s2 d z _ C W) λg c k=>?_);obtain⟨u,m,D,S,Y⟩:=k;rw[evalPart_none];refine gH ?_;have E:fJ X a d m {c with heap:=c.heap.push (ć "slice" (.fields #[f,g,.none]))}:=D.kept (t':=c.toks) λb ob q=>i5 _ q;obtain⟨T,id,G,O,K⟩:=M a {c with heap:=c.heap.push (ć "slice" (.fields #[f,g,.none]))} d m x v f g l u c.heap.objs.size Q E Z (Heap.IsSliceOf.new ..) R S Y;show ö ë X.w X.A (subscriptTail e (.Slice j i Ç n) v (Â c.heap.objs.size)) (lG X a d Q) X.xe {c with heap:=c.heap.push (ć "slice" (.fields #[f,g,.none]))};exact tail_any (ops:=[Â c.heap.objs.size,v]) O G K (by with_unfolding_all rfl)
def nX(xs:É V)(a b:Option Int):É V:=(xs.drop (HT.sIx xs.length 0 a)).take (HT.sIx xs.length xs.length b-HT.sIx xs.length 0 a)
def Lk(xs:É V)(b a:Option Int):Ô (nX xs b a)<=xs.length:=by
 unfold nX;rw[kz,tu];lia
def Vn(K:a_):V->Option Int->Option Int->b_->fS->Prop:=λx d c H Q=>∃a b,x=Â a/\fR K H a b/\
 ¬(HT.sIx b.length 0 d=0/\HT.sIx b.length b.length c=b.length)/\∀p,H p=none->Q (Â p) (Ā H p (nX b d c))
def kjI:sC X (Vn X.K):=by
 intro k s C H x v z B e f y Q I u l p t h;obtain⟨a,d,rfl,n,m,q⟩:=h;cases u;obtain⟨g,r,i,j⟩:=I.tuple n;have c:g.toArray.size=d.length:=by rw[iq];exact r.length.symm
 refine⟨"tuple",_,y_.lookup,i.typeIs,?_⟩;refine HT.getItem_tuple_cut i l p t (by rw[c];exact m) ?_ (by rw[c];exact j);rw[c];refine⟨Â ó,_,I.laid (t':=s.toks) (o:=.tup (nX d e f)) (λb w q=>i5 _ q) ï ?_,À,q _ (I.hok.fresh ï)⟩;exact⟨mC (Lk d e f) j,_,(r.drop (HT.sIx d.length 0 e)).take (HT.sIx d.length d.length f-HT.sIx d.length 0 e),vj.new _ _⟩
def UL(K:a_):i6:=λx y H Q=>∃a b d c,x=Â a/\y=Â b/\fR K H a d/\fR K H b c/\d≠[]/\d.length+c.length<=gM/\
 (c=[]->Q (Â a) H)/\(c≠[]->∀p,H p=none->Q (Â p) (Ā H p (d++c)))
def gQ.nil_iff(r:gQ xs us):us=[]↔xs=[]:=by
 cases r with
 |_=>simp
def kgX:iB X (oz .Add) (UL X.K):=by
 intro g s G H x y v u Q I t B h;obtain⟨a,b,C,D,rfl,rfl,i,j,k,e,p,r⟩:=h;cases t;cases B;obtain⟨l,d,m,_⟩:=I.tuple i;obtain⟨f,c,n,_⟩:=I.tuple j;refine HT.cat_tup m n (λz=>k (d.nil_iff.mp z)) (λz=>Õ (Â a) H I (p (c.nil_iff.mp z))) (λz=>?_) (by rw[<-d.length,<-c.length];exact e);refine⟨Â ó,_,I.laid (t':=s.toks) (o:=.tup (C++D)) (λb E q=>i5 _ q) ï ?_,À,r (λw=>z (c.nil_iff.mpr w)) _ (I.hok.fresh ï)⟩;exact⟨by rw[ie];exact e,_,d.append c,vj.new _ _⟩
def uO(n:Nat)(i:Int):Option Nat:=if 0<=i then(if i<n then Á i.toNat else none) else if -(n:Int)<=i then Á (i+n).toNat else none
def uN{a:Type}(xs:É a)(i:Int):Option a:=(uO xs.length i).bind λj=>xs[j]?
def Re(h:uO n i=Á j):seqIndex? i n=Á j/\j<n/\-(n:Int)<=i/\i<n:=by
 unfold uO at h;by_cases b:0<=i
 .rw[if_pos b] at h;by_cases a:i<n
  .rw[if_pos a] at h;have e:i.toNat=j:=ď h;exact⟨by rw[seqIndex_of b a,e],Ã,Ã,a⟩
  .rw[ù a] at h;cases h
 .rw[ù b] at h;by_cases a:-(n:Int)<=i
  .rw[if_pos a] at h;have e:(i+n).toNat=j:=ď h;exact⟨by rw[seqIndex_neg Ã a,e],Ã,a,Ã⟩
  .rw[ù a] at h;cases h
def Gq{a:Type}{xs:List a}{v:a}(h:uN xs i=Á v):∃j,seqIndex? i xs.length=Á j/\xs[j]?=Á v/\j<xs.length/\-(xs.length:Int)<=i/\i<xs.length:=by
 unfold uN at h;cases e:uO xs.length i with
 |none=>rw[e] at h;cases h
 |some j=>
  rw[e] at h;obtain⟨b,c,d,f⟩:=Re e;exact⟨j,b,h,c,d,f⟩
def Gp(b:Expr):Prop:=∀o i,subscripted b Ü o i=operate [o,i] (vg o i)
def uL(X:fQ)(r:i6):Prop:=
 ∀(c a:Expr) (b:List (d_×Obj)) (s:fU) (d:fO) (H:b_) (x y:V) (v u:c_) (Q:fS),fJ X b d H s->hW x v->hW y u->r x y H Q->
  subscripted a Ü v u=operate [v,u] (vg v u)->ö ë X.w X.A (subscriptTail c a v u) (lG X b d Q) X.xe s
def xF(X:fQ)(id:String)(r:V->É V->b_->fS->Prop):Prop:=
 ∀(a:List (d_×Obj)) (s:fU) (d:fO) (H:b_) (x:V) (c:List V) (v:c_) (b:List c_) (Q:fS),fJ X a d H s->hW x v->gQ c b->r x c H Q->
  ö ë X.w X.A (call (.builtin id) (v::b)) (lG X a d Q) X.xe s
def uL.or(h:uL X r)(h':uL X e):uL X (λx y H Q=>r x y H Q\/e x y H Q):=by
 intro b a c s i H x y v u Q I f g q d;rcases q with q|q
 .exact h b a c s i H x y v u Q I f g q d
 .exact h' b a c s i H x y v u Q I f g q d
def kkE(k:uL X r)(i:gL X a d)(j:gL X b e)(l:Gp b):gL X (.Subscript a b pos) (fV r d e):=by
 intro c s p H Q I h;exact Subscript_ (KA i j I h λv u o x y f g m n q=>k a b c o p f x y v u Q g m n q (l _ _))
def Vh(K:a_):i6:=λx y H Q=>∃p a i v,x=Â p/\y=Ë i/\hH K H p a/\uN a i=Á v/\Q v H
def Vj(K:a_):i6:=λx y H Q=>∃p a i v,x=Â p/\y=Ë i/\fR K H p a/\uN a i=Á v/\Q v H
def Vi:i6:=λx y H Q=>∃z i c,x=Ä z/\y=Ë i/\z.length<=gM/\uN z.cps.toList i=Á c/\Q (Ä ⟨#[c]⟩) H
def kgD:uL X (Vh X.K):=by
 intro l k a s B H x y v u Q I M O h o;obtain⟨p,U,i,z,rfl,rfl,L,G,q⟩:=h;cases M;obtain⟨t,rfl⟩:=O;obtain⟨e,r,f,T⟩:=I.list L;obtain⟨j,c,C,R,D,E⟩:=Gq G;obtain⟨w,m,g⟩:=r.get C;have J:=r.length;have S:=yF;have b:lG X a B Q w s:=⟨z,H,I,g,q⟩;by_cases n:0<=i
 .have d:i.toNat=j:=by
   rw[seqIndex_of n E] at c;exact ď c
  exact item_listR f.isList n Ã (by rw[d];simpa using m) b o
 .have d:(i+(e.toArray.size:Int)).toNat=j:=by
   rw[seqIndex_neg Ã D] at c;rw[iq,<-J];exact ď c
  exact subscriptTail_builtinR (x:=w) f.isList.typeIs slot_list_getitem.lookup
   (wpAny_getItem_list_neg (Q:=λr P=>r=w/\lG X a B Q r P) f.isList Ã (by rw[iq]<;>lia) Ã (by rw[d];simpa using m) (Æ À b)) o
def kjv:uL X (Vj X.K):=by
 intro e d a s g H x y v u Q I E G h C;obtain⟨p,S,i,z,rfl,rfl,B,n,q⟩:=h;cases E;obtain⟨t,rfl⟩:=G;obtain⟨D,r,f,R⟩:=I.tuple B;obtain⟨j,l,m,L,M,O⟩:=Gq n;obtain⟨w,k,c⟩:=r.get m;have o:=r.length;have P:=yF;have b:lG X a g Q w s:=⟨z,H,I,c,q⟩;exact subscriptTail_builtinR (x:=w) f.typeIs slot_tuple_getitem.lookup
  (getItem_tuple (j:=j) (Q:=λr J=>r=w/\lG X a g Q r J) f Ã Ã (by rw[iq,<-o];exact l) (by simpa using k) (Æ À b)) C
def kju:uL X Vi:=by
 intro b a e s G H x y v u Q I r w h p;obtain⟨z,i,c,rfl,rfl,D,n,q⟩:=h;obtain⟨t,rfl⟩:=r;obtain⟨E,rfl⟩:=w;obtain⟨j,d,k,B,l,m⟩:=Gq n;have o:z.cps.toList.length=z.length:=by simp[Str.length]
 rw[o] at d l m;have C:=yF;exact tail_any (typeIs_str s z t) slot_str_getitem.lookup (getItem_str (c:=c) (by
  have f:æ (i < -(2 ^ 63:Int))=false:=decide_eq_false Ã;have g:æ (i >= 2 ^ 63)=false:=decide_eq_false Ã;rw[f,g,Bool.or_false]) (by rw[d];simpa using k) ⟨Ä ⟨#[c]⟩,H,I.tok _,Æ _ À,q⟩) p
def sG(K:a_):i6:=λx y H Q=>Vh K x y H Q\/Vj K x y H Q\/Vi x y H Q
def kjt:uL X (sG X.K):=kgD.or (kjv.or kju)
def kbZ(a:É c_)(n j:Nat)(u:c_):Obj.mapSeq (·.setIfInBounds j u) (ć "list" (.seq a.toArray n))=ć "list" (.seq (a.set j u).toArray n):=by
 simp[Obj.mapSeq]
def fJ.lst{c:fO}(I:fJ X b c H s)(h:H p=Ð xs) :
  ∃(a:List c_) (n:Nat),gQ xs a/\Ć p=Á (ć "list" (.seq a.toArray n))/\xs.length<=gM:=by
 obtain⟨z,a,n,r,e⟩:=I.hok p _ h;exact⟨a,n,r,e,z⟩
def fJ.lstUpd{X:fQ}{a:List (d_×Obj)}{i:fO}{H:b_}{s:fU}{p:d_}{xs ys:List V}{c its':List c_}{n d:Nat}{f:Obj->Obj}(I:fJ X a i H s)(h:H p=Ð xs)
  (k:Ć p=Á (ć "list" (.seq c.toArray n))) (g:f (ć "list" (.seq c.toArray n))=ć "list" (.seq its'.toArray d)) (r:gQ ys its') (hz:ys.length<=gM) (t:Nat) :
  fJ X a i (Ý H p ys) (Ď (s.heap.update p f) t):=by
 have e:(s.heap.update p f).get? p=Á (ć "list" (.seq its'.toArray d)):=by
  rw[uS f k (by rw[g]<;>rfl),g]
 refine I.write (x:=p) (e:=p) (by rw[h];trivial) (È À) (λb u j q=>(rf _ _ (Ne.symm j)).trans q) (Æ _ e) ?_;exact⟨hz,its',d,r,e⟩
def sj:V->V->V->b_->(b_->Prop)->Prop:=λo i v H Q=>∃p a k j,o=Â p/\i=Ë k/\H p=Ð a/\uO a.length k=Á j/\Q (Ý H p (a.set j v))
def uj:DA X sj:=by
 intro b s G H o i v M L u Q I C B D h;obtain⟨p,E,k,j,rfl,rfl,x,y,q⟩:=h;cases C;obtain⟨t,rfl⟩:=B;obtain⟨a,n,r,f,z⟩:=I.lst x;obtain⟨c,J,m,w⟩:=Re y;have e:=r.length;have K:=yF;have g:fJ X b G (Ý H p (E.set j v)) (č (s.heap.update p (Obj.mapSeq (·.setIfInBounds j u)))):=
  I.lstUpd x f (kbZ a n j u) (r.set D j) (by rw[uV];exact z) s.toks
 by_cases l:0<=k
 .have d:k.toNat=j:=by
   rw[seqIndex_of l w] at c;exact ď c
  exact PySem.W.ki_setAt f l Ã (by rw[iq,<-e];exact w) (by rw[d];exact Î _ g q)
 .have d:(k+(a.toArray.size:Int)).toNat=j:=by
   rw[seqIndex_neg Ã m] at c;rw[iq,<-e];exact ď c
  exact PySem.W.ki_setBack f Ã (by rw[iq,<-e];exact m) Ã (by rw[d];exact Î _ g q)
def Yd(b a:Option Int)(n:Nat):(yj b a Ç n).1=((HT.sIx n 0 b:Nat):Int)/\(yj b a Ç n).2.1=((HT.sIx n n a:Nat):Int)/\(yj b a Ç n).2.2=1:=by
 refine Î ?_ ?_ À
 .cases b with
  |none=>simp[yj,HT.sIx]
  |some i=>
   simp only[yj,HT.sIx,IG,show(1:Int)>0 by decide,if_true];by_cases h:i<0
   .simp only[h,if_true]<;>lia
   .simp only[h,if_false]<;>lia
 .cases a with
  |none=>simp[yj,HT.sIx]
  |some i=>
   simp only[yj,HT.sIx,IG,show(1:Int)>0 by decide,if_true];by_cases h:i<0
   .simp only[h,if_true]<;>lia
   .simp only[h,if_false]<;>lia
def Xb(a:É c_)(b c:Option Int):slicePick a.toArray b c Ç=((a.drop (HT.sIx a.length 0 b)).take (HT.sIx a.length a.length c-HT.sIx a.length 0 b)).toArray:=by
 obtain⟨d,e,f⟩:=Yd b c a.toArray.size;unfold slicePick;rw[d,e,f];simp only[sliceRange_one,pick_run,iq]<;>rfl
def Vl(K:a_):V->Option Int->Option Int->b_->fS->Prop:=λx d c H Q=>∃a b,x=Â a/\hH K H a b/\∀p,H p=none->Q (Â p) (Ý H p (nX b d c))
def khl:sC X (Vl X.K):=by
 intro i s B H x v y z e f w Q I t j n p h;obtain⟨a,c,rfl,k,q⟩:=h;cases t;obtain⟨m,r,g,l⟩:=I.list k;have d:=r.length;refine⟨"list",_,slot_list_getitem.lookup,g.isList.typeIs,?_⟩;refine wpAny_getItem_list_slice g.isList j n p .none Ò ?_ (by rw[iq]<;>lia);rw[Xb,<-d];refine⟨Â ó,_,I.laid (t':=s.toks) (o:=.lst (nX c e f)) (λb u q=>i5 _ q) ï ?_,À,q _ (I.hok.fresh ï)⟩;exact⟨mC (Lk c e f) l,_,0,(r.drop (HT.sIx c.length 0 e)).take (HT.sIx c.length c.length f-HT.sIx c.length 0 e),mr _ À⟩
def oF:V->Bool
 |.non=>true
 |.bl _=>true
 |.int _=>true
 |.str _=>true
 |_=>false
def ow:V->V->Bool
 |.non,.non=>true
 |.bl a,.bl b=>a==b
 |.bl a,.int b=>(if a then 1 else 0)==b
 |.int a,.bl b=>a==(if b then 1 else 0)
 |.int a,.int b=>a==b
 |.str a,.str b=>a==b
 |_,_=>false
def C6(f:hW y u)(c:hW x v)(g:oF y=true)(e:oF x=true):SeqAt.EqAt A s u v (ow y x):=by
 cases y with
 |non=>
  cases f;cases x with
  |non=>cases c;exact SeqAt.EqAt.same _
  |bl b=>cases c;exact SeqAt.EqAt.none_bool b
  |int b=>obtain⟨t,rfl⟩:=c;exact SeqAt.EqAt.none_int b t
  |str b=>obtain⟨t,rfl⟩:=c;exact SeqAt.EqAt.none_str b t
  |_=>exact Ì (show false=true from e) Bool.false_ne_true
 |bl a=>
  cases f;cases x with
  |non=>cases c;exact SeqAt.EqAt.bool_none a
  |bl b=>cases c;exact SeqAt.EqAt.bool_bool a b
  |int b=>obtain⟨t,rfl⟩:=c;exact SeqAt.EqAt.bool_int a b t
  |str b=>obtain⟨t,rfl⟩:=c;exact SeqAt.EqAt.bool_str a b t
  |_=>exact Ì (show false=true from e) Bool.false_ne_true
 |int a=>
  obtain⟨d,rfl⟩:=f;cases x with
  |non=>cases c;exact SeqAt.EqAt.int_none a d
  |bl b=>cases c;exact SeqAt.EqAt.int_bool a d b
  |int b=>obtain⟨t,rfl⟩:=c;exact SeqAt.EqAt.int_int a d b t
  |str b=>obtain⟨t,rfl⟩:=c;exact SeqAt.EqAt.int_str a d b t
  |_=>exact Ì (show false=true from e) Bool.false_ne_true
 |str a=>
  obtain⟨d,rfl⟩:=f;cases x with
  |non=>cases c;exact SeqAt.EqAt.str_none a d
  |bl b=>cases c;exact SeqAt.EqAt.str_bool a d b
  |int b=>obtain⟨t,rfl⟩:=c;exact SeqAt.EqAt.str_int a d b t
  |str b=>obtain⟨t,rfl⟩:=c;exact SeqAt.EqAt.str_str a d b t
  |_=>exact Ì (show false=true from e) Bool.false_ne_true
 |_=>exact Ì (show false=true from g) Bool.false_ne_true
def pY(x:V)(u:c_):Bool:=match u with
 |.none=>ow .non x
 |.bool b=>ow (.bl b) x
 |.int i _=>ow (Ë i) x
 |.str z _=>ow (Ä z) x
 |_=>Ü
def RU(r:hW y u)(f:oF y=true):pY x u=ow y x:=by
 cases y with
 |non=>cases r;rfl
 |bl b=>cases r;rfl
 |int i=>obtain⟨t,rfl⟩:=r;rfl
 |str z=>obtain⟨t,rfl⟩:=r;rfl
 |_=>exact Ì (show false=true from f) Bool.false_ne_true
theorem AI:∀{xs:List V} {us:List c_},gQ xs us->xs.all oF=true->us.any (pY x)=xs.any λy=>ow y x
 |_,_,.nil,_=>rfl
 |y::xs,u::us,.cons r t,f=>by
  rw[List.all_cons,Bool.and_eq_true] at f;rw[BO,BO,RU r f.1,AI t f.2]
theorem Ci(c:hW x v)(b:oF x=true):∀{xs:List V} {us:List c_},gQ xs us->xs.all oF=true->∀u∈us,SeqAt.EqAt A s u v (pY x u)
 |_,_,.nil,_=>λu a=>by cases a
 |y::xs,u::us,.cons r t,f=>λd a=>by
  rw[List.all_cons,Bool.and_eq_true] at f;rcases g7.mp a with rfl|a
  .rw[RU r f.1];exact C6 r c f.1 b
  .exact Ci c b t f.2 d a
def hU(x:V)(xs:É V):Bool:=xs.any λy=>ow y x
def mj(K:a_)(b:Bool):i6:=λx y H Q=>∃p a,y=Â p/\(hH K H p a\/fR K H p a)/\oF x=true/\a.all oF=true/\Q (.bl (if b then ! hU x a else hU x a)) H
def pO:iB X (kj .In) (mj X.K Ü):=by
 intro g s m H x y v u Q I i k h;obtain⟨p,l,rfl,b,f,c,q⟩:=h;cases k;rcases b with b|b
 .obtain⟨a,r,e,j⟩:=I.list b;refine SeqAt.in_listAt (pY x) e.isList (λw d=>Ci i f r c w (by simpa using d)) (Õ (.bl _) H I ?_);rw[show a.toArray.any (pY x)=a.any (pY x) by simp,AI r c];exact q
 .obtain⟨a,r,e,j⟩:=I.tuple b;refine SeqAt.in_tupleAt (pY x) e (λw d=>Ci i f r c w (by simpa using d)) (Õ (.bl _) H I ?_);rw[show a.toArray.any (pY x)=a.any (pY x) by simp,AI r c];exact q
def wM:iB X (kj .NotIn) (mj X.K true):=by
 intro g s m H x y v u Q I i k h;obtain⟨p,l,rfl,b,f,c,q⟩:=h;cases k;rcases b with b|b
 .obtain⟨a,r,e,j⟩:=I.list b;refine SeqAt.notIn_listAt (pY x) e.isList (λw d=>Ci i f r c w (by simpa using d)) (Õ (.bl _) H I ?_);rw[show a.toArray.any (pY x)=a.any (pY x) by simp,AI r c];exact q
 .obtain⟨a,r,e,j⟩:=I.tuple b;refine SeqAt.notIn_tupleAt (pY x) e (λw d=>Ci i f r c w (by simpa using d)) (Õ (.bl _) H I ?_);rw[show a.toArray.any (pY x)=a.any (pY x) by simp,AI r c];exact q
def wL:mS X (.type "list") (λxs H Q=>∃p ys,xs=[Â p]/\(hH X.K H p ys\/fR X.K H p ys)/\∀l,H l=none->Q (Â l) (Ý H l ys)):=by
 intro t s D H xs E Q I r h;obtain⟨p,ys,rfl,j,q⟩:=h;obtain⟨u,rfl,C⟩:=oU r;cases C;have g:∀(a:List c_),gQ ys a->ys.length<=gM->∀(c:Heap) (d:Nat),(∀b B,Ć b=Á B->c.get? b=Á B)->
   c.get? ó=Á {cls:=.type "list",dict:=Ç,data:=.seq a.toArray d,slots:=#[]}->lG X t D Q (Â ó) (č c):=λa f k c d m e=>
  ⟨Â ó,_,I.laid (t':=s.toks) m ï (show kY ë X.w _ c _ (.lst ys) from⟨k,a,d,f,e⟩),À,q _ (I.hok.fresh ï)⟩
 rcases j with j|j
 .obtain⟨a,f,z,k⟩:=I.list j;have i:=f.length;obtain⟨o,y,v,n,x⟩:=z.isList;exact call_list_seq p (È À) y v x (λc d m e=>g a f k c d m e) (by simp only[iq]<;>lia)
 .obtain⟨a,f,z,k⟩:=I.tuple j;have i:=f.length;obtain⟨o,y,v,n,x⟩:=z;exact call_list_seq p (Í À) y v x (λc d m e=>g a f k c d m e) (by simp only[iq]<;>lia)
def ri:mS X (.type "tuple") (λxs H Q=>∃p ys,xs=[Â p]/\((hH X.K H p ys/\∀l,H l=none->Q (Â l) (Ā H l ys))\/(fR X.K H p ys/\Q (Â p) H))):=by
 intro a s n H xs y Q I r h;obtain⟨p,ys,rfl,h⟩:=h;obtain⟨u,rfl,x⟩:=oU r;cases x;rcases h with⟨f,q⟩|⟨f,q⟩
 .obtain⟨c,i,g,m⟩:=I.list f;have k:=i.length;refine call_tuple_list g.isList (λd v=>?_) (by simp only[iq]<;>lia);have j:fJ X a n H (č d):=I.kept (t':=s.toks) v;have t:fJ X a n (Ā H d.objs.size ys) (č (d.push (ć "tuple" (.seq c.toArray)))):=
   j.laid (t':=s.toks) (λb o e=>i5 _ e) ï (show kY ë X.w _ _ _ (.tup ys) from⟨m,c,i,vj.new _ _⟩)
  exact Õ (Â d.objs.size) _ t (q _ (j.hok.fresh ï))
 .obtain⟨c,i,g,m⟩:=I.tuple f;exact call_tuple_same g (Õ (Â p) H I q)
def Ib(K:a_)(T:String)(x:V)(H:b_):Prop:=match x with
 |.str _=>T="str"
 |.int _=>T="int"
 |.ref p=>(T="list"/\∃b,hH K H p b)\/(T="tuple"/\∃o,K.lookup p=Á o/\o.cls=.type "tuple"/\o.dict=none)\/
   (T="dict"/\((∃a,H p=Á (.dK a))\/∃a,H p=Á (.dT a)))\/(T="set"/\∃S n,H p=Á (.set S n))
 |_=>False
def C9{u:fO}(I:fJ X d u H s)(r:hW x v)(f:Ib X.K T x H) :
  s.TypeIs v T/\∀a,v=Â a->∃ob,Ć a=Á ob/\ob.dict=none:=by
 cases x with
 |str z=>
  obtain⟨t,rfl⟩:=r;cases(show T="str" from f);exact⟨typeIs_str s z t,λ_ e=>nomatch e⟩
 |int i=>
  obtain⟨t,rfl⟩:=r;cases(show T="int" from f);exact⟨typeIs_int s i t,λ_ e=>nomatch e⟩
 |ref p=>
  cases r;rcases f with⟨rfl,w,m⟩|⟨rfl,o,b,l,h⟩|⟨rfl,b⟩|⟨rfl,S,n,b⟩
  .obtain⟨q,_,k,_⟩:=I.list m;refine Æ k.isList.typeIs (λa e=>?_);cases e;obtain⟨o,n,e,c,h,_⟩:=k;exact Î o e h
  .refine Æ ⟨o,I.kIn p o b,l⟩ (λa e=>?_);cases e;exact Î o (I.kIn _ o b) h
  .have z:∃o,Ć p=Á o/\o.ExactDict:=by
    rcases b with⟨j,b⟩|⟨j,b⟩
    .obtain⟨_,_,_,_,o,_,_,e,ex,_⟩:=I.hok p _ b;exact Î o e ex
    .obtain⟨_,_,_,_,o,_,_,e,ex,_⟩:=I.hok p _ b;exact Î o e ex
   obtain⟨o,e,ex⟩:=z;refine Æ (Î o e ex.1) (λa g=>?_);cases g;exact Î o e ex.2.1
  .obtain⟨o,_,_,_,e,ex,_⟩:=I.hok p _ b;refine Æ (Î o e ex.1) (λa g=>?_);cases g;exact Î o e ex.2.1
 |_=>exact False.elim f
def ET(K:a_)(T:String)(r:V->É V->b_->fS->Prop)(b:gp):gp:=λc H Q=>b c H λx a=>Ib K T x a/\r x [] a Q
def iJ(K:a_)(T:String)(r:V->É V->b_->fS->Prop)(d:gp)(t:kF):gp:=λb H Q=>d b H λx a=>Ib K T x a/\t b a λe c=>r x e c Q
def kjb{X:fQ}{o:Expr}{k:gp}{name:Str}{a b:Pos}{T id:String}{r:V->List V->b_->fS->Prop}(u:ER T)(f:Slot T name id)(g:typeOf (.builtin id)=pure (.type "method_descriptor"))(q:xF X id r)(t:gL X o k)
  (d:tx o name Û (þ o)=þ o:=by rfl) (e:(a.endLine==b.line)=true:=by rfl):gL X (.Call (.Attribute o name a) [] [] b) (ET X.K T r k):=by
 intro c s l H Q I h;refine wpAny_Call_method0_late d e (gq (t c s l H _ I h) λv y B=>?_);obtain⟨x,m,i,j,z,w⟩:=B;obtain⟨n,p⟩:=C9 i j z;exact⟨T,id,u,f,g,n,p,Calls.callWith_builtin À (PySem.evalArgs_none (q c y l m x [] v [] Q i j .nil w))⟩
def kkC{X:fQ}{o e:Expr}{es:List Expr}{q:gp}{t:kF}{name:Str}{d a:Pos}{T id:String}{r:V->List V->b_->fS->Prop}(J:ER T)(j:Slot T name id)(k:typeOf (.builtin id)=pure (.type "method_descriptor"))(D:xF X id r)(E:gL X o q)(C:ny X (e::es) t)
  (f:tx o name Û (þ o)=þ o:=by rfl)
  (i:((lR a (gK (e::es) Û)).all (λx=>!x.1)&&(w_ a (wW [] Û)).all (λx=>x.1.isSome)
   && æ (Ô (e::es)+Ô ([]:É sR)+(if([]:É sR).isEmpty then 0 else 1)<30))=true:=by rfl)
  (g:(d.endLine==a.line)=true:=by rfl) (G:gK (e::es) Û=(Ü,þ e)::gK es Û:=by rfl) (c:(lR a (gK es Û)).any (·.1)=false:=by rfl) :
  gL X (.Call (.Attribute o name d) (e::es) [] a) (iJ X.K T r q t):=by
 intro b s l H Q I h;refine wpAny_Call_method_late f i g À (gq (E b s l H _ I h) λv P Y=>?_);obtain⟨x,u,m,p,S,L⟩:=Y;obtain⟨z,B⟩:=C9 m p S;refine⟨T,id,J,j,k,z,B,?_⟩;have n:=C a b P l u _ m L;rw[G] at n ⊢;refine Calls.callWith_builtin (by show(false || (lR a (gK es X.env)).any (·.1))=false;rw[c]<;>rfl) (Calls.evalArgs_plain ?_);exact gq n λU R ⟨W,w,y,O,M⟩=>D b R l w x W v U Q y p O M
def Dc(X:fQ)(id:String)(r:V->É V->b_->fS->Prop):Prop:=
 ∀(a:List (d_×Obj)) (s:fU) (d:fO) (H:b_) (x:V) (c:List V) (v:c_) (b:List c_) (Q:fS),fJ X a d H s->hW x v->gQ c b->r x c H Q->
  ö ë X.w X.A (call (.builtin id) (v::b)) (lG X a d Q) X.xe s
theorem gQ.one:∀{x:V} {us:List c_},gQ [x] us->∃u,us=[u]/\hW x u
 |_,_,.cons r .nil=>Ú r
theorem gQ.zero:∀{us:List c_},gQ [] us->us=[]
 |_,.nil=>rfl
def gQ.dropLast(h:gQ xs us):gQ xs.dropLast us.dropLast:=by
 induction h with
 |nil=>exact .nil
 |cons r t a=>
  cases t with
  |nil=>exact .nil
  |cons q b=>exact .cons r a
theorem gQ.rep(h:gQ xs us):∀k:Nat,gQ (lq k xs).flatten (lq k us).flatten
 |0=>.nil
 |k+1=>by
  rw[xX,xX,rY,rY];exact gQ.append h (gQ.rep h k)
def kaV{d:Type}(l:É d):l.eraseIdx (l.length-1)=l.dropLast:=by
 induction l with
 |nil=>rfl
 |cons a r c=>
  cases r with
  |nil=>rfl
  |cons b r=>
   have e:Ô (a::b::r)-1=(Ô (b::r)-1)+1:=by
    have f:Ô (a::b::r)=r.length+2:=rfl;have g:Ô (b::r)=r.length+1:=rfl;lia
   rw[e,List.eraseIdx_cons_succ,c]
   all_goals rfl
theorem Nl(b:É c_):∀(k:Nat) (a:List c_),
  FG (λd f=>d++f) a.toArray (lq k b.toArray)=(a++(lq k b).flatten).toArray
 |0,a=>Ò
 |k+1,a=>by
  have e:a.toArray++b.toArray=(a++b).toArray:=Ò
  have c:(a++b)++(lq k b).flatten=a++(lq (k+1) b).flatten:=by
   rw[xX,rY,sM]
  rw[<-c,<-Nl b k (a++b),<-e,xX,Ae]
def fJ.lset{X:fQ}{a:List (d_×Obj)}{c:fO}{H:b_}{s:fU}{l:d_}{xs ys:List V}{b its':List c_}{n:Nat}{f:Array c_->Array c_}{t':Nat}(I:fJ X a c H s)(d:H l=Ð xs)
  (e:Ć l=Á (ć "list" (.seq b.toArray n))) (h:f b.toArray=its'.toArray) (j:gQ ys its') (hz:ys.length<=gM) :
  fJ X a c (Ý H l ys) (Ď (s.heap.update l (Obj.mapSeq f)) t'):=by
 have q:=PySem.IsL.update e f;rw[h] at q;refine I.write (x:=l) (e:=l) (by rw[d];exact trivial) (È À) (λk u g i=>(rf s.heap (Obj.mapSeq f) (Ne.symm g)).trans i) (Æ _ q) ?_;exact⟨hz,its',_,j,q⟩
def fJ.lnew{c:fO}(I:fJ X a c H s)(d:gQ ys b)(hz:ys.length<=gM) :
  fJ X a c (Ý H ó ys) (Ď (s.heap.push (ć "list" (.seq b.toArray))) t'):=
 I.laid (λ_ _ q=>i5 _ q) ï ⟨hz,b,0,d,mr _ À⟩
def fJ.fresh{b:fO}(I:fJ X a b H s):H ó=none:=I.hok.fresh ï
def fJ.lstM{d:fO}(I:fJ X b d H s)(c:H l=Ð xs):xs.length<=gM/\∃(a:List c_) (n:Nat),gQ xs a/\xs.length=a.length/\Ć l=Á (ć "list" (.seq a.toArray n)):=by
 obtain⟨z,a,n,r,e⟩:=I.hok l _ c;exact⟨z,a,n,r,r.length,e⟩
def keF(h:n<=gM):Builtin.List.listTooLong n=false:=by
 unfold Builtin.List.listTooLong;exact decide_eq_false Ã
def m7:V->É V->b_->fS->Prop:=λx b H Q=>∃l a y,x=Â l/\b=[y]/\H l=Ð a/\a.length<gM/\ē (Ý H l (a++[y]))
def N5{X:fQ}:Dc X "list.append" m7:=by
 intro c s p H x m v k Q I g f h;obtain⟨l,o,y,rfl,rfl,b,j,q⟩:=h;cases g;obtain⟨u,rfl,d⟩:=f.one;obtain⟨z,a,n,r,i,e⟩:=I.lstM b;refine uh F.slot_list_append (Î _ e À) F.entry_list_append (F.args_list_append_2 _ _) (PySem.list_append l a.toArray n u (by rw[iq];lia)) (Æ e ?_);refine Õ .non _ (I.lset (its':=a++[u]) b e Ò (r.append (.cons d .nil)) ?_) q;rw[ie,pk];lia
def Gj:V->É V->b_->fS->Prop:=λx d H Q=>∃l b a c,x=Â l/\d=[Â b]/\H l=Ð a/\H b=Ð c/\a.length+c.length<=gM/\ē (Ý H l (a++c))
def N6{X:fQ}:Dc X "list.extend" Gj:=by
 intro i s L H x E v D Q I y w h;obtain⟨l,b,G,K,rfl,rfl,g,k,C,q⟩:=h;cases y;obtain⟨u,rfl,t⟩:=w.one;cases t;obtain⟨z,c,n,r,B,e⟩:=I.lstM g;obtain⟨J,a,o,p,m,j⟩:=I.lstM k;have f:c.toArray.size+a.toArray.size<=gM:=by rw[iq,iq];lia
 have d:¬(!c.toArray.isEmpty&&Builtin.List.listTooLong (c.toArray.size+a.toArray.size))=true:=by
  rw[keF f,Bool.and_false];exact Bool.false_ne_true
 refine uh F.slot_list_extend (Î _ e À) F.entry_list_extend (F.args_list_extend_2 _ _)
  (AutoSeq1.list_extend_list_list_0 l c.toArray n b a.toArray o d (by rw[iq];lia) Ã) (Î e j ?_)
 refine Õ .non _ (I.lset (its':=c++a) g e Ò (r.append p) ?_) q;rw[ie];lia
def KC:V->É V->b_->fS->Prop:=λx b H Q=>∃l a y,x=Â l/\b=[]/\H l=Ð a/\a[a.length-1]?=Á y/\Q y (Ý H l a.dropLast)
def RP{X:fQ}:Dc X "list.pop" KC:=by
 intro f s B H x t v p Q I o m h;obtain⟨l,w,y,rfl,rfl,d,j,q⟩:=h;cases o;have b:=m.zero;subst b;obtain⟨z,a,n,r,g,e⟩:=I.lstM d;obtain⟨u,i,k⟩:=r.get j;have c:a.toArray[a.toArray.size-1]?=Á u:=by
  show a.toArray[a.length-1]?=Á u;rw[<-uR,<-g];exact i
 refine uh F.slot_list_pop (Î _ e À) F.entry_list_pop (F.args_list_pop_1 _) (MeetsSeq.list_pop_last l a.toArray n u c (by rw[iq];lia)) (Æ e ?_);refine⟨y,_,I.lset (its':=a.dropLast) d e ?_ r.dropLast ?_,k,q⟩
 .show a.toArray.eraseIdxIfInBounds (a.toArray.size-1)=a.dropLast.toArray;rw[iq,List.eraseIdxIfInBounds_toArray,kaV]
 .rw[List.length_dropLast];lia
def Vu:i6:=λx y H Q=>∃l b a c,x=Â l/\y=Â b/\H l=Ð a/\H b=Ð c/\a.length+c.length<=gM/\∀p,H p=none->Q (Â p) (Ý H p (a++c))
def kiW:iB X (oz .Add) Vu:=by
 intro d s G H x y v u Q I o p h;obtain⟨l,b,C,E,rfl,rfl,j,i,w,q⟩:=h;cases o;cases p;obtain⟨z,c,n,r,t,e⟩:=I.lstM j;obtain⟨D,a,B,m,k,f⟩:=I.lstM i;refine PySem.P.add_list e f ?_ (by rw[iq,iq];lia);have g:c.toArray++a.toArray=(c++a).toArray:=Ò
 rw[g];exact⟨Â _,_,I.lnew (t':=s.toks) (r.append m) (by rw[ie];lia),À,q _ I.fresh⟩
def kgO{b:Type}(xs:É b)(k:Nat):(lq k xs).flatten.length=k*xs.length:=by
 induction k with
 |zero=>simp
 |succ k a=>rw[xX,rY,ie,a,Nat.succ_mul,Nat.add_comm]
end L2
namespace Att
open PySem PySem.W PySem.Calls PyProof.Rows
def WB:∀(c:List Int) (vs:List c_),WellAll P h vs (c.map WData.int)->vf vs c:=by
 intro c
 induction c with
 |nil=>
  intro vs w;rw[ub] at w;cases w;exact .nil
 |cons n c d=>
  intro vs w;rw[kL] at w;cases w with
  |cons a b=>
   cases a;exact .cons _ _ (d _ b)
def kdF{l:OpenLaw}{n:Nat}(u:l.most=Á n){P:Params}{h:Heap}{args:List WData}{e:List c_}
  (c:l.row.toRowW.claim.pre args=true) (m:WellAll P h e args) :
  ∃a vs b,e=[c_.ref a]/\args=[WData.list (b.map WData.int)]/\h.get? a=Á (ć "list" (.seq vs.toArray))/\vf vs b/\b.length<=n:=by
 have k:WShape.hasAll [] args [.list .int]=true:=(pre_splitW c).1;have o:l.pre.holds [] {args:=args}=true:=(pre_splitW c).2;obtain⟨d,r,rfl,p,s⟩:=hasAllW_cons k;obtain rfl:=hasAllW_nil s;obtain⟨z,rfl,t⟩:=hasW_list p;obtain⟨b,rfl⟩:=items_int t;have g:b.length<=n:=by
  unfold OpenLaw.pre at o;have i:(WTm.not (.lt (.lit (Ë (n:Int))) (.len (.arg 0)))).holds [] {args:=[.list (b.map .int)]}=true:=by
   have i:=(holds_andW o).1;rw[u] at i;exact i
  have j:=condW_of i (w_not (w_lt w_lit (w_len_list (w_arg À))));rw[fP] at j;refine Nat.le_of_not_lt λq=>?_;have w:(n:Int)<((b.length:Nat):Int):=Ã
  first
   |(rw[decide_eq_true w] at j;exact absurd j (by decide))
   |(simp at j;lia)
 cases m with
 |cons x y=>
  cases y;cases x with
  |list v f=>exact⟨_,_,b,À,À,v,WB b _ f,g⟩
def kdY(l:OpenLaw)(args:É WData):l.row.toRowW.claim.post args (.bool true) args=true:=
 postW_of (r:=l.row.toRowW) (X:=(true==true))
  (show WShape.has [] (.bool true) .bool=true by first|rfl|decide|simp[WShape.has,WShape.arms,WShape.armsAll])
  (show(WTm.eq .res (.lit (.bool true))).value [] {args:=args,res:=Á (.bool true),after:=args}=Á (.bool (true==true)) from w_eq_bool (w_res À) w_lit) À
def attach_call{l:OpenLaw}{n:Nat}{q:f5}{c:List Str}{z:(Str->Option c_)->Heap->Prop}{B:fW->Heap->Prop}{d:DefRec}
  (Q:l.most=Á n) (t:d.params.defaults=[])
  (g:∀(w:fW) (s₀ b:fU) (m x:Str->Option c_) (h:d_) (o:Obj) (y k e:c_) (a:d_) (vs:List c_) (p:List Int),
   Ground q c [] z w s₀ m x b.heap->B w b.heap->
   b.heap.get? h=Á o->o.data=.func (docDef d.name d.params d.body d.scope y k e)->b.heap.CodeRec k d.name->m d.name=Á (Â h)->
   b.heap.get? a=Á (ć "list" (.seq vs.toArray))->vf vs p->p.length<=n->b.gens=#[]->
   pB (model l.prog w) yz (.call (Â h) (Æ [Â a] [])) (λr s'=>r=.ok (.ret (.bool true))/\OldK b.heap s'.heap/\s'.os=b.os/\ve s'.gens) b) :
  WalkO q c z B l.row.toRowW d [] (λf vs=>FI f vs):=by
 intro w s₀ b m x G Y h o y k e H iP R L s C u M args E U j D T v O;obtain rfl:H=.none:=Dflts.none C t;obtain rfl:iP=.none:=Dflts.noKw C;obtain⟨a,vs,p,rfl,rfl,i,hints,hlen⟩:=kdF Q j v;refine enter_call (Am (g w s₀ b m x h o y k e a vs p G Y R (fd_plain L) s u i hints hlen M) λr s' S=>?_);obtain⟨rfl,I,J,K⟩:=S;exact⟨È ⟨.bool true,.bool true,[],À,λ_=>À,.bool true,kdY l _,λ_=>Æ List.Pairwise.nil (λ_ P=>(nomatch P))⟩,I,J,K⟩
end Att
namespace L2
open PySem PySem.Spec PyProof.Rows
theorem N0:∀{vs:List c_} {a:List Int},vf vs a->gQ (a.map V.int) vs
 |_,_,.nil=>.nil
 |_,_,.cons n t h=>.cons (Æ t À) (N0 h)
def Dt(H:b_):Prop:=∀b,H b=none\/∃o a,H b=Á (.frz o (.lst a))
def keR{P:f5}{w:fW}{K:a_}{J Y:Str->Option c_}{CX:t9}{k:Nat}{R a:d_}{fd:m6}{x:Str}{sp:gO}{c:fU}{vs:List c_}{L:List Int}
  (KX:K.In c.heap) (D:c.heap.Ns i7 J) (g:c.heap.Ns builtinsNs Y) (T:∀x:Str,x≠"__name__"->Y x=uZ x) (C:c.heap.NoLimit) (hg:c.gens=#[])
  (O:c.heap.get? a=Á (ć "list" (.seq vs.toArray))) (hi:vf vs L) (hl:L.length<=gM) (hr:ku k yz)
  (F:∀i:Heap,K.In i->i.Ns i7 J->oI P w K J i CX k R fd [x] sp) (p:∀(s:fU) (u:c_),yy s fd (Æ [u] []) [(x,u)])
  (X:∀H:b_,Dt H->hH K H a (L.map V.int)->sp [Â a] H (λv _=>v=.bl true) λ_ _ _=>False)
  (S:∀H e s',CX [] H c (λ_ _ _=>False) e s'->False) :
  pB (model P w) yz (.call (Â R) (Æ [Â a] [])) (λr s'=>r=.ok (.ret (.bool true))/\OldK c.heap s'.heap/\s'.os=c.os/\ve s'.gens) c:=by
 have rv:=N0 hi;have I:=hi.length;have l:∀H:b_,Dt H->hH K H a (L.map V.int)->kN P w H c.heap->(∀b,H b≠none->b=a)->(H a≠none->K.lookup a=none)->
   pB (model P w) yz (.call (Â R) (Æ [Â a] [])) (λr s'=>r=.ok (.ret (.bool true))/\OldK c.heap s'.heap/\s'.os=c.os/\ve s'.gens) c:=by
  intro H hO hS E hA hK;have f:∀{b:d_} {o:Obj},c.heap.get? b=Á o->H b=none->(vA c.heap H).get? b=Á o:=λe n=>kfe e n;have Z:∀{b:d_} {o:Obj} {y:Array DictEntry} {t:Nat},c.heap.get? b=Á o->o.data=.dict y t->H b=none:=λ{b o y t} e d=>by
   cases q:H b with
   |none=>rfl
   |some u=>
    have Q:b=a:=hA b (by rw[q];simp);subst Q;rw[O] at e;cases e;have d':Data.seq vs.toArray _=Data.dict y t:=d;cases d'
  have j:∀{b:d_} {m:Str->Option c_},c.heap.Ns b m->(vA c.heap H).Ns b m:=λ{b m} ⟨o,y,t,e,d,r⟩=>⟨o,y,t,f e (Z e d),d,r⟩;have B:K.In (vA c.heap H):=λb o e=>f (KX b o e) (by
   cases q:H b with
   |none=>rfl
   |some u=>
    have Q:b=a:=hA b (by rw[q];simp);subst Q;rw[hK (by rw[q];simp)] at e;cases e)
  have hM:Mod K J (vA c.heap H):=⟨B,j D,Î Y (j g) T,let⟨mc,h1,h2⟩:=C;Î mc (j h1) h2⟩;have e0:xK P w K J (vA c.heap H) yz [] c H:=⟨À,hM,λb o e=>kgW e,EW (kcS _ _),trivial,λb g=>Ì (show b∈([]:É d_) from g) Ò,E,.of_eq hg⟩;refine Am ((F _ B (j D)).run yz [] c H (Æ [Â a] []) [Â a] [Â a] _ _ hr e0 (p c (Â a)) (.cons À .nil) (X H hO hS)) λr s' h=>?_;cases r with
  |error e=>exact(S H e s' h).elim
  |ok fl=>
   cases fl with
   |next=>exact False.elim h
   |brk=>exact False.elim h
   |cont=>exact False.elim h
   |ret u=>
    obtain⟨v,H',os,bare,un,G,r',q⟩:=h;have q':v=.bl true:=q;subst q';obtain rfl:u=c_.bool true:=r';refine⟨À,OldK.of_keep λb o e=>?_,os,bare⟩;cases q:H b with
    |none=>exact un.keep b o e q (by intro z;exact Ì (show b∈([]:É d_) from z) Ò) Ò
    |some u=>
     rcases hO b with z|⟨ob,xs,z⟩
     .rw[q] at z;cases z
     .have z2:=un.frzs b ob _ z;obtain⟨e1,_⟩:=E b _ z;obtain⟨e2,_⟩:=G b _ z2;rw[e] at e1;cases e1;exact e2
 cases U:K.lookup a with
 |some o=>
  have e:=KX a o U;rw[O] at e;cases e;refine l (λ_=>Ç) (λ_=>È À) (Í ⟨_,vs.toArray,_,U,À,À,À,by rw[iq,I];exact hl,by simpa using rv⟩) (λb u z=>by have M:(none:Option lj)=Á u:=z;cases M) (λb z=>Ì À z) λz=>Ì À z
 |none=>
  refine l (λb=>if b=a then Á (.frz (ć "list" (.seq vs.toArray)) (.lst (L.map V.int))) else none) (λb=>?_) (È (Í ⟨ć "list" (.seq vs.toArray),if_pos À⟩)) (λb u z=>?_) (λb z=>?_) λ_=>U
  .by_cases g:b=a
   .exact Í ⟨_,_,if_pos g⟩
   .exact È (ù g)
  .by_cases g:b=a
   .have M:=(if_pos g).symm.trans z;cases M;subst g;exact⟨O,by rw[fP];exact hl,vs,_,rv,O⟩
   .have M:=(ù g).symm.trans z;cases M
  .by_cases g:b=a
   .exact g
   .exact Ì (ù g) z
def walk_of{l:PySem.W.OpenLaw}{n k:Nat}{q:f5}{m:List Str}{M:(Str->Option c_)->Heap->Prop}{L:fW->Heap->Prop}{d:DefRec}{K:Params->a_}{CX:fW->t9}{sp:fW->gO}{x:Str}
  (hn:l.most=Á n) (E:n<=gM) (C:d.params.defaults=[]) (hr:ku k yz)
  (S:∀(w:fW) (h:Heap),L w h->(K w.params).In h)
  (F:∀(w:fW) (p:Str->Option c_) (y:d_) (h:Heap),(K w.params).In h->h.Ns i7 p->p d.name=Á (Â y)->
   ∃fd:m6,(∀(s:fU) (u:c_),yy s fd (Æ [u] []) [(x,u)])/\
    ∀c:Heap,(K w.params).In c->c.Ns i7 p->oI l.prog w (K w.params) p c (CX w) k y fd [x] (sp w))
  (I:∀(w:fW) (H:b_) (a:d_) (z:List Int),z.length<=n->Dt H->hH (K w.params) H a (z.map V.int)->sp w [Â a] H (λv _=>v=.bl true) λ_ _ _=>False)
  (B:∀(w:fW) (H:b_) (s:fU) (e:c_) (s':fU),CX w [] H s (λ_ _ _=>False) e s'->False) :
  PySem.W.WalkO q m M L l.row.toRowW d [] (λf vs=>FI f vs):=by
 refine Att.attach_call hn C λw s₀ t p mb y o pm cd O a vs z G Y ho hd X D r j i Z=>?_;have J:=S w _ Y;obtain⟨fd,U,P⟩:=F w p y _ J G.T.g D;exact keR J G.T.g G.T.b G.T.builtins G.T.nolimit Z r j (mC i E) hr P U (λH Q R=>I w H a z i Q R) λH e s'=>B w H t e s'
def rZ(s:Stmt):Arguments:=match s with
 |.FunctionDef _ a _ _ _ _ _ _ _ _=>a
 |_=>{posonlyargs:=[],args:=[],vararg:=Ç,kwonlyargs:=[],kw_defaults:=[],kwarg:=Ç,defaults:=[]}
def nJ(s:Stmt):É Stmt:=match s with
 |.FunctionDef _ _ b _ _ _ _ _ _ _=>b
 |_=>[]
def kf(s:Stmt):Scope:=match s with
 |.FunctionDef _ _ _ _ _ _ a _ _ _=>a
 |_=>{kind:=.function,names:=[],isGenerator:=Ü,isCoroutine:=Ü}
abbrev oK:t9:=λ_ _ _ _ _ _=>False
abbrev f9:f_:=λ_ _ _=>False
def kkA:vk oK X f9:=λ_ _ _ _ _ _ _ h=>h.elim
structure wk(K:a_)(x qual:Str)(st:Stmt)(f:d_)(fd:m6):Prop where
 ex:∃(oc:c_) (od:Option d_) (iP doc pm:c_) (an:Option d_) (cdv ct:c_) (osl:Array (Option c_)),
  fd=pK x qual (rZ st) (nJ st) (kf st) .none iP doc pm an cdv ct/\K.lookup f=Á ⟨oc,od,.func fd,osl⟩/\u0 K cdv qual=true
 kp:rh K (Â f)=true
def wk.ok{P:f5}{w:fW}{K:a_}{j:Str->Option c_}{c:Heap}{x a:Str}{st:Stmt}{f:d_}{fd:m6}{N ps:List Str}{k:Nat}{sp:gO}(F:wk K x a st f fd)(S:vZ N ps (kf st))(i:∀vs H Q E,sp vs H Q E->vs.length=ps.length)
  (d:∀(b:c_) (A:ig) (outer:List Env) (s:fU) (H:b_) (vs:List V) (Q:fS) (E:f_),ku k (A.deeper (oB a (kf st) ó f b))->sp vs H Q E->
   ∃t,nq (pT oK P w K j c N a (kf st) f b A outer s H E).nox (nJ st) t/\t (ì í Q) (gW N vs) H):oI P w K j c oK (k+1) f fd ps sp:=by
 obtain⟨p,r,iP,doc,u,o,b,ct,n,rfl,m,e⟩:=F.ex;refine G5 m e S i λA outer s H vs Q E l g=>?_;obtain⟨t,h,q⟩:=d b A outer s H vs Q E l g;exact Î t h.nox q
def wk.binds{K:a_}{x a:Str}{st:Stmt}{f:d_}{fd:m6}{ps:List Str}(F:wk K x a st f fd)
  (h:∀(iP c e:c_) (d:Option d_) (b ct:c_) (us:List c_),us.length=ps.length->bindArgs (pK x a (rZ st) (nJ st) (kf st) .none iP c e d b ct) (Æ us [])=pure (ps.zip us)):uC K fd ps []:=by
 obtain⟨k,l,iP,c,e,d,b,ct,i,rfl,j,g⟩:=F.ex;exact .all (h iP c e d b ct)
def AV{K:a_}{x a:Str}{st:Stmt}{f:d_}{i:c_}{od g:Option d_}{e:Array (Option c_)}{iP d h b ct:c_}(l:K.lookup f=Á ⟨i,od,.func (pK x a (rZ st) (nJ st) (kf st) .none iP d h g b ct),e⟩)
  (c:u0 K b a=true) (k:rh K (Â f)=true):wk K x a st f (pK x a (rZ st) (nJ st) (kf st) .none iP d h g b ct):=Æ ⟨i,od,iP,d,h,g,b,ct,e,À,l,c⟩ k
def U5(a:ku k A):A.units+1<cLine:=Bx (HU (by decide:1<=64) _) a.units
def lE{X:fQ}(i:Nat){x:Str}{pos:Pos}(b:X.N[i]?=Á x:=by rfl)(d:Bh X.env.scope x:=by first|exact Or.inl rfl|exact Or.inr (Or.inl rfl)|exact Or.inr (Or.inr rfl))(c:(x==("__debug__":Str))=false:=by decide)
  (a:(x==("__classdict__":Str))=false:=by decide):gL X (.Name x pos) (fI i):=kiM b d c a
def i4{A B:Prop}(h:B):if false=true then A else B:=by
 rw[ù Bool.false_ne_true];exact h
def lC{A B:Prop}(h:A):if true=true then A else B:=by
 rw[if_pos À];exact h
def U8{c A B:Prop}[Decidable c](a:c)(h:B):if(! æ c)=true then A else B:=by
 rw[decide_eq_true a];exact i4 h
def gJ(H H':b_):Prop:=∀b o,H b=Á o->H' b=Á o
def gJ.refl(H:b_):Ö H:=λ_ _ h=>h
def gJ.trans(a:Ö d)(b:gJ d e):Ö e:=λc o h=>b c o (a c o h)
def gJ.free(e:Ö H')(h:H' l=Option.none):H l=Option.none:=by
 cases q:H l with
 |none=>rfl
 |some o=>
  rw[e l o q] at h;cases h
def lD{a:Type}[DecidableEq a](kvs:É (a×V))(k:a):Option V:=(kvs.find? λb=>æ (b.1=k)).map (·.2)
def mM{b:Type}[DecidableEq b](kvs:É (b×V))(k:b)(v:V):É (b×V):=
 if(kvs.any λa=>æ (a.1=k))=true then kvs.map (λa=>if a.1=k then(a.1,v) else a) else kvs++[(k,v)]
def Pl{a:Type}[DecidableEq a]{k:a}:lD ([]:É (a×V)) k=none:=rfl
def uo{a:Type}[DecidableEq a]{p:a×V}{r:List (a×V)}{k:a}(e:p.1=k):lD (p::r) k=Á p.2:=by simp[lD,x5,e]
def uk{a:Type}[DecidableEq a]{p:a×V}{r:List (a×V)}{k:a}(e:¬p.1=k):lD (p::r) k=lD r k:=by simp[lD,x5,e]
theorem Cs{a:Type}[DecidableEq a](k:a):∀kvs:List (a×V),(kvs.any λb=>æ (b.1=k))=(lD kvs k).isSome
 |[]=>rfl
 |p::r=>by
  rw[BO];by_cases e:p.1=k
  .simp only[uo e,decide_eq_true e,Bool.true_or,Option.isSome_some]
  .rw[uk e,decide_eq_false e,Bool.false_or];exact Cs k r
theorem Pk{b:Type}[DecidableEq b](k j:b)(y:V):∀kvs:List (b×V),lD (kvs.map λa=>if a.1=k then(a.1,y) else a) j=(lD kvs j).map λx=>if j=k then y else x
 |[]=>rfl
 |p::r=>by
  have c:=Pk k j y r;rw[kL];by_cases h:p.1=k
  .rw[if_pos h];by_cases e:p.1=j
   .rw[uo (p:=(p.1,y)) e,uo e,pL,if_pos (e.symm.trans h)]
   .rw[uk (p:=(p.1,y)) e,uk e,c]
  .rw[ù h];by_cases e:p.1=j
   .rw[uo (p:=p) e,uo e,pL,ù (λz=>h (e.trans z))]
   .rw[uk (p:=p) e,uk e,c]
theorem NX{b:Type}[DecidableEq b](k j:b)(y:V):∀kvs:List (b×V),lD kvs k=none->lD (kvs++[(k,y)]) j=if j=k then Á y else lD kvs j
 |[],_=>by
  by_cases e:k=j
  .rw[if_pos e.symm];exact uo (p:=(k,y)) e
  .rw[ù (λz=>e z.symm)];exact uk (p:=(k,y)) e
 |p::r,a=>by
  rw[List.cons_append];have c:¬p.1=k:=λz=>by rw[uo z] at a;cases a
  rw[uk c] at a;have d:=NX k j y r a;by_cases e:p.1=j
  .rw[uo e,uo e,ù (λz=>c (e.trans z))]
  .rw[uk e,uk e,d]
def kfZ{b:Type}[DecidableEq b](kvs:É (b×V))(k j:b)(y:V):lD (mM kvs k y) j=if j=k then Á y else lD kvs j:=by
 unfold mM;by_cases a:(kvs.any λd=>decide (d.1=k))=true
 .rw[if_pos a,Pk];rw[Cs] at a;by_cases e:j=k
  .obtain⟨x,c⟩:=DL.mp a;rw[if_pos e,e,c,pL,if_pos À]
  .rw[ù e];cases lD kvs j with
   |none=>rfl
   |some x=>rw[pL,ù e]
 .rw[ù a];refine NX k j y kvs ?_;rw[Cs] at a;cases q:lD kvs k with
  |none=>rfl
  |some x=>rw[q] at a;exact(a À).elim
def Ke{a:Type}[DecidableEq a](kvs:É (a×V))(k:a)(v:V):Ô (mM kvs k v)<=kvs.length+1:=by
 unfold mM;split
 .rw[fP];lia
 .rw[ie,iN,Ee];lia
def FV{a:Type}[DecidableEq a]{kvs:List (a×V)}{k:a}(v:V)(h:lD kvs k=none):mM kvs k v=kvs++[(k,v)]:=by
 unfold mM;rw[Cs,h];exact ù Ï
def pS.isSome_eq(r:pS o u):o.isSome=u.isSome:=by
 cases o with
 |none=>cases u with
  |none=>rfl
  |some _=>exact(show False from r).elim
 |some _=>cases u with
  |none=>exact(show False from r).elim
  |some _=>rfl
def lU.val{a:Type}[DecidableEq a]{kvs:List (a×V)}{vs:List (a×c_)}(r:lU kvs vs)(k:a):pS (lD kvs k) (yw vs k):=by
 unfold lU at r
 induction r with
 |nil=>exact True.intro
 |@cons p q j d h t i=>
  obtain⟨f,g⟩:=h;by_cases e:p.1=k
  .have c:q.1=k:=f.symm.trans e;have b:yw (q::d) k=Á q.2:=by simp[yw,x5,c]
   rw[uo e,b];exact g
  .have c:¬q.1=k:=λz=>e (f.trans z);have b:yw (q::d) k=yw d k:=by simp[yw,x5,c]
   rw[uk e,b];exact i
def lU.any{a:Type}[DecidableEq a]{kvs:List (a×V)}{vs:List (a×c_)}(r:lU kvs vs)(k:a):(kvs.any λb=>æ (b.1=k))=vs.any λb=>æ (b.1=k):=by
 unfold lU at r
 induction r with
 |nil=>rfl
 |cons h t c=>rw[BO,BO,c,h.1]
def lU.repl{c:Type}[DecidableEq c]{kvs:List (c×V)}{vs:List (c×c_)}(r:lU kvs vs)(k:c){y:V}{u:c_}(g:hW y u) :
  lU (kvs.map λa=>if a.1=k then(a.1,y) else a) (vs.map λa=>if a.1=k then(a.1,u) else a):=by
 unfold lU at r ⊢
 induction r with
 |nil=>exact .nil
 |@cons p q i j h t f=>
  rw[kL,kL];refine .cons ?_ f;obtain⟨b,d⟩:=h;by_cases e:p.1=k
  .rw[if_pos e,if_pos (b.symm.trans e)];exact Æ b g
  .rw[ù e,ù (λz=>e (b.trans z))];exact Æ b d
def lU.put{a:Type}[DecidableEq a]{kvs:List (a×V)}{vs:List (a×c_)}(r:lU kvs vs)(k:a){y:V}{u:c_}(b:hW y u):lU (mM kvs k y) (stored vs k u):=by
 unfold mM stored;rw[r.any k];by_cases e:(vs.any λc=>decide (c.1=k))=true
 .rw[if_pos e,if_pos e];exact r.repl k b
 .rw[ù e,ù e];exact Paired.snoc r (Æ À b)
def lU.keys{a:Type}[DecidableEq a]{kvs:List (a×V)}{vs:List (a×c_)}(r:lU kvs vs):kvs.map (·.1)=vs.map (·.1):=by
 unfold lU at r
 induction r with
 |nil=>rfl
 |cons h t b=>rw[kL,kL,b,h.1]
def lU.length{a:Type}[DecidableEq a]{kvs:List (a×V)}{vs:List (a×c_)}(r:lU kvs vs):kvs.length=vs.length:=Paired.length r
def yP(r:hW (iP k) u):(oA P w).is k u=true:=by
 cases k with
 |inl i=>obtain⟨t,e⟩:=(show ∃t,u=c_.int i t from r);subst e;exact Y_ P w i t
 |inr x=>obtain⟨t,e⟩:=(show ∃t,u=c_.str x t from r);subst e;exact Y' P w x t
theorem N3:∀{ks:List iQ} {us:List c_},gQ (ks.map iP) us->ItemsAre (oA P w) ks us
 |[],_,r=>by rw[ub] at r;cases r;exact .nil
 |k::ks,_,r=>by
  rw[kL] at r;cases r with
  |cons h t=>exact .cons (yP h) (N3 t)
abbrev rQ(H:b_):É (É iQ×V)->É (É iQ×d_×c_)->Prop:=Paired λp q=>p.1=q.1/\H q.2.1=ä (p.1.map iP)/\hW p.2 q.2.2
def rQ.val{H:b_}{kvs:List (List iQ×V)}{xs:List (List iQ×d_×c_)}(r:rQ H kvs xs)(k:É iQ):pS (lD kvs k) ((atKey xs k).map (·.2)):=by
 induction r with
 |nil=>exact True.intro
 |@cons p q i c h t g=>
  obtain⟨d,_,f⟩:=h;by_cases e:p.1=k
  .have a:q.1=k:=d.symm.trans e;have b:atKey (q::c) k=Á q.2:=by simp[atKey,x5,a]
   rw[uo e,b];exact f
  .have a:¬q.1=k:=λz=>e (d.trans z);have b:atKey (q::c) k=atKey c k:=by simp[atKey,x5,a]
   rw[uk e,b];exact g
def rQ.repl(r:rQ H kvs xs)(k:É iQ)(g:hW y u) :
  rQ H (kvs.map λb=>if b.1=k then(b.1,y) else b) (xs.map (putAt k u)):=by
 induction r with
 |nil=>exact .nil
 |@cons p q i j h t f=>
  rw[kL,kL];refine .cons ?_ f;obtain⟨a,c,d⟩:=h;unfold putAt;by_cases e:p.1=k
  .rw[if_pos e,if_pos (a.symm.trans e)];exact Î a c g
  .rw[ù e,ù (λz=>e (a.trans z))];exact Î a c d
def rQ.put{H:b_}{kvs:List (List iQ×V)}{xs:List (List iQ×d_×c_)}(r:rQ H kvs xs)(k:É iQ){b:d_}{y:V}{u:c_}(c:H b=ä (k.map iP))(a:hW y u) :
  rQ H (mM kvs k y) (storedH xs k b u):=by
 have e:(kvs.any λd=>æ (d.1=k))=(atKey xs k).isSome:=by
  rw[Cs,(r.val k).isSome_eq,Iz]
 unfold mM storedH;rw[e];by_cases q:(atKey xs k).isSome=true
 .rw[if_pos q,if_pos q];exact r.repl k a
 .rw[ù q,ù q];exact Paired.snoc r (Î À c a)
def rQ.keeps(r:rQ H kvs xs)(a:∀b ys,H b=ä ys->H' b=ä ys):rQ H' kvs xs:=
 Paired.mapP r λ_ _ z=>Î z.1 (a _ _ z.2.1) z.2.2
def UT(b:kN P w H h)(e:uK H a u):kY P w H h a u:=e.ok b
def yL(b:kN P w H h)(e:uK H a (.dK kvs)):kvs.length<=gM/\(a==vS)=false/\∃vs,lU kvs vs/\h.DictOf (oA P w) a vs:=
 show kY P w H h a (.dK kvs) from UT b e
def G3(b:kN P w H h)(e:H a=Á (.dK kvs)):kvs.length<=gM/\(a==vS)=false/\∃vs,lU kvs vs/\h.DictOf (oA P w) a vs:=yL b (È e)
def AM(g:kN P w H h)(e:H a=ä (ks.map iP)):(Co (oA P w)).is h ks a:=by
 obtain⟨_,b,r,o,c,d,n,f⟩:=(show kY P w H h a (.tup (ks.map iP)) from g a _ e);exact⟨o,b.toArray,n,c,d.1,f,by simpa using N3 r⟩
def A7(d:kN P w H h)(e:uK H a (.dT kvs)):kvs.length<=gM/\(a==vS)=false/\
  ∃xs,rQ H kvs xs/\h.DictOfH (Co (oA P w)) a xs:=by
 obtain⟨z,y,xs,r,o,g,f,i,j,k,n,s⟩:=(show kY P w H h a (.dT kvs) from UT d e);refine⟨z,y,xs,r,o,g,f,i,j,k,n,λx b=>?_,s⟩;have all:∀{l:List (List iQ×V)} {m:List (List iQ×d_×c_)},rQ H l m->∀x∈m,(Co (oA P w)).is h x.1 x.2.1:=by
  intro l m q
  induction q with
  |nil=>intro x b;exact nomatch b
  |@cons p q v B c t u=>
   intro x b;rcases g7.mp b with e|b
   .subst e;exact AM d (by rw[<-c.1];exact c.2.1)
   .exact u x b
 exact all r x b
def kjG(b:kN P w H h)(e:H a=Á (.dT kvs)):kvs.length<=gM/\(a==vS)=false/\
  ∃xs,rQ H kvs xs/\h.DictOfH (Co (oA P w)) a xs:=A7 b (È e)
def rO(H:b_)(a:d_)(y:V)(r:Option V):Prop:=
 (∃c k,uK H a (.dK c)/\y=iP k/\r=lD c k)\/∃c k b,uK H a (.dT c)/\y=Â b/\H b=ä (k.map iP)/\r=lD c k
def wq(H:b_)(a:d_)(y v:V)(H':b_):Prop:=
 (∃c k,H a=Á (.dK c)/\y=iP k/\c.length<gM/\H'=upd H a (.dK (mM c k v)))\/
 ∃c k b,H a=Á (.dT c)/\y=Â b/\H b=ä (k.map iP)/\c.length<gM/\H'=upd H a (.dT (mM c k v))
def rO.k{H:b_}{a:d_}{kvs:List (iQ×V)}{k:iQ}(e:H a=Á (.dK kvs)):rO H a (iP k) (lD kvs k):=È (Õ kvs k (È e) À)
def wq.k{H:b_}{a:d_}{kvs:List (iQ×V)}{k:iQ}{v:V}(e:H a=Á (.dK kvs))(b:kvs.length<gM):wq H a (iP k) v (upd H a (.dK (mM kvs k v))):=È ⟨kvs,k,e,À,b,À⟩
def fJ.big{b:fO}(I:fJ X a b H s):vS<s.heap.objs.size:=by
 have h:i7<s.heap.objs.size:=(I.mod.glob.keeps I.bk).lt;exact Eu Ï h
def kdg{t:fO}{E:gC}{Q:gC}(D:A.units+1<cLine)(I:fJ X c t H s)(g:rO H a y (Á v))(r:hW y u)(h:∀f s',fJ X c t H s'->hW v f->Q f s') :
  ö ë X.w A (vg (Â a) u) Q E s:=by
 rcases g with⟨q,k,e,j,l⟩|⟨q,k,b,e,j,x,l⟩
 .subst j;obtain⟨z,B,G,rel,i⟩:=yL I.hok e;obtain⟨f,n,d⟩:=pS.some_of (v:=v) (o:=yw G k) (by rw[l];exact rel.val k);exact wpAny_getItem_of (yP r) i.mapOf n (h f _ (I.tok _) d)
 .subst j;cases(show u=c_.ref b from r);obtain⟨z,B,J,rel,i⟩:=A7 I.hok e;obtain⟨f,n,d⟩:=pS.some_of (v:=v) (o:=(atKey J k).map (·.2)) (by rw[l];exact rel.val k);obtain⟨p,C,m⟩:=pj.mp n;refine wpAny_getItem_heap (DR D) (AM I.hok x) i C ?_;rw[m];exact h f _ (I.tok _) d
def kkN{n:fO}{E:gC}{Q:gC}(r:A.units+1<cLine)(I:fJ X c n H s)(g:rO H a y o)(m:hW y u)(h:∀s',fJ X c n H s'->Q (.bool o.isSome) s') :
  ö ë X.w A (kj .In u (Â a)) Q E s:=by
 rcases g with⟨j,k,e,f,l⟩|⟨j,k,b,e,f,p,l⟩
 .subst f;obtain⟨z,i,t,rel,d⟩:=yL I.hok e;refine wpAny_in_of (yP m) i d.mapOf ?_;rw[<-(rel.val k).isSome_eq,<-l];exact h _ (I.tok _)
 .subst f;cases(show u=c_.ref b from m);obtain⟨z,i,v,rel,d⟩:=A7 I.hok e;refine wpAny_in_heap (DR r) (AM I.hok p) i d ?_;have q:=(rel.val k).isSome_eq;rw[Iz] at q;rw[<-q,<-l];exact h _ (I.tok _)
def kg7{n:fO}{E:gC}{Q:gC}(r:A.units+1<cLine)(I:fJ X c n H s)(g:rO H a y o)(m:hW y u)(h:∀s',fJ X c n H s'->Q (.bool (!o.isSome)) s') :
  ö ë X.w A (kj .NotIn u (Â a)) Q E s:=by
 rcases g with⟨j,k,e,f,l⟩|⟨j,k,b,e,f,p,l⟩
 .subst f;obtain⟨z,i,t,rel,d⟩:=yL I.hok e;refine wpAny_notIn_of (yP m) i d.mapOf ?_;rw[<-(rel.val k).isSome_eq,<-l];exact h _ (I.tok _)
 .subst f;cases(show u=c_.ref b from m);obtain⟨z,i,v,rel,d⟩:=A7 I.hok e;refine wpAny_notIn_heap (DR r) (AM I.hok p) i d ?_;have q:=(rel.val k).isSome_eq;rw[Iz] at q;rw[<-q,<-l];exact h _ (I.tok _)
def Gs{f:fO}(I:fJ X c f H s)(j:A8 (H a))(i:Heap.SameBut a s.heap h')(h:∃q,h'.get? a=Á q)(d:kY ë X.w (upd H a ob) h' a ob) :
  fJ X c f (upd H a ob) (Ď h' t'):=
 I.write (x:=a) (e:=a) j (È À) (λb q g z=>(i.2 b g).trans z) h d
def RT(z:kvs.length<=gM)(d:(a==vS)=false)(b:lU kvs vs)(c:h'.DictOf (oA P w) a vs) :
  kY P w H' h' a (.dK kvs):=⟨z,d,vs,b,c⟩
def kdn{X:fQ}{i:List (d_×Obj)}{L:fO}{H:b_}{s:fU}{a:d_}{y v:V}{u r:c_}{A:ig}{E:gC}{H':b_}{Q:Unit->fU->Prop}(W:A.units+1<cLine)(I:fJ X i L H s)(g:wq H a y v H')(K:hW y u)(J:hW v r)(h:∀s',fJ X i L H' s'->Q () s') :
  ö ë X.w A (setItem (Â a) u r) Q E s:=by
 rcases g with⟨d,k,e,o,l,n⟩|⟨d,k,b,e,o,C,l,n⟩
 .subst o n;obtain⟨z,p,Y,rel,m⟩:=G3 I.hok e;have B:Y.length<=gM:=by rw[<-rel.length];exact z
  have t:Ô (mM d k v)<=gM:=by have:=Ke d k v;lia
  refine wpAny_setItem_pairs (hsz:=B) (yP K) m λG f x=>h _ ?_;have U:∃q,G.get? a=Á q:=let⟨q,_,_,j,_⟩:=f;⟨q,j⟩;exact Gs I (by rw[e];exact True.intro) x U (RT t p (rel.put k J) f)
 .subst o n;cases(show u=c_.ref b from K);obtain⟨z,p,Z,rel,m⟩:=kjG I.hok e;have B:Z.length<=gM:=by rw[<-Paired.length rel];exact z
  have t:Ô (mM d k v)<=gM:=by have:=Ke d k v;lia
  refine wpAny_setItem_heap (hsz:=B) (DR W) (AM I.hok C) m λG f x=>h _ ?_;obtain⟨q,O,M,j,P,R,S,_,T⟩:=f;refine Gs I (by rw[e];exact True.intro) x (Æ q j) ⟨t,p,_,(rel.put k C J).keeps λc ys D=>?_,q,O,M,j,P,R,S,T⟩;rw[fM (U' D e (λz=>nomatch z))];exact D
def Ku(i:Expr):Prop:=∀b a,subscripted i Ü b a=operate [b,a] (vg b a)
def kiC{prog:f5}{w:fW}{A:ig}{E:gC}{s:fU}{env:Env}{b a:Expr}{pos:Pos}{T id:String}{Q:gC}
  (m:ym (.type T) "__getitem__"=pure (Á (.builtin id))) (n:Ku a)
  (h:ö prog w A (eval b env) (λo e=>ö prog w A (eval a env) (λi c=>c.TypeIs o T/\ö prog w A (vg o i) Q E c) E e) E s) :
  ö prog w A (eval (.Subscript b a pos) env) Q E s:=by
 refine Subscript_ (og h (λo e j=>og j (λi c d=>?_) λ_ _ x=>x) λ_ _ x=>x);obtain⟨l,d⟩:=d;unfold subscriptTail;refine fN ?_;rw[getitemInPython_of_ne l.not_modules];refine fN (Ed l m ?_);have g:ö prog w A (subscripted a Ü o i) (λr f=>ö prog w A (letTemporaryGo b o r >>= λ_=>pure r) Q E f) E c:=by
  rw[n o i];exact wpAny_operating (og d (λr f k=>fN (wpAny_letTemporaryGo (gH k))) λ_ _ x=>x)
 first
  |exact gH (fN g)
  |exact fN (gH (fN g))
  |exact fN g
def kao{h:fO}(I:fJ X c h H s)(g:rO H a y o):s.TypeIs (Â a) "dict":=by
 rcases g with⟨f,k,e,_,_⟩|⟨f,k,b,e,_,_,_⟩
 .obtain⟨_,_,i,_,d⟩:=yL I.hok e;exact d.typeIs
 .obtain⟨_,_,j,_,d⟩:=A7 I.hok e;exact d.typeIs
def G_(e f:gp):gp:=λc H Q=>e c H λx d=>f c d λy b=>∃a v,x=Â a/\rO b a y (Á v)/\Q v b
def kgy(t:X.A.units+1<cLine)(q:gL X o e)(p:gL X i f)(r:Ku i):gL X (.Subscript o i pos) (G_ e f):=by
 intro b s j H Q I h;refine kiC PySem.F.slot_dict_getitem.lookup r (gq (q b s j H _ I h) λu D ⟨x,k,m,B,w⟩=>gq (p b D j k _ m w) λG J E=>?_);obtain⟨y,l,d,C,a,v,ex,g,z⟩:=E;subst ex;obtain rfl:u=c_.ref a:=B;exact⟨kao d g,kdg t d g C λL K n c=>⟨v,l,n,c,z⟩⟩
def OM(h:Heap)(a:vS<h.objs.size):kY P w H (h.push (ć "dict" (.dict #[]))) h.objs.size (.dK []):=
 ⟨lu _,beq_eq_false_iff_ne.mpr (Ne.symm (kP a)),[],.nil,Heap.DictOf.new h⟩
def A1:gp:=λ_ H Q=>∀p,H p=none->Q (Â p) (upd H p (.dK []))
def kfB:gL X (.Dict [] [] pos) A1:=λb s c H Q I h=>
 wpAny_Dict_empty ⟨Â ó,_,I.laid (a:=ó) (o:=.dK []) (t':=s.toks) (λ_ _ q=>i5 _ q) ï (OM s.heap I.big),À,h _ (I.hok.fresh ï)⟩
def GQ:É (gp×gp)->fO->b_->(É (V×V)->b_->Prop)->Prop
 |[],_,H,Q=>Q [] H
 |(f,g)::r,a,H,Q=>f a H λx b=>g a b λy c=>GQ r a c λe d=>Q ((x,y)::e) d
abbrev RO:É (V×V)->É (c_×c_)->Prop:=Paired λp q=>hW p.1 q.1/\hW p.2 q.2
def A'(X:fQ)(pos:Pos)(c:É (Option Expr))(a:É Expr)(d:É (gp×gp)):Prop:=
 ∀(b:List (d_×Obj)) (s:fU) (e:fO) (H:b_) (Q:List (V×V)->b_->Prop),fJ X b e H s->GQ d e H Q->
  ö ë X.w X.A (evalPairs (pairTrees c a Û pos)) (λi h=>∃g f,fJ X b e f h/\RO g i/\Q g f) X.xe s
def khW:A' X pos [] [] []:=λa s b H Q I h=>pairTrees_nil_walk ⟨[],H,I,.nil,h⟩
def kfJ(o:gL X k e)(q:gL X v f)(p:A' X pos ks vs b) :
  A' X pos (Á k::ks) (v::vs) ((e,f)::b):=λa s d H Q I h=>
 pairTrees_cons_walk (gq (o a s d H _ I h) λu D ⟨x,g,l,B,t⟩=>gq (q a D d g _ l t) λJ E ⟨y,i,m,C,w⟩=>
  gq (p a E d i _ m w) λK G ⟨r,j,n,c,z⟩=>⟨(x,y)::r,j,n,.cons (Æ B C) c,z⟩)
def xn(kvs a:É (iQ×V)):É (iQ×V):=a.foldl (λb c=>mM b c.1 c.2) kvs
def lU.merge:∀{a:List (iQ×V)} {rs:List (iQ×c_)} {kvs:List (iQ×V)} {vs:List (iQ×c_)},lU a rs->lU kvs vs->lU (xn kvs a) (merged vs rs):=by
 intro a rs kvs vs r;unfold lU at r
 induction r generalizing kvs vs with
 |nil=>intro q;exact q
 |@cons p q d f h t b=>
  intro c;have e:lU (mM kvs p.1 p.2) (stored vs q.1 q.2):=by
   have:=c.put p.1 h.2;rw[<-h.1];exact this
  exact b e
theorem Vx:∀(a kvs:List (iQ×V)),Ô (xn kvs a)<=kvs.length+a.length
 |[],kvs=>by show kvs.length<=kvs.length+0;lia
 |p::r,kvs=>by
  have b:=Vx r (mM kvs p.1 p.2);have c:=Ke kvs p.1 p.2;show Ô (xn (mM kvs p.1 p.2) r)<=_;rw[iN];lia
theorem Mx:∀{kvs:List (iQ×V)} {ws:List (c_×c_)},RO (kvs.map λd=>(iP d.1,d.2)) ws->∃rs,Carries (oA P w) ws rs/\lU kvs rs
 |[],_,r=>by rw[ub] at r;cases r;exact Î [] True.intro .nil
 |p::kvs,_,r=>by
  rw[kL] at r;cases r with
  |@cons a b f i h t=>
   obtain⟨rs,c,q⟩:=Mx (P:=P) (w:=w) t;obtain⟨g,e⟩:=b;exact⟨(p.1,e)::rs,Ą (yP h.1) c,.cons (Æ À h.2) q⟩
def G'(b:É (gp×gp)):gp:=λf H Q=>∀p,H p=none->GQ b f (upd H p (.dK [])) λe c=>c p=Á (.dK [])/\∃a:List (iQ×V),e=a.map (λd=>(iP d.1,d.2))/\a.length<=15/\Q (Â p) (upd c p (.dK (xn [] a)))
def kgz{X:fQ}{pos:Pos}{b:List (Option Expr)}{d:List Expr}{k:List (gp×gp)}(h:A' X pos b d k)(g:b.all (·.isSome)=true)(y:b.length=d.length)(t:b≠[])
  (l:b.length<=15):gL X (.Dict b d pos) (G' k):=by
 intro j s R H Q I q;have B:=I.hok.fresh (Hd ó);have n:=I.laid (a:=ó) (o:=.dK []) (h':=s.heap.push (ć "dict" (.dict #[]))) (t':=s.toks) (λ_ _ q=>i5 _ q) ï (OM s.heap I.big);refine wpAny_Dict_walk (knd:=oA ë X.w) g y t l (gq (h j _ R _ _ n (q _ B)) λY W O=>?_);obtain⟨U,S,m,rel,e,i,r,T,G⟩:=O;subst r;obtain⟨L,c,K⟩:=Mx (P:=ë) (w:=X.w) rel;obtain⟨z,v,M,J,p⟩:=G3 m.hok e;cases J;refine⟨L,c,p,λh' f D=>Õ (Â ó) _ ?_ G⟩;have E:Ô (xn [] i)<=gM:=by
  have u:=Vx i [];rw[Ee] at u;rw[u4];lia
 have x:∃q,h'.get? ó=Á q:=let⟨q,_,_,C,_⟩:=f;⟨q,C⟩;exact Gs m (by rw[e];exact True.intro) D x (RT E v (K.merge .nil) f)
theorem AF{b:Type}[DecidableEq b]:∀{l:List b} {k:b},l.Nodup->¬k∈l->(l++[k]).Nodup
 |[],k,_,_=>Ò
 |a::r,k,h,c=>by
  obtain⟨d,e⟩:=tv.mp h;show(a::(r++[k])).Nodup;refine tv.mpr ⟨λm=>?_,AF e λm=>c (g7.mpr (Or.inr m))⟩;rcases iT.mp m with q|q
  .exact d q
  .exact c (g7.mpr (Or.inl (g_.mp q).symm))
structure xE(fs:É d_)(e T:d_)(fl:c_)(T':d_)(h h':Heap):Prop where
 keep:∀b o,h.get? b=Á o->b≠e->b≠T->b∉fs->h'.get? b=Á o
 slot:∀b o,h.get? b=Á o->b≠e->b≠T->∃sl,h'.get? b=Á {o with slots:=sl}
 exc:∀o,h.get? e=Á o->h'.get? e=Á (Obj.mapFields (·.setIfInBounds 1 (.ref T')) o)
 old:T≠e->∀o,h.get? T=Á o->∃o' us,h'.get? T=Á o'/\o'.data=.fields us/\us[3]?=Á .none
 new:h.objs.size<=T'
 tb:∃oT ts,h'.get? T'=Á oT/\oT.data=.fields ts/\ts[3]?=Á fl
def Pg{M:Model}{A:ig}{E:gC}{s:fU}{d:Heap}{env:Env}{outer:List Env}{L e:d_}{p:Obj}{vs:Array c_}{f:c_}{B:Bool}{Q:Unit->fU->Prop}(m:A.frames=Á (env::outer))(r:s.heap.FunFrames d (env::outer))(y:env.frame=Á L)
  (l:Ć e=Á p) (j:p.data=.fields vs) (hz:1<vs.size) (h:∀h' w,xE (oN (env::outer)) e e (uA L) w s.heap h'->Q () (č h')) :
  gN M A (frameOf env >>= λa=>entryPlaceOf L B >>= λpl=>EntryCells.newEntry f a .none (uA L) .none pl >>= λb=>setField (Â e) 1 b) Q E s:=by
 have D:e∉oN (env::outer):=λz=>by
  obtain⟨_,o,q,k⟩:=r.mem z;rw[l] at q;cases q;exact k vs j
 refine fN (wpAny_frameOf_fun m r y λc g=>fN (wpAny_entryPlaceOf λpl t=>?_));unfold EntryCells.newEntry newFields;refine fN (uW ?_ (t.sizeOk5 _ _ _ _ _));have i:c.get? e=Á p:=(g.2.1 e D).trans l;refine Eh (i5 _ i) j hz (h _ c.objs.size ?_);have H:c.objs.size≠e:=yb (iD i);have x:=Obj.data_mapFields j (·.setIfInBounds 1 (c_.ref c.objs.size));have u:∀(v:Obj) b o,b≠e->c.get? b=Á o->((c.push v).update e (Obj.mapFields (·.setIfInBounds 1 (c_.ref c.objs.size)))).get? b=Á o:=λv b o n q=>by
  rw[rf _ _ (Ne.symm n)];exact i5 _ q
 refine⟨λb o q n _ C=>u _ b o n ((g.2.1 b C).trans q),λb o q n _=>?_,λo q=>?_,λn=>Ì À n,EW g.1.symm,?_⟩
 .obtain⟨G,z⟩:=g.2.2 b o q;exact Æ G (u _ b _ n z)
 .rw[l] at q;cases q;exact uS _ (i5 _ i) (Obj.isFreed_of_fields x)
 .refine Õ _ _ ((rf _ _ (Ne.symm H)).trans (mr c À)) ?_;rcases t with rfl|⟨_,_,_,_,_,_,_,rfl⟩<;>simp
def kb7{M:Model}{A:ig}{E:gC}{s:fU}{a:Heap}{env:Env}{outer:List Env}{L e:d_}{i:Obj}{vs:Array c_}{Q:Unit->fU->Prop}(b:A.frames=Á (env::outer))(k:s.heap.FunFrames a (env::outer))(g:env.frame=Á L)
  (f:Ć e=Á i) (d:i.data=.fields vs) (c:vs[1]?=Á .none) (h:∀h' j,xE (oN (env::outer)) e e (uA L) j s.heap h'->Q () (č h')) :
  gN M A (yo (Â e) env) Q E s:=by
 unfold yo;simp only[g];refine fN (tF f d c ?_);rw[ù Ï];exact Pg b k g f d (tm.mp c).1 h
def kdR{M:Model}{A:ig}{E:gC}{s:fU}{d:Heap}{env:Env}{outer:List Env}{L e T:d_}{B:Obj}{vs:Array c_}{y:Obj}{p:Array c_}{Q:Unit->fU->Prop}(l:A.frames=Á (env::outer))(D:s.heap.FunFrames d (env::outer))(w:env.frame=Á L)
  (v:Ć e=Á B) (u:B.data=.fields vs) (t:vs[1]?=Á (Â T)) (g:Ć T=Á y) (a:y.data=.fields p) (j:p[3]?=Á .none) (c:T≠e)
  (h:∀h' i,xE (oN (env::outer)) e T (uA L) i s.heap h'->Q () (č h')):gN M A (yo (Â e) env) Q E s:=by
 unfold yo;simp only[w];refine fN (tF v u t ?_);rw[if_pos (show(c_.ref T != c_.none)=true from Ò)];refine fN (tF g a j ?_);rw[ù (show ¬((c_.none==uA L)=true) from by simp[uA])];refine fN (Eh g a (tm.mp j).1 ?_);have f:∀b,b≠T->(s.heap.update T (Obj.mapFields (·.setIfInBounds 3 c_.none))).get? b=Ć b:=λb n=>rf _ _ (Ne.symm n);have G:∀b o,Ć b=Á o->(∀I,o.data≠.fields I)->b≠T:=λb o q k z=>by
  rw[z,g] at q;cases q;exact k p a
 have r:=Obj.data_mapFields a (·.setIfInBounds 3 c_.none);have C:=uS (Obj.mapFields (·.setIfInBounds 3 c_.none)) g (Obj.isFreed_of_fields r);refine Pg (s:=č (s.heap.update T (Obj.mapFields (·.setIfInBounds 3 c_.none)))) l (D.of_keeps λb o q k=>Î o ((f b (G b o q k)).trans q) À) w ((f e (Ne.symm c)).trans v) u
  (tm.mp t).1 λh' i x=>h h' i ⟨λb o q n m H=>?_,λb o q n m=>?_,λo q=>?_,λ_ o q=>?_,?_,x.tb⟩
 .exact x.keep b o ((f b m).trans q) n n H
 .exact x.slot b o ((f b m).trans q) n n
 .exact x.exc o ((f e (Ne.symm c)).trans q)
 .obtain⟨J,z⟩:=x.slot T _ C c c;exact⟨_,_,z,r,by simp[(tm.mp j).1]⟩
 .have:=x.new
  rwa [show(s.heap.update T (Obj.mapFields (·.setIfInBounds 3 c_.none))).objs.size=s.heap.objs.size from Heap.size_after_update ..] at this
def CM{E:gC}(m:Ć e=Á i)(l:i.data=.fields vs)(k:vs[1]?=Á (Â T))(f:Ć T=Á g)(a:g.data=.fields j)(d:3<j.size)
  (h:∀h',(∀b,b≠T->h'.get? b=Ć b)->h'.objs.size=s.heap.objs.size->(∃o us,h'.get? T=Á o/\o.data=.fields us/\us[3]?=Á .none)->Q () (č h')):gN M A (setFlight (Â e) Ç) Q E s:=by
 refine wpAny_setFlight_none m l k f a d (h _ (λb n=>rf _ _ (Ne.symm n)) (Heap.size_after_update ..) ?_);have c:=Obj.data_mapFields a (·.setIfInBounds 3 c_.none);exact⟨_,_,uS _ f (Obj.isFreed_of_fields c),c,by simp[d]⟩
def xE.land(x:xE fs e T i a h g)(p:∃o,h.get? T=Á o)(r:∃o,h.get? e=Á o)(k:∀b,b≠a->d.get? b=g.get? b)(t:∃o us,d.get? a=Á o/\o.data=.fields us/\us[3]?=Á .none):xE fs e T .none a h d:=by
 have c:∀b o,h.get? b=Á o->b≠a:=λb o q z=>by
  have:=iD q;have:=x.new;rw[z] at *;exact Ì (l' ‹a<_› ‹_›) (px _)
 refine⟨λb o q n m f=>(k b (c b o q)).trans (x.keep b o q n m f),λb o q n m=>?_,λo q=>(k e (c e o q)).trans (x.exc o q),λn o q=>?_,x.new,t⟩
 .obtain⟨l,z⟩:=x.slot b o q n m;exact Æ l ((k b (c b o q)).trans z)
 .obtain⟨j,us,z,y⟩:=x.old n o q;exact⟨j,us,(k T (c T o q)).trans z,y⟩
open Builtin Builtin.ObjectAttr
abbrev xI:É c_:=[.type "ValueError",.type "Exception",.type "BaseException",.type "object"]
abbrev xR(nm q:Str)(C N B:d_)(e:É c_)(a:Bool)(k:Ñ)(c:É c_)(d:Bool)(b:Option Bool)(f:Option d_)(g h k2 i j:Option c_):Obj:=
 wV nm q C N e (Â B::xI) a k c d b f g h k2 i j "ValueError.__new__"
def GR(v:c_)(a:xI.contains v=true):(c_.ref C::c_.ref B::xI).contains v=true:=by
 rw[Bu,Bu,a,Bool.or_true,Bool.or_true]
def Se(T:String)(a:xI.contains (.type T)=false):(c_.ref C::c_.ref B::xI).contains (.type T)=false:=by
 rw[Bu,Bu,a];rfl
def kf2{E:gC}(b:h.get? C=Á (xR nm q C N B j a r e i c k m n k2 o p))(l:Q () ⟨h,g,d,t,f⟩) :
  gN M A (Ac "ValueError.__new__" ⟨Â C::rest,[]⟩) Q E ⟨h,g,d,t,f⟩:=by
 have F:=Hh;have hY:=GR (C:=C) (B:=B) (.type "ValueError") À;have s:=F.noStar;simp only[Ac,F.newKind,F.newSplit,F.newRow]
 repeat (first|refine ud b ?_|(refine wH b ?_;rw[hY])|refine wpAny_staticBase_exc b ?_|refine wpAny_madeBy_exc b ?_|simp only[bne_self_eq_false,Bool.false_eq_true,if_false]|wp_step)
 exact l
def kjN(e:h.get? C=Á (xR nm q C N B k a v f j c m o r k2 s u))(hz:rest.length<=gM)
  (n:R (.ok (.ret (Â (h.objs.size+1)))) ⟨(h.push (ć "tuple" (.seq rest.toArray))).push {cls:=Â C,data:=.fields #[Â h.objs.size,.none,.none,.none,.bool Ü,.none]},g,d,t,i⟩) :
  pB (model prog w) A (.builtin "ValueError.__new__" ⟨Â C::rest,[]⟩) R ⟨h,g,d,t,i⟩:=by
 have F:=Hh;have x:=F.ends;have hY:=GR (C:=C) (B:=B) (.type "ValueError") À;have l:=Se (C:=C) (B:=B) "AttributeError" À;have iy:=Se (C:=C) (B:=B) "NameError" À;refine codeAny_builtinAt F.entry ?_;unfold Builtin.«BaseException.__new__»;refine PySem.wpAt_bind ?_;show PySem.wpAt _ _ _ (stack >>= _) _ _ _;refine PySem.wpAt_bind (PySem.wpAt_stack λp b=>PySem.wpAt_of_wpAny ?_)
 wp_walk
 refine PySem.wpAt_of_wpAny ?_;rw[F.owner]
 repeat (first|with_reducible refine wpAny_madeHere_exc F.canon e ?_|with_reducible refine ud e ?_|(with_reducible refine wH e ?_;first|rw[hY]|rw[l]|rw[iy])|wp_step)
 show R _ _;rw[wQ];exact n
abbrev xS(C t:d_):Obj:={cls:=Â C,data:=.fields #[Â t,.none,.none,.none,.bool Ü,.none]}
def kiG{prog:f5}{w:fW}{A:ig}{E:gC}{h:Heap}{g:Array D'}{d:Drawn}{t:Nat}{m:OsState}{nm q:Str}{C N B:d_}{u:List c_}{c:Bool}{P:List Str}{n:List c_}{s:Bool}{f:Option Bool}{y:Option d_}{K L k2 M O:Option c_}{rest:List c_}{i:d_}{p:Obj}{Q:gC}(a:h.get? C=Á (xR nm q C N B u c P n s f y K L k2 M O))
  (H:∀h',(∀b o,h.get? b=Á o->h'.get? b=Á o)->PySem.W.Looks (model prog w) h' (ym (Â C) "__init__") (Á (Â i))) (G:h.get? i=Á p) (k:p.cls=.type "function") (hz:rest.length<=gM)
  (I:gN (model prog w) (A.under (.builtin "type.__call__" ⟨Â C::rest,[]⟩)) (call (Â i) (Â (h.objs.size+1)::rest)) (λr s'=>r=.none/\Q (Â (h.objs.size+1)) s') E
   ⟨(h.push (ć "tuple" (.seq rest.toArray))).push (xS C h.objs.size),g,d,t,m⟩) :
  ö prog w A (call (Â C) rest) Q E ⟨h,g,d,t,m⟩:=by
 have F:=Hh;have R:=tc_lookup;have S:=tc_bind (Â C);have U:(⟨h,g,d,t,m⟩:fU).TypeIs (Â C) "type":=Î _ a À;refine yn (codeAny_of_tree ?_);show gN _ _ (callAny (Â C) _) _ _ _
 repeat (any_goals (first|assumption|with_reducible refine ud a ?_|wp_step))
 refine Æ À ?_;refine codeAny_call_builtin_at (Code.quiet_builtin _ â) entry_typeCall (wpAny_check_type_call_sub a ?_)
 repeat (first|with_reducible refine ud a ?_|with_reducible refine wpAny_madeBy_exc a ?_|wp_step)
 refine codeAny_call_builtin_code (Code.quiet_builtin _ F.quiet) (kf2 a ?_);refine kjN a hz ?_;show gN _ _ _ _ _ _;have l:∀b o,h.get? b=Á o->((h.push (ć "tuple" (.seq rest.toArray))).push (xS C h.objs.size)).get? b=Á o:=λb o e=>i5 _ (i5 _ e);have j:=l _ _ a;have z:((h.push (ć "tuple" (.seq rest.toArray))).push (xS C h.objs.size)).get? (h.objs.size+1)=Á {cls:=Â C,data:=.fields #[Â h.objs.size,.none,.none,.none,.bool Ü,.none]}:=by heap_get
 have v:(c_.ref C::c_.ref B::xI).contains (Â C)=true:=Ò
 unfold isInstance
 repeat (first|with_reducible refine ud z ?_|wp_step)
 refine wH j ?_;rw[v]
 repeat wp_step
 show gN _ _ (ym (Â C) _) _ _ _;refine(H _ l).here ?_;refine oh (fN ?_);unfold bindSpecial;refine fN (An (T:="function") ⟨_,l _ _ G,k⟩ ?_);rw[if_pos Ï];refine gH (fN (og I (λr s' J=>?_) λ_ _ x=>x));obtain⟨rfl,D⟩:=J
 wp_walk
 exact D
def kf1{E:gC}(y:A.handled=none)
  (z:gN M A x (λv c=>∃(e:d_) (od:Option d_) (u:d_) (sl:Array (Option c_)) (C:d_) (nm q:Str) (N B:d_) (i:List c_) (a:Bool) (p:List Str) (f:List c_) (h:Bool) (b:Option Bool) (j:Option d_) (l m k2 n o:Option c_),v=Â e/\c.heap.get? C=Á (xR nm q C N B i a p f h b j l m k2 n o)/\
   c.heap.get? e=Á ⟨Â C,od,.fields #[Â u,.none,.none,.none,.bool Ü,.none],sl⟩/\E (Â e) c) E s):gN M A (raiseStmt env (Á x) Ç) Q E s:=by
 unfold raiseStmt;refine fN (og z (λv c r=>?_) λ_ _ x=>x);obtain⟨e,od,u,sl,C,nm,q,N,B,i,a,p,f,h,b,j,l,m,k2,n,o,rfl,k,w,t⟩:=r;have hY:=GR (C:=C) (B:=B) (.type "BaseException") À;obtain⟨D,g,d,H,G⟩:=c
 repeat (first|with_reducible refine ud w ?_|with_reducible refine ud k ?_|(with_reducible refine wH k ?_;rw[hY])|wp_step)
 exact wpAny_raiseNew_none y t
end L2
namespace L2
open PySem PySem.Spec PyProof.Rows PySem.W
abbrev Bo:c_:=.builtin "BaseException.__getattribute__"
def keC{prog:f5}{w:fW}{s:fU}{K:a_}{x C:d_}{ox:Obj}{b:Option Obj}{name:Str}{c:Tok}{A:ig}{E:gC}{Q:Unit->fU->Prop}(X:K.In s.heap)(I:InstAt s.heap x ox C b)(f:mroIn K C (.type "BaseException")=Á true)(i:Q () s) :
  ö prog w A (Ac "BaseException.__getattribute__" (Æ [Â x,.str name c] [])) Q E s:=by
 have d:=I.type (M:=model prog w);have e:Looks (model prog w) s.heap (isInstance (Â x) (.type "BaseException")) true:=d.andThen (looks_mroIn X f);have g:builtinKind "BaseException.__getattribute__"=Á .slot:=â
 have a:splitId "BaseException.__getattribute__"=Á ("BaseException","__getattribute__"):=â
 have h:=F.args_bexc_ga (Â x) (.str name c);simp only[Ac,g,a];refine fN ?_;refine e.here ?_
 repeat (any_goals (first|assumption|wp_step))
def kjL{prog:f5}{w:fW}{A:ig}{E:gC}{s:fU}{K:a_}{x C:d_}{ox:Obj}{e:Option Obj}{name:Str}{f:Tok}{b a:Bool}{v:c_}{s2:fU}{Q:gC}(X:K.In s.heap)(I:InstAt s.heap x ox C e)(k:findIn K (Â C) "__getattribute__"=Á (Á Bo))(l:findIn K (Â C) "__getattr__"=Á Ç)(m:mroIn K C (.type "BaseException")=Á true)
  (n:handedIn v=true) (h:∀g,ö prog w g (Builtin.«object.__getattribute__» (Æ [Â x,.str name f] [])) (λc s'=>c=.done (.ret v)/\s'=s2) (λ_ _=>False) s) (q:Q v s2) :
  ö prog w A (getAttrBy (Â x) (.str name f) b a) Q E s:=by
 have i:=I.type (M:=model prog w);have j:=looks_findIn (M:=model prog w) X k;have L2:=looks_findIn (M:=model prog w) X l;have d:(Bo==c_.builtin "object.__getattribute__")=false:=â
 unfold getAttrBy;refine oh (fN (i.here (fN (j.here ?_))));show gN _ _ (if(onTheHeap (Â C)&&(Bo==c_.builtin "object.__getattribute__"))=true then _ else _) _ _ _;rw[ù (by rw[d,Bool.and_false];exact Bool.noConfusion)];unfold getAttrByItsOwn hookBefore callGetattribute boundAndCalled;refine fN ?_;show gN _ _ (ym (Â C) "__getattr__") _ _ _;refine L2.here ?_;refine fN (wpAny_attempt (oh ?_));rw[ù (by cases a<;>exact Bool.noConfusion)];refine fN (BX (F.attr_ValueError.ga.bind _) ?_);refine og (Q:=λu s'=>u=v/\s'=s2) (E:=λ_ _=>False) (yn (Br F.attr_ValueError.ga.plain F.entry_bexc_ga (keC X I m (og (h _) (λc s' z=>?_) λ_ _ z=>z.elim)))) (λu s' z=>?_) λ_ _ z=>z.elim
 .obtain⟨rfl,rfl⟩:=z;exact Æ À À
 .obtain⟨rfl,rfl⟩:=z;show gN _ _ (handedOut u) _ _ _;rw[handedOut_of n];exact gH q
def keD{prog:f5}{w:fW}{s:fU}{K:a_}{x C:d_}{ox:Obj}{a:Option Obj}{name:Str}{c:Tok}{v:c_}{d:ig}{E:gC}(X:K.In s.heap)(I:InstAt s.heap x ox C a)(g:findObj K C a name=Á (.value v)) :
  ö prog w d (Builtin.«object.__getattribute__» (Æ [Â x,.str name c] [])) (λb s'=>b=.done (.ret v)/\s'=s) E s:=by
 have e:=I.type (M:=model prog w);have f:=looks_find (M:=model prog w) X I g;unfold Builtin.«object.__getattribute__»;refine fN (BX (show slotArgs _ _ _=pure (Â x,[.str name c]) from À) ?_);refine fN (gH (fN (e.here (fN (f.here ?_)))));exact gH (Æ À À)
def kct{prog:f5}{w:fW}{A:ig}{E:gC}{s:fU}{K:a_}{x C:d_}{ox:Obj}{b:Option Obj}{name:Str}{v:c_}{a:Bool}{Q:gC}(X:K.In s.heap)(I:InstAt s.heap x ox C b)(c:findIn K (Â C) "__getattribute__"=Á (Á Bo))(d:findIn K (Â C) "__getattr__"=Á Ç)(e:mroIn K C (.type "BaseException")=Á true)
  (f:findObj K C b name=Á (.value v)) (g:handedIn v=true) (h:Q v {s with toks:=s.toks+1}):ö prog w A (getAttr (Â x) name a) Q E s:=by
 unfold getAttr;refine fN (wpAny_mkText ?_);exact kjL (s:={s with toks:=s.toks+1}) X I c d e g (λi=>keD (s:={s with toks:=s.toks+1}) X I f) h
end L2
namespace L2
open PySem PySem.Spec PyProof.Rows
open Builtin Builtin.ObjectAttr
def Dd(ws:É d_)(r:kN P w H h)(B:∀b∈ws,∃l,H b=Á (.ext l))(m:∀b∈fs,H b=none)
  (d:∀b u,b∉ws->b∉fs->h.get? b=Á u->h'.get? b=Á u) (i:∀b u,b∉ws->b∈fs->h.get? b=Á u->∃sl,h'.get? b=Á {u with slots:=sl})
  (x:∀b∈ws,∃u,h'.get? b=Á u) (g:∀b,b<h.objs.size->b∉ws->H' b=H b) (s:∀b,(h.objs.size<=b\/b∈ws)->∀o,H' b=Á o->kY P w H' h' b o) :
  l_ fs [] H H' h h'/\kN P w H' h':=by
 have v:∀b,H b=none->b∉ws:=λb n z=>by obtain⟨l,e⟩:=B b z;rw[n] at e;cases e
 have k:∀b o,H b=Á o->(∀l,o≠.ext l)->H' b=Á o/\b∉ws:=λb o e n=>by
  have D:b∉ws:=λz=>by obtain⟨l,q⟩:=B b z;rw[e] at q;cases q;exact n l À
  exact Æ ((g b (r.lt e) D).trans e) D
 refine Æ ⟨λb o q n f _=>d b o (v b n) f q,λb o q n f _=>i b o (v b n) f q,λb o q n _=>(g b (iD q) (v b n)).trans n,λb o q _=>?_,λb E e=>(k b _ e λ_ z=>by cases z).1,λb o u e=>(k b _ e λ_ z=>by cases z).1,
  λb G e=>Æ #[] (by rw[Array.append_empty];exact(k b _ e λ_ z=>by cases z).1)⟩ (λa o e=>?_)
 .by_cases j:b∈ws
  .exact x b j
  .by_cases y:b∈fs
   .obtain⟨sl,z⟩:=i b o j y q;exact Æ _ z
   .exact Æ o (d b o j y q)
 .by_cases C:h.objs.size<=a
  .exact s a (È C) o e
  .by_cases j:a∈ws
   .exact s a (Í j) o e
   .have t:H a=Á o:=(g a (Nat.lt_of_not_le C) j).symm.trans e;refine(r a o t).stay (λc u p q=>?_) (λc q=>(k c _ q λ_ z=>by cases z).1) λc E q=>(k c _ q λ_ z=>by cases z).1;rcases p with rfl|p
    .exact d c u j (λz=>by rw[m c z] at t;cases t) q
    .exact d c u (k c _ p λ_ z=>by cases z).2 (λz=>by rw[m c z] at p;cases p) q
def C7(p:b h)(e:h.get? a=Á o)(st:∀c d:Heap,b c->(∀o,c.get? a=Á o->d.get? a=Á o)->b d):kY P w H h a (.ext b):=Î p (Æ o e) st
def kW(x C:d_)(od:Option d_):lj:=.ext λh=>∃u,h.get? x=Á ⟨Â C,od,.fields #[Â u,.none,.none,.none,.bool Ü,.none],#[]⟩
def mZ(x C:d_)(od:Option d_):lj:=.ext λh=>∃b a,h.get? x=Á ⟨Â C,od,.fields b,a⟩
def kG(T:d_):lj:=.ext λh=>∃o a,h.get? T=Á o/\o.data=.fields a/\a[3]?=Á .none
def kv(b:d_)(fs:É (Str×V)):lj:=.ext λh=>fs.length<=1000/\∃a,h.Ns1 b a/\(∀f,pS (fs.lookup f) (a f))/\PySem.Within a (fs.map (·.1))
def kW.ok(e:h.get? x=Á ⟨Â C,od,.fields #[Â u,.none,.none,.none,.bool Ü,.none],#[]⟩):kY P w H h x (kW x C od):=
 C7 (Æ u e) e λa b ⟨u,q⟩ k=>Æ u (k _ q)
def mZ.ok(e:h.get? x=Á ⟨Â C,od,.fields vs,sl⟩):kY P w H h x (mZ x C od):=
 C7 (Î vs sl e) e λa b ⟨vs,sl,z⟩ k=>Î vs sl (k _ z)
def kG.ok(e:h.get? T=Á o)(d:o.data=.fields a)(q:a[3]?=Á .none):kY P w H h T (kG T):=
 C7 ⟨o,a,e,d,q⟩ e λb c ⟨o,a,z,y⟩ k=>⟨o,a,k _ z,y⟩
def kv.ok{P:f5}{w:fW}{H:b_}{h:Heap}{a:d_}{fs:List (Str×V)}{mA:Str->Option c_}(z:fs.length<=1000)(n:h.Ns1 a mA)(r:∀f,pS (fs.lookup f) (mA f))(b:PySem.Within mA (fs.map (·.1))):kY P w H h a (kv a fs):=by
 obtain⟨o,g,d,e,c⟩:=id n;refine C7 ⟨z,mA,n,r,b⟩ e λi j ⟨z,mA,⟨o,g,d,e,c⟩,r,b⟩ k=>⟨z,mA,⟨o,g,d,k _ e,c⟩,r,b⟩
def kW.get(a:kN P w H h)(e:H x=Á (kW x C od)):∃u,h.get? x=Á ⟨Â C,od,.fields #[Â u,.none,.none,.none,.bool Ü,.none],#[]⟩:=(show kY P w H h x (kW x C od) from a x _ e).1
def mZ.get(a:kN P w H h)(e:H x=Á (mZ x C od)):∃vs sl,h.get? x=Á ⟨Â C,od,.fields vs,sl⟩:=(show kY P w H h x (mZ x C od) from a x _ e).1
def A4(h:Heap)(x C:d_)(od:Option d_)(T:d_):Prop:=∃a b,h.get? x=Á ⟨Â C,od,.fields a,b⟩/\a[1]?=Á (Â T)
def kG.get(b:kN P w H h)(e:H T=Á (kG T)):∃o a,h.get? T=Á o/\o.data=.fields a/\a[3]?=Á .none:=(show kY P w H h T (kG T) from b T _ e).1
def kv.get{P:f5}{w:fW}{H:b_}{h:Heap}{a:d_}{fs:List (Str×V)}(b:kN P w H h)(e:H a=Á (kv a fs)):fs.length<=1000/\∃mA,h.Ns1 a mA/\(∀f,pS (fs.lookup f) (mA f))/\PySem.Within mA (fs.map (·.1)):=(show kY P w H h a (kv a fs) from b a _ e).1
structure mW(K:a_)(C:d_):Prop where
 ex:∃(nm q:Str) (N B:d_) (bs:List c_) (sn:List Str) (sub:List c_) (ab:Bool) (col:Option Bool) (dd:Option d_) (k0 k1 k2 k3 k5:Option c_),K.lookup C=Á (xR nm q C N B bs true sn sub ab col dd k0 k1 k2 k3 k5)
 ga:nF K (Â C) "__getattribute__"=Á (Á Bo)
 gh:nF K (Â C) "__getattr__"=Á Ç
 sa:nF K (Â C) "__setattr__"=Á (Á (.builtin "object.__setattr__"))
def mW.cls{K:a_}{C:d_}(c:mW K C):∃a B,Kh K C=Á a/\a.mro=Â C::Â B::xI/\a.hasDict=true:=by
 obtain⟨l,q,N,B,d,m,sub,b,col,f,g,h,i,j,k,e⟩:=c.ex;exact Õ _ B (by unfold Kh;rw[e]) À
def mW.base{K:a_}{C:d_}(c:mW K C):rX K C (.type "BaseException")=Á true:=by
 obtain⟨a,B,e,m,_⟩:=c.cls;unfold rX;rw[e,BB,m];rfl
def mW.hd{K:a_}{C:d_}(c:mW K C):PySem.W.hasDictIn K C=true:=by
 obtain⟨a,B,e,_,d⟩:=c.cls;unfold PySem.W.hasDictIn;rw[e];exact d
def Vq{prog:f5}{w:fW}{A:ig}{K:a_}{C x:d_}{s:fU}{R:Result->fU->Prop}{ox:Obj}{od:Option Obj}{f:Str}{d:Tok}{v:c_}(X:K.In s.heap)(J:PySem.W.InstAt s.heap x ox C od)(c:mW K C)(n:r8 K C f)
  (h:∀b,ö prog w A.in1 (storeInOwnDict (Â x) (Â C) (.str f d) f v b) (λg s'=>match g with|.done f=>R (.ok f) s'|.again i=>i.quiet=true/\pB (model prog w) A i R s') (λe s'=>R (.error e) s') s) :
  pB (model prog w) A (.call (.builtin "object.__setattr__") (Æ [Â x,.str f d,v] [])) R s:=by
 obtain⟨m,B,j,k,o⟩:=c.cls;have a:=PySem.F.store_object;have l:=PySem.F.store_ValueError;have p:PySem.W.Looks (model prog w) s.heap (mroOf (Â C)) m.mro:=(HV X j).andThen .now;have q:PySem.W.Looks (model prog w) s.heap (isInstance (Â x) (.type "object")) true:=J.type.andThen (PySem.W.looks_mroIn X (by unfold rX;rw[j,BB,k];rfl));refine Br a.slot.plain a.entry (@PySem.W.check_slot (model prog w) _ _ s "object.__setattr__" "object" "__setattr__" (Â x) [.str f d,v] [] _ a.kind a.split q (a.args (Â x) (.str f d) v) ?_);rw[PySem.W.osa_eq,refuse_eq];refine fN (fN (J.type.here (fN (p.here ?_))));rw[k,refuseLoop_ref,refuseLoop_ref,l.passes];refine gH (fN (J.type.here (fN ((PySem.W.looks_findIn X n).here (fN ?_)))));exact gH (h _)
def FN{H:b_}{x:d_}{a:Heap->Prop}(e:H x=Á (.ext a)):∀b∈[x],∃a,H b=Á (.ext a):=λb c=>by
 cases g_.mp c;exact Æ a e
def FO{h:Heap}{x:d_}{o:Obj}(e:h.get? x=Á o):∀b∈[x],∃u,h.get? b=Á u:=λb a=>by
 cases g_.mp a;exact Æ o e
def O9{y:V}{u:c_}{fs:List (Str×V)}{mA:Str->Option c_}(f:Str)(a:hW y u)(r:∀f,pS (fs.lookup f) (mA f)):∀g,pS ((nY f y fs).lookup g) (if g=f then Á u else mA g):=λg=>by
 rw[LV];by_cases q:g=f
 .rw[if_pos q,if_pos q];exact a
 .rw[ù q,ù q];exact r g
def MS{y:V}{u:c_}{fs:List (Str×V)}{mA:Str->Option c_}(f:Str)(b:PySem.Within mA (fs.map (·.1))):PySem.Within (λg=>if g=f then Á u else mA g) ((nY f y fs).map (·.1)):=λg a=>by
 by_cases q:g=f
 .rw[q];exact(FB f y fs).1
 .refine(FB f y fs).2 g (b g λz=>a ?_);show(if g=f then Á u else mA g)=none;rw[ù q];exact z
def kb9{X:fQ}{i:List (d_×Obj)}{U:fO}{H:b_}{s:fU}{x C:d_}{f:Str}{y:V}{u:c_}{A:ig}{E:gC}{Q:Unit->fU->Prop}(I:fJ X i U H s)(e:H x=Á (kW x C Ç))(c:mW X.K C)(n:r8 X.K C f)(ry:hW y u)
  (h:∀s' j,H j=none->j≠x->fJ X i U (upd (upd H j (kv j [(f,y)])) x (kW x C (Á j))) s'->Q () s'):ö ë X.w A (setAttr (Â x) f u) Q E s:=by
 obtain⟨a,t⟩:=kW.get I.hok e;obtain⟨cd,B,hc,hm,L⟩:=c.cls;refine PySem.W.set_plain I.kIn (od:=Ç) ⟨t,À,À,True.intro⟩ c.sa (Vq (s:={s with toks:=s.toks+1}) (od:=Ç) I.kIn ⟨t,À,À,True.intro⟩ c n λb=>?_);have S:x≠s.heap.objs.size:=kP (iD t);refine fN (gH (fN (fN (wpAny_loadPart t (fN (PySem.W.Looks.here (s:={s with toks:=s.toks+1}) (HV I.kIn hc) ?_))))));rw[L];show gN _ _ (alloc x3 >>= λd=>(update x λo=>{cls:=o.cls,dict:=Á d,data:=o.data,slots:=o.slots}) >>= λ_=>dictMade (Â C) x d) _ _ _;have D:(s.heap.push x3).get? x=_:=i5 _ t;refine fN (wpAny_alloc (fN (wpAny_update D ?_)));refine gH ?_;have gd:((s.heap.push x3).update x λo=>{cls:=o.cls,dict:=Á ó,data:=o.data,slots:=o.slots}).get? ó=Á x3:=
  (Heap.get?_update_ne _ _ _ _ (Ne.symm S)).trans (Heap.get?_push_at À À)
 have gx:((s.heap.push x3).update x λo=>{cls:=o.cls,dict:=Á ó,data:=o.data,slots:=o.slots}).get? x=Á ⟨Â C,Á ó,.fields #[Â a,.none,.none,.none,.bool Ü,.none],#[]⟩:=
  uS _ D À
 have nd:((s.heap.push x3).update x λo=>{cls:=o.cls,dict:=Á ó,data:=o.data,slots:=o.slots}).Ns ó (λ_=>Ç):=⟨_,#[],_,gd,À,(λe he=>Ì he Ò),λ_=>À⟩;refine fN (gH (fN ?_));refine wpAny_nsSet1 (s:=Ď ((s.heap.push x3).update x λo=>{cls:=o.cls,dict:=Á ó,data:=o.data,slots:=o.slots}) (s.toks+1)) (Heap.Ns1.of_empty nd) λh' p r=>?_;obtain⟨oD,Z,Y,M,J,G⟩:=p.count (PySem.Within.cons f u PySem.Within.nil);refine fN (wpAny_lookBehind M (by rw[J];exact pastItsLine_dict (mC G (by rw[iN,Ee,u4];lia))) ?_);have l:=(r.2 x S).trans gx;have fr:=I.hok.fresh (Hd ó);obtain⟨un,ok⟩:=Dd (P:=ë) (w:=X.w) (fs:=[]) (H':=upd (upd H ó (kv ó [(f,y)])) x (kW x C (Á ó))) (h':=h') [x] I.hok (FN e) (λb z=>Ì z Ò)
  (λb v R _ q=>by
   have O:=iD q;rw[r.2 b (kP O)];exact(Heap.get?_update_ne _ _ _ _ λz=>R (g_.mpr z)).trans (i5 _ q)) (λb u _ z=>Ì z Ò) (FO l) (λb O R=>by
   rw[fM (λz=>R (g_.mpr z)),fM (kP O)]) (λb m o q=>by
   by_cases k:b=x
   .subst k;rw[fG] at q;cases q;exact kW.ok l
   .rw[fM k] at q;by_cases T:b=s.heap.objs.size
    .subst T;rw[fG] at q;cases q;exact kv.ok (fs:=[(f,y)]) (mA:=λg=>if g=f then Á u else none) (by show 1<=1000;decide) p (O9 (fs:=[]) (mA:=λ_=>Ç) f ry λ_=>True.intro) (MS (fs:=[]) (mA:=λ_=>Ç) f λg hg=>Ì À hg)
    .rw[fM T] at q;rcases m with m|m
     .rw[I.hok.fresh m] at q;cases q
     .exact Ì (g_.mp m) k)
 exact gH (h _ _ fr (Ne.symm S) (I.un (t':=s.toks+1+1) (un.mono (λb z=>Ì z Ò) λb z=>z) ok))
def keE{X:fQ}{g:List (d_×Obj)}{R:fO}{H:b_}{s:fU}{x C d:d_}{fs:List (Str×V)}{f:Str}{y:V}{u:c_}{A:ig}{E:gC}{Q:Unit->fU->Prop}(I:fJ X g R H s)(e:H x=Á (kW x C (Á d)))(ne:d≠x)(J:H d=Á (kv d fs))(c:mW X.K C)(n:r8 X.K C f)(hl:fs.length<1000)(ry:hW y u)
  (h:∀s',fJ X g R (upd H d (kv d (nY f y fs))) s'->Q () s'):ö ë X.w A (setAttr (Â x) f u) Q E s:=by
 obtain⟨a,D⟩:=kW.get I.hok e;obtain⟨z,mA,M,r,O⟩:=kv.get I.hok J;obtain⟨od,L,Y⟩:=N4 M;obtain⟨cd,B,U,hm,t⟩:=c.cls;refine PySem.W.set_plain I.kIn (od:=Á od) ⟨D,À,À,L⟩ c.sa (Vq (s:={s with toks:=s.toks+1}) (od:=Á od) I.kIn ⟨D,À,À,L⟩ c n λb=>?_);refine fN (gH (fN (fN (wpAny_loadPart D (fN (PySem.W.Looks.here (s:={s with toks:=s.toks+1}) (HV I.kIn U) ?_))))));rw[t];refine gH (a:=Á d) (fN (gH (fN ?_)));refine wpAny_nsSet1 (s:={s with toks:=s.toks+1}) M λh' j v=>?_;obtain⟨oD,T,S,l,p,m⟩:=j.count (PySem.Within.cons f u O);refine fN (wpAny_lookBehind l (by rw[p];exact pastItsLine_dict (mC m (by rw[iN,fP,u4];lia))) ?_);obtain⟨un,Z⟩:=Dd (P:=ë) (w:=X.w) (fs:=[]) (H':=upd H d (kv d (nY f y fs))) (h':=h') [d] I.hok (FN J) (λb z=>Ì z Ò)
  (λb u G _ q=>(v.2 b λz=>G (g_.mpr z)).trans q) (λb u _ z=>Ì z Ò) (FO l) (λb _ G=>fM λz=>G (g_.mpr z)) (λb i o q=>by
   by_cases k:b=d
   .subst k;rw[fG] at q;cases q;exact kv.ok (by have:=LU f y fs;lia) j (O9 f ry r) (MS f O)
   .rw[fM k] at q;rcases i with i|i
    .rw[I.hok.fresh i] at q;cases q
    .exact Ì (g_.mp i) k)
 exact gH (h _ (I.un (t':=s.toks+1+1) (un.mono (λb z=>Ì z Ò) λb z=>z) Z))
def kkV{q:fO}{E:gC}{Q:gC}(I:fJ X d q H s)(e:H x=Á (kW x C (Á g))\/H x=Á (mZ x C (Á g)))(t:H g=Á (kv g fs))(c:mW X.K C)(n:r8 X.K C f)(l:fs.lookup f=Á v)
  (h:∀u s',fJ X d q H s'->hW v u->Q u s'):ö ë X.w A (getAttr (Â x) f b) Q E s:=by
 obtain⟨z,B,D,r,O⟩:=kv.get I.hok t;obtain⟨G,k,i⟩:=N4 D;obtain⟨u,y,p⟩:=pS.some_of (v:=v) (o:=B f) (by rw[<-l];exact r f);have J:∃m,PySem.W.InstAt s.heap x m C (Á G):=by
  rcases e with e|e
  .obtain⟨a,j⟩:=kW.get I.hok e;exact Õ _ j À k
  .obtain⟨M,L,j⟩:=mZ.get I.hok e;exact Õ _ j À k
 obtain⟨m,J⟩:=J;exact kct I.kIn J c.ga c.gh c.base (PySem.W.findObj_own c.hd n À (by rw[i,y])) (kcP p) (h u _ (I.tok _) p)
def pG(P:f5)(w:fW):t9:=λouter H s E e b=>∃x C c T a,e=Â x/\b.os=s.os/\ve b.gens/\l_ (oN outer) [] H a s.heap b.heap/\kN P w a b.heap/\
 a x=Á (mZ x C c)/\a T=Á (kG T)/\A4 b.heap x C c T/\T≠x/\c≠Á x/\E (Â C) c a
def sZ(E:d_->f_):f_:=λcls c b=>∀x C a,cls=Â C->b x=Á (mZ x C c)->c≠Á x->b a=none->a≠x->E x cls c (upd b a (kG a))
def kiF(h:H x=Á o):upd H x o=H:=by
 funext b;by_cases c:b=x
 .rw[c,fG,h]
 .rw[fM c]
def Rg{D:fO}(I:fJ X h D H s)(r:H x=Á (.ext k))(l:f=x\/H f=Á (kG f))(j:Ć x=Á ⟨Â C,od,.fields vs,sl⟩)(hz:1<vs.size)
  (L:xE (oN X.stack) x f .none a s.heap h'):fJ X h D (upd (upd H a (kG a)) x (mZ x C od)) (č h')/\A4 h' x C od a:=by
 have nx:a≠x:=λz=>by
  have:=iD j;have:=L.new;rw[z] at this;exact Ì (l' ‹x<_› this) (px _)
 have m:∃k,H f=Á (.ext k):=by
  rcases l with rfl|z
  .exact Æ k r
  .exact Æ _ z
 have g:∀b,b∈[x,f]↔b=x\/b=f:=λb=>Ò
 obtain⟨O,M⟩:=Dd (P:=ë) (w:=X.w) (fs:=oN X.stack) (H':=upd (upd H a (kG a)) x (mZ x C od)) (h':=h') [x,f] I.hok (λb d=>by
   rcases(g b).mp d with rfl|rfl
   .exact Æ k r
   .exact m) I.stkFree (λb u i v q=>L.keep b u q (λz=>i ((g b).mpr (È z))) (λz=>i ((g b).mpr (Í z))) v)
  (λb u i v q=>L.slot b u q (λz=>i ((g b).mpr (È z))) (λz=>i ((g b).mpr (Í z)))) (λb d=>by
   rcases(g b).mp d with rfl|rfl
   .exact Æ _ (L.exc _ j)
   .rcases l with rfl|z
    .exact Æ _ (L.exc _ j)
    .by_cases c:b=x
     .subst c;exact Æ _ (L.exc _ j)
     .obtain⟨o,B,q,_⟩:=kG.get I.hok z;obtain⟨y,Q,n,_⟩:=L.old c o q;exact Æ y n)
  (λb t i=>by
   rw[fM (λz=>i ((g b).mpr (È z))),fM (λz=>by rw[z] at t;exact Ì (l' t L.new) (px _))])
  (λb d o e=>by
   by_cases c:b=x
   .subst c;rw[fG] at e;cases e;exact mZ.ok (vs:=vs.setIfInBounds 1 (Â a)) (sl:=sl) (L.exc _ j)
   .rw[fM c] at e;by_cases p:b=a
    .subst p;rw[fG] at e;cases e;obtain⟨S,B,G,J,K⟩:=L.tb;exact kG.ok G J K
    .rw[fM p] at e;rcases d with d|d
     .rw[I.hok.fresh d] at e;cases e
     .rcases(g b).mp d with z|z
      .exact Ì z c
      .subst z;rcases l with z|z
       .exact Ì z c
       .rw[z] at e;cases e;obtain⟨o,B,q,_⟩:=kG.get I.hok z;obtain⟨y,Q,n,E,R⟩:=L.old c o q;exact kG.ok n E R)
 exact⟨I.call' (s':=č h') (ch:=[]) À O M I.bare (λb z=>Ì z Ò),vs.setIfInBounds 1 (Â a),sl,L.exc _ j,by simp[hz]⟩
def kdQ{X:fQ}{b:List (d_×Obj)}{l:fO}{H:b_}{s:fU}{x C:d_}{od:Option d_}{M:Model}{E:gC}{Q:Unit->fU->Prop}(I:fJ X b l H s)(c:X.stack=X.env::X.outer)(e:X.env.frame=Á X.env.locals)(j:H x=Á (kW x C od))
  (h:∀s' a,H a=none->a≠x->fJ X b l (upd (upd H a (kG a)) x (mZ x C od)) s'->A4 s'.heap x C od a->Q () s') :
  gN M X.A (yo (Â x) Û) (λ_ s2=>gN M X.A (setFlight (Â x) Ç) Q E s2) E s:=by
 obtain⟨u,d⟩:=kW.get I.hok j;have f:X.A.frames=Á (X.env::X.outer):=by rw[I.ok.frames,c]
 have g:s.heap.FunFrames X.base (X.env::X.outer):=by rw[<-c];exact I.stack
 refine kb7 f g e d À À λm a L=>?_;have nx:a≠x:=λz=>by
  have:=iD d;have:=L.new;rw[z] at this;exact Ì (l' ‹x<_› this) (px _)
 obtain⟨q,v,n,o,p⟩:=L.tb;refine CM (s:=č m) (L.exc _ d) À (T:=a) Ò n o (tm.mp p).1 λi k _ t=>?_;have L2:=L.land (Æ _ d) (Æ _ d) k t;rw[<-c] at L2;have r:=Rg (s:=s) (h':=i) I j (È À) d Ò L2;exact h (č i) a (I.hok.fresh L.new) nx r.1 r.2
def OI{X:fQ}{b:List (d_×Obj)}{q:fO}{H:b_}{s:fU}{x C T:d_}{od:Option d_}{M:Model}{E:gC}{Q:Unit->fU->Prop}(I:fJ X b q H s)(c:X.stack=X.env::X.outer)(g:X.env.frame=Á X.env.locals)(n:H x=Á (mZ x C od))(m:H T=Á (kG T))(f:A4 s.heap x C od T)(u:T≠x)
  (h:∀s' a,H a=none->a≠x->fJ X b q (upd H a (kG a)) s'->A4 s'.heap x C od a->Q () s') :
  gN M X.A (yo (Â x) Û) (λ_ s2=>gN M X.A (setFlight (Â x) Ç) Q E s2) E s:=by
 obtain⟨K,O,d,e⟩:=f;obtain⟨v,J,p,w,y⟩:=kG.get I.hok m;have o:1<K.size:=(tm.mp e).1;have i:X.A.frames=Á (X.env::X.outer):=by rw[I.ok.frames,c]
 have j:s.heap.FunFrames X.base (X.env::X.outer):=by rw[<-c];exact I.stack
 refine kdR i j g d À e p w y u λe a L=>?_;have nx:a≠x:=λz=>by
  have:=iD d;have:=L.new;rw[z] at this;exact Ì (l' ‹x<_› this) (px _)
 obtain⟨v,J,B,D,G⟩:=L.tb;refine CM (s:=č e) (L.exc _ d) À (T:=a) (by simp[o]) B D (tm.mp G).1 λl k _ t=>?_;have L2:=L.land (Æ _ p) (Æ _ d) k t;rw[<-c] at L2;have r:=Rg (s:=s) (h':=l) I n (Í m) d o L2;rw[kiF (show(upd H a (kG a)) x=Á (mZ x C od) by rw[fM (Ne.symm nx)];exact n)] at r;exact h (č l) a (I.hok.fresh L.new) nx r.1 r.2
def yf{P:f5}{w:fW}{K:a_}{o:Str->Option c_}{a:Heap}{N:List Str}{d:Str}{scope:Scope}{f:d_}{m:c_}{A:ig}{outer:List Env}{s:fU}{H:b_}{E:f_}:vk (pG P w) (pT (pG P w) P w K o a N d scope f m A outer s H E) (sZ λ_=>E):=by
 rintro pins L B G e D I ⟨x,C,t,T,y,rfl,u,bare,v,hok,j,n,i,r,c,q⟩;have l:=I.call' (ch:=[]) u v hok bare λb z=>Ì z Ò;refine fN (OI l À À j n i r λJ k p nx g h=>?_);exact⟨x,C,t,k,_,À,g.os,g.bare,g.base,g.hok,by rw[fM (Ne.symm nx)];exact j,fG,h,nx,c,q x C k À j c p nx⟩
def kbU{P:f5}{w:fW}{K:a_}{k:Str->Option c_}{a:Heap}{N:List Str}{b:Str}{scope:Scope}{f:d_}{j:c_}{A:ig}{outer:List Env}{s:fU}{H:b_}{E:f_}{d:List (d_×Obj)}{o:fO}{e:b_}{l:fU}{x C:d_}{od:Option d_}(I:fJ (pT (pG P w) P w K k a N b scope f j A outer s H E) d o e l)(m:e x=Á (kW x C od))(i:od≠Á x)
  (q:∀c,e c=none->c≠x->E (Â C) od (upd (upd e c (kG c)) x (mZ x C od))):(pT (pG P w) P w K k a N b scope f j A outer s H E).xe (Â x) l:=by
 refine fN (kdQ I À À m λp c n nx g h=>?_);exact⟨x,C,od,c,_,À,g.os,g.bare,g.base,g.hok,fG,by rw[fM nx,fG],h,nx,i,q c n nx⟩
structure GA(K:a_)(C f:d_):Prop where
 cl:mW K C
 init:nF K (Â C) "__init__"=Á (Á (Â f))
 fn:EZ K (Â f)=true
 kp:rh K (Â C)=true
def xq(C:d_)(sp:gO)(t:kF):gp:=λd H Q=>t d H λc a=>∀x,a x=none->sp (Â x::c) (upd a x (kW x C Ç)) (λv b=>v=.non/\Q (Â x) b) f9
def yS(K:a_)(h i:gp)(f:Str):e_:=λD d H=>i d H λy g=>h d g λx c=>∃a C,x=Â a/\mW K C/\r8 K C f/\
 ((c a=Á (kW a C Ç)/\∀b,c b=none->b≠a->D.nx d (upd (upd c b (kv b [(f,y)])) a (kW a C (Á b))))\/
  ∃b e,c a=Á (kW a C (Á b))/\b≠a/\c b=Á (kv b e)/\e.length<1000/\D.nx d (upd c b (kv b (nY f y e))))
def xD(K:a_)(e:gp)(f:Str):gp:=λg H Q=>e g H λx b=>∃a C c d v,x=Â a/\(b a=Á (kW a C (Á c))\/b a=Á (mZ a C (Á c)))/\b c=Á (kv c d)/\mW K C/\r8 K C f/\d.lookup f=Á v/\Q v b
def xr(K:a_)(E:f_)(d:gp):e_:=λ_ e H=>d e H λv c=>∃x C b,v=Â x/\mW K C/\c x=Á (kW x C b)/\b≠Á x/\∀a,c a=none->a≠x->E (Â C) b (upd (upd c a (kG a)) x (mZ x C b))
def GE(X:fQ)(E:f_):Prop:=∀(a:List (d_×Obj)) (f:fO) (b:b_) (e:fU) (x C:d_) (d:Option d_),fJ X a f b e->b x=Á (kW x C d)->d≠Á x->
 (∀c,b c=none->c≠x->E (Â C) d (upd (upd b c (kG c)) x (mZ x C d)))->X.xe (Â x) e
def kdE{y:fO}(M:GA X.K C f)(F:oI ë X.w X.K X.mg X.base oK k f fd ps sp)(Y:ku (k+1) X.A)(U:uC X.K fd ps [])(hz:ps.length<=1000)
  (I:fJ X c y H s) (r:gQ vs us) (h:∀x,H x=none->sp (Â x::vs) (upd H x (kW x C Ç)) (λv J=>v=.non/\Q (Â x) J) f9) :
  ö ë X.w X.A (call (Â C) us) (lG X c y Q) X.xe s:=by
 have D:=h (s.heap.objs.size+1) (I.hok.fresh (Ao _));obtain⟨nm,q,N,B,bs,sn,sub,ab,col,dd,k0,k1,k2,k3,k5,lk⟩:=M.cl.ex;have lf:∃j,Ć f=Á j/\j.cls=.type "function":=by
  have:=beq_iff_eq.mp M.fn;obtain⟨j,O,P⟩:=pj.mp this;exact Î j (I.kIn _ _ O) P
 obtain⟨j,p,t⟩:=lf;have kp:∀b u,Ć b=Á u->((s.heap.push (ć "tuple" (.seq us.toArray))).push (xS C ó)).get? b=Á u:=λb u q=>i5 _ (i5 _ q);have T:((s.heap.push (ć "tuple" (.seq us.toArray))).push (xS C ó)).get? (s.heap.objs.size+1)=Á (xS C ó):=by heap_get
 have m:fJ X c y (upd H (s.heap.objs.size+1) (kW (s.heap.objs.size+1) C Ç)) (č ((s.heap.push (ć "tuple" (.seq us.toArray))).push (xS C ó))):=
  I.laid (t':=s.toks) kp (Ao _) (kW.ok T)
 have E:gQ (V.ref (s.heap.objs.size+1)::vs) (c_.ref (s.heap.objs.size+1)::us):=.cons À r;have z:Ô (c_.ref (s.heap.objs.size+1)::us)=ps.length:=by
  have e:=E.length;rw[F.len _ _ _ _ D] at e;exact e.symm
 have n:us.length<=gM:=by
  have:us.length+1=ps.length:=z;rw[u4];lia
 obtain⟨l,g,d,tk,os⟩:=s;refine kiG (I.kIn _ _ lk) (λh' Z=>PySem.W.looks_findIn (λb o q=>Z b o (I.kIn b o q)) M.init) p t n ?_;have i:=U ⟨_,g,d,tk,os⟩ (c_.ref (l.objs.size+1)::us) m.kIn (by rw[oe];exact z);rw[oe] at i;refine yn (Am (F.run _ X.stack _ _ ⟨c_.ref (l.objs.size+1)::us,[]⟩ (c_.ref (l.objs.size+1)::us) _ _ f9 (Y.make C us []) (m.env0.make C us []) i E D) λr s' a=>?_);cases r with
 |error e=>exact False.elim a
 |ok S=>
  cases S with
  |ret u=>
   obtain⟨v,G,L,rv,R,q3⟩:=m.after a;subst R;exact Æ rv (Õ (V.ref (l.objs.size+1)) G L q3)
  |next=>exact False.elim a
  |brk=>exact False.elim a
  |cont=>exact False.elim a
def kfD{X:fQ}{k:Nat}{f C:d_}{fd:m6}{ps:List Str}{sp:gO}{x:Str}{p pos:Pos}{e:Expr}{es:List Expr}{t:kF}(M:GA X.K C f)(F:oI ë X.w X.K X.mg X.base oK k f fd ps sp)(n:ku (k+1) X.A)(l:ko X x)(m:X.mg x=Á (Â C))(i:uC X.K fd ps [])(hz:ps.length<=1000)
  (g:ny X (e::es) t) (b:(x==("__debug__":Str))=false:=by decide) (j:gK (e::es) Û=(Ü,þ e)::gK es Û:=by rfl) (c:(lR pos (gK es Û)).any (·.1)=false:=by rfl) :
  gL X (Č x p (e::es) [] pos) (xq C sp t):=by
 intro a s o H Q I h;refine wI (yu I l m ?_ b);refine PySem.W.callWith_K (h₀:=X.base) I.ok.mod.kin M.kp (gq (g pos a s o H _ I h) λy v ⟨z,u,d,r,q⟩=>Æ d.kIn ?_) j c;exact kdE M F n i hz d r q
def kh2(E:gL X o t)(M:gL X b v)(L:u6 b (Á (.Attribute o k e)) pos.line Û=pure Ü):rS X (.Assign [.Attribute o k e] b pos) (yS X.K t v k):=by
 intro d s g H D I h;refine plainObj_wpAny_Assign_Attribute (gq (M d s g H _ I h) λu R Z=>?_) L;obtain⟨y,w,z,r,q⟩:=Z;refine gq (E d R g w _ z q) λP W Z=>?_;obtain⟨x,T,m,Q,a,C,ex,c,n,f⟩:=Z;subst ex;obtain rfl:P=c_.ref a:=Q;rcases f with⟨j,f⟩|⟨p,U,j,O,B,l,f⟩
 .exact kb9 m j c n r λS p G J i=>⟨g,_,i,f p G J⟩
 .exact keE m j O B c n l r λS i=>⟨g,_,i,f⟩
def khJ(p:gL X e f)(o:tx e d Û (þ e)=þ e):gL X (.Attribute e d pos) (xD X.K f d):=by
 intro b s y H Q I h;refine kg0 o (gq (p b s y H _ I h) λu D w=>?_);obtain⟨x,g,i,t,a,C,z,B,v,ex,k,m,c,n,l,q⟩:=w;subst ex;obtain rfl:u=c_.ref a:=t;exact kkV i k m c n l λG E j r=>⟨v,g,j,r,q⟩
def kfK(w:GE X E)(t:X.A.handled=none)(p:gL X e i):rS X (.Raise (Á e) Ç pos) (xr X.K E i):=by
 intro a s j H D I h;rw[arm_exec_Raise];refine fN (yd ?_);refine kf1 t (fN (gq (p a s j H _ I h) λu R Z=>?_));obtain⟨v,k,b,Q,x,C,g,o,c,f,d,q⟩:=Z;refine fN (yd (gH ?_));subst o;obtain rfl:u=c_.ref x:=Q;obtain⟨O,P,N,B,m,S,sub,l,col,n,y,z,G,J,L,M⟩:=c.ex;obtain⟨T,r⟩:=kW.get b.hok f;exact⟨x,g,T,_,C,O,P,N,B,m,true,S,sub,l,col,n,y,z,G,J,L,À,b.kIn _ _ M,r,w a j k R x C g b f d q⟩
abbrev fQ.tryIn(X:fQ)(pl:É (d_×Obj))(E:gC):fQ:={X with pn:=X.pn++pl,xe:=E}
abbrev fQ.inSuite(X:fQ)(x:d_):fQ:={X with A:=X.A.mark (Á (Â x)),calm:=Ü,xe:=λ_ _=>False}
def fQ.Ok.tryIn{X:fQ}(a:X.Ok)(pl:É (d_×Obj))(E:gC):(X.tryIn pl E).Ok:=
 ⟨a.mod,a.kind,a.glob,a.blt,a.above,a.inj,a.has,a.cab,a.hd,a.frames,a.stk,a.exf,a.bs,a.bsz,a.noex,a.exfs,a.funs,a.frf⟩
def fQ.Ok.unTry{X:fQ}{E:gC}{pl:List (d_×Obj)}(a:(X.tryIn pl E).Ok):X.Ok:=
 ⟨a.mod,a.kind,a.glob,a.blt,a.above,a.inj,a.has,a.cab,a.hd,a.frames,a.stk,a.exf,a.bs,a.bsz,a.noex,a.exfs,a.funs,a.frf⟩
def fJ.tryIn{X:fQ}{a:List (d_×Obj)}{c:fO}{H:b_}{s:fU}(I:fJ X a c H s)(E:gC):fJ (X.tryIn a E) [] c H s:=
 ⟨I.ok.tryIn a E,I.os,I.bare,I.base,I.loc,I.cell,I.free,I.freeC,λp b=>I.pin p (by rw[oe] at b;exact b),I.hok,I.len⟩
def fJ.unTry{X:fQ}{a b:List (d_×Obj)}{c:fO}{H:b_}{s:fU}{E:gC}(I:fJ (X.tryIn a E) b c H s):fJ X a c H s:=
 ⟨I.ok.unTry,I.os,I.bare,I.base,I.loc,I.cell,I.free,I.freeC,λp d=>I.pin p (mP _ d),I.hok,I.len⟩
def tj.unTry(h:tj (X.tryIn a E) b D f s'):tj X a D f s':=by
 cases f with
 |ret u=>obtain⟨v,c,d,I,r,q⟩:=h;exact⟨v,c,d,I.unTry,r,q⟩
 |_=>obtain⟨c,d,I,q⟩:=h;exact⟨c,d,I.unTry,q⟩
def fJ.inSuite{b:fO}(I:fJ X a b H s)(x:d_):fJ (X.inSuite x) a b H s:=
 ⟨⟨I.ok.mod,I.ok.kind,I.ok.glob,I.ok.blt,I.ok.above,I.ok.inj,I.ok.has,I.ok.cab,(λz=>by cases z),I.ok.frames,I.ok.stk,I.ok.exf,I.ok.bs,I.ok.bsz,I.ok.noex,I.ok.exfs,I.ok.funs,I.ok.frf⟩,
  I.os,I.bare,I.base,I.loc,I.cell,I.free,I.freeC,I.pin,I.hok,I.len⟩
def fJ.unSuite{b:fO}(I:fJ (X.inSuite x) a b H s)(c:X.calm=true->X.A.handled=none):fJ X a b H s:=
 ⟨⟨I.ok.mod,I.ok.kind,I.ok.glob,I.ok.blt,I.ok.above,I.ok.inj,I.ok.has,I.ok.cab,c,I.ok.frames,I.ok.stk,I.ok.exf,I.ok.bs,I.ok.bsz,I.ok.noex,I.ok.exfs,I.ok.funs,I.ok.frf⟩,
  I.os,I.bare,I.base,I.loc,I.cell,I.free,I.freeC,I.pin,I.hok,I.len⟩
def EO{X:fQ}{g:List (d_×Obj)}{T:fO}{H:b_}{s:fU}{M:Model}{A:ig}{E:gC}{i:Nat}{n:Str}{pos:Pos}{Q:Unit->fU->Prop}(I:fJ X g T H s)(U:X.N.Nodup)(K:X.N[i]?=Á n)(B:X.env.kindOf n=Á .local)
  (h:∀s',fJ X g (T.set i Ç) H s'->Q () s'):gN M A (do bindName X.env n .none;unbindBehindTheSuite X.env n pos) Q E s:=by
 have x:(X.env.scope.kind==.class || (X.env.scope.kind==.module&&X.env.locals != X.env.globals))=false:=by rw[I.ok.kind];rfl
 refine fN (wpAny_bindName (Cq (v:=.non) I U K (È B) À (λs1 a=>?_) (Í B)));obtain⟨m,Y,W⟩:=id a.loc;have f:i<T.length:=by rw[I.len];exact(gR.mp K).1
 have P:m n=Á .none:=by
  obtain⟨u,ru,q⟩:=W i n .non K (by rw[ph f]) (È B);obtain rfl:u=c_.none:=ru;rcases q with⟨_,q⟩|⟨k,_⟩
  .exact q
  .rw[B] at k;rcases k with k|k<;>cases k
 unfold unbindBehindTheSuite;refine wpAny_onRaise ?_;unfold unbindName;refine fN (wpAny_point (fN ?_));unfold deleteName;simp only[B,x];rw[ù Ï];refine fN (wpAny_nsDel_keeps Y λh2 v R l=>?_);rw[P];simp only[if_true,Option.isSome_some,Bool.not_true,Bool.false_eq_true,if_false];refine gH (wpAny_point (h _ ?_));obtain⟨oL,_,_,aa,_⟩:=id Y;have S:kN ë X.w H h2:=λb ob e=>by
  refine(a.hok b ob e).stay (λc w' J q=>(l.2 c ?_).trans q) (λ_ q=>q) λ_ _ q=>q;rintro rfl;rcases J with rfl|J
  .rw[a.free] at e;cases e
  .rw[a.free] at J;cases J
 have r:∀b o,X.s₀.heap.get? b=Á o->b≠X.env.locals:=λb o e=>kP (l' (iD e) a.ok.above);refine⟨a.ok,a.os,a.bare,⟨λb o e D L C=>?_,λb o e D L C=>?_,a.base.free,λb o e C=>?_,a.base.tups,a.base.frzs,a.base.tbls⟩,Î _ R (λj y v' t G e3=>?_),λy c e=>?_,a.free,a.freeC,λp hp=>?_,S,by simpa using I.len⟩
 .exact(l.2 b (r b o e)).trans (a.base.keep b o e D L C)
 .obtain⟨sl,t⟩:=a.base.slot b o e D L C;exact Æ sl ((l.2 b (r b o e)).trans t)
 .obtain⟨o',t⟩:=a.base.there b o e C;exact Æ o' ((l.2 b (r b o e)).trans t)
 .have O:j≠i:=λz=>by
   subst z;rw[ph f] at G;cases G
  rw[rW (Ne.symm O)] at G;obtain⟨u',r',q⟩:=W j y v' t (by rw[rW (Ne.symm O)];exact G) e3;refine Î u' r' ?_;rcases q with⟨k,e⟩|⟨k,c,e,z⟩
  .refine È (Æ k ?_);have:y≠n:=λe=>O (FU U t (e ▸ K));simp[this,e]
  .exact Í ⟨k,c,e,z.sameBut l (a.cne y c e)⟩
 .obtain⟨w',z⟩:=a.cell y c e;exact Æ w' (z.sameBut l (a.cne y c e))
 .obtain⟨e,D,Z,nf,d⟩:=a.pin p hp;exact⟨(l.2 p.1 Z).trans e,D,Z,nf,d⟩
structure DD(K:a_)(C0:d_):Prop where
 ex:∃(nm q:Str) (N:d_) (bs bm:List c_) (hdct:Bool) (sn:List Str) (sub:List c_) (ab:Bool) (col:Option Bool) (dd:Option d_) (k0 k1 k2 k3 k5:Option c_) (nid:String),K.lookup C0=Á (wV nm q C0 N bs bm hdct sn sub ab col dd k0 k1 k2 k3 k5 nid)
 exc:rX K C0 (.type "BaseException")=Á true
structure wt(K:a_)(C C0:d_):Prop where
 cl:mW K C
 er:DD K C0
 sub:rX K C (Â C0)=Á true
def v_(n:Nat):fO:=lq n Ç
def CN{K:a_}{C:d_}{o:Obj}{a:ClassData}{v:c_}{b:Bool}(d:K.lookup C=Á o)(c:o.data=.cls a)(e:rX K C v=Á b):a.mro.contains v=b:=by
 unfold rX Kh at e;rw[d] at e;obtain⟨g,h,f,i⟩:=o;cases c;rw[BB] at e;split at e
 .cases e
 .exact ď e
def kiH{E:gC}
  (J:h.get? C=Á (wV nm q C N G y j sn w D p I W X k2 Y Z s)) (i:h.get? b=Á (wV u q0 b B n c a v l m e r P R S T U k))
  (hY:(c_.ref b::c).contains (.type "BaseException")=true) (H:(c_.ref C::y).contains (Â b)=true) (O:h.get? x=Á o) (K:o.cls=Â C) (L:Q true ⟨h,g,d,t,z⟩):gN M A (As (Â x) (Â b)) Q E ⟨h,g,d,t,z⟩:=by
 have f:=tc_notTuple;unfold As
 repeat (first|(with_reducible refine ud O ?_;rw[K])|with_reducible refine ud i ?_|(with_reducible refine wH i ?_;rw[hY])|(with_reducible refine wH J ?_;rw[H])|wp_step)
 exact L
def Sf{K:a_}{C b x:d_}{M:Model}{A:ig}{E:gC}{s:fU}{o:Obj}{Q:Bool->fU->Prop}(c:K.In s.heap)(m:wt K C b)(w:Ć x=Á o)(u:o.cls=Â C)(q:Q true s):gN M A (As (Â x) (Â b)) Q E s:=by
 obtain⟨Z,q',N,B,H,sn,sub,G,col,I,S,T,U,X,Y,f⟩:=m.cl.ex;obtain⟨y,q0,D,n,l,v,z,j,k,e,r,J,L,O,P,R,i,a⟩:=m.er.ex;have hY:=CN a À m.er.exc;have p:=CN f À m.sub;obtain⟨h,g,d,t,os⟩:=s;exact kiH (c _ _ f) (c _ _ a) hY p w u q
theorem Yq{prog:f5}{w:fW}{A:ig}{R:Result->fU->Prop}{s:fU}{p a z:Expr}{y:List Expr}{scope:Scope}{pos:Pos}{it o:c_}{env:Env}(I:Nat->fU->Prop)
  (C:∀n s,I n s->gN (model prog w) A (uz it) (λr b=>match r with
   |none=>R (.ok .next) b
   |some v=>gN (model prog w) A (Eb a it v) (λ_ b=>gN (model prog w) A (assign a env v) (λ_ i=>
     gN (model prog w) A (forIn y true λc r=>if r=true then do let B <-isTrue c env (eval c env);pure (ForInStep.yield B) else pure (ForInStep.yield r)) (λB e=>
      if B=true then gN (model prog w) A (eval p env) (λx j=>
       gN (model prog w) A (call (.builtin "list.append") [o,x]) (λ_ k=>∃m,m<n/\I m k) (λ_ _=>False) j) (λ_ _=>False) e
      else ∃m,m<n/\I m e) (λ_ _=>False) i) (λ_ _=>False) b) (λ_ _=>False) b) (λ_ _=>False) s)
  (n:Nat) (h:I n s) :
  pB (model prog w) A (.compLoop (.ListComp p [⟨a,z,y,0⟩] scope pos) 0 it o env) R s:=by
 refine codeAny_loop À I (λn s E=>?_) n h;refine wpAny_noted ?_;refine fN (yd (fN (og (C n s E) (λr b f=>?_) λ_ _ d=>d.elim)));cases r with
 |none=>exact gH f
 |some v=>
  refine fN (og f (λ_ D l=>?_) λ_ _ d=>d.elim);refine fN (og l (λ_ i q=>fN (og q (λB e g=>?_) λ_ _ d=>d.elim)) λ_ _ d=>d.elim);cases B with
  |false=>exact gH (Æ À g)
  |true=>
   exact fN (fN (og g (λx j t=>fN (og t (λ_ k u=>gH (gH (Æ À u))) λ_ _ d=>d.elim)) λ_ _ d=>d.elim))
theorem Kp
  (v:∀n k cs,f (n,k) cs=if(k==lA.free)=true then(do let c <-cellOf env n;pure (.yield ((n,c)::cs))) else pure (.yield cs)) :
  ∀(names:List (Str×lA)) (cs:List (Str×d_)),(∀x∈names,x.2=lA.free->∃c,env.cells.lookup x.1=Á c)->(∀n c,cs.lookup n=Á c->env.cells.lookup n=Á c)->
   ∃b,(forIn names cs f:Sem (É (Str×d_)))=pure b/\(∀n c,b.lookup n=Á c->env.cells.lookup n=Á c)/\(∀n,(cs.lookup n).isSome=true->(b.lookup n).isSome=true)/\∀x∈names,x.2=lA.free->(b.lookup x.1).isSome=true
 |[],cs,_,p=>⟨cs,À,p,λ_ h=>h,λ_ h=>nomatch h⟩
 |(n,k)::r,cs,w,p=>by
  have g:∀x∈r,x.2=lA.free->∃c,env.cells.lookup x.1=Á c:=λx a=>w x (my _ a);rw[List.forIn_cons,v];by_cases j:k=lA.free
  .subst j;obtain⟨c,y⟩:=w (n,lA.free) pH À;have u:∀m d,((n,c)::cs).lookup m=Á d->env.cells.lookup m=Á d:=λm d i=>by
    rw[x9] at i;cases e:(m==n) with
    |true=>
     rw[e] at i;have:m=n:=by simpa using e
     rw[this];cases i;exact y
    |false=>rw[e] at i;exact p m d i
   obtain⟨b,q,s,o,t⟩:=Kp v r ((n,c)::cs) g u;refine⟨b,?_,s,λm C=>o m ?_,λx a j=>?_⟩
   .rw[<-q];have z:cellOf env n=pure c:=by unfold cellOf;rw[y]
    rw[z];rfl
   .rw[x9];cases e:(m==n) with
    |true=>rfl
    |false=>exact C
   .rcases g7.mp a with rfl|a
    .exact o n (by rw[x9,beq_self_eq_true];rfl)
    .exact t x a j
  .have B:(k==lA.free)=false:=by simpa using j
   obtain⟨b,q,s,o,t⟩:=Kp v r cs g p;refine⟨b,?_,s,o,λx a l=>?_⟩
   .rw[<-q,B];rfl
   .rcases g7.mp a with rfl|a
    .exact Ì l j
    .exact t x a l
def My(g:∀x∈scope.names,x.2=lA.free->∃c,env.cells.lookup x.1=Á c) :
  ∃b,closureFor scope env=pure b/\(∀n c,b.lookup n=Á c->env.cells.lookup n=Á c)/\∀x∈scope.names,x.2=lA.free->(b.lookup x.1).isSome=true:=by
 obtain⟨b,i,d,_,e⟩:=Kp (env:=env) (f:=λ(x:Str×lA) a=>if(x.2==lA.free)=true then(do let c <-cellOf env x.1;pure (.yield ((x.1,c)::a))) else pure (.yield a)) (λ_ _ _=>rfl) scope.names [] g (λ_ _ h=>nomatch h);refine⟨b,Eq.trans (show closureFor scope env=((forIn scope.names ([]:List (Str×d_)) λ(x:Str×lA) a=>if(x.2==lA.free)=true then(do let c <-cellOf env x.1;pure (.yield ((x.1,c)::a))) else pure (.yield a)) >>= λa=>pure a) from rfl) ?_,d,e⟩
 grind
theorem DW{env:Env}{x:Str}:∀(names:List (Str×lA)),
  (names.map λ(n,k)=>if(k==lA.free&&env.scope.kind==.function&&env.kindOf n==Á .cell) then(n,lA.cell) else(n,k)).lookup x =
   (names.lookup x).map λk=>if(k==lA.free&&env.scope.kind==.function&&env.kindOf x==Á .cell) then lA.cell else k
 |[]=>rfl
 |(n,k)::r=>by
  have c:=DW (env:=env) (x:=x) r;show wU x ((if(k==lA.free&&env.scope.kind==.function&&env.kindOf n==Á .cell)=true then(n,lA.cell) else(n,k))::_)=_;cases b:x==n with
  |true=>
   have e:x=n:=by simpa using b
   subst e;by_cases a:(k==lA.free&&env.scope.kind==.function&&env.kindOf x==some .cell)=true
   .rw[if_pos a];simp only[x9,b,pL,if_pos a]
   .rw[ù a];simp only[x9,b,pL,ù a]
  |false=>
   by_cases a:(k==lA.free&&env.scope.kind==.function&&env.kindOf n==some .cell)=true
   .rw[if_pos a];simp only[x9,b];exact c
   .rw[ù a];simp only[x9,b];exact c
def kfs{scope:Scope}{env:Env}{x:Str}(a:∀y∈scope.names,y.2≠lA.cell)(h:(relabel scope env).names.lookup x=Á .cell\/(relabel scope env).names.lookup x=Á .free):scope.names.lookup x=Á .free:=by
 have e:(relabel scope env).names.lookup x=_:=DW (env:=env) (x:=x) scope.names;rw[e] at h;cases q:scope.names.lookup x with
 |none=>rw[q] at h;rcases h with h|h<;>cases h
 |some k=>
  rw[q] at h;by_cases c:k=lA.free
  .rw[c]
  .have b:(k==lA.free)=false:=Ã
   simp only[pL,b,Bool.false_and,Bool.false_eq_true,if_false] at h;rcases h with h|h
   .cases h;exact Ì À (a _ (vI q))
   .exact h
def khE{scope:Scope}{env:Env}{x:Str}(h:(relabel scope env).names.lookup x≠none):scope.names.lookup x≠none:=by
 have e:(relabel scope env).names.lookup x=_:=DW (env:=env) (x:=x) scope.names
 grind
structure yB(sc:Scope)(N:Ñ)(scope:Scope)(NY:Ñ)(js:É Nat):Prop where
 kind:scope.kind=.function
 cell:∀y∈scope.names,y.2≠lA.cell
 names:∀x∈scope.names,x.2=lA.local->scope.names.lookup x.1=Á .local
 free:∀x∈scope.names,x.2=lA.free->sc.names.lookup x.1=Á .cell\/sc.names.lookup x.1=Á .free
 pre:NY.take N.length=N
 cap:∀p∈N.zipIdx,js.contains p.2=true\/scope.names.lookup p.1=none\/scope.names.lookup p.1=Á .free
def oM(a:É Nat)(k:Nat)(b:fO):fO:=a.foldl (λs j=>s.set j Ç) b++lq k Ç
theorem EH:∀(b:List Nat) (a:fO),Ô (b.foldl (λs j=>s.set j Ç) a)=a.length
 |[],_=>rfl
 |j::r,a=>by rw[Ae,EH r,uV]
theorem Ng:∀(c:List Nat) (b:fO) (i:Nat) (v:V),(c.foldl (λs j=>s.set j Ç) b)[i]?=Á (Á v)->b[i]?=Á (Á v)/\c.contains i=false
 |[],b,i,v,h=>Æ h À
 |j::r,b,i,v,h=>by
  rw[Ae] at h;obtain⟨a,d⟩:=Ng r _ i v h;by_cases e:j=i
  .subst e;by_cases f:j<b.length
   .rw[ph f] at a;cases a
   .rw[ue (by rw[uV];lia)] at a;cases a
  .rw[rW e] at a;refine Æ a ?_;rw[Bu,d];have:(i==j)=false:=by simpa using λz=>e z.symm
   rw[this];rfl
def khc(h:(oM b k a)[i]?=Á (Á v)):a[i]?=Á (Á v)/\b.contains i=false:=by
 unfold oM at h;by_cases c:i<a.length
 .rw[uc (by rw[EH];exact c)] at h;exact Ng b a i v h
 .rw[tr (by rw[EH];lia),y9] at h;lia
def khd:Ô (oM b k a)=a.length+k:=by
 unfold oM;rw[ie,EH,uQ]
def lK(X:fQ)(a:Ñ)(scope:Scope)(b:É (Str×d_))(C:d_)(s₀:fU)(H₀:b_)(c:É d_):fQ:=
 {X with N:=a,s₀:=s₀,H₀:=H₀,env:=compEnvC scope b C Û,outer:=X.stack,ex:=c,fn:=λ_=>Ü,pn:=[],xe:=λ_ _=>False}
def yV(X:fQ)(b:É Expr)(t:kU):Prop:=
 ∀(a:List (d_×Obj)) (s:fU) (d:fO) (H:b_) (Q:Bool->b_->Prop),fJ X a d H s->t d H Q->
  gN (model X.prog X.w) X.A (forIn b true λc r=>if r=true then do let e <-isTrue c X.env (eval c X.env);pure (ForInStep.yield e) else pure (ForInStep.yield r)) (GW X a d Q) X.xe s
def kT:kU:=λ_ H Q=>Q true H
def khQ:yV X [] kT:=λ_ _ _ H _ I h=>wpAny_tests_nil (Î H I h)
def khR(h:pZ X c t):yV X [c] t:=λa s b H Q I q=>wpAny_tests_one (h a s b H Q I q)
def n_(D:d_)(f:kU)(g:gp):e_:=λE a H=>f a H λb d=>if b=true then g a d λy e=>∃c,e D=Ð c/\c.length<gM/\E.nx a (Ý e D (c++[y])) else E.nx a d
def i9(j:É Nat)(k:Nat)(o:mY)(g:lW)(l:kU)(n:gp):gp:=λb H Q=>o b H λJ e=>∀D,e D=none->
 ∃W:Nat->Nat->fO->b_->Prop,(∃m,W 0 m (oM j k b) (Ý e D []))/\∀i m b H,W i m b H->
  (J.stop i H/\Q (Â D) H)\/(J.go i H/\∃N:fO->b_->Prop,(∀c a,N c a->∃f,f<m/\W (i+1) f c a)/\∀x a,J.yld i H x a->g x b a λd h=>n_ D l n {nx:=N,rt:=λ_ _=>False,ct:=N,bk:=λ_ a=>Q (Â D) a} d h)
def kg3{E:fO}{C:d_}(a:fJ X g E p d)(m:∀b∈r,rK X g p b)(s:∀b∈r,∃o,d.heap.get? b=Á o)(k:scope.kind=.function)(j:∀y∈scope.names,y.2≠lA.cell)
  (f:∀n c,q.lookup n=Á c->X.env.cells.lookup n=Á c) (l:∀x∈scope.names,x.2=lA.free->(q.lookup x.1).isSome=true) (t:d.heap.objs.size<=C) :
  (lK X u scope q C d p r).Ok where
 mod:=a.ok.mod
 kind:=k
 glob:=a.ok.glob
 blt:=a.ok.blt
 above:=t
 inj:=λx y c v w=>a.ok.inj x y c (f x c v) (f y c w)
 has:=λx D=>by
  have e:scope.names.lookup x=Á .free:=kfs (env:=Û) j D;exact DL.mp (l (x,.free) (vI e) À)
 cab:=λ_ _ h _=>nomatch h
 hd:=a.ok.hd
 frames:=a.ok.frames
 stk:=È À
 exf:=λb i=>by
  obtain⟨o,B⟩:=s b i;exact⟨kP (l' (iD B) t),λx c h=>(m b i).2.2.2.2.1 x c (f x c h)⟩
 bs:=a.bs
 bsz:=mC a.ok.bsz a.sz
 noex:=λb o e i=>by
  rcases(m b i).2.2.2.1 with z|z
  .exact a.ok.noex b o e z
  .exact Ì (l' (iD e) (mC a.ok.bsz z)) (px _)
 exfs:=λb i z=>by
  rcases g7.mp (a.stkSub b z) with e|e
  .exact(m b i).2.1 e
  .exact(m b i).2.2.1 e
 funs:=a.stack
 frf:=a.stkFree
def Mz{X:fQ}{S:List (d_×Obj)}{σ:fO}{t:b_}{a:fU}{N Z:List Str}{sc scope:Scope}{B:List (Str×d_)}{f:List d_}{js:List Nat}{k:Nat}{ak aj l:Expr}{au:List Expr}{pos:Pos}{it:d_}{tn:Nat->Heap->Prop}{J:su}{g:lW}{tc:kU}{te:gp}{Q:fS}{RR:c_->d_->Result->fU->Prop}{E:gC}(ok:yB sc N scope Z js)(aM:X.env.scope=sc)(hN:X.N=N)(hk:Z.length=N.length+k)(hc:X.calm=true)(P:fJ X S σ t a)(T:vx ë X.w X.K l J f it tn)(aB:tn 0 a.heap)(f2:∀b∈f,rK X S t b)
  (L:∀n c,B.lookup n=Á c->X.env.cells.lookup n=Á c) (ai:∀x∈scope.names,x.2=lA.free->(B.lookup x.1).isSome=true)
  (hg:∀B C s₀ H₀ f,tW (lK X Z scope B C s₀ H₀ f) l g) (hi:∀B C s₀ H₀ f,yV (lK X Z scope B C s₀ H₀ f) au tc) (he:∀B C s₀ H₀ f,gL (lK X Z scope B C s₀ H₀ f) ak te)
  (aA:∀D,t D=none->
   ∃W:Nat->Nat->fO->b_->Prop,(∃m,W 0 m (oM js k σ) (Ý t D []))/\∀i m σ H,W i m σ H->
    (J.stop i H/\Q (Â D) H)\/(J.go i H/\∃N:fO->b_->Prop,(∀Y H',N Y H'->∃m',m'<m/\W (i+1) m' Y H')/\∀x H',J.yld i H x H'->g x σ H' λaO t=>n_ D tc te {nx:=N,rt:=λ_ _=>False,ct:=N,bk:=λ_ H'=>Q (Â D) H'} aO t))
  (aJ:∀D C H' s' m,s'.heap.Ns C m->fJ X S σ H' s'->H' C=none->C≠X.env.locals->X.s₀.heap.objs.size<=C->(∀x c,X.env.cells.lookup x=Á c->c≠C)->(∀p∈X.pn++S,p.1≠C)->D≠C->Q (Â D) H'->RR (Â D) C (.ok .next) s') :
  ö ë X.w X.A (newList []) (λaw aE=>ö ë X.w X.A (newFunctionEnv scope X.env.globals B [] X.env.qual Ç .none (Á Û)) (λah U=>
   pB (model ë X.w) X.A (.compStart (.ListComp ak [⟨l,aj,au,0⟩] scope pos) 0 (Â it) aw {ah with scope:=relabel scope Û}) (RR aw ah.locals) U) E aE) E a:=by
 refine uW (wpAny_newFunctionEnv ok.cell (by intro y hy;simp at hy) (λR M j=>?_) ok.kind);dsimp only at M j ⊢;generalize hG:a.heap.push {cls:=.type "list",dict:=none,data:=.seq ([]:List c_).toArray}=G at M j ⊢;have hC:G.objs.size=a.heap.objs.size+1:=by rw[<-hG,wQ]
 have ao:a.heap.objs.size≠G.objs.size:=by rw[hC];exact kP (IF _)
 have I:a.heap.objs.size<=G.objs.size:=by rw[hC];exact Ao _
 have ab:∀b,b<a.heap.objs.size->b≠G.objs.size:=λb s=>by rw[hC];exact kP (DV s)
 have ae:∀b o,a.heap.get? b=Á o->R.get? b=Á o:=λb o e=>j.extBut b o (ab b (iD e)) (i5 _ (hG ▸ i5 _ e));have ay:R.get? a.heap.objs.size=Á {cls:=.type "list",dict:=Ç,data:=.seq ([]:É c_).toArray}:=j.extBut _ _ ao (i5 _ (hG ▸ mr _ À));have aq:∀b∈f,∃o,a.heap.get? b=Á o:=λb s=>let⟨o,ho,_⟩:=T.obj 0 _ aB b s;⟨o,ho⟩;have fD:t a.heap.objs.size=none:=P.hok.fresh ï;have fC:t G.objs.size=none:=P.hok.fresh I;have I4:fJ (lK X Z scope B G.objs.size a t f) [] (oM js k σ) (Ý t a.heap.objs.size []) {a with heap:=R,toks:=a.toks+Ô ([]:É (Str×c_))}:=by
  refine⟨kg3 P f2 aq ok.kind ok.cell L ai I,À,P.bare,l_.laid ae ï fD,Î _ M (λi y v h1 h2 h3=>?_),λx c h=>?_,?_,λx c h=>?_,λp hp=>Ì (show p∈([]:É (d_×Obj)) from hp) Ò,P.hok.laid ae ï ⟨lu _,[],0,.nil,ay⟩,?_⟩
  .obtain⟨e1,e2⟩:=khc h2;have hi:i<N.length:=by
    have:=(gR.mp e1).1;rw[P.len,hN] at this;exact this
   have hy:N[i]?=Á y:=by
    rw[<-ok.pre,DK hi];exact h1
   have hz:(y,i)∈N.zipIdx:=by
    rw[List.mem_zipIdx_iff_getElem?];exact hy
   have nn:scope.names.lookup y≠none:=khE (env:=Û) (x:=y) (by
    rcases h3 with z|z|z
    .intro q;rw[show(relabel scope Û).names.lookup y=_ from z] at q;cases q
    .intro q;rw[show(relabel scope Û).names.lookup y=_ from z] at q;cases q
    .intro q;rw[show(relabel scope Û).names.lookup y=_ from z] at q;cases q)
   have ar:scope.names.lookup y=Á .free:=by
    rcases ok.cap (y,i) hz with z|z|z
    .rw[e2] at z;cases z
    .exact Ì z nn
    .exact z
   have hX:=ok.free (y,.free) (vI ar) À;rw[<-aM] at hX;obtain⟨m,hn,hl⟩:=P.loc;obtain⟨u,ru,lk⟩:=hl i y v (by rw[hN];exact hy) e1 (by
    rcases hX with z|z
    .exact Í (È z)
    .exact Í (Í z))
   refine Î u ru ?_;rcases lk with⟨lk,_⟩|⟨_,c,aK,aL⟩
   .have lk:X.env.scope.names.lookup y=Á .local:=lk;rcases hX with z|z<;>· rw[z] at lk;cases lk
   .have hs:=ai (y,.free) (vI ar) À;obtain⟨c',az⟩:=DL.mp hs;have e3:=L y c' az;rw[aK] at e3;cases e3;refine Í ⟨?_,c,az,aL.keeps ae⟩;show(relabel scope Û).names.lookup y=Á .cell\/(relabel scope Û).names.lookup y=Á .free;have e:(relabel scope Û).names.lookup y=_:=DW (env:=Û) (x:=y) scope.names;rw[e,ar,pL];split
    .exact È À
    .exact Í À
  .obtain⟨v,q⟩:=P.cell x c (L x c h);exact Æ v (q.keeps ae)
  .show Ĉ t a.heap.objs.size [] G.objs.size=none;rw[fM (Ne.symm ao)];exact fC
  .have q:=P.freeC x c (L x c h);obtain⟨v,o,ho,_⟩:=P.cell x c (L x c h);show Ĉ t a.heap.objs.size [] c=none;rw[fM (kP (iD ho))];exact q
  .show Ô (oM js k σ)=Z.length;rw[khd,P.len,hN,hk]
 have aD:tn 0 R:=T.keep _ _ _ aB λb _ o e=>ae b o e;obtain⟨W,⟨m0,w0⟩,turn⟩:=aA a.heap.objs.size fD;have af:∀{H':b_},(∀b∈f,H' b=none)->∀b∈f,rK (lK X Z scope B G.objs.size a t f) [] H' b:=λhn b s=>by
  obtain⟨o,ho⟩:=aq b s;refine⟨hn b s,ab b (iD ho),λz=>?_,È s,λx c h=>(f2 b s).2.2.2.2.1 x c (L x c h),λp hp=>Ì (show p∈([]:É (d_×Obj)) from hp) Ò⟩;rcases g7.mp (P.stkSub b z) with e|e
  .exact(f2 b s).2.1 e
  .exact(f2 b s).2.2.1 e
 have go:∀U:fU,U={a with heap:=R,toks:=a.toks+Ô ([]:É (Str×c_))}->
   pB (model ë X.w) X.A (.compLoop (.ListComp ak [⟨l,aj,au,0⟩] scope pos) 0 (Â it) (Â a.heap.objs.size) (compEnvC scope B G.objs.size Û)) (RR (Â a.heap.objs.size) G.objs.size) U:=by
  rintro U rfl;refine Yq (λn s'=>∃i Y H',fJ (lK X Z scope B G.objs.size a t f) [] Y H' s'/\tn i s'.heap/\(∀b∈f,H' b=none)/\W i n Y H') ?_ m0
   ⟨0,_,_,I4,aD,λb s=>by
    obtain⟨o,ho⟩:=aq b s;rw[fM (kP (iD ho))];exact(f2 b s).1,w0⟩
  rintro n s3 ⟨i,ag,H3,I3,aC,ax,w3⟩;rcases turn i n ag H3 w3 with⟨stop,qn⟩|⟨go,Nx,aI,step⟩
  .refine gq (T.done (lK X Z scope B G.objs.size a t f) À À À hc i [] s3 ag H3 _ I3 (af ax) aC stop) λr s5 zz=>?_;obtain⟨hr,I5⟩:=zz;subst hr;have IX:fJ X S σ H3 s5:=P.call' (ch:=f) I5.os I5.base I5.hok I5.bare λb s=>⟨(f2 b s).2.2.2.1,(f2 b s).2.1,(f2 b s).2.2.2.2.1,(f2 b s).2.2.2.2.2⟩;obtain⟨m,hm,_⟩:=I5.loc;refine aJ _ _ H3 s5 m hm IX I5.free (λz=>?_) (mC P.sz I) (λx c h z=>?_) (λp hp z=>?_) ao qn
   .have:=P.lt;rw[<-z] at this;exact px _ (l' this I)
   .obtain⟨v,o,ho,_⟩:=P.cell x c h;have:=iD ho;rw[z] at this;exact px _ (l' this I)
   .have:=iD (P.pin p hp).1;rw[z] at this;exact px _ (l' this I)
  .refine gq (T.item (lK X Z scope B G.objs.size a t f) À À À hc i [] s3 ag H3 _ I3 (af ax) aC go) λr s5 zz=>?_;obtain⟨u,hr,h5⟩:=zz;subst hr;refine gq h5 λ_ s6 zz=>?_;obtain⟨x,H6,I6,r6,y6,av,aH⟩:=zz;have aG:=I6.pinned (af aH) (T.obj _ _ av);have aa:∀{O:fO} {H7:b_} {s7:fU},fJ (lK X Z scope B G.objs.size a t f) ([]++AO f s6.heap) O H7 s7->Nx O H7->∃m,m<n/\∃i Y H',fJ (lK X Z scope B G.objs.size a t f) [] Y H' s7/\tn i s7.heap/\(∀b∈f,H' b=none)/\W i m Y H':=λ{O H7 s7} I7 n7=>by
    obtain⟨m',hm,w7⟩:=aI O H7 n7;refine⟨m',hm,i+1,O,H7,I7.unpinned,T.keep _ _ _ av λb s o e=>(I7.pin (b,o) (mO _ (mO _ (Ey s e)))).1,λb s=>?_,w7⟩;obtain⟨o,e,d⟩:=T.obj _ _ av b s;exact(I7.pin (b,o) (mO _ (mO _ (Ey s e)))).2.1
   refine gq (hg B G.objs.size a t f _ s6 ag H6 x u _ aG r6 (step x H6 y6)) λ_ s7 zz=>?_;obtain⟨O,H7,I7,q7⟩:=zz;refine gq (hi B G.objs.size a t f _ s7 O H7 _ I7 q7) λok s8 zz=>?_;obtain⟨H8,I8,q8⟩:=zz;cases ok with
   |false=>
    rw[ù Bool.false_ne_true] at q8 ⊢;exact aa I8 q8
   |true=>
    rw[if_pos À] at q8 ⊢;refine gq (he B G.objs.size a t f _ s8 O H8 _ I8 q8) λy s9 zz=>?_;obtain⟨z,H9,I9,r9,ys,hD,hz,n9⟩:=zz;refine gq (N5 (X:=lK X Z scope B G.objs.size a t f) _ s9 O H9 (Â a.heap.objs.size) [z] (Â a.heap.objs.size) [y] (λ_ H'=>H'=Ý H9 a.heap.objs.size (ys++[z])) I9 À (.cons r9 .nil) ⟨_,ys,z,À,À,hD,hz,À⟩) λ_ aQ zz=>?_;obtain⟨_,aP,aF,_,aN⟩:=zz;subst aN;exact aa aF n9
 exact codeAny_compStart_list (go _ À) (T.self _ 0 _ _ _ aD (go _ À))
def kgx(z:yB M N scope l L)(t:X.env.scope=M)(hN:X.N=N)(hk:l.length=N.length+k)(hc:X.calm=true)(E:sy X a c U)
  (hg:∀i C s₀ H₀ j,tW (lK X l scope i C s₀ H₀ j) a g) (hi:∀i C s₀ H₀ j,yV (lK X l scope i C s₀ H₀ j) y R) (he:∀i C s₀ H₀ j,gL (lK X l scope i C s₀ H₀ j) n S)
  (hs:∀x,wK c Û x=pure x:=by intro _;rfl):gL X (.ListComp n [⟨a,c,y,0⟩] scope pos) (i9 L k U g R S):=by
 intro d s W H Q I h;obtain⟨i,f,p,r⟩:=My (scope:=scope) (env:=Û) λx hx hf=>I.ok.has x.1 (by
  have:=z.free x hx hf;rw[<-t] at this;exact this)
 refine wpAny_comprehension_free (use:=Ç) À hs f z.kind z.names (gq (E d s W H _ I h) λxv O u=>gq u λaa P v=>?_);obtain⟨it,j,tn,J,H2,rfl,Z,T,K,f2,loop⟩:=v;refine Mz (RR:=λB C=>compPost (model ë X.w) X.A X.xe Ç (lG X d W Q) B C) (Q:=Q) z t hN hk hc Z T K f2 p r hg hi he loop ?_;intro D C Y s' m hm IX fC hY c2 iy c4 _ q;exact Î m hm (λh' G=>Õ (Â D) Y (IX.turned (t':=s'.toks) (λb o hb e=>(G.2 b hb).trans e) fC hY (Í c2) iy c4) q)
def kh0{X:fQ}{N u:List Str}{sc scope:Scope}{js:List Nat}{k:Nat}{l d c:Expr}{p:List Expr}{pos:Pos}{g:lW}{tc:kU}{te:gp}{wi:mY}{i:Nat}{y:Str}{O j:Pos}(M:yB sc N scope u js)(E:X.env.scope=sc)(hN:X.N=N)(hk:u.length=N.length+k)(hc:X.calm=true)(S:sy X c d wi)
  (hg:∀r C s₀ H₀ t,tW (lK X u scope r C s₀ H₀ t) c g) (hi:∀r C s₀ H₀ t,yV (lK X u scope r C s₀ H₀ t) p tc) (he:∀r C s₀ H₀ t,gL (lK X u scope r C s₀ H₀ t) l te)
  (nd:X.N.Nodup) (hy:X.N[i]?=Á y) (hl:t4 X.env.scope y) (Y:u6 (.ListComp l [⟨c,d,p,0⟩] scope pos) (Á (.Name y O)) j.line Û=pure true)
  (hs:∀x,wK d Û x=pure x:=by intro _;rfl) (R:X.fn y=true\/X.env.scope.names.lookup y=Á .local:=by first|exact .inl rfl|exact .inr rfl|assumption) :
  rS X (.Assign [.Name y O] (.ListComp l [⟨c,d,p,0⟩] scope pos) j) (đ (i9 js k wi g tc te) i):=by
 intro f s σ H D I h;obtain⟨r,n,z,B⟩:=My (scope:=scope) (env:=Û) λx hx R=>I.ok.has x.1 (by
  have:=M.free x hx R;rw[<-E] at this;exact this)
 rw[exec_Assign_Name_used _ _ _ _ Y];refine fN (yd (fN ?_));refine fN (og (wpAny_comprehension_free (use:=Á (assign (.Name y O) Û)) (Q:=λ_ L=>tj X f D .next L) À hs n M.kind M.names
  (gq (S f s σ H _ I h) λxv aa G=>gq G λae ab K=>?_)) (λ_ L hq=>gH (gH hq)) λ_ _ e=>e)
 obtain⟨it,t,tn,J,H2,rfl,I2,T,Z,f2,loop⟩:=K;refine Mz (RR:=λP C=>compPost (model ë X.w) X.A X.xe (Á (assign (.Name y O) Û)) (λ_ L=>tj X f D .next L) P C) (Q:=λx H1=>gB i x σ H1 D.nx) M E hN hk hc I2 T Z f2 z B hg hi he loop ?_;intro Da C H' L m hm IX fC hY c2 iy c4 _ q;refine wpAny_assign_Name (Of IX nd hy hl (v:=Â Da) À (λs2 IY ⟨a,sb,ha⟩=>?_) R);have U:C≠a:=by grind
 exact⟨m,hm.sameBut sb U,λh' W=>⟨_,H',IY.turned (t':=s2.toks) (λb o hb e=>(W.2 b hb).trans e) fC hY (Í c2) iy c4,q⟩⟩
def fJ.turnedL{X:fQ}{a:List (d_×Obj)}{h:fO}{H:b_}{s:fU}{h':Heap}{t':Nat}{ch:List d_}(I:fJ X a h H s)(k:∀b o,b∉ch->Ć b=Á o->h'.get? b=Á o)(f:∀b∈ch,rK X a H b) :
  fJ X a h H (Ď h' t'):=by
 have t:∀b u,H b=Á u->b∉ch:=λb u e z=>by rw[(f b z).1] at e;cases e
 refine I.step (g':=s.gens) (d':=s.drawn) (ch:=ch) (λb g=>⟨(f b g).2.2.2.1,(f b g).2.1,(f b g).2.2.2.2.1,(f b g).2.2.2.2.2⟩) (λb o _ _ d e _=>k b o d e) (λb o _ _ d e _=>Æ o.slots (k b o d e)) (λ_ _ _ _ n=>n)
  (λb o d e=>Æ o (k b o d e)) (λ_ _ e=>e) (λ_ _ _ e=>e) (λb w e=>Æ #[] (by rw[e];simp)) (λm l=>?_) (λb u e=>?_) I.bare
 .obtain⟨o,j,i,p,r⟩:=l;exact⟨o,j,i,k _ o (λz=>(f _ z).2.1 À) p,r⟩
 .refine(I.hok b u e).stay (λc v d q=>k c v ?_ q) (λ_ q=>q) λ_ _ q=>q
  grind
def fJ.adopt{j:fO}(I:fJ X a j H s)(f:rK X a H T)(i:kY ë X.w (upd H T o) s.heap T o):fJ X a j (upd H T o) s:=by
 have g:∀b u,H b=Á u->b≠T:=λb u e z=>by rw[z,f.1] at e;cases e
 refine I.step (h':=s.heap) (H':=upd H T o) (g':=s.gens) (d':=s.drawn) (t':=s.toks) (ch:=[T]) (λb d=>?_) (λb _ _ _ _ e _=>e) (λb h _ _ _ e _=>Æ h.slots e) (λb h d _ n=>?_)
  (λb h _ e=>Æ h e) (λb l e=>?_) (λb h u e=>?_) (λb p e=>Æ #[] ?_) (λm k=>k) (λb u e=>?_) I.bare
 .have e:b=T:=by grind
  subst e;exact⟨f.2.2.2.1,f.2.1,f.2.2.2.2.1,f.2.2.2.2.2⟩
 .rw[fM (λz=>d (by simp[z]))];exact n
 .rw[fM (g b _ e)];exact e
 .rw[fM (g b _ e)];exact e
 .rw[fM (g b _ e),e];simp
 .by_cases d:b=T
  .subst d;rw[fG] at e;cases e;exact i
  .rw[fM d] at e;exact(I.hok b u e).stay (λc v _ q=>q) (λc q=>by rw[fM (g c _ q)];exact q) λc l q=>by rw[fM (g c _ q)];exact q
def A2(K:a_)(a:d_):su:=
 ⟨λi H=>∃b x,hH K H a b/\b[i]?=Á x,λi H x c=>∃p v,H p=none/\x=Â p/\c=Ā H p [Ë (i:Nat),v]/\∀b,hH K H a b->b[i]?=Á v,λi H=>∃b,hH K H a b/\b.length<=i⟩
def tZ(K:a_)(a b:d_):su:=
 ⟨λi H=>∃c x d y,hH K H a c/\c[i]?=Á x/\hH K H b d/\d[i]?=Á y,
  λi H x e=>∃p v u,H p=none/\x=Â p/\e=Ā H p [v,u]/\(∀c,hH K H a c->c[i]?=Á v)/\∀d,hH K H b d->d[i]?=Á u,
  λi H=>∃c d,hH K H a c/\hH K H b d/\(c.length<=i\/d.length<=i)⟩
def Gy{X:fQ}{H:b_}{h:Heap}{T:d_}{x y:V}{u v:c_}{n:Nat}(e:h.get? T=Á (ć "tuple" (.seq #[u,v] n)))(a:hW x u)(b:hW y v):kY ë X.w H h T (.tup [x,y]):=
 ⟨show 2<=gM by decide,[u,v],.cons a (.cons b .nil),⟨_,e,Æ À À,_,À⟩⟩
def kgT{h:Heap}{it a:d_}{i:Nat}{l:d_}{items:Array c_}(p:h.IsList a items)(q:h.IsListIter it l i):a≠it:=by
 obtain⟨o,c,hY,_⟩:=p;obtain⟨e,d,b,_⟩:=q;lia
def keA{P:f5}{w:fW}{K:a_}{J:List Expr}{k:Nat}{pos:Pos}(a e it:d_)(B:e≠it) :
  vx P w K (.Tuple J k pos) (A2 K a) [e,it] e (λi h=>(∃g,IsEnum h e it (i:Nat) g)/\h.IsListIter it a i) where
 mem:=Ò
 obj:=λi h r b f=>by
  obtain⟨⟨g,j⟩,⟨o,C,c,d⟩⟩:=r;rcases g7.mp f with rfl|f
  .exact Î _ j (λv z=>by have z':Data.fields _=Data.cell v:=z;cases z')
  .rw[g_.mp f];exact Î o C (λv z=>by rw[d] at z;cases z)
 keep:=λi h h' r k=>⟨let⟨g,j⟩:=r.1;Æ g (k e Ò _ j),r.2.at λo q=>k it Ò o q⟩
 item:=by
  intro X L hw U Y i m s σ H E I O r hg;subst L hw U;obtain⟨⟨g,j⟩,hit⟩:=r;obtain⟨xs,x,Q,hx⟩:=hg;obtain⟨l,rv,p,hz⟩:=I.list Q;obtain⟨u,hu,ru⟩:=rv.get hx;have ab:i<l.toArray.size:=by have:=(gR.mp hu).1;simpa using this
  have na:a≠it:=kgT p.isList hit;have nb:e≠a:=by
   intro z;subst z;obtain⟨o,n,e1,hY,_⟩:=p;rw[j] at e1;cases e1;injection hY with iy;exact Ì iy Ï
  have Dw:=Draws.list (prog:=ë) (w:=X.w) (A:=X.A.in1) (show X.A.in1.handled=none from I.ok.hd Y) it a na l.toArray;refine wpAny_pyNext_enum_itemD Dw j (Æ hit p.isList) ab B (by simp[B,nb]) λy S R L C af M ag hk=>?_;have ey:y=u:=by
   have S:l.toArray[i]?=Á y:=L;have G:l[i]?=Á y:=by simpa using S
   rw[hu] at G;exact(ď G).symm
  subst ey;refine Ú ?_;have fT:rK X m H ó:=I.fpOk ï (I.hok.fresh ï);refine wpAny_letOwnedTupleGo_enum C λG aa D=>?_;have t:e<s.heap.objs.size:=iD j;have I1:fJ X m σ H (Ď G (R+1)):=I.turnedL (t':=R+1) (ch:=[e,it]) (λb o f q=>by
   have b1:b≠e:=λz=>f (by simp[z]);have b2:b≠it:=λz=>f (by simp[z]);exact(D.2 b b1).trans (hk b o b1 b2 q)) O
  have gT:G.get? ó=Á (ć "tuple" (.seq #[.int i R,y])):=(D.2 _ (yb t)).trans M;have I2:=I1.adopt (T:=ó) (o:=.tup [Ë (i:Nat),x]) fT (Gy (X:=X) gT (Æ R À) ru);refine⟨Â ó,_,I2,À,⟨ó,x,fT.1,À,À,λys hy=>by rw[I.list_inj hy Q];exact hx⟩,Æ (Æ y ?_) ?_,λb f=>?_⟩
  .have e2:(((i+1:Nat):Nat):Int)=(i:Int)+1:=Ã
   show IsEnum G e it (((i+1:Nat):Nat):Int) y;rw[e2];exact aa
  .obtain⟨o,q1,q2⟩:=af.1;exact Î o ((D.2 it (Ne.symm B)).trans q1) q2
  .have nT:b≠s.heap.objs.size:=by
    rcases g7.mp f with rfl|f
    .exact kP t
    .rw[g_.mp f];obtain⟨o,C,_⟩:=hit;exact kP (iD C)
   rw[fM nT];exact(O b f).1
 done:=by
  intro X L hw U Y i m s σ H E I O r hg;subst L hw U;obtain⟨⟨g,j⟩,hit⟩:=r;obtain⟨xs,Q,hx⟩:=hg;obtain⟨l,rv,p,hz⟩:=I.list Q;have hl:=rv.length;have M:s.TypeIs (Â e) "enumerate":=Î _ j À;unfold uz;refine fN (wpAny_attempt (y1 (name:=Str.ofString "__next__") M F.slot_enumerate_next
   (x8 F.slot_enumerate_next M F.entry_enumerate_next ?_ (F.args_enumerate_next_1 _))))
  show gN _ _ (field (Â e) 2 >>= _) _ _ _;refine fN (tF j À (x:=Â it) À ?_);refine fN (wpAny_nextOf_list_end (show X.A.in1.handled=none from I.ok.hd Y) hit p.isList (by simp;lia) λS x1 eb ae=>?_);obtain⟨o,C,Z⟩:=ae;refine fN (wpAny_isInstance (T:="StopIteration") (b:=true) (Î o C Z) isSubtype_stop ?_);exact gH ⟨À,I.turnedL (t':=s.toks) (ch:=[e,it]) (λb ob f q=>eb b ob (λz=>f (by simp[z])) q) O⟩
 self:=λ_ _ _ _ _ r h=>let⟨_,j⟩:=r.1;D4 j h
def yJ(K:a_)(c:kF):mY:=λf H R=>c f H λd b=>∃a,d=[Â a]/\(∃e,hH K b a e)/\R (A2 K a) b
def khO{X:fQ}{f:List Expr}{k:Nat}{i:Pos}{a:Expr}{u:kF}{p pos:Pos}(z:ko X "enumerate")(C:X.mg "enumerate"=none)(y:ny X [a] u)(E:gK [a] Û=[(Ü,þ a)]:=by rfl) :
  sy X (.Tuple f k i) (Č "enumerate" p [a] [] pos) (yJ X.K u):=by
 intro c s v H R I h;refine Call_ (uw I z C boot_enumerate (xV (gq (y pos c s v H _ I h) λT d ⟨U,o,j,O,M⟩=>?_) E À));obtain⟨l,e,⟨W,D⟩,q⟩:=M;subst e;cases O with
 |cons r P=>
  cases P;cases r;obtain⟨J,S,L,Q⟩:=j.list D;refine call_enumerate_list L.isList λx t n G B=>?_;refine D4 t ?_;have w:fJ X c v o {d with heap:=x}:=j.kept (t':=d.toks) B;refine⟨d.heap.objs.size+1,[d.heap.objs.size+1,d.heap.objs.size],_,_,o,À,w,keA l _ _ (Nat.succ_ne_self _),Æ (Æ .none t) n,λb m=>?_,q⟩;have g:d.heap.objs.size<=b:=by
   rcases g7.mp m with rfl|m
   .lia
   .rw[g_.mp m];exact ï
  exact j.fpOk g (j.hok.fresh g)
def kgo{P:f5}{w:fW}{K:a_}{O:List Expr}{k:Nat}{pos:Pos}(z mY sF t B l1 l2:d_)(D:ZipApart z mY sF t B l1 l2) :
  vx P w K (.Tuple O k pos) (tZ K l1 l2) [z,mY,sF,t,B] z (λi h=>IsZip h z mY sF .none/\IsPair h mY (Â t) (Â B)/\(∃a b,IsPair h sF a b)/\h.IsListIter t l1 i/\h.IsListIter B l2 i) where
 mem:=Ò
 obj:=λi h p b g=>by
  obtain⟨j,d,⟨Y,Z,f⟩,⟨o1,e1,hY,d1⟩,⟨o2,e2,c2,d2⟩⟩:=p;simp only[g7,mz,or_false] at g;rcases g with rfl|rfl|rfl|rfl|rfl
  .exact Î _ j (λv q=>by have U:Data.fields _=Data.cell v:=q;cases U)
  .exact Î _ d (λv q=>by have U:Data.seq _ _=Data.cell v:=q;cases U)
  .exact Î _ f (λv q=>by have U:Data.seq _ _=Data.cell v:=q;cases U)
  .exact Î o1 e1 (λv q=>by rw[d1] at q;cases q)
  .exact Î o2 e2 (λv q=>by rw[d2] at q;cases q)
 keep:=λi h h' p k=>by
  obtain⟨j,d,⟨Y,Z,f⟩,J,L⟩:=p;exact⟨k z Ò _ j,k mY Ò _ d,Î Y Z (k sF Ò _ f),J.at λo q=>k t Ò o q,L.at λo q=>k B Ò o q⟩
 item:=by
  intro X hP hw hK hc i l s σ H E I hf p hg;subst hP hw hK;obtain⟨j,d,⟨Y,Z,f⟩,J,L⟩:=p;obtain⟨xs,x,ys,y,m,hx,n,hy⟩:=hg;obtain⟨R,C,p1,_⟩:=I.list m;obtain⟨S,G,p2,_⟩:=I.list n;obtain⟨u,hu,ru⟩:=C.get hx;obtain⟨v,hv,rv⟩:=G.get hy;refine wpAny_pyNext_zip_item D j d f J L p1.isList p2.isList (x:=u) (y:=v) (by simpa using hu) (by simpa using hv) λh3 a1 a2 a3 a4 a5 a6 hk=>?_;refine Ú ?_;have fT:rK X l H ó:=I.fpOk ï (I.hok.fresh ï);have M:∀{c o},Ć c=Á o->c≠s.heap.objs.size:=λe=>kP (iD e);refine wpAny_letOwnedTupleGo_zip a1 λh4 aa r=>?_;have I1:fJ X l σ H (Ď h4 s.toks):=I.turnedL (t':=s.toks) (ch:=[z,mY,sF,t,B]) (λb o g q=>by
   have b1:b≠z:=λe=>g (by simp[e]);exact(r.2 b b1).trans (hk b o b1 (λe=>g (by simp[e])) (λe=>g (by simp[e])) (λe=>g (by simp[e])) q)) hf
  have gT:h4.get? ó=Á (ć "tuple" (.seq #[u,v])):=(r.2 _ (Ne.symm (M j))).trans a5;have I2:=I1.adopt (T:=ó) (o:=.tup [x,y]) fT (Gy (X:=X) gT ru rv);have ext:∀c o,c≠z->h3.get? c=Á o->h4.get? c=Á o:=λc o hc q=>(r.2 c hc).trans q;refine⟨Â ó,_,I2,À,⟨ó,x,y,fT.1,À,À,λzs j=>by rw[I.list_inj j m];exact hx,λzs j=>by rw[I.list_inj j n];exact hy⟩,
   ⟨aa,ext _ _ D.TIz (hk _ _ D.TIz D.TITO D.TIi1 D.TIi2 d),Î _ _ (ext _ _ D.TOz a2),a3.at λo q=>ext _ o D.i1z q,a4.at λo q=>ext _ o D.i2z q⟩,λb g=>?_⟩
  have nT:b≠s.heap.objs.size:=by
   obtain⟨o1,e1,_⟩:=J;obtain⟨o2,e2,_⟩:=L;simp only[g7,mz,or_false] at g;rcases g with rfl|rfl|rfl|rfl|rfl
   .exact M j
   .exact M d
   .exact M f
   .exact M e1
   .exact M e2
  rw[fM nT];exact(hf b g).1
 done:=by
  intro X hP hw hK hc i l s σ H E I hf p hg;subst hP hw hK;obtain⟨j,d,⟨Y,Z,f⟩,J,L⟩:=p;obtain⟨xs,ys,m,n,Q⟩:=hg;obtain⟨R,C,p1,_⟩:=I.list m;obtain⟨S,G,p2,_⟩:=I.list n;have ab:=C.length;have ae:=G.length;refine wpAny_pyNext_zip_end (I.ok.hd hc) D j d f J L p1.isList p2.isList (Q.imp (λh=>by simp;lia) λh=>by simp;lia) λh3 hk=>Æ À ?_;exact I.turnedL (t':=s.toks) (ch:=[z,mY,sF,t,B]) (λb o g q=>hk b o (λe=>g (by simp[e])) (λe=>g (by simp[e])) (λe=>g (by simp[e])) (λe=>g (by simp[e])) q) hf
 self:=λ_ _ _ _ _ p h=>wpAny_pyIter_zip p.1 h
def Bj(K:a_)(e:kF):mY:=λg H R=>e g H λf c=>∃a b,f=[Â a,Â b]/\(∃d,hH K c a d)/\(∃d,hH K c b d)/\R (tZ K a b) c
def kjT{X:fQ}{f:List Expr}{k:Nat}{l:Pos}{a b:Expr}{M:kF}{p pos:Pos}(W:ko X "zip")(Z:X.mg "zip"=none)(U:ny X [a,b] M)(hs:gK [a,b] Û=[(Ü,þ a),(Ü,þ b)]:=by rfl)(i:gK [b] Û=[(Ü,þ b)]:=by rfl) :
  sy X (.Tuple f k l) (Č "zip" p [a,b] [] pos) (Bj X.K M):=by
 intro c s O H R I h;refine Call_ (uw I W Z boot_zip (xV (gq (U pos c s O H _ I h) λus j ⟨vs,y,d,r1,q1⟩=>?_) (by rw[hs,i]) (by rw[i];rfl)));obtain⟨E,G,e,⟨xs,v⟩,⟨ys,w⟩,q⟩:=q1;subst e;cases r1 with
 |cons r x=>
  cases x with
  |cons r' x=>
   cases x;cases r;cases r';obtain⟨C,ab,J,_⟩:=d.list v;obtain⟨D,ae,L,_⟩:=d.list w;have Q:E<j.heap.objs.size:=by obtain⟨o,e,_⟩:=J.isList;exact iD e
   have S:G<j.heap.objs.size:=by obtain⟨o,e,_⟩:=L.isList;exact iD e
   refine call_zip_2 J.isList L.isList λT B m n t u aa Y=>?_;refine wpAny_pyIter_zip B ?_;have P:fJ X c O y {j with heap:=T}:=d.kept (t':=j.toks) Y;refine⟨_,_,_,_,y,À,P,kgo _ _ _ _ _ E G (zipApart_new Q S),⟨B,m,Î _ _ n,t,u⟩,λb z=>?_,q⟩;have g:j.heap.objs.size<=b:=by
    simp only[g7,mz,or_false] at z;rcases z with rfl|rfl|rfl|rfl|rfl<;>lia
   exact d.fpOk g (d.hok.fresh g)
def Cv{K:a_}{a:d_}{xs:List V}{g:lW}{l:e_}{D:sW}{b:fO}{H:b_}(c:Nat->fO->b_->Prop)(o:c 0 b H)(t:∀i b H,i<=xs.length->c i b H->hH K H a xs)
  (u:∀i x b H p,xs[i]?=Á x->H p=none->c i b H->g (Â p) b (Ā H p [Ë (i:Nat),x]) λf j=>l {D with nx:=c (i+1),ct:=c (i+1),bk:=D.nx} f j) (r:∀b H,c xs.length b H->D.nx b H) :
  ∃W:Nat->Nat->fO->b_->Prop,(∃m,W 0 m b H)/\∀i m b H,W i m b H->
   ((A2 K a).stop i H/\D.nx b H)\/((A2 K a).go i H/\∃N:fO->b_->Prop,(∀d H',N d H'->∃k,k<m/\W (i+1) k d H')/\∀x H',(A2 K a).yld i H x H'->g x b H' λf j=>l {D with nx:=N,ct:=N,bk:=D.nx} f j):=by
 refine Î (λi m b H=>m=xs.length-i/\i<=xs.length/\c i b H) ⟨xs.length,Ò,lu _,o⟩ ?_;rintro i m b H ⟨rfl,s,p⟩;have q:=t i b H s p;by_cases h:i<xs.length
 .refine Í ⟨⟨xs,xs[i],q,by simp[h]⟩,c (i+1),λd H' w=>⟨xs.length-(i+1),Ã,À,h,w⟩,λx H' y=>?_⟩;obtain⟨z,v,n,rfl,rfl,y⟩:=y;exact u i v b H z (y xs q) n p
 .have e:i=xs.length:=Ã
  subst e;exact È ⟨Î xs q ï,r b H p⟩
def khh{K:a_}{a b:d_}{xs ys:List V}{g:lW}{r:e_}{D:sW}{c:fO}{H:b_}(L:xs.length=ys.length)(d:Nat->fO->b_->Prop)(t:d 0 c H)(B:∀i c H,i<=xs.length->d i c H->hH K H a xs/\hH K H b ys)
  (C:∀i x y c H p,xs[i]?=Á x->ys[i]?=Á y->H p=none->d i c H->g (Â p) c (Ā H p [x,y]) λh l=>r {D with nx:=d (i+1),ct:=d (i+1),bk:=D.nx} h l) (w:∀c H,d xs.length c H->D.nx c H) :
  ∃W:Nat->Nat->fO->b_->Prop,(∃m,W 0 m c H)/\∀i m c H,W i m c H->
   ((tZ K a b).stop i H/\D.nx c H)\/((tZ K a b).go i H/\∃N:fO->b_->Prop,(∀f H',N f H'->∃q,q<m/\W (i+1) q f H')/\∀x H',(tZ K a b).yld i H x H'->g x c H' λh l=>r {D with nx:=N,ct:=N,bk:=D.nx} h l):=by
 refine Î (λi m c H=>m=xs.length-i/\i<=xs.length/\d i c H) ⟨xs.length,Ò,lu _,t⟩ ?_;rintro i m c H ⟨rfl,z,p⟩;obtain⟨n,o⟩:=B i c H z p;by_cases j:i<xs.length
 .have k:i<ys.length:=Ã
  refine Í ⟨⟨xs,xs[i],ys,ys[i],n,by simp[j],o,by simp[k]⟩,d (i+1),λf H' E=>⟨xs.length-(i+1),Ã,À,j,E⟩,λx H' y=>?_⟩;obtain⟨G,v,u,s,rfl,rfl,I,J⟩:=y;exact C i v u c H G (I xs n) (J ys o) s p
 .have e:i=xs.length:=Ã
  subst e;exact È ⟨⟨xs,ys,n,o,È ï⟩,w c H p⟩
end L2
namespace PySem
open Sem (wp)
open Builtin MeetsSeq MeetsSeq2 MeetsSeq3
def Wi:fillsNumberSlot (.type "tuple") "mul"=pure Ü:=
 fillsNumberSlot_seq (id:="tuple.__mul__") (r:=Á (.builtin "tuple.__rmul__")) F.slot_tuple_mul.lookup â F.slot_tuple_rmul.lookup â
def Ym:seqRepeat? (.type "tuple")=pure (Á (.builtin "tuple.__mul__")):=by
 rfl
def WY(a:Int)(t:Tok)(l:d_)(items:Array c_)(n:Nat)(c:Option d_)(sl:Array (Option c_)) :
  Meets (Builtin.«int.__rmul__» (Æ [.int a t,Â l] [])) (λ_ R s=>Ć l=Á {cls:=.type "tuple",dict:=c,data:=.seq items n,slots:=sl}/\R (.ok (.ret c_.notImplemented)) s):=
 .of_wp λb w A R s h=>by obtain⟨f,g,d,j,i⟩:=s;obtain⟨e,h⟩:=h;wp_walk;exact Ú h
def W9(l:d_)(items:Array c_)(n:Nat)(i:Option d_)(sl:Array (Option c_))(x:Int)(u:Tok)(o:-(2 ^ 63)<=x)(k:x<2 ^ 63)(c:items.isEmpty=false)(j:¬x=1)(p:0<x)(hsz:items.size*x.toNat<=gM) :
  Meets (Builtin.«tuple.__mul__» (Æ [Â l,.int x u] [])) (λ_ R s=>Ć l=Á {cls:=.type "tuple",dict:=i,data:=.seq items n,slots:=sl}/\
   R (.ok (.ret (c_.ref ó))) (Ď (s.heap.push {cls:=c_.type "tuple",data:=Data.seq (FG (λa b=>a++b) #[] (lq x.toNat items))}) s.toks)):=
 .of_wp λf w A R s h=>by
  obtain⟨p,g,d,y,v⟩:=s;obtain⟨m,h⟩:=h;have q:(æ (x < -(2 ^ 63)) || æ (x >= 2 ^ 63))=false:=by simp;lia
  have z:(items.isEmpty || x==1)=false:=by simp[c,j]
  have B:(æ (x<=0) || items.isEmpty)=false:=by simp[c];lia
  have ex:(items.size:Int)*x=((items.size*x.toNat:Nat):Int):=by
   rw[Int.natCast_mul];congr 1;lia
  have r:¬((items.size:Int)*x>(2 ^ 63-1) / 8):=by
   rw[ex];have:(gM:Nat)<=(2 ^ 63-1) / 8:=Ï
   lia
  have t:Tuple.tupleTooMany ((items.size:Int)*x)=false:=by
   unfold Tuple.tupleTooMany;rw[ex];exact decide_eq_false Ã
  have C:(FG (λ(a b:Array c_)=>a++b) #[] (lq x.toNat items)).size<=gM:=by
   have e:=AutoListH.size_joined items x.toNat #[];rw[e,Ai];simpa using hsz
  wp_walk
  refine wpAny_ite_false (by rw[q];rfl) ?_
  wp_walk using AutoSeq1.wpAny_loadPart' m
  refine wpAny_ite_false (decide_eq_false r) ?_
  wp_walk
  refine wpAny_ite_false (by rw[t];rfl) ?_
  wp_walk
  exact Ú h
def X2(l:d_)(items:Array c_)(n:Nat)(b:Option d_)(sl:Array (Option c_))(u:Tok) :
  Meets (Builtin.«tuple.__mul__» (Æ [Â l,.int 1 u] [])) (λ_ R s=>Ć l=Á {cls:=.type "tuple",dict:=b,data:=.seq items n,slots:=sl}/\R (.ok (.ret (c_.ref l))) s):=
 .of_wp λa w A R s h=>by
  obtain⟨e,g,d,i,f⟩:=s;obtain⟨c,h⟩:=h;have j:(items.isEmpty || (1:Int)==1)=true:=by simp
  wp_walk using AutoSeq1.wpAny_loadPart' c
  first|exact Ú h|trace_state
def W_(l:d_)(items:Array c_)(n:Nat)(b:Option d_)(sl:Array (Option c_))(u:Tok)(c:items.isEmpty=false) :
  Meets (Builtin.«tuple.__mul__» (Æ [Â l,.int 0 u] [])) (λ_ R s=>Ć l=Á {cls:=.type "tuple",dict:=b,data:=.seq items n,slots:=sl}/\
   R (.ok (.ret (c_.ref ó))) (Ď (s.heap.push {cls:=c_.type "tuple",data:=Data.seq #[]}) s.toks)):=
 .of_wp λa w A R s h=>by
  obtain⟨f,g,d,j,i⟩:=s;obtain⟨e,h⟩:=h;have k:(items.isEmpty || (0:Int)==1)=false:=by simp[c]
  have m:(æ ((0:Int)<=0) || items.isEmpty)=true:=by simp
  wp_walk using AutoSeq1.wpAny_loadPart' e
  first|exact Ú h|trace_state
end PySem
namespace L2
open PySem PySem.Spec PyProof.Rows
def UR(K:a_):i6:=λx y H Q=>∃(l:d_) (k:Nat) (a:List V),x=Â l/\y=Ë (k:Nat)/\fR K H l a/\a≠[]/\a.length*k<=gM/\(k=1->Q (Â l) H)/\
 (k≠1->∀p,H p=none->Q (Â p) (Ā H p (lq k a).flatten))
def kgs:iB X (oz .Mult) (UR X.K):=by
 intro f s M H x y v u Q I rx ry h;obtain⟨l,k,xs,rfl,rfl,S,B,J,Y,L⟩:=h;cases rx;obtain⟨t,rfl⟩:=ry;obtain⟨c,r,⟨⟨cls,m,data,p⟩,e,D,n,E⟩,hl⟩:=I.tuple S;simp only at D E;subst D E;have d:=r.length;have z:c.toArray.isEmpty=false:=by
  cases c with
  |nil=>simp at d;exact Ì d B
  |cons a Z=>rfl
 have W:c.toArray.size*k<=gM:=by rw[iq,<-d];exact J
 have j:ö ë X.w X.A (call (.builtin "tuple.__mul__") [Â l,.int (k:Nat) t]) (lG X f M Q) X.xe s->ö ë X.w X.A (oz .Mult (Â l) (.int (k:Nat) t)) (lG X f M Q) X.xe s:=λg=>
  wpAny_binaryOp_repeat_ref (T:="tuple") (U:="int") Ï (Î _ e À) (λs'=>typeIs_int s' k t) Wi F.fills_int_mul F.slot_int_rmul Ym F.slot_int_index.lookup
   (uh F.slot_int_rmul (typeIs_int s k t) F.entry_int_rmul (F.args_int_rmul_2 _ _) (WY k t l c.toArray n m p) ⟨e,À,Î _ e À,g⟩)
 refine j ?_;by_cases q:k=1
 .subst q;exact uh F.slot_tuple_mul (Î _ e À) F.entry_tuple_mul (F.args_tuple_mul_2 _ _) (X2 l c.toArray n m p t) (Æ e ⟨Â l,H,I,À,Y À⟩)
 .have G:H ó=none:=I.hok.fresh ï;by_cases P:k=0
  .subst P;refine uh F.slot_tuple_mul (Î _ e À) F.entry_tuple_mul (F.args_tuple_mul_2 _ _) (W_ l c.toArray n m p t z) (Æ e ⟨Â ó,_,?_,À,L q _ G⟩);exact I.laid (t':=s.toks) (λb o e=>i5 _ e) ï ⟨lu _,[],.nil,⟨_,mr _ À,Æ À À,_,À⟩⟩
  .have i:(k:Int)<2 ^ 63:=by
    have R:1<=c.toArray.size:=by
     cases c with
     |nil=>simp at z
     |cons a Z=>simp
    have h4:k<=c.toArray.size*k:=Nat.le_mul_of_pos_left k R;have h5:(gM:Nat)<2 ^ 63:=Ï
    lia
   refine uh F.slot_tuple_mul (Î _ e À) F.entry_tuple_mul (F.args_tuple_mul_2 _ _) (W9 l c.toArray n m p k t Ã i z Ã Ã (by simpa using W)) (Æ e ?_);have C:=Nl c k [];rw[List.nil_append] at C;have O:((k:Nat):Int).toNat=k:=Ò
   rw[O,C];refine Õ (Â ó) _ ?_ (L q _ G);refine I.laid (t':=s.toks) (λb o e=>i5 _ e) ï ⟨?_,(lq k c).flatten,r.rep k,⟨_,mr _ À,Æ À À,_,À⟩⟩;rw[kgO,Ai];exact J
def Yn:mS X (.builtin "divmod") (λxs H Q=>∃i j,xs=[Ë i,Ë j]/\(0<j/\j<2 ^ 64)/\∀p,H p=none->Q (Â p) (Ā H p [Ë (i / j),Ë (i % j)])):=by
 intro a s v H xs m Q I r h;obtain⟨i,j,rfl,⟨f,g⟩,q⟩:=h;obtain⟨u,n,rfl,⟨t,rfl⟩,⟨l,rfl⟩⟩:=Dj r;have c:j.natAbs.log2<9000:=by
  have k:j.natAbs.log2<64:=(Fw Ã).mpr Ã;lia
 refine divmod_int Ã ?_ (È (PyProof.noPylong_of_log2 c));rw[Hm i Ã,Int.fmod_eq_emod_of_nonneg i Ã];have d:H ó=none:=I.hok.fresh ï;refine Õ (Â ó) _ ?_ (q _ d);refine I.laid (λb o e=>i5 _ e) ï ⟨by simp only[iN,Ee];rw[u4];decide,[.int (i / j) s.toks,.int (i % j) (s.toks+1)],.cons (Æ _ À) (.cons (Æ _ À) .nil),?_⟩;exact⟨_,mr s.heap À,Æ À À,0,À⟩
inductive uG(K:a_)(H:b_):V->String->Bool->Prop where
 |int_int (i:Int):uG K H (Ë i) "int" true
 |int_bool (i:Int):uG K H (Ë i) "bool" Ü
 |int_tuple (i:Int):uG K H (Ë i) "tuple" Ü
 |str_tuple (x:Str):uG K H (Ä x) "tuple" Ü
 |tup_tuple {a:d_} {xs:List V} (h:fR K H a xs):uG K H (Â a) "tuple" true
 |lst_list {a:d_} {xs:List V} (h:hH K H a xs):uG K H (Â a) "list" true
 |str_str (x:Str):uG K H (Ä x) "str" true
 |bl_bool (b:Bool):uG K H (.bl b) "bool" true
def kd5:mS X (.builtin "isinstance") (λxs H Q=>∃x T b,xs=[x,.ty T]/\uG X.K H x T b/\Q (.bl b) H):=by
 intro g s w H xs p Q I r h;obtain⟨x,T,b,rfl,j,q⟩:=h;obtain⟨u,v,rfl,a,m⟩:=Dj r;cases m;cases j with
 |int_int i=>obtain⟨t,rfl⟩:=a;exact IsiPair.int_int (Õ (.bl true) H I q)
 |int_bool i=>obtain⟨t,rfl⟩:=a;exact IsiPair.int_bool ⟨.bl Ü,H,I.tok _,À,q⟩
 |int_tuple i=>obtain⟨t,rfl⟩:=a;exact IsiPair.int_tuple ⟨.bl Ü,H,I.tok _,À,q⟩
 |str_tuple z=>obtain⟨t,rfl⟩:=a;exact IsiPair.str_tuple ⟨.bl Ü,H,I.tok _,À,q⟩
 |tup_tuple d=>
  cases a;obtain⟨f,n,⟨o,e,c,_⟩,k⟩:=I.tuple d;exact IsiPair.tuple_tuple e c (Õ (.bl true) H I q)
 |lst_list d=>
  cases a;obtain⟨f,n,l,k⟩:=I.list d;obtain⟨o,e,c,_⟩:=l.isList;exact IsiPair.list_list e c (Õ (.bl true) H I q)
 |str_str z=>obtain⟨t,rfl⟩:=a;exact IsiPair.str_str (Õ (.bl true) H I q)
 |bl_bool z=>cases a;exact IsiPair.bool_bool (Õ (.bl true) H I q)
def GD(c:É Bool):(lH c.length).all (λi=>(c[i]?).getD Ü)=c.all id:=by
 rw[Bool.eq_iff_iff,uT,uT];constructor
 .intro h b d;obtain⟨i,a,e⟩:=nB.mp d;have:=h i (tE.mpr a)
  grind
 .intro h i a;have a:=tE.mp a;rw[gF a,BC];exact h _ (nE a)
def Ak(G:X.calm=true):mS X (.builtin "all") (λxs H Q=>∃(p:d_) (d:List Bool),xs=[Â p]/\hH X.K H p (d.map V.bl)/\Q (.bl (d.all id)) H):=by
 intro w s Y H xs W Q I r h;obtain⟨p,d,rfl,L,q⟩:=h;obtain⟨u,rfl,O⟩:=oU r;cases O;obtain⟨c,y,k,U⟩:=I.list L;have a:=y.length;rw[fP] at a;have j:p<s.heap.objs.size:=by obtain⟨o,e,_⟩:=k.isList;exact iD e
 refine call_all_walk (wpAny_pyIter_list k.isList ?_);refine⟨_,_,_,_,_,_,λi=>(d[i]?).getD Ü,À,Walks.list (A:=X.A.in1) (show X.A.in1.handled=none from I.ok.hd G) ó p (kP j) c.toArray,Æ ⟨_,mr _ À,À,À⟩ (k.isList.push _),?_,λT R J=>?_⟩
 .intro i v P B S D E;have f:c[i]?=Á v:=by
   have:c.toArray[i]?=Á v:=D;simpa using this
  have n:i<d.length:=by rw[a];exact(gR.mp f).1
  obtain⟨u,t,M⟩:=y.get (i:=i) (x:=V.bl d[i]) (by rw[i3,gF n];rfl);rw[f] at t;cases t;cases M;have g:B ((d[i]?).getD Ü) P:=E;rw[gF n,BC] at g;exact vK g
 .have e:c.toArray.size=d.length:=by rw[iq,a]
  rw[e,GD];refine Õ (.bl _) H ?_ q;refine I.kept (t':=R) λb o l=>?_;refine J b o (λz=>?_) (i5 _ l);have C:b=s.heap.objs.size:=by simpa using z
  have m:=iD l;rw[C] at m;exact px _ m
def Yp(f:X.calm=true):mS X (.builtin "sum") (λxs H Q=>∃(p:d_) (c:List Int),xs=[Â p]/\hH X.K H p (c.map V.int)/\∀z:Int,Q (Ë z) H):=by
 intro d s C H xs B Q I r h;obtain⟨p,c,rfl,i,q⟩:=h;obtain⟨u,rfl,o⟩:=oU r;cases o;obtain⟨a,m,k,x⟩:=I.list i;have b:∀(c:List Int) (a:List c_),gQ (c.map V.int) a->∃xs:List (Int×Tok),a=xs.map λp=>c_.int p.1 p.2:=by
  intro c
  induction c with
  |nil=>intro a r;cases r;exact Æ [] À
  |cons n c j=>
   intro a r;cases r with
   |cons r l=>
    obtain⟨xs,rfl⟩:=j _ l;obtain⟨t,rfl⟩:=r;exact Æ ((n,t)::xs) À
 obtain⟨xs,rfl⟩:=b c a m;refine sum_intListG (xs:=xs.toArray) (I.ok.hd f) ?_ λw y v g=>⟨Ë _,H,I.kept g,Æ v À,q _⟩;have e:=k.isList;simpa[xa] using e
theorem CA:∀{ys:List Str} {us:List c_},gQ (ys.map Ê) us->yx us ys
 |[],_,r=>by cases r;exact .nil
 |y::ys,_,r=>by
  cases r with
  |cons r a=>
   obtain⟨t,rfl⟩:=r;exact .cons _ _ (CA a)
def m_(K:a_):V->É V->b_->fS->Prop:=λx c H Q=>∃(a:Str) (p:d_) (b:List Str),x=Ä a/\c=[Â p]/\hH K H p (b.map Ê)/\(b.map (·.length)).sum+b.length*a.length<=16777216/\Q (Ä (Txt.join a b)) H
def kgS:xF X "str.join" (m_ X.K):=by
 intro a s o H x m v l Q I i g h;obtain⟨sep,p,n,rfl,rfl,b,c,q⟩:=h;obtain⟨t,rfl⟩:=i;obtain⟨u,rfl,f⟩:=g.one;cases f;obtain⟨d,r,e,_⟩:=I.list b;exact join_list e.isList (by simpa using CA r) c λj k=>⟨Ä _,H,I.tok k,Æ j À,q⟩
def mE(xs ys:É V):Bool:=(lH (min xs.length ys.length)).all (λj=>ow ((xs[j]?).getD .non) ((ys[j]?).getD .non))&&xs.length==ys.length
def DG(K:a_)(c:Bool):i6:=λx y H Q=>∃p q a b,x=Â p/\y=Â q/\fR K H p a/\fR K H q b/\a.all oF=true/\b.all oF=true/\Q (.bl (if c then ! mE a b else mE a b)) H
def Di(e:gQ xs us)(f:gQ ys vs)(i:xs.all oF=true)(k:ys.all oF=true) :
  ∀j (c:j<us.toArray.size) (d:j<vs.toArray.size),SeqAt.EqAt A s us.toArray[j] vs.toArray[j] (ow ((xs[j]?).getD .non) ((ys[j]?).getD .non)):=by
 intro j c d;have p:=e.length;have q:=f.length;rw[iq] at c d;have a:j<xs.length:=Ã
 have b:j<ys.length:=Ã
 obtain⟨u,n,l⟩:=e.get (gF a);obtain⟨v,o,m⟩:=f.get (gF b);have g:us.toArray[j]=u:=by grind
 have h:vs.toArray[j]=v:=by grind
 rw[g,h,gF a,gF b,BC,BC];exact C6 l m (uT.mp i _ (nE a)) (uT.mp k _ (nE b))
def ki0(i:X.A.units<cLine):iB X (kj .Eq) (DG X.K Ü):=by
 intro a s z H x y v u Q I k l h;obtain⟨p,q,t,w,rfl,rfl,f,g,d,e,j⟩:=h;cases k;cases l;obtain⟨o,b,m,_⟩:=I.tuple f;obtain⟨r,c,n,_⟩:=I.tuple g;refine SeqAt.eq_tupleAt (show s.heap.IsTuple p o.toArray from m) (show s.heap.IsTuple q r.toArray from n) i (Di b c d e) ⟨.bl (mE t w),H,I,?_,j⟩;show c_.bool _=c_.bool _;unfold mE;rw[iq,iq,b.length,c.length]
def UM(K:a_):i6:=λx y H Q=>∃p a z,x=Â p/\y=Ä z/\fR K H p a/\Q (.bl Ü) H
def kgq(c:X.A.units<cLine):iB X (kj .Eq) (UM X.K):=by
 intro a s l H x y v u Q I e f h;obtain⟨p,k,z,rfl,rfl,b,d⟩:=h;cases e;obtain⟨t,rfl⟩:=f;obtain⟨i,j,g,_⟩:=I.tuple b;exact SeqAt.RcAt.tuple_str z t (show s.heap.IsTuple p i.toArray from g) c ë X.w X.xe _ (Õ (.bl Ü) H I d)
def ki6(i:X.A.units<cLine):iB X (kj .NotEq) (DG X.K true):=by
 intro a s B H x y v u Q I k l h;obtain⟨p,q,t,z,rfl,rfl,f,g,d,e,j⟩:=h;cases k;cases l;obtain⟨o,b,m,_⟩:=I.tuple f;obtain⟨r,c,n,_⟩:=I.tuple g;refine SeqAt.RcNeAt.tuples (show s.heap.IsTuple p o.toArray from m) (show s.heap.IsTuple q r.toArray from n) i (Di b c d e) ë X.w X.xe _ ⟨.bl (! mE t z),H,I,?_,j⟩;show c_.bool _=c_.bool _;unfold mE;rw[iq,iq,b.length,c.length]
def DF(K:a_)(c:Bool):i6:=λx y H Q=>∃p q a b,x=Â p/\y=Â q/\hH K H p a/\hH K H q b/\a.all oF=true/\b.all oF=true/\Q (.bl (if c then ! mE a b else mE a b)) H
def ON(h:xs.length=ys.length):mE xs ys=(lH xs.length).all (λj=>ow ((xs[j]?).getD .non) ((ys[j]?).getD .non)):=by
 unfold mE;rw[<-h,Nat.min_self];simp
def Gu(h:¬xs.length=ys.length):mE xs ys=false:=by
 unfold mE;rw[Bool.and_eq_false_iff];right;simpa using h
def kiY(d:X.A.units<cLine):iB X (kj .Eq) (DF X.K Ü):=by
 intro e s D H x y v u Q I t w h;obtain⟨p,q,a,b,rfl,rfl,n,o,l,m,f⟩:=h;cases t;cases w;obtain⟨B,g,j,_⟩:=I.list n;obtain⟨C,i,k,_⟩:=I.list o;have r:=g.length;have z:=i.length;by_cases c:a.length=b.length
 .refine SeqAt.eq_listAt j.isList k.isList (by rw[iq,iq];lia) d (Di g i l m) ⟨.bl (mE a b),H,I,?_,f⟩;show c_.bool _=c_.bool _;rw[ON c,iq,r]
 .refine SeqAt.eq_list_lengthsAt j.isList k.isList (by rw[iq,iq];simp;lia) d ⟨.bl (mE a b),H,I,?_,f⟩;show c_.bool _=c_.bool _;rw[Gu c]
def ki4(d:X.A.units<cLine):iB X (kj .NotEq) (DF X.K true):=by
 intro e s E H x y v u Q I t z h;obtain⟨p,q,a,b,rfl,rfl,n,o,l,m,f⟩:=h;cases t;cases z;obtain⟨C,g,j,_⟩:=I.list n;obtain⟨D,i,k,_⟩:=I.list o;have r:=g.length;have B:=i.length;by_cases c:a.length=b.length
 .refine SeqAt.RcNeAt.lists j.isList k.isList (by rw[iq,iq];lia) d (Di g i l m) ë X.w X.xe _ ⟨.bl (! mE a b),H,I,?_,f⟩;show c_.bool _=c_.bool _;rw[ON c,iq,r]
 .refine SeqAt.RcNeAt.lists_lengths j.isList k.isList (by rw[iq,iq];simp;lia) d ë X.w X.xe _ ⟨.bl (! mE a b),H,I,?_,f⟩;rw[Gu c];rfl
def MA{E:gC}(f:t≠it):∀(n i:Nat) (s:fU) (Q:List c_->fU->Prop),s.heap.IsListIter it t i->s.heap.IsList t items->i+n<=items.size->
  (∀h':Heap,h'.IsListIter it t (i+n)->Heap.SameBut it s.heap h'->Q ((items.toList.drop i).take n) (č h'))->ö prog w A (draw (Â it) n) Q E s
 |0,i,s,Q,hit,_,_,h=>by
  show gN _ _ (pure []) Q E s;exact gH (by simpa using h s.heap hit (Heap.SameBut.refl ..))
 |n+1,i,s,Q,hit,j,hle,h=>by
  have e:i<items.size:=Ã
  show gN _ _ (uz (Â it) >>= _) Q E s;refine fN (wpAny_pyNext_list_item hit j (x:=items[i]) (by simp[e]) λk b a=>?_);refine fN (oh (MA f n (i+1) _ _ b (j.extBut a.extBut f) Ã λg c d=>gH ?_));have l:items.toList.drop i=items[i]::items.toList.drop (i+1):=by simp[Hq,e]
  have:=h g (by rw[show i+(n+1)=i+1+n by lia];exact c) (a.trans d);rw[l,List.take_succ_cons] at this;exact this
def VX{E:gC}(n:A.handled=none)(i:s.heap.IsList t items)
  (m:∀h':Heap,Heap.ExtBut ó s.heap h'->Q items.toList (č h')):ö prog w A (unpackItems (Â t) items.size Ç) Q E s:=by
 have h:t≠s.heap.objs.size:=by obtain⟨o,p,_⟩:=i;exact kP (iD p)
 refine fN ?_
 .refine fN (Ed i.typeIs slot_list_iter.lookup ?_);refine gH ?_;refine fN (oh (wpAny_pyIter_list i ?_));refine fN (oh (MA h items.size 0 _ _ ⟨_,mr _ À,À,À⟩ (i.push _) Ã λj c a=>?_));have g:List.take items.size (List.drop 0 items.toList)=items.toList:=by
   rw[Ef];exact m5 Ò
  rw[g];rw[ù Ò];have f:j.IsList t items:=(i.push _).extBut a.extBut h;refine fN (oh (wpAny_pyNext_list_end n c f Ò λk d=>?_));refine gH (m k λb o l e=>d b o l (a.extBut b o l (i5 _ e)))
def De(K:a_)(n:Nat)(t:sD):lW:=λv c H Q=>∃a b,v=Â a/\hH K H a b/\b.length=n/\t b c H Q
def khM{X:fQ}{pos:Pos}{es:List Expr}{k:Nat}{t:sD}{n:Nat}(q:X.calm=true)(h:yT X es t)
  (x:Ô (pN es Û)=n:=by rfl) (d:(pN es Û).findIdx? (·.1)=none:=by rfl):tW X (.Tuple es k pos) (De X.K n t):=by
 intro c s j H v u Q I r f;obtain⟨a,C,m,y,w,f⟩:=f;subst m;cases r;obtain⟨g,i,z,D⟩:=I.list y;refine fN (yd ?_);unfold unpack;have e:Ô (pN es Û)=g.toArray.size:=by simp[x,<-w,i.length]
 rw[e,d];refine fN (oh (VX (I.ok.hd q) z.isList λp B=>?_));have l:fJ X c j H (č p):=I.kept (t':=s.toks) λb o e=>B b o (kP (iD e)) e;exact h c _ j H C _ Q l (by simpa using i) f
def kkl:i6:=λx y H Q=>∃i j,x=Ä i/\y=Ä j/\i.length+j.length<=gM/\Q (Ä (i++j)) H
def hZ(K:a_):i6:=λx y H Q=>rV (λi j=>Ë (i+j)) x y H Q\/(kkl x y H Q\/(Vu x y H Q\/UL K x y H Q))
def vu:i6:=rV λi j=>Ë (i-j)
def tO(K:a_):i6:=λx y H Q=>vc Dv (λi j=>Ë (i*j)) x y H Q\/UR K x y H Q
def rJ:i6:=vc (λ_ j=>0<j) λi j=>Ë (i % j)
def GL:i6:=vc Vd λi j=>Ë (i / j)
def vt:i6:=vc Ve λi j=>Ë (i ^ j.toNat)
def gS(K:a_):i6:=λx y H Q=>Sy x y H Q\/(DG K Ü x y H Q\/(UM K x y H Q\/DF K Ü x y H Q))
def pV(K:a_):i6:=λx y H Q=>Sz x y H Q\/(DG K true x y H Q\/DF K true x y H Q)
def ni:i6:=rV λi j=>.bl (æ (i<j))
def sr:i6:=rV λi j=>.bl (æ (j<i))
def y0:i6:=rV λi j=>.bl (æ (j<=i))
def Vv:i6:=λx y H Q=>y=.non/\Q (.bl (æ (x=.non))) H
def UQ:i6:=λx y H Q=>y=.non/\Q (.bl (! æ (x=.non))) H
def tV:V->b_->fS->Prop:=HN λi=>Ë (-i)
def lh(K:a_):V->Option Int->Option Int->b_->fS->Prop:=λx b a H Q=>Vl K x b a H Q\/Vn K x b a H Q
def gV(K:a_):É V->b_->fS->Prop:=λa H Q=>∃x n,a=[x]/\Dr K x H n/\Q (Ë n) H
def khx:É V->b_->fS->Prop:=λa H Q=>∃i j,a=[Ë i,Ë j]/\(0<j/\j<2 ^ 64)/\∀p,H p=none->Q (Â p) (Ā H p [Ë (i / j),Ë (i % j)])
def kkj:É V->b_->fS->Prop:=λa H Q=>∃i j,a=[Ë i,Ë j]/\Q (Ë (if j>i then j else i)) H
def kkk:É V->b_->fS->Prop:=λa H Q=>∃i j,a=[Ë i,Ë j]/\Q (Ë (if j<i then j else i)) H
def kkR(K:a_):É V->b_->fS->Prop:=λb H Q=>∃(p:d_) (a:List Int),b=[Â p]/\hH K H p (a.map V.int)/\∀z:Int,Q (Ë z) H
def wu(K:a_):É V->b_->fS->Prop:=λb H Q=>∃(p:d_) (a:List Bool),b=[Â p]/\hH K H p (a.map V.bl)/\Q (.bl (a.all id)) H
def kkQ(K:a_):É V->b_->fS->Prop:=λa H Q=>∃x T b,a=[x,.ty T]/\uG K H x T b/\Q (.bl b) H
def Do:É V->b_->fS->Prop:=λa H Q=>(∃i,a=[Ë i]/\Q (Ë i) H)\/∃k,a=[.bl k]/\Q (Ë (if k then 1 else 0)) H
def xg(K:a_):É V->b_->fS->Prop:=λb H Q=>∃p a,b=[Â p]/\(hH K H p a\/fR K H p a)/\∀l,H l=none->Q (Â l) (Ý H l a)
def rn(K:a_):É V->b_->fS->Prop:=λb H Q=>∃p a,b=[Â p]/\((hH K H p a/\∀l,H l=none->Q (Â l) (Ā H l a))\/(fR K H p a/\Q (Â p) H))
def i_(K:a_)(a:gp):mY:=λb H R=>U6 K a b H R\/Vc K a b H R
def iw:iB X (oz .Add) (hZ X.K):=kiV.or (kb8.or (kiW.or kgX))
def ui:iB X (oz .Mult) (tO X.K):=ki3.or kgs
def gX(a:X.A.units<cLine):iB X (kj .Eq) (gS X.K):=kkx.or ((ki0 a).or ((kgq a).or (kiY a)))
def rz(a:X.A.units<cLine):iB X (kj .NotEq) (pV X.K):=kkz.or ((ki6 a).or (ki4 a))
def lX:sC X (lh X.K):=khl.or kjI
def kiP(b:gL X l c):sy X e l (i_ X.K c):=by
 intro a s d H R I h;rcases h with h|h
 .exact khP b a s d H R I h
 .exact kiR b a s d H R I h
structure iH(P:f5)(w:fW)(K:a_)(mg:Str->Option c_)(base:Heap)(x:Str)(ps:Ñ)(k:Nat)(sp:gO):Prop where
 ex:∃(f:d_) (fd:m6),mg x=Á (Â f)/\rh K (Â f)=true/\uC K fd ps []/\oI P w K mg base oK k f fd ps sp
def kkD{X:fQ}{x:Str}{ps:List Str}{k:Nat}{sp:gO}{e:Expr}{es:List Expr}{t:kF}{p pos:Pos}(c:iH ë X.w X.K X.mg X.base x ps k sp)(m:ku k X.A)(i:ko X x)(d:ny X (e::es) t)
  (a:(x==("__debug__":Str))=false:=by decide) (h:gK (e::es) Û=(Ü,þ e)::gK es Û:=by rfl) (b:(lR pos (gK es Û)).any (·.1)=false:=by rfl) :
  gL X (Č x p (e::es) [] pos) (å sp f9 t):=by
 obtain⟨f,n,l,j,g,F⟩:=c.ex;exact Rj F m i l j g .nil kkA d a h b
structure ic(mg:Str->Option c_):Prop where
 len_:mg "len"=none
 range_:mg "range"=none
 divmod_:mg "divmod"=none
 max_:mg "max"=none
 min_:mg "min"=none
 sum_:mg "sum"=none
 all_:mg "all"=none
 isinstance_:mg "isinstance"=none
 int_:mg "int"=none
 bool_:mg "bool"=none
 list_:mg "list"=none
 tuple_:mg "tuple"=none
 enumerate_:mg "enumerate"=none
 zip_:mg "zip"=none
 sorted_:mg "sorted"=none
 set_:mg "set"=none
 dict_:mg "dict"=none
 str_:mg "str"=none
 any_:mg "any"=none
 reversed_:mg "reversed"=none
 abs_:mg "abs"=none
def hI(a:d_)(H H':b_):Prop:=∀b o,b≠a->H b=Á o->H' b=Á o
def hI.refl(a:d_)(H:b_):hI a H H:=λ_ _ _ h=>h
def hI.trans(x:hI a H b)(y:hI a b d):hI a H d:=λc o n h=>y c o n (x c o n h)
def gJ.but(x:Ö H'):hI a H H':=λb o _ h=>x b o h
def hI.upd_at:hI a H (upd H a o):=λb u n h=>by rw[fM n];exact h
def hI.new(x:hI a H c)(d:c p=none):hI a H (upd c p o):=λb u n h=>by
 rw[fM (f6 (x b u n h) d)];exact x b u n h
def gJ.new(x:Ö a)(c:a p=none):Ö (upd a p o):=λb u h=>by
 rw[fM (f6 (x b u h) c)];exact x b u h
def hI.free(x:hI a H H')(n:p≠a)(h:H' p=none):H p=none:=by
 cases q:H p with
 |none=>rfl
 |some o=>rw[x p o n q] at h;cases h
def BU{h:List Nat}{k:Nat}{e:Int}{n:Nat}{g:lW}{l:kU}{o:gp}{R:b_->Prop}{a:fO}{H:b_}{D:d_}(c:Nat->fO->b_->Prop)(p:c 0 (oM h k a) (Ý H D []))
  (r:∀i a H,i<n->c i a H->g (Ë (e+i)) a H λb f=>n_ D l o {nx:=c (i+1),rt:=λ_ _=>False,ct:=c (i+1),bk:=λ_ H'=>R H'} b f) (q:∀a H,c n a H->R H) :
  ∃W:Nat->Nat->fO->b_->Prop,(∃m,W 0 m (oM h k a) (Ý H D []))/\∀i m a H,W i m a H->
   ((vD e n).stop i H/\R H)\/((vD e n).go i H/\∃N:fO->b_->Prop,(∀d H',N d H'->∃j,j<m/\W (i+1) j d H')/\∀x H',(vD e n).yld i H x H'->g x a H' λb f=>n_ D l o {nx:=N,rt:=λ_ _=>False,ct:=N,bk:=λ_ H'=>R H'} b f):=
 sP (D:=ì (R H') (λ_ _=>False)) c p r q
def sO{h:List Nat}{k:Nat}{K:a_}{a:d_}{xs:List V}{g:lW}{l:kU}{n:gp}{R:b_->Prop}{b:fO}{H:b_}{D:d_}(c:Nat->fO->b_->Prop)(o:c 0 (oM h k b) (Ý H D []))(q:∀i b H,i<=xs.length->c i b H->hH K H a xs)
  (r:∀i x b H,xs[i]?=Á x->c i b H->g x b H λd f=>n_ D l n {nx:=c (i+1),rt:=λ_ _=>False,ct:=c (i+1),bk:=λ_ H'=>R H'} d f) (p:∀b H,c xs.length b H->R H) :
  ∃W:Nat->Nat->fO->b_->Prop,(∃m,W 0 m (oM h k b) (Ý H D []))/\∀i m b H,W i m b H->
   ((wm K a).stop i H/\R H)\/((wm K a).go i H/\∃N:fO->b_->Prop,(∀e H',N e H'->∃j,j<m/\W (i+1) j e H')/\∀x H',(wm K a).yld i H x H'->g x b H' λd f=>n_ D l n {nx:=N,rt:=λ_ _=>False,ct:=N,bk:=λ_ H'=>R H'} d f):=
 wZ (D:=ì (R H') (λ_ _=>False)) c o q r p
def Cf{h:List Nat}{k:Nat}{K:a_}{a:d_}{xs:List V}{g:lW}{l:kU}{n:gp}{R:b_->Prop}{b:fO}{H:b_}{D:d_}(c:Nat->fO->b_->Prop)(o:c 0 (oM h k b) (Ý H D []))(q:∀i b H,i<=xs.length->c i b H->fR K H a xs)
  (r:∀i x b H,xs[i]?=Á x->c i b H->g x b H λd f=>n_ D l n {nx:=c (i+1),rt:=λ_ _=>False,ct:=c (i+1),bk:=λ_ H'=>R H'} d f) (p:∀b H,c xs.length b H->R H) :
  ∃W:Nat->Nat->fO->b_->Prop,(∃m,W 0 m (oM h k b) (Ý H D []))/\∀i m b H,W i m b H->
   ((wo K a).stop i H/\R H)\/((wo K a).go i H/\∃N:fO->b_->Prop,(∀e H',N e H'->∃j,j<m/\W (i+1) j e H')/\∀x H',(wo K a).yld i H x H'->g x b H' λd f=>n_ D l n {nx:=N,rt:=λ_ _=>False,ct:=N,bk:=λ_ H'=>R H'} d f):=
 v7 (D:=ì (R H') (λ_ _=>False)) c o q r p
def hI.through(x:hI a H c)(g:c l=none)(y:hI l (upd c l o) d):hI a H d:=λb u n h=>by
 have e:=x b u n h;have f:b≠l:=f6 e g;exact y b u f (by rw[fM f];exact e)
structure gE(X:fQ)(e:Expr)(t:gp):Prop where
 up:gL X e t
structure p_(X:fQ)(e:Expr)(t:kU):Prop where
 up:pZ X e t
structure kc(X:fQ)(e:Expr)(t:kU):Prop where
 up:uJ X e t
structure mG(X:fQ)(e:É Expr)(t:kF):Prop where
 up:ny X e t
structure oZ(X:fQ)(e:Stmt)(t:e_):Prop where
 up:rS X e t
structure sA(X:fQ)(e:É Stmt)(t:e_):Prop where
 up:nq X e t
structure tf(X:fQ)(e:Expr)(t:lW):Prop where
 up:tW X e t
structure Ba(X:fQ)(e:É Expr)(t:sD):Prop where
 up:yT X e t
structure tX(X:fQ)(a b:Expr)(t:mY):Prop where
 up:sy X a b t
structure Dg(X:fQ)(e:Option Expr)(t:sF):Prop where
 up:A_ X e t
structure yU(X:fQ)(e:É Expr)(t:kU):Prop where
 up:yV X e t
def fH(i:Nat){x:Str}{pos:Pos}(b:X.N[i]?=Á x:=by rfl)(d:Bh X.env.scope x:=by first|exact Or.inl rfl|exact Or.inr (Or.inl rfl)|exact Or.inr (Or.inr rfl))(c:(x==("__debug__":Str))=false:=by decide)(a:(x==("__classdict__":Str))=false:=by decide):gE X (.Name x pos) (fI i):=
 ⟨lE i b d c a⟩
def fL:gE X (.Constant (Ë i) j pos) (fY (Ë i)):=
 ⟨kje ⟩
def oo:gE X (.Constant (.bool b) j pos) (fY (.bl b)):=
 ⟨kkB ⟩
def tN:gE X (.Constant .none j pos) (fY .non):=
 ⟨R9 ⟩
def fK:gE X (.Constant (Ä x) j pos) (fY (Ä x)):=
 ⟨kiK ⟩
def gg(e:iB X (oz op) r)(c:gE X a ta)(d:gE X b tb):gE X (.BinOp a op b pos) (fV r ta tb):=
 ⟨kkF e c.up d.up⟩
def uD(c:Dq X (unaryOp op) r)(b:gE X a ta):gE X (.UnaryOp op a pos) (sE r ta):=
 ⟨kkH c b.up⟩
def lP(f:iB X (kj op) r)(c:gE X a ta)(d:gE X b tb)(e:Ej op b=false):gE X (.Compare a [op] [b] pos) (fV r ta tb):=
 ⟨kgw f c.up d.up e⟩
def FW(k:iB X (kj op) r)(e:iB X (kj d) f)(g:gE X a ta)(h:gE X b tb)(i:gE X c tc)(j:lastMarks [op,d] [b,c]=false:=by with_unfolding_all rfl):gE X (.Compare a [op,d] [b,c] pos) (wa r f ta tb tc):=
 ⟨kfA k e g.up h.up i.up j⟩
def kfS(k:iB X (kj op) r)(e:iB X (kj d) f)(g:gE X a ta)(h:gE X b tb)(i:gE X c tc)(j:lastMarks [op,d] [b,c]=false:=by with_unfolding_all rfl):p_ X (.Compare a [op,d] [b,c] pos) (iY (wa r f ta tb tc)):=
 ⟨kfN k e g.up h.up i.up j⟩
def rA(c:gE X a ta)(d:gE X (.BoolOp .And (b::rest) pos) tb):gE X (.BoolOp .And (a::b::rest) pos) (oS ta tb):=
 ⟨kja c.up d.up⟩
def UK(c:gE X a ta)(d:gE X (.BoolOp .Or (b::rest) pos) tb):gE X (.BoolOp .Or (a::b::rest) pos) (EV ta tb):=
 ⟨kkG c.up d.up⟩
def rE(h:gE X a t):gE X (.BoolOp op [a] pos) t:=
 ⟨kiJ h.up⟩
def kfQ(f:p_ X c tA)(d:gE X a ta)(e:gE X b tb):gE X (.IfExp c a b pos) (HX tA ta tb):=
 ⟨kfC f.up d.up e.up⟩
def lJ(f:sC X r)(c:gE X e te)(d:Dg X b tl)(g:Dg X a th):gE X (.Subscript e (.Slice b a Ç p2) pos) (kE r te tl th):=
 ⟨kfE f c.up d.up g.up⟩
def kkL(e:uL X r)(c:gE X a ta)(d:gE X b tb)(f:Gp b):gE X (.Subscript a b pos) (fV r ta tb):=
 ⟨kkE e c.up d.up f⟩
def ij(h:mG X es t):gE X (.Tuple es x1 pos) (h9 t):=
 ⟨kiL h.up⟩
def iF(h:mG X es t):gE X (.List es pos) (h_ t):=
 ⟨kiI h.up⟩
def oH{id:String}(l:ER T)(f:Slot T name id)(g:typeOf (.builtin id)=pure (.type "method_descriptor"))(i:xF X id r)(j:gE X o to)(h:mG X (e::es) t)(b:tx o name Û (þ o)=þ o:=by rfl)(d:((lR cpos (gK (e::es) Û)).all (λx=>!x.1)&&(w_ cpos (wW [] Û)).all (λx=>x.1.isSome)
   && æ (Ô (e::es)+Ô ([]:É sR)+(if([]:É sR).isEmpty then 0 else 1)<30))=true:=by rfl) (c:(apos.endLine==cpos.line)=true:=by rfl) (k:gK (e::es) Û=(Ü,þ e)::gK es Û:=by rfl) (a:(lR cpos (gK es Û)).any (·.1)=false:=by rfl):gE X (.Call (.Attribute o name apos) (e::es) [] cpos) (iJ X.K T r to t):=
 ⟨kkC l f g i j.up h.up b d c k a⟩
def R'{id:String}(g:ER T)(c:Slot T name id)(d:typeOf (.builtin id)=pure (.type "method_descriptor"))(e:xF X id r)(f:gE X o to)(a:tx o name Û (þ o)=þ o:=by rfl)(b:(apos.endLine==cpos.line)=true:=by rfl):gE X (.Call (.Attribute o name apos) [] [] cpos) (ET X.K T r to):=
 ⟨kjb g c d e f.up a b⟩
def rj{id:String}(d:mS X (.builtin id) r)(g:ko X x)(h:X.mg x=none)(j:uZ x=Á (.builtin id))(c:mG X (e::es) t)(i:x≠"__name__":=by decide)(a:(x==("__debug__":Str))=false:=by decide)(f:gK (e::es) Û=(Ü,þ e)::gK es Û:=by rfl)(b:(lR pos (gK es Û)).any (·.1)=false:=by rfl):gE X (Č x p (e::es) [] pos) (iO r t):=
 ⟨kfy d g h j c.up i a f b⟩
def kC(d:mS X (.type T) r)(g:ko X x)(h:X.mg x=none)(j:uZ x=Á (.type T))(c:mG X (e::es) t)(i:x≠"__name__":=by decide)(a:(x==("__debug__":Str))=false:=by decide)(f:gK (e::es) Û=(Ü,þ e)::gK es Û:=by rfl)(b:(lR pos (gK es Û)).any (·.1)=false:=by rfl):gE X (Č x p (e::es) [] pos) (iO r t):=
 ⟨kdU d g h j c.up i a f b⟩
def kkK{X:fQ}{x:Str}{ps:List Str}{k:Nat}{sp:gO}{e:Expr}{es:List Expr}{t:kF}{p pos:Pos}(c:iH ë X.w X.K X.mg X.base x ps k sp)(h:ku k X.A)(g:ko X x)(d:mG X (e::es) t)(a:(x==("__debug__":Str))=false:=by decide)(f:gK (e::es) Û=(Ü,þ e)::gK es Û:=by rfl)(b:(lR pos (gK es Û)).any (·.1)=false:=by rfl):gE X (Č x p (e::es) [] pos) (å sp f9 t):=
 ⟨kkD c h g d.up a f b⟩
def khp(o:yB sc N scope NY js)(d:X.env.scope=sc)(f:X.N=N)(m:NY.length=N.length+k)(h:X.calm=true)(c:tX X target iter e)(j:∀a C s₀ H₀ b,tf (lK X NY scope a C s₀ H₀ b) target g)(l:∀a C s₀ H₀ b,yU (lK X NY scope a C s₀ H₀ b) ifs tc)(i:∀a C s₀ H₀ b,gE (lK X NY scope a C s₀ H₀ b) elt te)(n:∀x,wK iter Û x=pure x:=by intro _;rfl):gE X (.ListComp elt [⟨target,iter,ifs,0⟩] scope pos) (i9 js k e g tc te):=
 ⟨kgx o d f m h c.up (λa C s₀ H₀ b=>(j a C s₀ H₀ b).up) (λa C s₀ H₀ b=>(l a C s₀ H₀ b).up) (λa C s₀ H₀ b=>(i a C s₀ H₀ b).up) n⟩
def khv{j:mY}{i:Nat}{y:Str}{h c:Pos}(w:yB sc N scope NY js)(e:X.env.scope=sc)(l:X.N=N)(r:NY.length=N.length+k)(m:X.calm=true)(d:tX X target iter j)(p:∀a C s₀ H₀ b,tf (lK X NY scope a C s₀ H₀ b) target g)(q:∀a C s₀ H₀ b,yU (lK X NY scope a C s₀ H₀ b) ifs tc)(n:∀a C s₀ H₀ b,gE (lK X NY scope a C s₀ H₀ b) elt te)(v:X.N.Nodup)(u:X.N[i]?=Á y)(s:t4 X.env.scope y)(f:u6 (.ListComp elt [⟨target,iter,ifs,0⟩] scope pos) (Á (.Name y h)) c.line Û=pure true)(t:∀x,wK iter Û x=pure x:=by intro _;rfl)(o:X.fn y=true\/X.env.scope.names.lookup y=Á .local:=by first|exact .inl rfl|exact .inr rfl|assumption):oZ X (.Assign [.Name y h] (.ListComp elt [⟨target,iter,ifs,0⟩] scope pos) c) (đ (i9 js k j g tc te) i):=
 ⟨kh0 w e l r m d.up (λa C s₀ H₀ b=>(p a C s₀ H₀ b).up) (λa C s₀ H₀ b=>(q a C s₀ H₀ b).up) (λa C s₀ H₀ b=>(n a C s₀ H₀ b).up) v u s f t o⟩
def lQ :Dg X Ç kH:=
 ⟨khU ⟩
def lz(h:gE X e te):Dg X (Á e) (kB te):=
 ⟨khV h.up⟩
def nO :mG X [] lN:=
 ⟨ki7 ⟩
def gI(a:gE X e te)(b:mG X es t)(c:gK (e::es) Û=(Ü,þ e)::gK es Û:=by rfl):mG X (e::es) (fX te t):=
 ⟨kgu a.up b.up c⟩
def kh9(f:iB X (kj op) r)(c:gE X a ta)(d:gE X b tb)(e:Ej op b=false):p_ X (.Compare a [op] [b] pos) (ð r ta tb):=
 ⟨kh6 f c.up d.up e⟩
def AQ(b:p_ X a tA):p_ X (.UnaryOp .Not a pos) (xQ tA):=
 ⟨kj0 b.up⟩
def lB(c:p_ X a tA)(d:kc X (.BoolOp .And (b::rest) pos) tB'):kc X (.BoolOp .And (a::b::rest) pos) (kZ tA tB'):=
 ⟨kj2 c.up d.up⟩
def nK(b:p_ X a tA):kc X (.BoolOp .And [a] pos) tA:=
 ⟨kh7 b.up⟩
def pE(c:p_ X a tA)(d:kc X (.BoolOp .Or (b::rest) pos) tB'):kc X (.BoolOp .Or (a::b::rest) pos) (oy tA tB'):=
 ⟨kkJ c.up d.up⟩
def rG(b:p_ X a tA):kc X (.BoolOp .Or [a] pos) tA:=
 ⟨kj3 b.up⟩
def kc.pt(h:kc X e t):p_ X e t:=
 ⟨uJ.pt h.up⟩
def mR{e:Expr}{t:gp}(h:gE X e t)(b:∀a,isTrue e X.env a=(do let v <-a;standAt e.pos;holding [v] (truthy v)):=by intro _;rfl):p_ X e (mF t):=
 ⟨kj1 h.up b⟩
def pz(d:ko X "range")(e:X.mg "range"=none)(c:mG X [a] b)(f:gK [a] Û=[(Ü,þ a)]:=by rfl):tX X tg (Č "range" p [a] [] pos) (om b):=
 ⟨kdX d e c.up f⟩
def CC(d:ko X "enumerate")(e:X.mg "enumerate"=none)(c:mG X [a] b)(f:gK [a] Û=[(Ü,þ a)]:=by rfl):tX X (.Tuple elts k tpos) (Č "enumerate" p [a] [] pos) (yJ X.K b):=
 ⟨khO d e c.up f⟩
def Sd{a b:Expr}{d:kF}{p pos:Pos}(f:ko X "zip")(g:X.mg "zip"=none)(e:mG X [a,b] d)(h:gK [a,b] Û=[(Ü,þ a),(Ü,þ b)]:=by rfl)(c:gK [b] Û=[(Ü,þ b)]:=by rfl):tX X (.Tuple elts k tpos) (Č "zip" p [a,b] [] pos) (Bj X.K d):=
 ⟨kjT f g e.up h c⟩
def kS(b:gE X l a):tX X c l (i_ X.K a):=
 ⟨kiP b.up⟩
def kht(a:X.N.Nodup)(c:X.N[i]?=Á x)(d:t4 X.env.scope x)(b:X.fn x=true\/X.env.scope.names.lookup x=Á .local:=by first|exact .inl rfl|exact .inr rfl|assumption):tf X (.Name x pos) (gB i):=
 ⟨khL a c d b⟩
def ux{es:List Expr}{k:Nat}{t:sD}{n:Nat}(b:X.calm=true)(h:Ba X es t)(c:Ô (pN es Û)=n:=by rfl)(a:(pN es Û).findIdx? (·.1)=none:=by rfl):tf X (.Tuple es k pos) (rL X.K n t):=
 ⟨kiO b h.up c a⟩
def Rl{es:List Expr}{k:Nat}{t:sD}{n:Nat}(b:X.calm=true)(h:Ba X es t)(c:Ô (pN es Û)=n:=by rfl)(a:(pN es Û).findIdx? (·.1)=none:=by rfl):tf X (.Tuple es k pos) (De X.K n t):=
 ⟨khM b h.up c a⟩
def sT :Ba X [] pU:=
 ⟨khN ⟩
def lV{e:Expr}{es:List Expr}{t:lW}{u:sD}(a:tf X e t)(b:Ba X es u)(c:(pN (e::es) Û).map (·.2)=assign e Û::(pN es Û).map (·.2):=by rfl):Ba X (e::es) (lg t u):=
 ⟨kfF a.up b.up c⟩
def rF{o i:Expr}{d c:gp}{t:DB}(g:gE X o d)(f:gE X i c)(h:DA X t)(e:∀v,assign (.Subscript o i pos) X.env v=(do
   let a <-holding [v] (eval o X.env);let b <-holding [v,a] (eval i X.env)
   standAt pos
   holding [v,a,b] (setItem a b v)
   release [v,a,b] []):=by intro _;rfl):tf X (.Subscript o i pos) (oW d c t):=
 ⟨kiN g.up f.up h e⟩
def kj5(c:X.N.Nodup)(g:X.N[i]?=Á x)(j:t4 X.env.scope x)(d:gE X e b)(h:u6 e (Á (.Name x a)) pos.line Û=pure Ü:=by rfl)(f:X.fn x=true\/X.env.scope.names.lookup x=Á .local:=by first|exact .inl rfl|exact .inr rfl|assumption):oZ X (.Assign [.Name x a] e pos) (đ b i):=
 ⟨kjZ c g j d.up h f⟩
def pC{a e:Expr}{b:gp}{g:lW}(d:gE X e b)(f:tf X a g)(h:swapsWithSole [a] e pos.line Û=pure Ü:=by rfl)(i:swappedStores [a] e Û=pure Ç:=by rfl)(c:(pN [a] Û).map (·.2)=[assign a Û]:=by rfl):oZ X (.Assign [a] e pos) (mB b g):=
 ⟨kjW d.up f.up h i c⟩
def me(a:gE X e te)(b:u6 e Ç pos.line Û=pure Ü:=by rfl):oZ X (.Expr e pos) (lS te):=
 ⟨kh1 a.up b⟩
def iE(a:gE X e te):oZ X (.Return (Á e) pos) (fZ te):=
 ⟨kjY a.up⟩
def uE(g:p_ X c d)(e:sA X a t)(f:sA X b u):oZ X (.If c a b pos) (lI d t u):=
 ⟨kkI g.up e.up f.up⟩
def Ck(g:kg (model ë X.w) X.A Û X.xe)(f:p_ X c d)(e:sA X a b):oZ X (.While c a [] pos) (xt d b):=
 ⟨kfL g f.up e.up⟩
def kX(j:kg (model ë X.w) X.A Û X.xe)(f:X.calm=true)(i:tX X tg a d)(h:tf X tg g)(e:sA X b c)(k:∀x,wK a Û x=pure x:=by intro _;rfl):oZ X (.For tg a b [] pos) (kD d g c):=
 ⟨kjX j f i.up h.up e.up k⟩
def iM{st:Stmt}{rest:List Stmt}(a:oZ X st t)(b:sA X rest u):sA X (st::rest) (iA t u):=
 ⟨kfM a.up b.up⟩
def gc{st:Stmt}(a:oZ X st t):sA X [st] t:=
 ⟨kh5 a.up⟩
def yq :sA X [] gk:=
 ⟨kh4 ⟩
def kh8{x:Str}{v:V}{u:c_}{pos:Pos}(b:ko X x)(c:X.mg x=none)(e:uZ x=Á u)(r:hW v u)(d:x≠"__name__":=by decide)(a:(x==("__debug__":Str))=false:=by decide):gE X (.Name x pos) (fY v):=
 ⟨kgv b c e r d a⟩
def mQ:yU X [] kT:=
 ⟨khQ ⟩
def yp(h:p_ X c t):yU X [c] t:=
 ⟨khR h.up⟩
def xO(b:Bool):i6:=λx y H Q=>∃a o,y=Â a/\rO H a x o/\Q (.bl (if b then !o.isSome else o.isSome)) H
def A6:V->V->V->b_->(b_->Prop)->Prop:=λo i v H Q=>∃a b,o=Â a/\wq H a i v b/\Q b
def ki1(d:X.A.units+1<cLine):iB X (kj .In) (xO Ü):=by
 intro b s j H x y v u Q I e f h;obtain⟨a,o,rfl,g,q⟩:=h;cases f;exact kkN d I g e λi c=>Õ (.bl o.isSome) H c q
def EL(d:X.A.units+1<cLine):iB X (kj .NotIn) (xO true):=by
 intro b s j H x y v u Q I e f h;obtain⟨a,o,rfl,g,q⟩:=h;cases f;exact kg7 d I g e λi c=>Õ (.bl (!o.isSome)) H c q
def Cy(e:X.A.units+1<cLine):DA X A6:=by
 intro b s p H o i v m l u Q I j f k h;obtain⟨a,c,rfl,g,q⟩:=h;cases j;exact kdn e I g f k λn d=>Î c d q
def YW:∀{us:List c_} {a:List Int},vf us a->gQ (a.map V.int) us:=by
 intro us a h
 induction h with
 |nil=>exact .nil
 |cons n t _ b=>exact .cons (Æ t À) b
theorem Mo{prog:f5}{w:fW}:∀{d:List Int} {vs:List (iQ×c_)} {us:List c_},vs.map (·.1)=d.map Sum.inl->us.length=vs.length->(∀(j:Nat) v,us[j]?=Á v->∃k x,vs[j]?=Á (k,x)/\(oA prog w).is k v=true)->vf us d
 |[],vs,us,b,c,_=>by
  have:vs=[]:=by cases vs with|nil=>rfl|cons a r=>cases b
  subst this;have:us=[]:=sH.mp c;subst this;exact .nil
 |n::d,vs,us,b,c,f=>by
  cases vs with
  |nil=>cases b
  |cons a vs=>
   cases us with
   |nil=>cases c
   |cons u us=>
    obtain⟨k,x,e,h⟩:=f 0 u À;have g:a=(k,x):=ď e;subst g;injection b with b h1';have b:k=Sum.inl n:=b;subst b;obtain⟨t,rfl⟩:=c_.isInt_shape (k:=n) (v:=u) h;refine .cons n t (Mo (prog:=prog) (w:=w) h1' (by simpa using c) λj v e=>?_);exact f (j+1) v (by simpa using e)
def R1:É V->b_->fS->Prop:=λe H Q=>∃(d:d_) (b:List (iQ×V)) (c:List Int),e=[Â d]/\H d=Á (.dK b)/\b.map (·.1)=c.map Sum.inl/\c.length<64/\∀(l:d_) (a:List Int),H l=none->a.Perm c->a.Pairwise (·<=·)->Q (Â l) (Ý H l (a.map V.int))
def kbg(S:X.calm=true):mS X (.builtin "sorted") R1:=by
 intro o s σ H xs us Q I r h;obtain⟨d,kvs,p,rfl,T,Z,i,q⟩:=h;obtain⟨u,rfl,rx⟩:=oU r;cases rx;obtain⟨z,lo,t,rel,P⟩:=G3 I.hok T;obtain⟨ep,x⟩:=P.dictAt;have Y:X.A.handled=none:=I.ok.hd S;have J:=rel.length;have G:t.map (·.1)=p.map Sum.inl:=by rw[<-rel.keys];exact Z
 have vl:t.length=p.length:=by have:=congrArg tG G;simpa using this
 refine Calls.call_function_entry kind_sorted plain_sorted entry_sorted (args_sorted1 _) ?_;unfold Builtin.«sorted»;refine fN (m:=checkCount "sorted" 1 1 _) (gH ?_);refine fN (PySem.W.kdu_collect (A:=X.A.in1) (PySem.W.kdl_dict (knd:=oA ë X.w) (kvs:=t) (ep:=ep) lo) Y x (by rw[<-J];exact z) λg C a y c=>?_);have B:a.toList.length=t.length:=by rw[lO];exact c.1
 have R:vf a.toList p:=Mo (prog:=ë) (w:=X.w) G B λj v e=>c.2 j v (by rw[<-uR];exact e);refine fN (wpAny_newList ?_ (by rw[B,<-J];exact z));have f:(g.push (seqObj "list" a.toList.toArray 0)).get? g.objs.size=Á (seqObj "list" a.toList.toArray 0):=mr _ À;show gN _ _ _ _ _ (Ď (g.push (seqObj "list" a.toList.toArray 0)) C);refine fN (oh (x8 slot_list_sort (Î _ f À) entry_list_sort (list_sort_tree f R (by rw[B,vl];exact i) λout l M E O=>Ú ?_) (args_list_sort _)));refine gH (Ú ?_);obtain⟨e,U⟩:=sortedHeap_at (n:=0) (out:=out) f;have hn:=YW M;have k:l.length=p.length:=E.length_eq;have D:fJ X o σ H (Ď g C):=I.kept y;refine⟨Â g.objs.size,_,D.laid (t':=C) (λb u L=>?_) ï (show kY ë X.w _ _ _ (.lst (l.map V.int)) from⟨?_,out.toList,e,hn,?_⟩),À,q _ _ (D.hok.fresh ï) E O⟩
 .have K:=iD L;rw[sortedHeap_old (kP K) (by rw[size_push'];exact DV K)];exact i5 _ L
 .rw[fP,k];exact mC (mv i) Ï
 .rw[Array.toArray_toList];exact U
structure Dy(K:a_)(x qual:Str)(st:Stmt)(dV:c_)(f:d_)(fd:m6):Prop where
 ex:∃(oc:c_) (od:Option d_) (iP doc pm:c_) (an:Option d_) (cdv ct:c_) (osl:Array (Option c_)),
  fd=pK x qual (rZ st) (nJ st) (kf st) dV iP doc pm an cdv ct/\K.lookup f=Á ⟨oc,od,.func fd,osl⟩/\u0 K cdv qual=true
 kp:rh K (Â f)=true
def Dy.ok{P:f5}{w:fW}{K:a_}{j:Str->Option c_}{c:Heap}{x a:Str}{st:Stmt}{l:c_}{f:d_}{fd:m6}{N ps:List Str}{k:Nat}{sp:gO}(F:Dy K x a st l f fd)(S:vZ N ps (kf st))(i:∀vs H Q E,sp vs H Q E->vs.length=ps.length)
  (d:∀(b:c_) (A:ig) (outer:List Env) (s:fU) (H:b_) (vs:List V) (Q:fS) (E:f_),ku k (A.deeper (oB a (kf st) ó f b))->sp vs H Q E->
   ∃t,nq (pT oK P w K j c N a (kf st) f b A outer s H E).nox (nJ st) t/\t (ì í Q) (gW N vs) H):oI P w K j c oK (k+1) f fd ps sp:=by
 obtain⟨r,u,iP,doc,v,p,b,ct,o,rfl,n,e⟩:=F.ex;refine G5 n e S i λA outer s H vs Q E m g=>?_;obtain⟨t,h,q⟩:=d b A outer s H vs Q E m g;exact Î t h.nox q
def khi{K:a_}{x a:Str}{st:Stmt}{h:c_}{f:d_}{j:c_}{od g:Option d_}{e:Array (Option c_)}{iP d i b ct:c_}(l:K.lookup f=Á ⟨j,od,.func (pK x a (rZ st) (nJ st) (kf st) h iP d i g b ct),e⟩)
  (c:u0 K b a=true) (k:rh K (Â f)=true):Dy K x a st h f (pK x a (rZ st) (nJ st) (kf st) h iP d i g b ct):=Æ ⟨j,od,iP,d,i,g,b,ct,e,À,l,c⟩ k
structure Dh(X:fQ)(pos:Pos)(keys:É (Option Expr))(values:É Expr)(trs:É (gp×gp)):Prop where
 up:A' X pos keys values trs
def khu:Dh X pos [] [] []:=⟨khW⟩
def kfR(d:gE X k b)(f:gE X v c)(e:Dh X pos ks vs a):Dh X pos (Á k::ks) (v::vs) ((b,c)::a):=⟨kfJ d.up f.up e.up⟩
def khr{X:fQ}{pos:Pos}{a:List (Option Expr)}{b:List Expr}{d:List (gp×gp)}(h:Dh X pos a b d)(c:a.all (·.isSome)=true)(g:a.length=b.length)(f:a≠[])(e:a.length<=15):gE X (.Dict a b pos) (G' d):=⟨kgz h.up c g f e⟩
def FX:gE X (.Dict [] [] pos) A1:=⟨kfB⟩
end L2
namespace BgSet
open PySem
def uM(ps:Array Nat):Prop:=ps.toList.Pairwise (·<·)
def uM.at{ps:Array Nat}(h:uM ps){i j a b:Nat}(c:i<j)(d:ps[i]?=Á a)(e:ps[j]?=Á b):a<b:=by
 rw[<-uR] at d e;obtain⟨f,rfl⟩:=gR.mp d;obtain⟨g,rfl⟩:=gR.mp e;exact DJ.mp h i j f g c
def kd3{ps:Array Nat}{j:Nat}(p:uM ps):∀d c b,b-c<=d->b<=ps.size->c<=b->
  (∀i a,i<c->ps[i]?=Á a->a<j)->(∀i a,b<=i->ps[i]?=Á a->j<=a)->
  iz.below.go ps j d c b<=ps.size/\(∀i a,i<iz.below.go ps j d c b->ps[i]?=Á a->a<j)
   /\(∀i a,iz.below.go ps j d c b<=i->ps[i]?=Á a->j<=a):=by
 intro d
 induction d with
 |zero=>
  intro c b r n s k l;have:c=b:=Ã
  subst this;exact Î n k l
 |succ d q=>
  intro c b r n s k l;unfold iz.below.go;by_cases g:c<b
  .rw[if_pos g];have t:(c+b) / 2<ps.size:=Ã
   have m:ps[(c+b) / 2]?=Á (ps.getD ((c+b) / 2) j):=by
    simp[Array.getD,t]
   dsimp only;by_cases f:ps.getD ((c+b) / 2) j<j
   .rw[if_pos f];refine q _ _ Ã n Ã (λi a o e=>?_) l;rcases EX i ((c+b) / 2) with h|h
    .exact Eu (p.at h e m) f
    .have:i=(c+b) / 2:=Ã
     subst this;rw[m] at e;cases e;exact f
   .rw[ù f];refine q _ _ Ã Ã Ã k (λi a o e=>?_);rcases EX ((c+b) / 2) i with h|h
    .exact mv (Bx (FH.mp f) (p.at h m e))
    .have:i=(c+b) / 2:=Ã
     subst this;rw[m] at e;cases e;exact FH.mp f
  .rw[ù g];have:c=b:=Ã
   subst this;exact Î n k l
def Oo(c:uM ps)(j:Nat):iz.below ps j<=ps.size/\(∀i a,i<iz.below ps j->ps[i]?=Á a->a<j)
  /\(∀i a,iz.below ps j<=i->ps[i]?=Á a->j<=a):=by
 refine kd3 c ps.size 0 ps.size ï ï (lu _) (λi a h=>Ì h (mH _)) (λi a h b=>?_);rw[Array.getElem?_eq_none h] at b;cases b
def kbx(l:uM ps)(o:∀i:Nat,ps[i]?≠Á j):uM (iz.insertAt ps (iz.below ps j) j):=by
 obtain⟨p,m,n⟩:=Oo l j;unfold uM;rw[iz.toList_insertAt];have e:∀a∈ps.toList.take (iz.below ps j),a<j:=λa f=>by
  obtain⟨i,d⟩:=List.getElem?_of_mem f;rw[List.getElem?_take] at d;split at d
  .rename_i k;exact m i a k (by rw[<-uR];exact d)
  .cases d
 have c:∀a∈ps.toList.drop (iz.below ps j),j<a:=λa f=>by
  obtain⟨i,d⟩:=List.getElem?_of_mem f;rw[List.getElem?_drop,uR] at d;have:=n _ a (Ii _ _) d;rcases Nat.lt_or_eq_of_le this with h|h
  .exact h
  .subst h;exact Ì d (o _)
 refine HM.mpr ⟨l.sublist (DU _ _),List.pairwise_cons.mpr ⟨c,l.sublist (List.drop_sublist _ _)⟩,λa f b g=>?_⟩;rcases g7.mp g with rfl|g
 .exact e a f
 .exact Eu (e a f) (c b g)
structure lZ(led:Bool)(t:iz):Prop where
 led:t.led=led
 dum:t.dummies=#[]
 ris:t.plain=true->uM t.place
def lZ.fresh(a b:Nat)(led:Bool):lZ led (iz.fresh a b led):=Ą À (λ_=>List.Pairwise.nil)
def lZ.standIn{led:Bool}{t:iz}(h:lZ led t)(n:Nat):lZ led (t.standIn n):=
 Ą h.led (λa=>by simp[iz.standIn] at a)
def lZ.orStandIn{led:Bool}{t:iz}(h:lZ led t)(n:Nat):lZ led (t.orStandIn n):=by
 unfold iz.orStandIn;split
 .exact h
 .exact h.standIn n
def OS(j:Nat):iz.has #[] j=false:=by
 unfold iz.has;simp
def kbz{t:iz}(a:t.dummies=#[]){j:Nat}:t.slot j≠.dummy:=by
 unfold iz.slot;rw[a,OS];dsimp only;split<;>simp
def kbD{t:iz}(k:t.dummies=#[]){f:Nat->Int}{h:Int}:∀c (p:iz.Probe) (j:Nat) (d:Option Nat),p.dummy=none->
  iz.probe.go t f h c p=Á (.empty j d)->d=none/\t.slot j=.empty:=by
 intro c
 induction c with
 |zero=>intro p j d g a;unfold iz.probe.go at a;cases a
 |succ c l=>
  intro p j d g a;unfold iz.probe.go at a;have b:(t.advance p).dummy=none:=by
   unfold iz.advance;split<;>exact g
  cases e:t.slot p.j with
  |empty=>rw[e] at a;simp only[Option.some.injEq,iz.Met.empty.injEq] at a;obtain⟨rfl,rfl⟩:=a;exact Æ g e
  |dummy=>exact Ì e (kbz k)
  |live i=>
   rw[e] at a;simp only at a;split at a
   .cases a
   .exact l _ j d b a
def kcM{t:iz}(b:t.dummies=#[]){h:Int}{sl:Nat}{f:Bool}(a:t.freeSlot h=Á (sl,f)):t.slot sl=.empty:=by
 unfold iz.freeSlot iz.probe at a;split at a
 .rename_i j d c;obtain⟨rfl,e⟩:=kbD b _ _ j d À c;simp only[IG,Option.some.injEq,Prod.mk.injEq] at a;rw[<-a.1];exact e
 .cases a
def kfj{t:iz}(e:uM t.place){j:Nat}(a:t.slot j=.empty):∀i:Nat,t.place[i]?≠Á j:=by
 intro i b;obtain⟨n,f,g⟩:=Oo e j;have k:iz.below t.place j=i:=by
  rcases Iy (iz.below t.place j) i with h|h|h
  .have c:iz.below t.place j<t.place.size:=by
    have:=(tm.mp b).1;lia
   have d:=Array.getElem?_eq_getElem c;have l:=g _ _ ï d;have m:=e.at h d b;lia
  .exact h
  .exact Ì (f i j h b) (px _)
 unfold iz.slot at a;rw[k] at a;dsimp only at a;rw[b] at a;simp at a
def lZ.put{led:Bool}{t:iz}(h:lZ led t){sl:Nat}(b:t.slot sl=.empty):lZ led (t.put sl).1:=by
 refine Î h.led ?_ (λa=>?_)
 .show(if iz.has t.dummies sl=true then _ else t.dummies)=#[];rw[h.dum,OS];rfl
 .exact kbx (h.ris a) (kfj (h.ris a) b)
def lZ.layNew{led:Bool}{t:iz}(h:lZ led t)(es:Array (Int×c_))(b:Int)(x:c_):lZ led (layNew t es b x).2.1:=by
 unfold PySem.layNew;split
 .rename_i c d a;exact(h.put (kcM h.dum a)).orStandIn _
 .exact h.standIn _
def lZ.off{led:Bool}{t:iz}(h:lZ led t):lZ led {t with plain:=Ü}:=Î h.led h.dum (λa=>by simp at a)
theorem FT(g:Nat->Option Nat):∀l:List Nat,((l.filterMap λj=>(g j).map (j,·)).map (·.1)).Sublist l
 |[]=>List.Sublist.refl _
 |j::l=>by
  rw[uf];cases a:g j with
  |none=>simpa using(FT g l).cons j
  |some b=>simpa using(FT g l).cons_cons j
def lZ.relaid{led:Bool}{t t':iz}{c:Array Int}{n:Nat}{o:Array Nat}(h:lZ led t)(a:t.relaid c n=Á (t',o)):lZ led t':=by
 unfold iz.relaid iz.laid at a;cases b:iz.layClean (iz.sizeAbove n-1) c with
 |none=>rw[b] at a;simp at a
 |some d=>
  rw[b] at a;simp only[Option.bind_eq_bind,BB,Option.pure_def,Option.some.injEq,Prod.mk.injEq] at a;rw[<-a.1];refine Ą h.led (λ_=>?_);unfold uM;rw[List.toList_toArray];exact(List.pairwise_lt_range).sublist (FT (λj=>d.getD j Ç) _)
def lZ.relay{led:Bool}{t:iz}(h:lZ led t)(es:Array (Int×c_))(n:Nat):lZ led (vb t es n).2.1:=by
 unfold vb;split
 .rename_i b o a;dsimp only;split
  .exact h.relaid a
  .exact h.standIn _
 .exact h.standIn _
def kac(h:t.plain=false)(es:Array (Int×c_))(n:Nat):(vb t es n).2.1.plain=false:=by
 unfold vb;split
 .rename_i d o a;dsimp only;split
  .unfold iz.relaid iz.laid at a;cases b:iz.layClean (iz.sizeAbove n-1) (es.map (·.1)) with
   |none=>rw[b] at a;simp at a
   |some c=>
    rw[b] at a;simp only[Option.bind_eq_bind,BB,Option.pure_def,Option.some.injEq,Prod.mk.injEq] at a;rw[<-a.1];exact h
  .rfl
 .rfl
def xx{prog:f5}{w:fW}{K:Type}[DecidableEq K](kd:KeyKind prog w K)(l:É (Int×c_)):Prop:=
 l.Pairwise λe a=>∀k,kd.is k e.2=true->kd.is k a.2=false
def xx.perm{prog:f5}{w:fW}{K:Type}[DecidableEq K]{kd:KeyKind prog w K}{l b:List (Int×c_)}(h:xx kd l)(p:b.Perm l):xx kd b:=by
 refine(p.pairwise_iff (λ{x y} a k c=>?_)).mpr h;cases d:kd.is k x.2 with
 |false=>rfl
 |true=>have:=a k d;rw[c] at this;cases this
def SetTb{prog:f5}{w:fW}{K:Type}[DecidableEq K](kd:KeyKind prog w K)(h:Heap)(a:d_)(S:K->Bool)(n:Nat)(led np:Bool):Prop:=
 ∃o b c t,h.get? a=Á o/\o.ExactSet/\o.data=.set b c t/\ElemsOf kd b.toList/\(∀k,S k=true↔∃e∈b.toList,kd.is k e.2=true)
  /\b.size<scanBound/\t.fits b.size=true/\b.size=n/\lZ led t/\(np=true->n≠0->t.plain=false)/\xx kd b.toList
def SetTb.congr{prog:f5}{w:fW}{K:Type}[DecidableEq K]{kd:KeyKind prog w K}{h:Heap}{a:d_}{S b:K->Bool}{n c:Nat}{led np:Bool}(f:SetTb kd h a S n led np)(e:∀k,S k=b k)(d:n=c):SetTb kd h a b c led np:=by
 cases(funext e:S=b);cases d;exact f
def SetTb.keep{prog:f5}{w:fW}{K:Type}[DecidableEq K]{kd:KeyKind prog w K}{h h':Heap}{a:d_}{S:K->Bool}{n:Nat}{led np:Bool}(d:SetTb kd h a S n led np)(e:∀o,h.get? a=Á o->h'.get? a=Á o):SetTb kd h' a S n led np:=by
 obtain⟨o,c,b,t,f,r⟩:=d;exact⟨o,c,b,t,e o f,r⟩
def SetTb.fresh{prog:f5}{w:fW}{K:Type}[DecidableEq K]{kd:KeyKind prog w K}{h:Heap}{a:d_}{led np:Bool}{x y:Nat}(c:h.get? a=Á {cls:=.type "set",dict:=Ç,data:=.set #[] 0 (.fresh x y led)}) :
  SetTb kd h a (λ_=>Ü) 0 led np:=
 ⟨_,#[],0,_,c,Ą À À,À,λe b=>by simp at b,λk=>Ò,Ï,À,À,lZ.fresh x y led,λ_ d=>Ì À d,List.Pairwise.nil⟩
structure xM{prog:f5}{w:fW}{K:Type}[DecidableEq K](kd:KeyKind prog w K)(S:K->Bool)(n:Nat)(led np:Bool)(es:Array (Int×c_))(t:iz):Prop where
 el:ElemsOf kd es.toList
 mem:∀k,S k=true↔∃e∈es.toList,kd.is k e.2=true
 few:es.size<scanBound
 fit:t.fits es.size=true
 many:es.size=n
 tab:lZ led t
 off:np=true->t.plain=false
 apart:xx kd es.toList
def xM.relay{prog:f5}{w:fW}{K:Type}[DecidableEq K]{kd:KeyKind prog w K}{S:K->Bool}{n:Nat}{led np:Bool}{es:Array (Int×c_)}{t:iz}(h:xM kd S n led np es t)(a:Nat) :
  xM kd S n led np (vb t es a).1 (vb t es a).2.1:=by
 have b:=relayAll_perm t es a;have d:(vb t es a).1.size=es.size:=by rw[<-lO,b.length_eq,lO]
 exact⟨h.el.perm b,λk=>(h.mem k).trans ⟨λ⟨e,c,q⟩=>Î e (b.mem_iff.mpr c) q,λ⟨e,c,q⟩=>Î e (b.mem_iff.mp c) q⟩,
  by rw[d];exact h.few,relayAll_fits t es a,by rw[d];exact h.many,h.tab.relay es a,λe=>kac (h.off e) es a,h.apart.perm b⟩
def xM.stored{prog:f5}{w:fW}{K:Type}[DecidableEq K]{kd:KeyKind prog w K}{S:K->Bool}{n:Nat}{led np:Bool}{b:Array (Int×c_)}{t':iz}(L:xM kd S n led np b t')
  {h:Heap} {a:d_} {o:Obj} {es:Array (Int×c_)} {ep:Nat} {t:iz} (g:h.get? a=Á o) (c:o.ExactSet) (f:o.data=.set es ep t) :
  (h.update a (Obj.putSet b t')).get? a=Á {o with data:=.set b (ep+1) t'}/\SetTb kd (h.update a (Obj.putSet b t')) a S n led np:=by
 have d:=(SetOf_store (knd:=kd) g c f L.el L.mem L.few L.fit).1;exact⟨d,_,b,ep+1,t',d,c,À,L.el,L.mem,L.few,L.fit,L.many,L.tab,λe _=>L.off e,L.apart⟩
def Om{prog:f5}{w:fW}{K:Type}[DecidableEq K]{kd:KeyKind prog w K}{A:ig}{E:gC}{s:fU}{g:Bool->Sem Unit}(q:∀(b:Bool) (d:fU) (f:Unit->fU->Prop),f () d->ö prog w A (g b) f E d)
  {a:d_} {o:Obj} {es:Array (Int×c_)} {ep:Nat} {t:iz} (k:Ć a=Á o) (e:o.ExactSet) (j:o.data=.set es ep t)
  {c:Array (Int×c_)} {t2:iz} {S:K->Bool} {n:Nat} {led np:Bool} (L:xM kd S n led np c t2) {r:Bool} {R:Option Bool->fU->Prop}
  (i:∀h',Heap.SameBut a s.heap h'->SetTb kd h' a S n led np->R (Á true) (č h')) :
  gN (model prog w) A (do
    storeSet a c t2
    if(!r&&t2.tooFull)=true then do
      g (vb t2 c (iz.grown c.size)).2.2
      storeSet a (vb t2 c (iz.grown c.size)).1 (vb t2 c (iz.grown c.size)).2.1
      pure (some true)
     else pure (some true)) R E s:=by
 refine fN (wpAny_storeSet_of k j ?_ (fits_of_scanBound L.few));obtain⟨h,m⟩:=L.stored k e j;have l:=Heap.SameBut.update s.heap a (Obj.putSet c t2);split
 .have L2:=L.relay (iz.grown c.size);refine fN (q _ _ _ ?_);refine fN (wpAny_storeSet_of h À ?_ (fits_of_scanBound L2.few));obtain⟨-,p⟩:=L2.stored h e À;exact gH (i _ (l.trans (Heap.SameBut.update _ a _)) p)
 .exact gH (i _ l m)
def khG{prog:f5}{w:fW}{K:Type}[DecidableEq K]{kd:KeyKind prog w K}{A:ig}{E:gC}{s:fU}{a:d_}{S:K->Bool}{n:Nat}{led np:Bool}{k:K}{x:c_}{Q:Bool->fU->Prop}(h:kd.is k x=true)(I:x.scannable=true)
  (aa:np=true->Cm x=false) (hS:SetTb kd s.heap a S n led np) (p:n+1<scanBound)
  (hQ:∀h',Heap.SameBut a s.heap h'->SetTb kd h' a (λl=>S l || æ (l=k)) (if S k then n else n+1) led np->Q (! S k) (č h')) :
  ö prog w A (setAddHashed a x (kd.hash k)) Q E s:=by
 obtain⟨o,G,ep,t,U,hex,O,v,i,hb,hf,hn,D,W,J⟩:=hS;have ag:G.size+1<scanBound:=by rw[hn];exact p
 unfold setAddHashed setAddHashedIn;refine oh (fN (wpAny_setState_of U O hf ?_));dsimp only;rw[byScan_of I hb v];simp only[↓reduceIte];unfold setAddByScan;refine fN ?_;refine fN (Av ?_);refine fN (wpAny_setScan_of h U O hf v ?_);cases hr:List.findIdx? (λe=>kd.is k e.2) G.toList with
 |some j=>
  dsimp only;obtain⟨hj,ab,-⟩:=List.findIdx?_eq_some_iff_getElem.mp hr;have H:S k=true:=(i k).mpr ⟨_,nE hj,ab⟩;refine gH (gH ?_);have Z:s=č s.heap:=by cases s;rfl
  have y:=hQ s.heap (Heap.SameBut.refl a s.heap) (SetTb.congr (S:=S) (n:=n) ⟨o,G,ep,t,U,hex,O,v,i,hb,hf,hn,D,W,J⟩
   (λl=>by by_cases e:l=k<;>simp[e,H]) (by rw[H];rfl))
  rw[H] at y;rw[Z];exact y
 |none=>
  dsimp only;have z:=List.findIdx?_eq_none_iff.mp hr;have H:S k=false:=by
   cases H:S k with
   |false=>rfl
   |true=>obtain⟨e,he,hp⟩:=(i k).mp H;rw[z e he] at hp;cases hp
  have d:=layNew_perm t G (kd.hash k) x;have f:=layNew_fits t G (kd.hash k) x;have r:=D.layNew G (kd.hash k) x;generalize layNew t G (kd.hash k) x=L at d f r ⊢;obtain⟨u,t1,wd,gv⟩:=L;dsimp only at d f r ⊢;rw[Array.toList_push] at d;have hz:u.size=n+1:=by rw[<-lO,d.length_eq,ie,lO,hn];rfl
  have M:xx kd u.toList:=by
   refine xx.perm (HM.mpr ⟨J,List.pairwise_singleton _ _,λe he e' P l R=>?_⟩) d;rw[g_] at P;subst P;cases C:kd.is l x with
   |false=>rfl
   |true=>cases kd.inj x l k C h;rw[z e he] at R;cases R
  have hL:∀Y:iz,Y.fits u.size=true->lZ led Y->(np=true->Y.plain=false)->xM kd (λl=>S l || æ (l=k)) (n+1) led np u Y:=
   λY f2 af o2=>⟨(v.push h I).perm d,mem_push_iff h i d,by rw[hz];exact p,f2,hz,af,o2,M⟩
  have B:∀h',Heap.SameBut a s.heap h'->SetTb kd h' a (λl=>S l || æ (l=k)) (n+1) led np->Q true (č h'):=by
   intro h' X T;have q:=hQ h' X;rw[H] at q;exact q T
  have gw:∀(c:Bool) {g:fU} {m:Unit->fU->Prop},m () g->
    ö prog w A (match c with|true=>rule "set.scan.the-table-gave-way"|false=>pure ()) m E g:=λc g m C=>by
   cases c<;>first|exact gH C|exact Av C
  refine fN (gw _ ?_);split
  .refine fN ?_;rw[hashByValue_scannable 8 I];refine gH ?_;refine Om (n:=n+1) (led:=led) (np:=np) ?_ U hex O (hL _ ?_ ?_ ?_) ?_
   .exact λb g Q' C=>gw b C
   .split
    .exact f
    .exact iz.fits_plain_off f
   .split
    .exact r
    .exact r.off
   .intro e;rw[aa e];rfl
   .intro h' X T;dsimp only;exact gH (B h' X T)
  .rename_i ae;refine fN (gH ?_);simp only[↓reduceIte];refine Om (n:=n+1) (led:=led) (np:=np) ?_ U hex O (hL _ f r (λ_=>by simpa using ae)) ?_
   .exact λb g Q' C=>gw b C
   .intro h' X T;dsimp only;exact gH (B h' X T)
def byText(w:fW):Bool:=w.params.followText "set-order"
end BgSet
namespace BgSet
open PySem PyProof.Rows
def met{K:Type}[DecidableEq K](a:Nat->K)(i:Nat)(k:K):Bool:=æ (k∈(lH i).map a)
def keZ{K:Type}[DecidableEq K](a:Nat->K)(i:Nat)(k:K):(met a i k || æ (k=a i))=met a (i+1) k:=by
 unfold met;rw[Bool.eq_iff_iff,Bool.or_eq_true,decide_eq_true_eq,decide_eq_true_eq,decide_eq_true_eq,vO,g8,iT];simp
def kfh{prog:f5}{w:fW}{A:ig}{R:Result->fU->Prop}{I:d_}{C p:List d_}{G:Array D'->Array D'->Prop}{n:Nat}{P:Nat->c_->Prop}{fO:Nat->fU->Prop}{K:Type}[DecidableEq K]{kd:KeyKind prog w K}(W:WalksS prog w A.in1 I C p G n P fO)(S:d_)(f:S∉C)(a:Nat->K)(led np:Bool)
  (j:∀i v,P i v->kd.is (a i) v=true/\v.scannable=true/\(np=true->Cm v=false)) (d:n+1<scanBound) :
  ∀(k i m:Nat) (s:fU),n-i=k->i<=n->m<=i->fO i s->SetTb kd s.heap S (met a i) m led np->
   (∀s' q,Moved (S::p) G s s'->q<=n->SetTb kd s'.heap S (met a n) q led np->R (.ok (.ret .none)) s')->
   pB (model prog w) A (.builtin "set.update.loop" (Æ [Â S,Â I] [])) R s:=by
 have g:S∉p:=λh=>f (W.sub _ h);have c:∀b∈p,b∈S::p:=λb d=>my _ d;intro k
 induction k with
 |zero=>
  intro i m s Z Y E z T r;cases(by lia:i=n);refine vN PyProof.Rows.F.entry_set_update_loop ?_;rw[ig.under_plainId PyProof.Rows.F.plain_set_update_loop _];show gN _ A.in1 (uz (Â I) >>= _) _ _ s;refine fN (W.done s _ _ z λs' l=>?_);show gN _ A.in1 (ret c_.none) _ _ s';exact gH (r s' m (l.mono c) E (T.keep λo e=>l.heap S _ g e))
 |succ k ih=>
  intro i m s Z Y E z T r;have H:i<n:=Ã
  refine vN PyProof.Rows.F.entry_set_update_loop ?_;rw[ig.under_plainId PyProof.Rows.F.plain_set_update_loop _];show gN _ A.in1 (uz (Â I) >>= _) _ _ s;refine fN (W.item i s _ _ H z λv s' X B l=>?_);obtain⟨D,Q,U⟩:=j i v X;have L:=T.keep (h':=s'.heap) λo e=>l.heap S _ g e;show gN _ A.in1 (holding [v] (setAdd S v) >>= _) _ _ s';refine fN (oh ?_);unfold setAdd;refine oh ?_;refine fN (kd.pyHash (k:=a i) D ?_);refine khG (s:={s' with toks:=s'.toks+1}) D Q U L Ã λh' J M=>?_;have u:(if met a i (a i)=true then m else m+1)<=i+1:=by split<;>lia
  refine gH ⟨vR PyProof.Rows.F.plain_set_update_loop _,ih (i+1) _ _ Ã H u (W.frame _ s' _ _ B (Ao _) λb d o e=>?_)
   (M.congr (λk'=>keZ a i k') À) λy q x t O=>?_⟩
  .rw[J.2 b (λh:b=S=>f (by rw[<-h];exact d))];exact e
  .refine r y q (Moved.trans W.gtrans ((l.mono c).then_heap (Ao _) λb o d e=>?_) x) t O;rw[J.2 b (λh:b=S=>d (by rw[h];exact pH))];exact e
def u7(w:fW):Obj:={cls:=.type "set",dict:=Ç,data:=.set #[] 0 (.fresh 0 0 (! byText w))}
def khH{E:gC}(v:c_){Q:gC}(h:Q (Â ó) (č (s.heap.push (u7 w)))) :
  pB (model prog w) A (.call (.builtin "set.__new__") (Æ [.type "set",v] [])) (wants Q E) s:=by
 refine codeAny_of_tree ?_;show gN _ A.in1 (Ac "set.__new__" (Æ [.type "set",v] []) >>= λ_=>again (.builtin "set.__new__" (Æ [.type "set",v] []))) _ _ s;refine fN (BX (PySem.F.newCall_set_1 v) (gH ⟨vR PySem.F.plain_set_new _,vN PySem.F.entry_set_new ?_⟩));rw[ig.under_plainId PySem.F.plain_set_new _];unfold Builtin.«set.__new__» Builtin.Frozenset.newClass;have a:=sub_set_self;obtain⟨b,g,d,e,c⟩:=s;dsimp only
 wp_walk
 refine wpAny_askSetting (gH ?_);dsimp only;simp only[newObj];refine fN (wpAny_alloc (gH ?_));exact gH h
def set_of_tuple{prog:f5}{w:fW}{A:ig}{E:gC}{s:fU}{K:Type}[DecidableEq K][Inhabited K]{kd:KeyKind prog w K}{l:d_}{a:Array c_}(ks:É K)(np:Bool){Q:gC}(hh:A.handled=none)(hl:s.heap.IsTuple l a)(u:ks.length=a.size)
  (hv:∀(i:Nat) k v,ks[i]?=Á k->a[i]?=Á v->kd.is k v=true/\v.scannable=true/\(np=true->Cm v=false)) (t:a.size+1<scanBound)
  (hQ:∀(h':Heap) (B m:Nat),m<=a.size->SetTb kd h' ó (λk=>æ (k∈ks)) m (! byText w) np->
   (∀b o,b<s.heap.objs.size->Ć b=Á o->h'.get? b=Á o)->Q (Â ó) (Ď h' B)) :
  ö prog w A (call (.type "set") [Â l]) Q E s:=by
 obtain⟨c,tl,mro⟩:=PySem.F.called_set.mro;have Y:=PySem.F.called_set.made;have ab:=PySem.F.called_set.sub;refine yn (codeAny_of_tree ?_);show gN _ _ (callAny (.type "set") _) _ _ _;refine gH ⟨Code.quiet_builtin _ â,vN PySem.F.entry_type_call ?_⟩;rw[ig.under_plain (weight_type_call_type "set" [Â l] []) À];have f1:=PySem.F.called_set.notType;have f2:=PySem.F.called_set.canCreate;have f3:=PySem.F.typeCall_set_1 (Â l)
 repeat (any_goals (first|assumption|wp_step))
 refine Am (khH (Â l) (E:=E) (Q:=λv s1=>v=Â ó/\s1=č (s.heap.push (u7 w))) (Æ À À)) λr s1 L=>?_;cases r with
 |error e=>exact L
 |ok fl=>
  cases fl with
  |ret v=>
   obtain⟨rfl,rfl⟩:=L;have S:(s.heap.push (u7 w)).get? ó=Á (u7 w):=mr _ À;have tS:fU.TypeIs (č (s.heap.push (u7 w))) (Â ó) "set":=Î _ S À;have li:=PySem.F.called_set.init.lookup;have bi:=PySem.F.called_set.init.bind (Â ó)
   repeat (any_goals (first|assumption|wp_step))
   refine Am (Br (R:=wants (λr s2=>r=.none/\∃h' B m,s2=Ď h' B/\m<=a.size/\
     SetTb kd h' ó (λk=>æ (k∈ks)) m (! byText w) np/\(∀b o,b<s.heap.objs.size->Ć b=Á o->h'.get? b=Á o)) E)
     PySem.F.called_set.init.plain PySem.F.entry_set_init (check_set_init_1 tS ?_)) λr2 s2 f=>?_
   .obtain⟨ol,U,j,Z,n⟩:=hl;obtain⟨aa,g,M,d⟩:=ol;simp only at j n;subst j;subst n;have D:(s.heap.push (u7 w)).get? l=Á {cls:=.type "tuple",dict:=g,data:=.seq a Z,slots:=d}:=i5 _ U;have u1:=PySem.F.sub_tuple_set;have u2:=PySem.F.sub_tuple_frozenset;have u3:(c_.type "tuple"==c_.type "dict")=false:=Ï
    have p:(s.heap.push (u7 w)).IsTuple l a:=⟨_,D,À,Z,À⟩;unfold Builtin.«set.__init__» noKeywords Builtin.Frozenset.updateFrom;generalize G:pyIter=sy
    wp_walk
    subst G;refine Bt p ?_;refine fN (wpAny_runValue ?_);have X:l<s.heap.objs.size:=iD U;have H:A.in1.in1.in1.handled=none:=by simp[hh]
    have ne:l≠(s.heap.push (u7 w)).objs.size:=by
     rw[wQ];exact kP (DV X)
    have nf:s.heap.objs.size∉[(s.heap.push (u7 w)).objs.size,l]:=by
     rw[wQ];simp only[g7,mz,or_false,not_or];exact⟨kP (IF _),yb X⟩
    have q:∀(i:Nat) (v:c_),a[i]?=Á v->kd.is (ks.getD i default) v=true/\v.scannable=true/\(np=true->Cm v=false):=λi v W=>by
     have I:i<ks.length:=by rw[u];exact(tm.mp W).1
     refine hv i _ v ?_ W;rw[List.getD_eq_getElem?_getD,gF I];rfl
    refine kfh (Walks.tuple H _ l ne a).toS ó nf (λi=>ks.getD i default) (! byText w) np q t (a.size-0) 0 0 _ Ã (lu _) ï
     ⟨⟨_,mr _ À,À,À⟩,p.push _⟩ (SetTb.congr (SetTb.fresh (x:=0) (y:=0) (i5 _ S)) (λk=>À) À) λs' m z J T=>?_
    obtain⟨h',g',d',P,O⟩:=s';have eg:g'=s.gens:=z.gens;have ed:d'=s.drawn:=z.drawn;have eo:O=s.os:=z.os;subst eg;subst ed;subst eo;show gN _ _ _ _ _ _;refine gH ?_;show gN _ _ (ret c_.none) _ _ _;refine gH ⟨À,h',P,m,À,J,T.congr (λk=>?_) À,λb o t e=>?_⟩
    .unfold met;rw[Bool.eq_iff_iff,decide_eq_true_eq,decide_eq_true_eq];have:(lH a.size).map (λi=>ks.getD i default)=ks:=by
      refine DT λi=>?_;rw[i3];rcases EX i a.size with h|h
      .rw[Bq h,gF (by rw[u];exact h)];simp[List.getD_eq_getElem?_getD,u,h]
      .rw[ue (by simpa using h),ue (by rw[u];exact h)];rfl
     rw[this]
    .have n1:b≠s.heap.objs.size:=kP t;have n2:b≠(s.heap.push (u7 w)).objs.size:=by
      rw[wQ];exact kP (DV t)
     refine z.heap b o ?_ (i5 _ (i5 _ e));simp only[g7,mz,or_false,not_or];exact Æ n1 n2
   .cases r2 with
    |error e=>exact f
    |ok C=>
     cases C with
     |ret r=>
      obtain⟨rfl,h',B,m,rfl,J,T,kp⟩:=f
      repeat (any_goals (first|assumption|wp_step))
      exact hQ _ _ m J T kp
     |_=>exact f.elim
  |_=>exact L.elim
end BgSet
namespace PySem.W
open PySem PySem.Calls PyProof.Rows PyProof.V PySem.Spec
def kbW:ym (.type "list_reverseiterator") "__len__"=pure Ç:=by rw[typeLookup_type,builtinLookup_eq_fast];kernel_rfl
def keX:ym (.type "list_reverseiterator") "__length_hint__"=pure (Á (.builtin "list_reverseiterator.__length_hint__")):=by rw[typeLookup_type,builtinLookup_eq_fast];kernel_rfl
def kff{E:gC}(d:s.TypeIs (Â r) "list_reverseiterator")(h:Q Ü s):ö prog w A (Builtin.List.listLengthHint (Â r)) Q E s:=by
 unfold Builtin.List.listLengthHint;refine fN (Ed d kbW ?_);refine Ad (λa=>Ì a Ï) (λ_=>?_);refine Ad (λa=>Ì a Ï) (λ_=>?_);refine fN (Ed d keX ?_);generalize c:("list_reverseiterator.__length_hint__":String)=e
 wp_delta
 rw[show splitId e=Á ("list_reverseiterator","__length_hint__") from by subst c;decide +kernel];subst c;refine fN (wpAny_isInstance (T:="list_reverseiterator") (b:=true) d (by rw[isSubtype_type];kernel_rfl) ?_);refine Ad (λa=>Ì a Ï) (λ_=>?_);refine Ad (λ_=>?_) (λa=>Ì â a);refine Ad (λa=>Ì a â) (λ_=>?_);exact gH h
def kbw{prog:f5}{w:fW}{A:ig}{s:fU}{r l:d_}{items:Array c_}{R:Result->fU->Prop}(X:A.handled=none)(Z:s.heap.IsList l items)(j:s.heap.IsRevIter r l ((items.size:Int)-1))(J:l≠r)(S:d_)(u:S≠r)(H:S≠l)(res:c_)(k:Nat)(E:Ć S=Á (ć "list" (.seq #[] k)))
  (U:∀h' C a q,(∀b o,b≠S->b≠r->Ć b=Á o->h'.get? b=Á o)->h'.get? S=Á {cls:=.type "list",dict:=Ç,data:=.seq a q,slots:=#[]}->ItemsOf (λi v=>items[items.size-1-i]?=Á v) a items.size->R (.ok (.ret res)) (Ď h' C)) (hn:items.size<=gM) :
  gN (model prog w) A.in1 (Builtin.List.listExtendWith (Â S) (Â r) res)
   (λD s'=>match D with|.done f=>R (.ok f) s'|.again q=>q.quiet=true/\pB (model prog w) A q R s') (λe s'=>R (.error e) s') s:=by
 have t:S∉[r,l]:=by simp only[g7,mz,or_false,not_or];exact Æ u H
 have W:=Walks.listRev (prog:=prog) (w:=w) (A:=A.in1) X r l J items;have z:∀(h:Heap) (c C:Nat),(0<=items.size/\h.IsRevIter r l ((items.size:Int)-1-((0:Nat):Int))/\h.IsList l items)->(∀b o,b≠S->Ć b=Á o->h.get? b=Á o)->
   h.get? S=Á (ć "list" (.seq #[] c))->pB (model prog w) A (.builtin "list.extend.loop" (Æ [Â S,Â r,res] [])) R (Ď h C):=by
  intro h c C K Y m;refine codeAny_extend_loopS W.toS hn S t res items.size 0 _ #[] c À (lu _) K m (ItemsOf.nil _) λs' a q L G x=>?_;rw[Moved.eq_with L];refine U s'.heap s'.toks a q (λb o p I e=>L.heap b o (λg=>?_) (Y b o p e)) G x;rcases g7.mp g with M|g
  .exact p M
  .exact I (g_.mp g)
 have B:0<=items.size/\s.heap.IsRevIter r l ((items.size:Int)-1-((0:Nat):Int))/\s.heap.IsList l items:=Î (lu _) (by have e:(items.size:Int)-1-((0:Nat):Int)=(items.size:Int)-1:=(by omega);rw[e];exact j) Z;unfold Builtin.List.listExtendWith;refine fN (An (T:="list_reverseiterator") j.typeIs ?_);have O:Builtin.List.listSameRef (Â S) (Â r)=false:=by simp[Builtin.List.listSameRef,u]
 have P:(c_.type "list_reverseiterator"==c_.type "list")=false:=Ï
 have Q:(c_.type "list_reverseiterator"==c_.type "tuple")=false:=Ï
 simp only[O,P,Q,Bool.or_false,Bool.false_eq_true,if_false];refine fN (wpAny_pyIter_revIter j ?_);refine fN (oh (kff j.typeIs ?_));refine Ad (λ_=>?_) (λ_=>gH ⟨vR PySem.F.plain_extend_loop _,z _ k _ B (λb o _ e=>e) E⟩);refine fN (Av ?_);refine fN ?_;show gN _ _ (updateSeq S (·.push .none) >>= λ_=>updateSeq S (·.pop)) _ _ _;refine fN (BE E À ?_);have d:=uS (Obj.mapSeq (·.push c_.none)) E À;refine BE (hz:=by seq_fits) d À ?_;have n:=uS (Obj.mapSeq (·.pop)) d À;refine gH ⟨vR PySem.F.plain_extend_loop _,z _ _ _ ?_ (λb o p e=>?_) n⟩
 .refine W.frame 0 _ _ B λb p o e=>?_;have y:b≠S:=λh=>t (h ▸ p);exact(rf _ _ (Ne.symm y)).trans ((rf _ _ (Ne.symm y)).trans e)
 .exact(rf _ _ (Ne.symm p)).trans ((rf _ _ (Ne.symm p)).trans e)
end PySem.W
namespace L2
open PySem PySem.Spec PyProof.Rows
end L2
namespace HT
open PySem PyProof.Rows
def getItem_tuple_all{E:gC}{Q:gC}(b:IsTup s.heap t items)(i:s.heap.IsSliceOf sl k l .none)(pl:vm k a)(p:vm l d)
  (j:sIx items.size 0 a=0/\sIx items.size items.size d=items.size) (h:Q (Â t) s):ö prog w A (vg (Â t) (Â sl)) Q E s:=by
 obtain⟨o,g,f,n⟩:=id i;have e:s.TypeIs (Â sl) "slice":=Î o g f;unfold vg
 try with_reducible refine oh ?_
 first|refine fN (gH ?_)|skip
 refine fN (wpAny_sequenceKey b.typeIs Ï ?_);refine fN (y1 (name:=Str.ofString "__getitem__") b.typeIs y_
  (x8 y_ b.typeIs entry_tuple_getitem ?_ (args_tuple_getitem _ _)))
 show gN _ _ (Builtin.Tuple.tupleItemsOf (Â t) >>= _) _ _ s;refine fN (tupleItemsOf_ b ?_);refine fN (An e ?_);rw[if_pos Ï];refine fN (Tn i pl p ?_);have c:(((sIx items.size 0 a:Nat):Int)==0&&(1:Int)==1&&(sIx items.size items.size d-sIx items.size 0 a)==items.size)=true:=by
  rw[j.1,j.2];simp
 show gN _ _ (if(((sIx items.size 0 a:Nat):Int)==0&&(1:Int)==1&&(sIx items.size items.size d-sIx items.size 0 a)==items.size)=true then _ else _) _ _ s;rw[if_pos c];refine fN (m:=Builtin.Tuple.tupleIsExact (Â t)) ?_;unfold Builtin.Tuple.tupleIsExact;refine fN (An b.typeIs (gH ?_));rw[if_pos Ï];exact fN (Av (gH (Ú (gH h))))
end HT
namespace L2
open PySem PySem.Spec PyProof.Rows
def US(K:a_):V->Option Int->Option Int->b_->fS->Prop:=λx d c H Q=>∃a b,x=Â a/\fR K H a b/\(HT.sIx b.length 0 d=0/\HT.sIx b.length b.length c=b.length)/\Q (Â a) H
def khn:sC X (US X.K):=by
 intro e s y H x v u w p n t Q I l f j k h;obtain⟨a,m,rfl,i,g,q⟩:=h;cases l;obtain⟨c,r,d,o⟩:=I.tuple i;have b:c.toArray.size=m.length:=by rw[iq];exact r.length.symm
 refine⟨"tuple",_,y_.lookup,d.typeIs,?_⟩;exact HT.getItem_tuple_all d f j k (by rw[b];exact g) (Õ (Â a) H I q)
def Vo(K:a_):V->Option Int->Option Int->b_->fS->Prop:=λx b a H Q=>US K x b a H Q\/lh K x b a H Q
def khm:sC X (Vo X.K):=khn.or lX
end L2
namespace PySem
open Sem (wp)
namespace F
end F
def kkW(a:Bool)(h:Heap)(i l:d_)(k:Nat):Prop:=match a with
 |true=>h.IsTupleIter i l k
 |false=>h.IsListIter i l k
def kjR(a:Bool)(h:Heap)(l:d_)(xs:Array c_):Prop:=match a with
 |true=>h.IsTuple l xs
 |false=>h.IsList l xs
end PySem
namespace L2
open PySem PySem.Spec PyProof.Rows
def iI(K:a_)(x:Str):d_:=match ly K i7 x with
 |some (some (.ref C))=>C
 |_=>0
def OK{K:a_}{x:Str}{C:d_}(h:ly K i7 x=Á (Á (Â C))):iI K x=C:=by unfold iI;rw[h]
def U7(s:Stmt)(i:Nat):Stmt:=match s with
 |.ClassDef _ _ _ b _ _ _ _ _ _ _=>b.getD i (.Pass ⟨0,0,0,0⟩)
 |_=>.Pass ⟨0,0,0,0⟩
def khq(g:X.A.units+1<cLine)(e:gE X d a)(c:gE X i b)(f:Ku i):gE X (.Subscript d i pos) (G_ a b):=⟨kgy g e.up c.up f⟩
def Cu{es:List Bool}{us vs:List c_}(a:us.length=es.length)(b:vs.length=es.length):((lH (min us.toArray.size vs.toArray.size)).all (λj=>(es[j]?).getD Ü)&&us.toArray.size==vs.toArray.size)=es.all id:=by
 rw[iq,iq,a,b,Nat.min_self,GD];simp
inductive mN(K:a_)(H:b_):Nat->V->V->Bool->Prop where
 |flat {d:Nat} {x y:V} (hx:oF x=true) (hy:oF y=true):mN K H d x y (ow x y)
 |same {d:Nat} {a:d_}:mN K H d (Â a) (Â a) true
 |lists {d:Nat} {a b:d_} {us vs:List V} {es:List Bool} (n:a≠b) (ha:hH K H a us) (hb:hH K H b vs) (l1:us.length=vs.length) (l2:es.length=us.length) (h:∀(j:Nat) x y e,us[j]?=Á x->vs[j]?=Á y->es[j]?=Á e->mN K H d x y e):mN K H (d+1) (Â a) (Â b) (es.all id)
 |listsL {d:Nat} {a b:d_} {us vs:List V} (n:a≠b) (ha:hH K H a us) (hb:hH K H b vs) (l1:us.length≠vs.length):mN K H (d+1) (Â a) (Â b) Ü
 |tups {d:Nat} {a b:d_} {us vs:List V} {es:List Bool} (n:a≠b) (ha:fR K H a us) (hb:fR K H b vs) (l1:us.length=vs.length) (l2:es.length=us.length) (h:∀(j:Nat) x y e,us[j]?=Á x->vs[j]?=Á y->es[j]?=Á e->mN K H d x y e):mN K H (d+1) (Â a) (Â b) (es.all id)
def yt{A:ig}{s:fU}{xs ys:List V}{us vs:List c_}{es:List Bool}(l:gQ xs us)(f:gQ ys vs)(n:xs.length=ys.length)(m:es.length=xs.length)
  (h:∀(j:Nat) a b e u v,xs[j]?=Á a->ys[j]?=Á b->es[j]?=Á e->hW a u->hW b v->SeqAt.EqAt A s u v e) :
  ∀j (c:j<us.toArray.size) (d:j<vs.toArray.size),SeqAt.EqAt A s us.toArray[j] vs.toArray[j] ((es[j]?).getD Ü):=by
 intro j c d;have p:=f.length;rw[iq] at c d;have i:j<xs.length:=Ã
 have k:j<ys.length:=Ã
 obtain⟨u,g,q⟩:=l.get (gF i);obtain⟨v,o,r⟩:=f.get (gF k)
 grind
def F0{es:List Bool}{us:List c_}(a:us.length=es.length):(lH us.toArray.size).all (λj=>(es[j]?).getD Ü)=es.all id:=by
 rw[iq,a,GD]
def AU{X:fQ}{p:List (d_×Obj)}{T:fO}{H:b_}{s:fU}(I:fJ X p T H s){d:Nat}{x y:V}{b:Bool}(h:mN X.K H d x y b):∀{A:ig} {u v:c_},A.units+d<cLine->hW x u->hW y v->SeqAt.EqAt A s u v b:=by
 induction h with
 |flat R S=>exact λ_ c f=>C6 c f R S
 |same=>
  intro A u v _ c f;cases c;cases f;exact SeqAt.EqAt.same _
 |@lists d a b O P Q n m o t C h D=>
  intro A u v J c f;cases c;cases f;obtain⟨k,g,q,_⟩:=I.list m;obtain⟨l,i,r,_⟩:=I.list o;have L:=g.length;have M:=i.length;have:=SeqAt.EqAt.of_refs n (SeqAt.RcAt.lists (A:=A) q.isList r.isList (by rw[iq,iq];lia) Ã (yt (A:=A.in1) g i t C λj a b e u v w z B E G=>D j a b e w z B (by show A.units+1+d<cLine;lia) E G));rw[F0 Ã] at this;exact this
 |@listsL d a b O P n m o t=>
  intro A u v J c f;cases c;cases f;obtain⟨k,g,q,_⟩:=I.list m;obtain⟨l,i,r,_⟩:=I.list o;have L:=g.length;have M:=i.length;exact SeqAt.EqAt.of_refs n (SeqAt.RcAt.lists_lengths (A:=A) q.isList r.isList (by rw[iq,iq];simp;lia) Ã)
 |@tups d a b O P Q n m o t C h D=>
  intro A u v J c f;cases c;cases f;obtain⟨k,g,q,_⟩:=I.tuple m;obtain⟨l,i,r,_⟩:=I.tuple o;have L:=g.length;have M:=i.length;have:=SeqAt.EqAt.of_refs n (SeqAt.RcAt.tuples (A:=A) (show s.heap.IsTuple a k.toArray from q) (show s.heap.IsTuple b l.toArray from r) Ã (yt (A:=A.in1) g i t C λj a b e u v w z B E G=>D j a b e w z B (by show A.units+1+d<cLine;lia) E G));rw[Cu Ã Ã] at this;exact this
def Bk(K:a_)(f:Bool):i6:=λx y H Q=>∃(p q:d_) (c d:List V),x=Â p/\y=Â q/\((hH K H p c/\hH K H q d)\/(fR K H p c/\fR K H q d/\c.length=d.length))/\
 ((c.length≠d.length/\Q (.bl f) H)\/∃g:List Bool,c.length=d.length/\g.length=c.length/\(∀(j:Nat) a b e,c[j]?=Á a->d[j]?=Á b->g[j]?=Á e->mN K H 4 a b e)/\Q (.bl (if f then ! g.all id else g.all id)) H)
def kiZ{X:fQ}(U:X.A.units+5<cLine):iB X (kj .Eq) (Bk X.K Ü):=by
 intro J s Z H x y v u Q I S T h;obtain⟨p,q,W,Y,rfl,rfl,O,G⟩:=h;cases S;cases T;have c:X.A.units<cLine:=Ã
 rcases O with⟨t,w⟩|⟨t,w,C⟩
 .obtain⟨L,g,k,_⟩:=I.list t;obtain⟨M,i,l,_⟩:=I.list w;have P:=g.length;have R:=i.length;rcases G with⟨d,f⟩|⟨r,d,B,z,f⟩
  .exact SeqAt.eq_list_lengthsAt k.isList l.isList (by rw[iq,iq];simp;lia) c (Õ (.bl Ü) H I f)
  .refine SeqAt.eq_listAt k.isList l.isList (by rw[iq,iq];lia) c (yt (A:=X.A.in1) g i d B λj a b e u v m n o D E=>AU I (z j a b e m n o) (by show X.A.units+1+4<cLine;lia) D E) ⟨.bl (r.all id),H,I,?_,f⟩;show c_.bool _=c_.bool _;rw[F0 Ã]
 .obtain⟨L,g,k,_⟩:=I.tuple t;obtain⟨M,i,l,_⟩:=I.tuple w;have P:=g.length;have R:=i.length;rcases G with⟨d,_⟩|⟨r,d,B,z,f⟩
  .exact Ì C d
  .refine SeqAt.eq_tupleAt (show s.heap.IsTuple p L.toArray from k) (show s.heap.IsTuple q M.toArray from l) c (yt (A:=X.A.in1) g i d B λj a b e u v m n o D E=>AU I (z j a b e m n o) (by show X.A.units+1+4<cLine;lia) D E) ⟨.bl (r.all id),H,I,?_,f⟩;show c_.bool _=c_.bool _;rw[Cu Ã Ã]
def ki5{X:fQ}(W:X.A.units+5<cLine):iB X (kj .NotEq) (Bk X.K true):=by
 intro L s σ H x y v u Q I T U h;obtain⟨p,q,Y,Z,rfl,rfl,P,J⟩:=h;cases T;cases U;have c:X.A.units<cLine:=Ã
 rcases P with⟨t,z⟩|⟨t,z,D⟩
 .obtain⟨M,g,k,_⟩:=I.list t;obtain⟨O,i,l,_⟩:=I.list z;have R:=g.length;have S:=i.length;rcases J with⟨d,f⟩|⟨r,d,C,B,f⟩
  .exact SeqAt.RcNeAt.lists_lengths k.isList l.isList (by rw[iq,iq];simp;lia) c ë X.w X.xe _ (Õ (.bl true) H I f)
  .refine SeqAt.RcNeAt.lists k.isList l.isList (by rw[iq,iq];lia) c (yt (A:=X.A.in1) g i d C λj a b e u v m n o E G=>AU I (B j a b e m n o) (by show X.A.units+1+4<cLine;lia) E G) ë X.w X.xe _ ⟨.bl (! r.all id),H,I,?_,f⟩;show c_.bool _=c_.bool _;rw[F0 Ã]
 .obtain⟨M,g,k,_⟩:=I.tuple t;obtain⟨O,i,l,_⟩:=I.tuple z;have R:=g.length;have S:=i.length;rcases J with⟨d,_⟩|⟨r,d,C,B,f⟩
  .exact Ì D d
  .refine SeqAt.RcNeAt.tuples (show s.heap.IsTuple p M.toArray from k) (show s.heap.IsTuple q O.toArray from l) c (yt (A:=X.A.in1) g i d C λj a b e u v m n o E G=>AU I (B j a b e m n o) (by show X.A.units+1+4<cLine;lia) E G) ë X.w X.xe _ ⟨.bl (! r.all id),H,I,?_,f⟩;show c_.bool _=c_.bool _;rw[Cu Ã Ã]
def Bl(K:a_):i6:=λx y H Q=>Bk K Ü x y H Q\/gS K x y H Q
def DH(K:a_):i6:=λx y H Q=>Bk K true x y H Q\/pV K x y H Q
def GN(a:X.A.units+5<cLine):iB X (kj .Eq) (Bl X.K):=(kiZ a).or (gX Ã)
def RL(a:X.A.units+5<cLine):iB X (kj .NotEq) (DH X.K):=(ki5 a).or (rz Ã)
def kgL(h:(oA P w).is k u=true):hW (iP k) u:=by
 cases k with
 |inl i=>
  obtain⟨t,rfl⟩:=c_.isInt_shape (k:=i) (v:=u) h;exact Æ t À
 |inr x=>
  obtain⟨t,rfl⟩:=c_.isStrOf_shape (x:=x) (v:=u) h;exact Æ t À
end L2
namespace PySem
open Sem (wp)
end PySem
namespace L2
open PySem PySem.Spec PyProof.Rows
theorem NZ:∀{xs:List V} {us:List c_},us.length=xs.length->(∀(j:Nat) x u,xs[j]?=Á x->us[j]?=Á u->hW x u)->gQ xs us
 |[],[],_,_=>.nil
 |x::xs,u::us,c,h=>.cons (h 0 x u À À) (NZ (Nat.succ.inj c) λj x u a b=>h (j+1) x u a b)
def R0:É V->b_->fS->Prop:=λc H Q=>∃(d:d_) (a:List (iQ×V)),c=[Â d]/\uK H d (.dK a)/\∀l,H l=none->Q (Â l) (Ý H l (a.map λb=>iP b.1))
def kbf(J:X.calm=true):mS X (.type "list") R0:=by
 intro B s σ H xs Z Q I r h;obtain⟨d,kvs,rfl,K,q⟩:=h;obtain⟨u,rfl,S⟩:=oU r;cases S;obtain⟨z,R,n,rel,C⟩:=yL I.hok K;obtain⟨ep,i⟩:=C.dictAt;have P:=rel.length;refine PySem.W.kdl_call (PySem.W.kdl_dict (knd:=oA ë X.w) (kvs:=n) (ep:=ep) R) (I.ok.hd J) i (by rw[<-P];exact z) λU T b c L G a=>?_;have Y:b.toList.length=n.length:=by rw[lO];exact a.1
 have O:gQ (kvs.map λm=>iP m.1) b.toList:=NZ (by rw[fP];lia) λj x v e D=>by
  rw[i3] at e;cases g:kvs[j]? with
  |none=>rw[g] at e;cases e
  |some p=>
   rw[g] at e;have f:iP p.1=x:=ď e;obtain⟨k,y,E,l⟩:=a.2 j v (by rw[<-uR];exact D);have:k=p.1:=by
    have t:(n.map (·.1))[j]?=Á k:=by rw[i3,E];rfl
    rw[<-rel.keys,i3,g] at t;exact(ď t).symm
   subst this;rw[<-f];exact kgL l
 have M:H ó=none:=I.hok.fresh ï;refine⟨Â ó,_,I.laid (t':=T) (o:=.lst (kvs.map λm=>iP m.1)) L ï ⟨by rw[fP];exact z,b.toList,c,O,?_⟩,À,q _ M⟩;rw[Array.toArray_toList];exact G
def AW(a:ku k A):A.units+5<cLine:=Bx (HU (by decide:5<=64) _) a.units
def Rw(K:a_)(b:Bool)(H:b_)(a:d_)(xs:É V):Prop:=match b with
 |true=>fR K H a xs
 |false=>hH K H a xs
def fJ.seqB{e:fO}(I:fJ X c e H s)(h:Rw X.K d H a xs):∃b:List c_,gQ xs b/\kjR d s.heap a b.toArray:=by
 cases d with
 |true=>obtain⟨b,r,p,_⟩:=I.tuple h;exact Î b r p
 |false=>obtain⟨b,r,p,_⟩:=I.list h;exact Î b r p.isList
end L2
namespace PySem.SeqAt
open AutoSeq1 (wpAny_loadPart')
open MeetsSeq MeetsSeq2 MeetsSeq3 SeqRoads2
end PySem.SeqAt
namespace L2
open PySem PySem.Spec PyProof.Rows
end L2
namespace Bg
open PySem L2
inductive gG where
 |num (x:Str) (z:Int)
 |op (x s a b:Str)
 |call (x:Str) (k:Nat) (as:Ñ)
 |say (a:Str)
 |jump (to:Nat)
 |test (a:Str) (to:Nat)
 |give (a:Str)
structure kI where
 name:Str
 params:Ñ
 rows:É gG
def pX:gG->Str
 |.num _ _=>"num"|.op _ _ _ _=>"op"|.call _ _ _=>"call"|.say _=>"say"|.jump _=>"jump"|.test _ _=>"test"|.give _=>"give"
def kh(H:b_)(v:V):gG->Prop
 |.num x z=>∃p,v=Â p/\H p=ä [Ä "num",Ä x,Ë z]
 |.op x s a b=>∃p,v=Â p/\H p=ä [Ä "op",Ä x,Ä s,Ä a,Ä b]
 |.call x k d=>∃p q,v=Â p/\H p=ä [Ä "call",Ä x,Ë (k:Nat),Â q]/\H q=ä (d.map Ê)
 |.say a=>∃p,v=Â p/\H p=ä [Ä "say",Ä a]
 |.jump c=>∃p,v=Â p/\H p=ä [Ä "jump",Ë (c:Nat)]
 |.test a c=>∃p,v=Â p/\H p=ä [Ä "test",Ä a,Ë (c:Nat)]
 |.give a=>∃p,v=Â p/\H p=ä [Ä "give",Ä a]
def gZ(H H':b_):Prop:=∀p a,H p=ä a->H' p=ä a
def gZ.refl(H:b_):gZ H H:=λ_ _ h=>h
def gZ.trans(x:gZ H a)(y:gZ a b):gZ H b:=λp c h=>y p c (x p c h)
def gZ.of_same(x:Ö H'):gZ H H':=λp a h=>x p _ h
def gZ.of_but(x:hI a H H')(b:H a=Ð ys):gZ H H':=λp c h=>x p _ (by rintro rfl;rw[h] at b;cases b) h
def gZ.new(x:gZ H a)(d:a p=none):gZ H (upd a p o):=λb c h=>by
 rw[fM (f6 (x b c h) d)];exact x b c h
def gZ.lst(x:gZ H a)(d:a p=Ð ys):gZ H (upd a p o):=λb e h=>by
 have c:=x b e h;rw[fM (by rintro rfl;rw[c] at d;cases d)];exact c
def kh.mono(h:kh H v r)(t:gZ H H'):kh H' v r:=by
 cases r with
 |call x k b=>obtain⟨p,q,e,h,a⟩:=h;exact⟨p,q,e,t _ _ h,t _ _ a⟩
 |_=>obtain⟨p,e,h⟩:=h;exact Î p e (t _ _ h)
def kh.ref(h:kh H v r):∃p xs,v=Â p/\H p=ä (Ä (pX r)::xs):=by
 cases r with
 |call x k a=>obtain⟨p,q,e,h,b⟩:=h;exact⟨p,_,e,h⟩
 |_=>obtain⟨p,e,h⟩:=h;exact⟨p,_,e,h⟩
structure ia{α:Type}(R:V->α->Prop)(vs:É V)(rs:É α):Prop where
 len:vs.length=rs.length
 at_:∀(i:Nat) v r,vs[i]?=Á v->rs[i]?=Á r->R v r
def ia.nil{a:Type}{R:V->a->Prop}:ia R [] []:=Æ À (λi v r h=>by simp at h)
def ia.imp{d:Type}{R c:V->d->Prop}{rs:List d}(h:ia R vs rs)(f:∀v r,R v r->c v r):ia c vs rs:=Æ h.len (λi v r a b=>f v r (h.at_ i v r a b))
def ia.snoc{c:Type}{R:V->c->Prop}{rs:List c}{r:c}(h:ia R vs rs)(q:R v r):ia R (vs++[v]) (rs++[r]):=by
 refine⟨by simp[h.len],λi w t a b=>?_⟩;by_cases d:i<vs.length
 .rw[uc d] at a;rw[uc (by rw[<-h.len];exact d)] at b;exact h.at_ i w t a b
 .rw[tr (by rw[<-h.len];omega)] at b
  grind
def ia.set{c:Type}{R:V->c->Prop}{rs:List c}{r:c}(h:ia R vs rs)(q:R v r):ia R (vs.set j v) (rs.set j r):=by
 refine⟨by simp[h.len],λi w t a b=>?_⟩;by_cases e:j=i
 .subst e;have d:j<vs.length:=by have:=(gR.mp a).1;rw[uV] at this;exact this
  rw[ph d] at a;rw[ph (by rw[<-h.len];exact d)] at b;cases a;cases b;exact q
 .rw[rW e] at a b;exact h.at_ i w t a b
def ia.get{c:Type}{R:V->c->Prop}{rs:List c}(h:ia R vs rs)(a:i<rs.length):∃v r,vs[i]?=Á v/\rs[i]?=Á r/\R v r:=by
 have b:i<vs.length:=by rw[h.len];exact a
 exact⟨vs[i],rs[i],gF b,gF a,h.at_ i _ _ (gF b) (gF a)⟩
def ia.of_v{a:Type}{R:V->a->Prop}{vs:List V}{rs:List a}(h:ia R vs rs){i:Nat}{v:V}(e:vs[i]?=Á v):∃r,rs[i]?=Á r/\R v r:=by
 have b:=(gR.mp e).1;obtain⟨f,r,c,d,q⟩:=h.get (i:=i) (by rw[<-h.len];exact b)
 grind
def uu(H:b_)(v:V)(b:kI):Prop:=∃p q r a,v=Â p/\H p=ä [Ä b.name,Â q,Â r]/\H q=ä (b.params.map Ê)/\H r=ä a/\ia (kh H) a b.rows
def uu.mono{H H':b_}{v:V}{b:kI}(h:uu H v b)(t:gZ H H'):uu H' v b:=by
 obtain⟨p,q,r,g,e,a,c,d,f⟩:=h;exact⟨p,q,r,g,e,t _ _ a,t _ _ c,t _ _ d,f.imp λ_ _ z=>z.mono t⟩
def sg(K:a_)(H:b_)(a:d_)(c:É Int):Prop:=
 (∃o,H a=Á (.frz o (.lst (c.map V.int))))\/∃(o:Obj) (b:Array c_) (n:Nat),K.lookup a=Á o/\o.cls=.type "list"/\o.dict=none/\o.data=.seq b n/\b.size<=gM/\gQ (c.map V.int) b.toList
def sg.sq(h:sg K H a b):hH K H a (b.map V.int):=by
 rcases h with⟨o,h⟩|h
 .exact È (Í (Æ o h))
 .exact Í h
def AX(H H':b_):Prop:=∀p o u,H p=Á (.frz o u)->H' p=Á (.frz o u)
def AX.of_but(x:hI a H H')(b:H a=Ð ys):AX H H':=λp o u h=>x p _ (by rintro rfl;rw[h] at b;cases b) h
def AX.of_same(x:Ö H'):AX H H':=λp o u h=>x p _ h
def sg.mono(h:sg K H a b)(f:AX H H'):sg K H' a b:=by
 rcases h with⟨o,h⟩|h
 .exact È ⟨o,f _ _ _ h⟩
 .exact Í h
def iR(K:a_)(H:b_)(st:d_)(k:Nat):Prop:=∃a b c,H st=Ð [Â a,Ë (k:Nat),Ë c]/\sg K H a b/\b.length<=63
def iR.lst(h:iR K H st k):∃ys,H st=Ð ys:=by
 obtain⟨a,b,c,e,_⟩:=h;exact Æ _ e
def iR.mono(h:iR K H st k)(x:hI a H H')(d:H a=Ð ys)(n:st≠a):iR K H' st k:=by
 obtain⟨b,f,c,e,q,l⟩:=h;exact⟨b,f,c,x _ _ n e,q.mono (.of_but x d),l⟩
def iR.same(h:iR K H st k)(x:Ö H'):iR K H' st k:=by
 obtain⟨a,b,c,e,q,l⟩:=h;exact⟨a,b,c,x _ _ e,q.mono (.of_same x),l⟩
def iR.new(h:iR K H st k)(a:H p=none):iR K (upd H p o) st k:=h.same ((Ø H).new a)
def kQ(K:a_):gO:=λc H Q _=>∃(a:d_) (m:Int) (k:Nat),c=[Â a,Ë m]/\iR K H a k/\k<=1000000/\0<m/\m<2 ^ 64/\
 ∀(d:Int) (b:b_),0<=d->d<m->iR K b a (k+1)->hI a H b->Q (Ë d) b
def pW:Ñ:=["part","call","say","jump","test","give"]
structure gP(y:Str):Prop where
 l1:1<=y.length
 l8:y.length<=8
 abc:∀c∈y.cps.toList,97<=c/\c<=122
 no:y∉pW
def gP.ne(h:gP y):y≠"":=by
 rintro rfl;exact Ì h.l1 â
def Cz(K:a_):gO:=λe H Q _=>∃(b:d_) (n k:Nat),e=[Â b,Ë (n:Nat)]/\iR K H b k/\k<=900000/\n<=20/\
 ∀(l:d_) (c:List Str) (d:Nat) (a:b_),H l=none->c.length=n->c.Nodup->(∀y∈c,gP y)->a l=Ð (c.map Ê)->iR K a b d->d<=k+11->hI b H a->Q (Â l) a
def F7(K:a_):gO:=λd H Q _=>∃(a:d_) (k:Nat),d=[Â a]/\iR K H a k/\k<=900000/\
 ∀(z:Int) (c:Nat) (b:b_),0<=z->z<2 ^ 64->iR K b a c->c<=k+4->hI a H b->Q (Ë z) b
def oq:Ñ:=["+","-","*","<","="]
def xA(ys:Ñ)(cs:É Nat)(n:Nat):gG->Prop
 |.num x z=>x∈ys/\0<=z/\z<2 ^ 64
 |.op x s a b=>x∈ys/\s∈oq/\a=""/\b=""
 |.call x k e=>x∈ys/\∃c,cs[k]?=Á c/\e=lq c ("":Str)
 |.say a=>a=""
 |.jump d=>d<n
 |.test a d=>a=""/\d<n
 |.give a=>a=""
def gu(a:É Nat):É V:=a.map λn=>V.int (n:Nat)
def IU(K:a_):gO:=λi H Q _=>∃(a g f:d_) (n k:Nat) (e:List Str) (b:List Nat),i=[Â a,Â g,Ë (n:Nat),Â f]/\iR K H a k/\k<=800000/\H g=Ð (e.map Ê)/\e≠[]/\e.length<=100/\
 1<=n/\n<=1000/\H f=Ð (gu b)/\b≠[]/\b.length<=100/\(∀c∈b,c<=4)/\g≠a/\f≠a/\
 ∀(v:V) (r:gG) (h:Nat) (d:b_),kh d v r->xA e b n r->iR K d a h->h<=k+8->hI a H d->Q v d
def ma(n:Nat):gG->É Nat
 |.jump a=>[a]
 |.test _ a=>[n+1,a]
 |.give _=>[]
 |_=>[n+1]
def F4(K:a_):gO:=λc H Q _=>∃(b:d_) (n:Nat) (a:List V) (v:V) (r:gG),c=[Â b,Ë (n:Nat)]/\(H b=Ð a\/H b=ä a)/\a[n]?=Á v/\kh H v r/\∀l,H l=none->Q (Â l) (Ý H l (gu (ma n r)))
def pQ:gG->V
 |.num x _=>Ä x
 |.op x _ _ _=>Ä x
 |.call x _ _=>Ä x
 |_=>.non
def oG:gG->Bool
 |.jump _=>true
 |.give _=>true
 |_=>false
def xy:gG->Bool
 |.num _ _=>true
 |_=>false
structure AS(ys:Ñ)(cs:É Nat)(rs:É gG):Prop where
 pos:rs≠[]
 few:rs.length<=100
 rough:∀r∈rs,xA ys cs rs.length r
def stp(rs:É gG)(n:Nat):Nat:=match rs[n]? with
 |some (.jump t)=>t
 |_=>n
def runJ(rs:É gG):Nat->Nat->Nat
 |0,n=>n
 |k+1,n=>runJ rs k (stp rs n)
def oP:gG->Bool
 |.jump _=>true
 |_=>false
def yE(rs:É gG):Prop:=∀n,n<rs.length->∀r,rs[runJ rs rs.length n]?=Á r->oP r=false
def Fq(K:a_):gO:=λj H Q _=>∃(e h:d_) (a:Bool) (f:List V) (d:List gG) (i:List Str) (R:gG->Prop),j=[Â e,Â h,.bl a]/\H e=Ð f/\ia (kh H) f d/\d≠[]/\d.length<=100/\(∀r∈d,R r)/\R (.say "")/\R (.give "")/\(∀t,R (.jump t)->t<d.length)/\H h=Ð (i.map Ê)/\i≠[]/\(∀y∈i,a=true->R (.num y 3))/\h≠e/\
 (a=true->2<=d.length)/\∀(c:List V) (b:List gG) (g:b_),g e=Ð c->ia (kh g) c b->b.length=d.length->(∀r∈b,R r)->(b.getLast?.map oG=Á true)->(a=true->b.head?.map xy=Á true)->yE b->hI e H g->Q (Â e) g
def C3(H:b_)(v:V)(ks:Ñ):Prop:=∃a,v=Â a/\H a=Ð (ks.map Ê)
structure U1(ps:Ñ)(rs:É gG)(kss:É Ñ):Prop where
 zero:∀ks,kss[0]?=Á ks->∀y∈ks,y∈ps
 on:∀(n m:Nat) r ks km,rs[n]?=Á r->m∈ma n r->kss[n]?=Á ks->kss[m]?=Á km->∀y∈km,y∈ks\/pQ r=Ä y
def IV(K:a_):gO:=λo H Q _=>∃(m k l:d_) (e:List V) (d:List gG) (f c:List Str) (n:List Nat),o=[Â m,Â k,Â l]/\H m=Ð e/\ia (kh H) e d/\AS f n d/\(d.getLast?.map oG=Á true)/\
 H k=Ð (f.map Ê)/\f.length<=100/\H l=Ð (c.map Ê)/\c.length<=100/\(∀y∈c,y∈f)/\(c=[]->d.head?.map xy=Á true)/\
 ∀(j:d_) (b:List V) (a:List (List Str)) (g:b_),H j=none->g j=Ð b->ia (C3 g) b a->a.length=d.length->(∀(i:Nat) h,a[i]?=Á h->h.length<=100/\(∀y∈h,y∈f)/\(h≠[]\/(i=0/\c=[])))->U1 c d a->Ö g->Q (Â j) g
def tQ(ks:Ñ):gG->gG->Prop
 |.num x z,r=>r=.num x z
 |.op x s _ _,r=>∃a b,r=.op x s a b/\a∈ks/\b∈ks
 |.call x k e,r=>∃c:List Str,r=.call x k c/\c.length=e.length/\∀b∈c,b∈ks
 |.say _,r=>∃a,r=.say a/\a∈ks
 |.jump d,r=>r=.jump d
 |.test _ d,r=>∃a,r=.test a d/\a∈ks
 |.give _,r=>∃a,r=.give a/\a∈ks
def Fp(K:a_):gO:=λv H Q _=>∃(j o n:d_) (k:Nat) (m d:List V) (g:List gG) (b:List (List Str)) (u:List Str) (q:List Nat),v=[Â j,Â o,Â n]/\iR K H j k/\k<=700000/\H o=Ð m/\ia (kh H) m g/\AS u q g/\(∀y∈u,y≠"")/\(∀c∈q,c<=4)/\
 H n=Ð d/\ia (C3 H) d b/\b.length=g.length/\(∀(i:Nat) e,b[i]?=Á e->e.length<=100)/\(∀(i:Nat) e r,b[i]?=Á e->g[i]?=Á r->e≠[]\/xy r=true)/\(∀a∈d,a≠Â j)/\o≠j/\n≠j/\
 ∀(p:d_) (f:List V) (h:List gG) (s:Nat) (l:b_),l p=ä f->ia (kh l) f h->h.length=g.length->(∀(i:Nat) e r t,b[i]?=Á e->g[i]?=Á r->h[i]?=Á t->tQ e r t)->iR K l j s->s<=k+5*g.length->hI j H l->Q (Â p) l
def mJ:gG->Ñ
 |.op _ _ a b=>[a,b]
 |.call _ _ c=>c
 |.say a=>[a]
 |.test a _=>[a]
 |.give a=>[a]
 |_=>[]
def GY(ys:Ñ)(cs:É Nat)(n:Nat):gG->Prop
 |.num x z=>x∈ys/\0<=z/\z<2 ^ 64
 |.op x s a b=>x∈ys/\s∈oq/\a∈ys/\b∈ys
 |.call x k d=>x∈ys/\cs[k]?=Á d.length/\∀a∈d,a∈ys
 |.say a=>a∈ys
 |.jump c=>c<n
 |.test a c=>a∈ys/\c<n
 |.give a=>a∈ys
structure xh(ys:Ñ)(cs:É Nat)(b:kI):Prop where
 pnd:b.params.Nodup
 pin:∀y∈b.params,y∈ys
 pos:b.rows≠[]
 few:b.rows.length<=60
 rows:∀r∈b.rows,GY ys cs b.rows.length r
 last:b.rows.getLast?.map oG=Á true
 ring:yE b.rows
 known:∃kss,kss.length=b.rows.length/\U1 b.params b.rows kss/\∀(n:Nat) r ks,b.rows[n]?=Á r->kss[n]?=Á ks->∀y∈mJ r,y∈ks
structure yD(ys:Ñ)(cs:É Nat)(bs:É kI):Prop where
 ynd:ys.Nodup
 ynm:∀y∈ys,gP y
 y2:2<=ys.length
 y6:ys.length<=6
 pos:1<=bs.length
 few:bs.length<=5
 nnd:(bs.map (·.name)).Nodup
 nnm:∀b∈bs,gP b.name
 cnt:bs.map (·.params.length)=cs
 c4:∀c∈cs,c<=4
 part:∀b∈bs,xh ys cs b
def Gb(K:a_):gO:=λo H Q _=>∃(a i j h:d_) (n:Str) (m k:Nat) (d f:List Str) (e:List Nat),o=[Â a,Ä n,Â i,Â j,Â h,Ë (m:Nat)]/\iR K H a k/\k<=600000/\H i=Ð (d.map Ê)/\d≠[]/\d.length<=100/\(∀y∈d,y≠"")/\
 H j=Ð (f.map Ê)/\f.length<=100/\f.Nodup/\(∀y∈f,y∈d)/\H h=Ð (gu e)/\e≠[]/\e.length<=100/\(∀c∈e,c<=4)/\1<=m/\m<=50/\i≠a/\j≠a/\h≠a/\
 ∀(v:V) (b:kI) (l:Nat) (g:b_),uu g v b->b.name=n->b.params=f->xh d e b->b.rows.length<=m+1->iR K g a l->l<=k+1000->hI a H g->Q v g
def E_(K:a_):gO:=λh H Q _=>∃(d:d_) (m k:Nat),h=[Â d,Ë (m:Nat)]/\iR K H d k/\k<=500000/\1<=m/\m<=50/\
 ∀(p:d_) (c:List V) (e:List kI) (i:List Str) (g:List Nat) (f:Nat) (a:b_),a p=ä c->ia (uu a) c e->yD i g e->(∀b∈e,b.rows.length<=m+1)->iR K a d f->f<=k+10000->hI d H a->Q (Â p) a
def uv:gG->V
 |.jump a=>Ë (a:Nat)
 |.test _ a=>Ë (a:Nat)
 |_=>.non
def kho:gO:=λb H Q _=>∃v r,b=[v]/\kh H v r/\∀(p:d_) (a:b_),a p=ä ((mJ r).map Ê)->Ö a->Q (Â p) a
abbrev EC(_:a_):gO:=kho
def Fs(_:a_):gO:=λb H Q _=>∃v r,b=[v]/\kh H v r/\∀(a:b_),Ö a->Q (pQ r) a
def Cd(_:a_):gO:=λa H Q _=>∃v r,a=[v]/\kh H v r/\Q (uv r) H
def kjJ:gO:=λc H Q _=>∃(rt:d_) (n:Nat) (a:List V) (v:V) (r:gG),c=[Â rt,Ë (n:Nat)]/\H rt=ä a/\a[n]?=Á v/\kh H v r/\∀(p:d_) (b:b_),b p=ä (gu (ma n r))->Ö b->Q (Â p) b
abbrev EB(_:a_):gO:=kjJ
def CV(K:a_):gO:=λd H Q _=>∃(a:d_) (b:List Int),d=[Â a]/\sg K H a b/\b.length<=63/\∀c,Q (.bl true) c
abbrev kjw:Nat:=0
abbrev kix:Nat:=1
abbrev kgH:Nat:=1
abbrev kf5:Nat:=2
abbrev kgK:Nat:=1
abbrev kfT:Nat:=2
abbrev Y6:Nat:=2
abbrev YC:Nat:=3
abbrev kgF:Nat:=0
abbrev kf3:Nat:=1
abbrev keL:Nat:=0
abbrev kea:Nat:=1
abbrev Y7:Nat:=1
abbrev YD:Nat:=2
abbrev keK:Nat:=1
abbrev kd9:Nat:=2
abbrev kjy:Nat:=3
abbrev kiz:Nat:=4
abbrev kc3:Nat:=4
abbrev kcG:Nat:=5
abbrev kc1:Nat:=0
abbrev kcE:Nat:=1
abbrev keO:Nat:=0
abbrev kec:Nat:=1
abbrev keM:Nat:=0
abbrev Oy:Nat:=1
abbrev kc0:Nat:=1
abbrev kcD:Nat:=2
def gz{c:Prop}[Decidable c]{A B:Prop}(a:c->A)(b:¬c->B):if æ c=true then A else B:=by
 by_cases h:c
 .rw[decide_eq_true h];exact lC (a h)
 .rw[decide_eq_false h];exact i4 (b h)
def nN{c:Prop}[Decidable c]{A B:Prop}(a:¬c->A)(b:c->B):if(! æ c)=true then A else B:=by
 by_cases h:c
 .rw[decide_eq_true h];exact i4 (b h)
 .rw[decide_eq_false h];exact lC (a h)
def mD(a:b=true->A)(c:b=false->B):if b=true then A else B:=by
 cases b with
 |true=>exact lC (a À)
 |false=>exact i4 (c À)
def C5{a:Type}{xs:List a}{v:a}(b:0<=i)(e:xs[i.toNat]?=Á v):uN xs i=Á v:=by
 have c:=(gR.mp e).1;unfold uN uO;rw[if_pos b,if_pos Ã];exact e
def ke{K:a_}{p:d_}{xs:List V}{i:Int}{v:V}{H:b_}{Q:fS}(h:hH K H p xs)(a:0<=i)(e:xs[i.toNat]?=Á v)(q:Q v H):sG K (Â p) (Ë i) H Q:=
 È ⟨p,xs,i,v,À,À,h,C5 a e,q⟩
def iU{K:a_}{p:d_}{xs:List V}{i:Int}{v:V}{H:b_}{Q:fS}(h:H p=ä xs)(h0:0<=i)(e:xs[i.toNat]?=Á v)(q:Q v H):sG K (Â p) (Ë i) H Q:=
 Í (È ⟨p,xs,i,v,À,À,fR.of h,C5 h0 e,q⟩)
def Sx(h:H p=ä xs)(e:xs[i.toNat]?=Á v)(q:Q v H)(h0:0<=i:=by decide):sG K (Â p) (Ë i) H Q:=iU h h0 e q
def Bp{K:a_}{z:Str}{i:Int}{c:Nat}{H:b_}{Q:fS}(hz:z.length<=gM)(a:0<=i)(e:z.cps.toList[i.toNat]?=Á c)(q:Q (Ä ⟨#[c]⟩) H):sG K (Ä z) (Ë i) H Q:=
 Í (Í ⟨z,i,c,À,À,hz,C5 a e,q⟩)
def uH(h:H p=Ð xs)(a:0<=i)(b:i.toNat<xs.length)(q:Q (Ý H p (xs.set i.toNat v))):sj (Â p) (Ë i) v H Q:=by
 refine⟨p,xs,i,i.toNat,À,À,h,?_,q⟩;unfold uO;rw[if_pos a,if_pos Ã]
def gY(h:n<=100000):n<gM:=Bx h Ï
def kcT{a:List Nat}{i:Nat}{n:Nat}(h:a[i]?=Á n):(gu a)[i]?=Á (Ë (n:Nat)):=by
 unfold gu;rw[i3,h];rfl
def mI(a:É Nat):Ô (gu a)=a.length:=by unfold gu;rw[fP]
def Cr{ys:List Str}{i:Nat}{y:Str}(h:ys[i]?=Á y):(ys.map Ê)[i]?=î y:=by rw[i3,h];rfl
def Ez{H:b_}{a b:d_}{xs ys:List V}(h:H a=Ð xs)(h':H b=ä ys):a≠b:=U' h h' (by intro z;cases z)
def oO(h:c a H λy b=>∃ys,b D=Ð ys/\ys.length<gM/\E.nx a (Ý b D (ys++[y]))):n_ D kT c E a H:=by
 unfold n_ kT;dsimp only;rw[if_pos À];exact h
def no{x y:V}{A B:Prop}(h:¬x=y)(q:B):if æ (x=y)=true then A else B:=gz (λz=>Ì z h) λ_=>q
def kig{x y:V}{A B:Prop}(q:B)(h:¬x=y:=by decide +kernel):if æ (x=y)=true then A else B:=no h q
def mi{x:V}{A B:Prop}(q:A):if æ (x=x)=true then A else B:=gz (λ_=>q) λz=>Ì À z
def rM(e:b=true)(q:A):if b=true then A else B:=by rw[e];exact lC q
def s_(e:b=false)(q:B):if b=true then A else B:=by rw[e];exact i4 q
def vW(xs:É V)(c:Nat):nX xs Ç (Á (c:Int))=xs.take c:=by
 unfold nX;rw[HT.sIx_none,HT.sIx_nat,Ef,Nat.sub_zero,<-List.take_eq_take_min]
def Ct(xs:É V)(c:Nat):nX xs (Á (c:Int)) Ç=xs.drop c:=by
 unfold nX;rw[HT.sIx_none,HT.sIx_nat];by_cases h:c<=xs.length
 .rw[Nat.min_eq_left h];exact m5 (by rw[tu];lia)
 .rw[Nat.min_eq_right Ã,List.drop_length,List.drop_of_length_le Ã,List.take_nil]
def Aq(ys:Ñ):(ys.map Ê).all oF=true:=by
 rw[uT];intro v a;obtain⟨y,_,rfl⟩:=kA.mp a;rfl
def rq(y:Str)(a:Ñ):hU (Ä y) (a.map Ê)=æ (y∈a):=by
 unfold hU;rw[List.any_map,Bool.eq_iff_iff,List.any_eq_true,decide_eq_true_eq];constructor
 .rintro⟨z,c,e⟩;have b:(z==y)=true:=e;have:z=y:=by simpa using b
  rw[<-this];exact c
 .intro h;exact Î y h (by show(y==y)=true;simp)
def hI.past(x:hI a H b)(e:H l=none)(y:hI l b d):hI a H d:=λc u n h=>y c u (f6 h e) (x c u n h)
def Bc(P:Nat->fO->b_->Prop):∃b:Nat->fO->b_->Prop,∀{i a H},b i a H↔P i a H:=Æ P Iff.rfl
end Bg
namespace Bg
open PySem PySem.Spec PyProof.Rows L2
abbrev kfU:Ñ:=["_law_state","_law_many"]
abbrev RC:Ñ:=["_law_state","_law_many","_law_script","_law_k","_law_digit","_law_cell"]
def kf8(K:a_):e_:=fZ (fV rJ (fV rJ (ô (tO K) 5 (fI 5)) (fY (Ë 1999999973))) (fI 1))
def kf9(K:a_):e_:=õ (fV rJ (ô (tO K) 5 (fI 5)) (fY (Ë 2147483587))) 5 (kf8 K)
def Pe(K:a_):e_:=õ (fV rJ (fV (tO K) (ô rJ 5 (fY (Ë 2147483629))) (ô (hZ K) 3 k9)) (fY (Ë 2147483629))) 5 (kf9 K)
def kga(K:a_):e_:=ā (ð sr (ÿ (gV K) 2) gj) (đ (ô (hZ K) 5 (fV (tO K) (Ó 2 (fV rJ (ô (tO K) 3 (fY (Ë 7))) (ÿ (gV K) 2))) (fV (hZ K) (fY (Ë 48271)) (fI 3)))) 5) gk (Pe K)
def CB(K:a_):e_:=õ (fV (hZ K) (ô (tO K) 3 (fY (Ë 7919))) sf) 5 (kga K)
def kgb(K:a_):e_:=fZ (fI 4)
def Pf(K:a_):e_:=lI (ð (mj K true) (Ó 0 iC) (h9 (ç gj (sE tV gA)))) (iA (mB (iO khx (fX (Ó 0 iC) (ý 1))) (rL K 2 (lg (oW ø iC sj) (lg (gB 4) pU)))) (kgb K)) gk
def OW(K:a_):e_:=ā (kZ (ð ni (fV (hZ K) (ô GL 3 BJ) gA) (ÿ (gV K) 2)) (ð (gS K) (fV rJ (Ó 2 gj) iC) gA)) (ā (ð (gS K) (ô rJ 3 BJ) gj) (mB (Ó 2 (fV (hZ K) (ô GL 3 BJ) gA)) (oW ø iC sj)) gk (Pf K)) (lI (iY (ô ni 3 (ÿ (gV K) 2))) (fZ (fV rJ (Ó 2 (fI 3)) (fI 1))) gk) (CB K)
def kgc(K:a_):e_:=iA (mB (ô (hZ K) 3 gA) (oW ø gA sj)) (OW K)
def Sh(K:a_):e_:=iA (mB (kE (lh K) ø kH (kB iC)) (De K 2 (lg (gB 2) (lg (gB 3) pU)))) (kgc K)
abbrev kef:Ñ:=["_law_state","_law_many"]
abbrev Ga:Ñ:=["_law_state","_law_many","_law_letters","_law_size","_law_at","_law_first","_law_base","_law_found","_law_k","_law_some","_law_name"]
def NJ(K:a_):e_:=fZ (fI 7)
def NK(K:a_):e_:=lS (iJ K "list" m7 (fI 7) (ý 10))
def kel(K:a_):e_:=ā (oy (iY (ô (mj K Ü) 10 (h9 (fX rB (fX mT (fX vX (fX nV (ç rC pD)))))))) (kZ (iY (ô ni 3 BK)) (ð (gS K) (fV rJ (ô (hZ K) 3 (fI 8)) k9) gA))) (đ (ô (hZ K) 10 (fY (Ä "x"))) 10) gk (NK K)
def kem(K:a_):e_:=õ (iJ K "str" (m_ K) pR (ý 9)) 10 (kel K)
def ken(K:a_):e_:=õ (fV (hZ K) (fV (hZ K) (kE (lh K) (fI 6) kH (kB (fI 4))) (h_ (Þ (Ó 2 (fV rJ (ô (hZ K) 5 (fV (tO K) sf (fI 8))) (fY (Ë 26))))))) (kE (lh K) (fI 6) (kB (ô (hZ K) 4 gA)) kH)) 9 (kem K)
def keo(K:a_):e_:=iA (kD (om (ý 1)) (gB 8) (ken K)) (NJ K)
def kep(K:a_):e_:=õ (h_ lN) 7 (keo K)
def keq(K:a_):e_:=õ (i9 [] 1 (om (ý 3)) (gB 11) kT (Ó 2 (fV rJ (ô (hZ K) 5 (fV (tO K) (fV (tO K) (fY (Ë 7)) (fI 11)) (å (kQ K) f9 (ç ø rD)))) (fY (Ë 26))))) 6 (kep K)
def ker(K:a_):e_:=õ (å (kQ K) f9 (ç ø (fY (Ë 26)))) 5 (keq K)
def M6(K:a_):e_:=õ (å (kQ K) f9 (fX ø (ý 3))) 4 (ker K)
def kck(K:a_):e_:=õ (fV (hZ K) gA (å (kQ K) f9 (ç ø BK))) 3 (M6 K)
def P_(K:a_):e_:=õ Sw 2 (kck K)
abbrev kei:Ñ:=["_law_state"]
abbrev PR:Ñ:=["_law_state"]
def keu(K:a_):e_:=fZ (fV ċ (h_ (fX gj (fX gA (ç (fV vu (fV vu (fV vt iC (fY (Ë 64))) gA) (å (kQ K) f9 (ç ø k9))) (å (kQ K) f9 (ç ø BJ)))))) (å (kQ K) f9 (ç ø rD)))
def Rb(K:a_):e_:=ā (ð (gS K) (å (kQ K) f9 (ç ø iC)) gj) (fZ (fV (hZ K) (fV (tO K) (å (kQ K) f9 (ç ø (fV vt iC (fY (Ë 31))))) (fV vt iC (fY (Ë 33)))) (å (kQ K) f9 (ç ø (fV vt iC (fY (Ë 31))))))) gk (keu K)
abbrev X_:Ñ:=["_law_state","_law_names_here","_law_many","_law_counts"]
abbrev Lj:Ñ:=["_law_state","_law_names_here","_law_many","_law_counts","_law_x","_law_sort","_law_k"]
def Xn(K:a_):e_:=fZ (fV ċ (h_ (ç (h9 (ç nV (å (kQ K) f9 (fX ø (ý 2))))) (h9 (ç pD pR)))) (ô vu 5 BL))
def Xo(K:a_):e_:=ā (iY (ô ni 5 BL)) (fZ (h9 (fX rC (ç pR (å (kQ K) f9 (fX ø (ý 2))))))) gk (Xn K)
def Xp(K:a_):e_:=ā (iY (ô ni 5 BK)) (fZ (h9 (ç vX pR))) gk (Xo K)
def Xq(K:a_):e_:=fZ (h9 (fX mT (fX (fI 4) (ç (fI 6) (fV (tO K) (h9 (Þ pR)) (Ó 3 (fI 6)))))))
def Xr(K:a_):e_:=ā (iY (ô (gS K) 5 (fY (Ë 6)))) (õ (å (kQ K) f9 (ç ø (ÿ (gV K) 3))) 6 (Xq K)) gk (Xp K)
def Xs(K:a_):e_:=ā (iY (ô ni 5 (fY (Ë 6)))) (fZ (h9 (fX u9 (fX (fI 4) (fX (fV ċ (fY (Ä "+-*<=")) (å (kQ K) f9 (ç ø sf))) (ç pR pR)))))) gk (Xr K)
def Xt(K:a_):e_:=ā (iY (ô ni 5 iC)) (fZ (h9 (fX u_ (ç (fI 4) (å (F7 K) f9 (ý 0)))))) gk (Xs K)
def Xu(K:a_):e_:=õ (å (kQ K) f9 (ç ø BJ)) 5 (Xt K)
def LK(K:a_):e_:=õ (Ó 1 (å (kQ K) f9 (ç ø (ÿ (gV K) 1)))) 4 (Xu K)
abbrev ked:Ñ:=["_law_rows","_law_n"]
abbrev PM:Ñ:=["_law_rows","_law_n"]
def kdq(K:a_):e_:=fZ (h_ (Þ (ô (hZ K) 1 gA)))
def kdr(K:a_):e_:=ā (ð (gS K) (fV ċ (Ó 0 (fI 1)) gj) pD) (fZ (h_ lN)) gk (kdq K)
def kej(K:a_):e_:=ā (ð (gS K) (fV ċ (Ó 0 (fI 1)) gj) rC) (fZ (h_ (ç (ô (hZ K) 1 gA) (fV ċ (Ó 0 (fI 1)) iC)))) gk (kdr K)
def P8(K:a_):e_:=ā (ð (gS K) (fV ċ (Ó 0 (fI 1)) gj) nV) (fZ (h_ (Þ (fV ċ (Ó 0 (fI 1)) gA)))) gk (kej K)
abbrev kcv:Ñ:=["_law_rows","_law_names_here","_law_bare"]
abbrev Oz:Ñ:=["_law_rows","_law_names_here","_law_bare","_law_last","_law_n","_law_to","_law_turn"]
def kce(K:a_):e_:=fZ ø
def kcf(K:a_):e_:=lI (ð (gS K) (fV ċ (Ó 0 (fI 5)) gj) nV) (mB (fV ċ (h_ (ç (h9 (ç vX pR)) (h9 (ç pD pR)))) (iO Do (Þ (ô (gS K) 4 (fI 3))))) (oW ø (fI 4) sj)) gk
def kcg(K:a_):e_:=lI (ð (gS K) (fV ċ (Ó 0 (fI 5)) gj) nV) (đ (fV ċ (Ó 0 (fI 5)) gA) 5) gk
def kch(K:a_):e_:=iA (kD (i_ K ø) (gB 6) (kcg K)) (kcf K)
def kci(K:a_):e_:=õ (fI 4) 5 (kch K)
def M3(K:a_):e_:=iA (kD (om (Þ (ÿ (gV K) 0))) (gB 4) (kci K)) (kce K)
def M4(K:a_):e_:=ā (kZ (mF (fI 2)) (kZ (ð (pV K) (fV ċ (Ó 0 gj) gj) u_) (iY (ô sr 3 gj)))) (mB (h9 (fX u_ (ç (Ó 1 gj) k9))) (oW ø gj sj)) gk (M3 K)
def M5(K:a_):e_:=ā (ð (mj K true) (fV ċ (Ó 0 (fI 3)) gj) (h9 (ç nV pD))) (mB (h9 (ç pD pR)) (oW ø (fI 3) sj)) gk (M4 K)
def O4(K:a_):e_:=õ (fV vu (ÿ (gV K) 0) gA) 3 (M5 K)
abbrev X':Ñ:=["_law_rows","_law_names_here","_law_params"]
abbrev Eo:Ñ:=["_law_rows","_law_names_here","_law_params","_law_known","_law_more","_law_n","_law_left","_law_m","_law_kept"]
def Xv(K:a_):e_:=fZ (fI 3)
def XX(K:a_):e_:=đ (fY (.bl true)) 4
def XY(K:a_):e_:=lI (ð ni (ÿ (gV K) 8) (iO (gV K) (Þ (Ó 3 (fI 7))))) (iA (mB (fI 8) (oW (fI 3) (fI 7) sj)) (XX K)) gk
def UD(K:a_):e_:=õ (i9 [] 1 (i_ K (Ó 3 (fI 7))) (gB 9) (iY (ô (mj K Ü) 9 (fI 6))) (fI 9)) 8 (XY K)
def UE(K:a_):e_:=kD (i_ K (å (F4 K) f9 (fX ø (ý 5)))) (gB 7) (UD K)
def XZ(K:a_):e_:=ā (ð (mj K Ü) (fV ċ (Ó 0 (fI 5)) gj) (h9 (fX u_ (ç u9 mT)))) (đ (ô (hZ K) 6 (h_ (Þ (fV ċ (Ó 0 (fI 5)) gA)))) 6) gk (UE K)
def UF(K:a_):e_:=õ (Ó 3 (fI 5)) 6 (XZ K)
def X0(K:a_):e_:=kD (om (Þ (ÿ (gV K) 0))) (gB 5) (UF K)
def X1(K:a_):e_:=õ (fY (.bl Ü)) 4 (X0 K)
def Um(K:a_):e_:=iA (xt (mF (fI 4)) (X1 K)) (Xv K)
def Uo(K:a_):e_:=õ (fY (.bl true)) 4 (Um K)
def W8(K:a_):e_:=iA (mB (ÿ (xg K) 2) (oW (fI 3) gj sj)) (Uo K)
def LL(K:a_):e_:=õ (i9 [] 1 (i_ K ø) (gB 9) kT (ÿ (xg K) 1)) 3 (W8 K)
abbrev kcu:Ñ:=["_law_state","_law_rows","_law_known"]
abbrev FM:Ñ:=["_law_state","_law_rows","_law_known","_law_found","_law_n","_law_row","_law_some","_law_thing"]
def kcb(K:a_):e_:=fZ (ÿ (rn K) 3)
def kcc(K:a_):e_:=lS (iJ K "list" m7 (fI 3) (Þ (fV (hZ K) (h9 (Þ (Ó 5 gj))) (ÿ (rn K) 6))))
def MW(K:a_):e_:=lS (iJ K "list" m7 (fI 6) (ý 7))
def MX(K:a_):e_:=ā (iY (ô (gS K) 7 pR)) (đ (fV ċ (Ó 2 (fI 4)) (å (kQ K) f9 (ç ø (iO (gV K) (Þ (Ó 2 (fI 4))))))) 7) (lI (mF (iO (kkQ K) (ç (fI 7) (fY (.ty "tuple"))))) (đ (iO (rn K) (Þ (i9 [] 1 (i_ K (fI 7)) (gB 8) kT (fV ċ (Ó 2 (fI 4)) (å (kQ K) f9 (ç ø (iO (gV K) (Þ (Ó 2 (fI 4)))))))))) 7) gk) (MW K)
def MY(K:a_):e_:=iA (kD (i_ K (kE (lh K) (fI 5) (kB gA) kH)) (gB 7) (MX K)) (kcc K)
def MZ(K:a_):e_:=õ (h_ lN) 6 (MY K)
def kcd(K:a_):e_:=iA (kD (yJ K (ý 1)) (rL K 2 (lg (gB 4) (lg (gB 5) pU))) (MZ K)) (kcb K)
def OX(K:a_):e_:=õ (h_ lN) 3 (kcd K)
abbrev kfW:Ñ:=["_law_state","_law_word","_law_names_here","_law_params","_law_counts","_law_most"]
abbrev GF:Ñ:=["_law_state","_law_word","_law_names_here","_law_params","_law_counts","_law_most","_law_many","_law_rows","_law_known"]
def kgh(K:a_):e_:=fZ (h9 (fX (fI 1) (ç (ÿ (rn K) 3) (å (Fp K) f9 (fX ø (fX (fI 7) (ý 8)))))))
def kgi(K:a_):e_:=õ (å (IV K) f9 (fX (fI 7) (fX (fI 2) (ý 3)))) 8 (kgh K)
def kgj(K:a_):e_:=õ (å (Fq K) f9 (fX (fI 7) (ç (fI 2) (fV (gS K) (ÿ (gV K) 3) gj)))) 7 (kgi K)
def kgk(K:a_):e_:=õ (i9 [] 1 (om (ý 6)) (gB 9) kT (å (IU K) f9 (fX ø (fX (fI 2) (fX (fI 6) (ý 4)))))) 7 (kgj K)
def Sj(K:a_):e_:=õ (iO kkj (ç (fV (hZ K) gA (iO Do (Þ (fV (gS K) (ÿ (gV K) 3) gj)))) (fV (hZ K) gA (å (kQ K) f9 (fX ø (ý 5)))))) 6 (kgk K)
abbrev kba:Ñ:=["_law_state","_law_most"]
abbrev Fj:Ñ:=["_law_state","_law_most","_law_five","_law_words","_law_names_here","_law_counts","_law_found","_law_word","_law_many","_law_turn","_law_params"]
def kap(K:a_):e_:=fZ (ÿ (rn K) 6)
def kaq(K:a_):e_:=lS (iJ K "list" m7 (fI 6) (Þ (å (Gb K) f9 (fX ø (fX (fI 7) (fX (fI 4) (fX (fI 10) (fX (fI 5) (ý 1)))))))))
def kar(K:a_):e_:=õ (kE (lh K) (fV (hZ K) (kE (lh K) (fI 4) (kB (fI 9)) kH) (kE (lh K) (fI 4) kH (kB (fI 9)))) kH (kB (fI 8))) 10 (kaq K)
def kas(K:a_):e_:=õ (å (kQ K) f9 (ç ø (ÿ (gV K) 4))) 9 (kar K)
def kat(K:a_):e_:=iA (kD (Bj K (fX (fI 3) (ý 5))) (rL K 2 (lg (gB 7) (lg (gB 8) pU))) (kas K)) (kap K)
def kau(K:a_):e_:=õ (h_ lN) 6 (kat K)
def kav(K:a_):e_:=õ (i9 [7] 0 (i_ K (fI 3)) (gB 7) kT (å (kQ K) f9 (ç ø (fV (hZ K) (iO kkk (ç rD (ÿ (gV K) 4))) gA)))) 5 (kau K)
def LI(K:a_):e_:=õ (å (Cz K) f9 (ç ø (fV (hZ K) iC (å (kQ K) f9 (ç ø sf))))) 4 (kav K)
def kaw(K:a_):e_:=õ (kE (lh K) (å (Cz K) f9 (ç ø sf)) kH (kB (fV ċ (h_ (ç (fV (hZ K) gA (å (kQ K) f9 (ç ø k9))) sf)) (fI 2)))) 3 (LI K)
def NP(K:a_):e_:=õ (iO Do (Þ (fV (gS K) (fV rJ (fV GL (iO (kkR K) (Þ (kE (lh K) (Ó 0 gj) kH (kB gA)))) rD) (fY (Ë 16))) sf))) 2 (kaw K)
end Bg
namespace Bg
open PySem L2
abbrev abc:Str:="abcdefghijklmnopqrstuvwxyz"
def PU:abc.length<=gM:=â
def one(c:Nat):Str:=⟨#[c]⟩
theorem kad:∀cs:List Nat,(Txt.join "" (cs.map one)).cps.toList=cs
 |[]=>â
 |c::r=>by
  unfold Txt.join;rw[StrLaws.glued_eq_join]
  induction r generalizing c with
  |nil=>rfl
  |cons d r a=>
   show(one c++("":Str)++Str.join "" ((d::r).map one)).cps.toList=_;have e:(one c++("":Str)++Str.join "" ((d::r).map one)).cps.toList=(one c).cps.toList++("":Str).cps.toList++(Str.join "" ((d::r).map one)).cps.toList:=by
    show((one c).cps++("":Str).cps++(Str.join "" ((d::r).map one)).cps).toList=_;rw[vH,vH]
   rw[e,a d];rfl
def Ca(y:Str):y.length=y.cps.toList.length:=by
 show y.cps.size=_;rw[lO]
def OB:∀j:Nat,j<26->abc.cps.toList[j]?=Á (97+j):=â
def kft:∀y∈pW,y.length<=4:=â
def kdC:∀y∈pW,y.cps.toList.getLast?≠Á 120:=â
def Pq(y:Str):(y++"x").cps.toList=y.cps.toList++[120]:=by
 show(y.cps++("x":Str).cps).toList=_;rw[vH];rfl
def OH(h:y.cps.toList=cs)(b:1<=cs.length)(d:cs.length<=8)(a:∀c∈cs,97<=c/\c<=122)(n:y∉pW):gP y:=
 ⟨by rw[Ca,h];exact b,by rw[Ca,h];exact d,by rw[h];exact a,n⟩
def Vr(h:y.cps.toList=cs)(f:cs.length<=7)(a:∀c∈cs,97<=c/\c<=122):gP (y++"x"):=by
 have e:=Pq y;rw[h] at e;refine⟨by rw[Ca,e,ie];simp,by rw[Ca,e,ie];simp;lia,λc b=>?_,λd=>?_⟩
 .rw[e] at b;rcases iT.mp b with z|z
  .exact a c z
  .rw[g_.mp z];decide
 .have:=kdC _ d;rw[e,List.getLast?_append] at this;exact this À
def GB(st b l:d_)(n o a:Nat)(f:Int)(g:b_)(i:Nat):fO->b_->Prop:=λd e=>∃(c:List Str) (h k m:Option V),d=[Å st,gm n,î abc,gm o,gm a,iX f,Å b,Å l,h,k,m]/\e l=Ð (c.map Ê)/\c.length=i/\(∀y∈c,gP y)/\(∀(j:Nat) y,c[j]?=Á y->y.cps.toList[a]?=Á (97+((f+5*(j:Int)) % 26).toNat))/\hI l (Ý g l []) e
def khA{K:a_}{vs:List V}{H:b_}{Q:fS}{E:f_}(h:Cz K vs H Q E):P_ K (ì í Q) (gW Ga vs) H:=by
 obtain⟨D,n,k,rfl,S,hk,hn,q⟩:=h;refine⟨_,À,D,8,k,À,S,Ã,Ï,Ï,λd H1 d0 d1 S1 B1=>È (Õ _ _ À ?_)⟩;obtain⟨G,aF,z1,z8⟩:∃G:Nat,(1:Int)+d=(G:Int)/\1<=G/\G<=8:=⟨(1+d).toNat,Ã,Ã,Ã⟩;show M6 K _ [Å D,gm n,î abc,Á (Ë ((1:Int)+d)),Ç,Ç,Ç,Ç,Ç,Ç,Ç] H1;rw[aF];refine⟨_,À,_,À,D,_,k+1,À,S1,Ã,Ã,Ã,λa H2 a0 a1 S2 az=>?_⟩;obtain⟨at',rfl⟩:∃j:Nat,a=(j:Int):=Æ a.toNat Ã;have B2:=B1.trans az;refine⟨_,À,D,26,k+2,À,S2,Ã,Ï,Ï,λf H3 f0 f1 S3 aA=>?_⟩;have B3:=B2.trans aA;refine⟨_,À,_,À,Ã,Ã,λb hb=>?_⟩;obtain⟨aJ,aD⟩:=S3.lst;have nb:b≠D:=λz=>by rw[z,aD] at hb;cases hb
 refine BU (λi O H'=>∃(bc:List Nat) (kk:Nat) (o:Option V),O=[Å D,gm n,î abc,gm G,gm at',iX f,Ç,Ç,Ç,Ç,Ç,o]/\
  H' b=Ð ((bc.map one).map Ê)/\bc.length=i/\(∀c∈bc,97<=c/\c<=122)/\iR K H' D kk/\kk<=k+3+i/\hI D H H') ?_ ?_ ?_
 .exact⟨[],k+3,Ç,À,fG,À,Ò,S3.new hb,Ã,B3.new hb⟩
 .rintro i O H' hi ⟨g,kk,o,rfl,R,v,B,S4,ag,B4⟩;have hi:i<G:=by simpa using hi
  refine oO ?_;refine⟨_,À,_,À,_,À,È ⟨_,_,À,À,È (Æ Ï Ï),_,À,D,4,kk,À,S4,Ã,Ï,Ï,λe H5 e0 e1 S5 B5=>È ⟨_,_,À,À,Í (Æ Ã Ã),È ⟨_,_,À,À,_,_,À,À,(by show(0:Int)<26;decide),?_⟩⟩⟩⟩;have x0:0<=(f+7*(0+(i:Int))*e) % 26:=ug _ Ï;have x1:(f+7*(0+(i:Int))*e) % 26<26:=vM _ Ï;refine Bp PU x0 (OB _ Ã) ?_;have x2:((f+7*(0+(i:Int))*e) % 26).toNat<26:=Ã
  generalize ((f+7*(0+(i:Int))*e) % 26).toNat=x at x2;have h5:=B5 b _ nb R;refine⟨_,h5,gY (by rw[fP,fP];lia),g++[97+x],kk+1,_,À,?_,by simp[v],?_,?_,Ã,?_⟩
  .rw[fG,g8,g8];rfl
  .intro y J;rcases iT.mp J with z|z
   .exact B y z
   .rw[g_.mp z];lia
  .exact S5.mono .upd_at h5 (Ne.symm nb)
  .exact λc' u n' h'=>by
    have w:=(B4.trans B5) c' u n' h';have aG:c'≠b:=λz=>by
     have:H c'=none:=B3.free (λz'=>n' z') (by rw[z];exact hb);rw[this] at h';cases h'
    rw[fM aG];exact w
 .rintro O H4 ⟨g,kk,o,rfl,R,v,B,S4,ag,B4⟩;have v:g.length=G:=by simpa using v
  have ag:kk<=k+3+G:=by simpa using ag
  refine Æ mU (λl hl=>?_);have aq:b≠l:=f6 R hl;obtain⟨aK,aE⟩:=S4.lst;have ar:D≠l:=f6 aE hl;have Hl:H l=none:=B4.free (Ne.symm ar) hl;refine⟨_,À,_,À,Ã,Ã,sP (GB D b l n G at' f H4) ⟨[],Ç,Ç,Ç,À,fG,À,Ò,Ò,.refl _ _⟩ ?_ ?_⟩
  .rintro i O H5 hi ⟨ys,o1,o2,o3,rfl,p,m,ak,aa,B5⟩;have hi:i<n:=by simpa using hi
   have I:H5 b=Ð ((g.map one).map Ê):=B5 b _ aq (by rw[fM aq];exact R);refine⟨_,À,_,À,_,À,È ⟨b,_,À,Ù I,λp1 ah=>?_⟩⟩;rw[vW,<-uY,<-uY];have L:b≠p1:=f6 I ah;have r:l≠p1:=f6 p ah;refine⟨_,À,_,À,_,À,È ⟨_,_,À,À,È (Æ Ï Ï),È ⟨_,_,À,À,_,_,À,À,(by show(0:Int)<26;decide),?_⟩⟩⟩;have aC:(0:Int)+(i:Int)=(i:Int):=Ã
   rw[aC];have x0:0<=(f+5*(i:Int)) % 26:=ug _ Ï;have x1:(f+5*(i:Int)) % 26<26:=vM _ Ï;obtain⟨c,hc⟩:∃c,c=97+((f+5*(i:Int)) % 26).toNat:=Æ _ À;refine Bp PU x0 (by rw[OB _ Ã,<-hc]) ⟨kK,λp2 U=>?_⟩;have ab:p1≠p2:=f6 fG U;have ae:b≠p2:=f6 (by rw[fM L];exact I) U;have C:l≠p2:=f6 (by rw[fM r];exact p) U;refine Í (Í (È ⟨p1,p2,_,_,À,À,by rw[fM ab,fG],fG,?_,λp3 X=>?_⟩))
   .have:=gY (n:=9) Ï;rw[fP,fP,kz];show min at' g.length+1<=gM;lia
   have aI:p1≠p3:=f6 (by rw[fM ab];exact fG) X;have av:b≠p3:=f6 (by rw[fM ae,fM L];exact I) X;have M:l≠p3:=f6 (by rw[fM C,fM r];exact p) X;refine Õ _ À _ (È ⟨_,_,À,À,_,À,È ⟨b,_,À,Ù (by rw[fM av,fM ae,fM L];exact I),λp4 ai=>?_⟩⟩);rw[show((at':Int)+1)=((at'+1:Nat):Int) by lia,Ct,<-BP,<-BP];have au:p3≠p4:=f6 fG ai;have af:l≠p4:=f6 (by rw[fM M,fM C,fM r];exact p) ai;refine Í (Í (È ⟨p3,p4,_,_,À,À,by rw[fM au,fG],fG,?_,λp5 ao=>?_⟩))
   .have:=gY (n:=100) Ï;rw[ie,fP,fP,fP,fP,kz,tu];show min at' g.length+1+(g.length-(at'+1))<=gM;lia
   have aw:l≠p5:=f6 (by rw[fM af,fM M,fM C,fM r];exact p) ao;have ew:((g.take at').map one).map Ê++[è ⟨#[c]⟩]++((g.drop (at'+1)).map one).map Ê=((g.take at'++[c]++g.drop (at'+1)).map one).map Ê:=by rw[g8,g8,g8,g8];rfl
   rw[ew];have wl:Ô (g.take at'++[c]++g.drop (at'+1))=G:=by rw[ie,ie,kz,tu,pk];lia
   have s:∀y∈g.take at'++[c]++g.drop (at'+1),97<=y/\y<=122:=λy J=>by
    rcases iT.mp J with z|z
    .rcases iT.mp z with z|z
     .exact B y (vJ z)
     .rw[g_.mp z];lia
    .exact B y (Bs z)
   have Z:(g.take at'++[c]++g.drop (at'+1))[at']?=Á c:=by
    have tl:Ô (g.take at')=at':=by rw[kz];lia
    rw[sM,tr Ã,tl,yc];rfl
   generalize g.take at'++[c]++g.drop (at'+1)=w at wl s Z ⊢;have B6:=((((B5.new (o:=.lst (((g.take at').map one).map Ê)) ah).new (o:=.lst [è ⟨#[c]⟩]) U).new (o:=.lst (((g.take at').map one).map Ê++[è ⟨#[c]⟩])) X).new (o:=.lst (((g.drop (at'+1)).map one).map Ê)) ai).new (o:=.lst ((w.map one).map Ê)) ao;have h6:(Ý (Ý (Ý (Ý (Ý H5 p1 (((g.take at').map one).map Ê)) p2 [è ⟨#[c]⟩]) p3 (((g.take at').map one).map Ê++[è ⟨#[c]⟩])) p4 (((g.drop (at'+1)).map one).map Ê)) p5 ((w.map one).map Ê)) l=Ð (ys.map Ê):=by
    rw[fM aw,fM af,fM M,fM C,fM r];exact p
   have g6:(Ý (Ý (Ý (Ý (Ý H5 p1 (((g.take at').map one).map Ê)) p2 [è ⟨#[c]⟩]) p3 (((g.take at').map one).map Ê++[è ⟨#[c]⟩])) p4 (((g.drop (at'+1)).map one).map Ê)) p5 ((w.map one).map Ê)) p5=Ð ((w.map one).map Ê):=fG;generalize (upd (upd (upd (upd (upd H5 p1 (.lst (((g.take at').map one).map V.str))) p2 (.lst [V.str ⟨#[c]⟩])) p3 (.lst (((g.take at').map one).map V.str++[V.str ⟨#[c]⟩]))) p4 (.lst (((g.drop (at'+1)).map one).map V.str))) p5 (.lst ((w.map one).map V.str)))=H6 at B6 h6 g6 ⊢;have ax:((w.map one).map (·.length)).sum=w.length:=by
    rw[pJ,show((λx:Str=>x.length) ∘ one)=λ_=>1 from À,List.map_const',List.sum_replicate_nat,Nat.mul_one]
   refine⟨À,_,À,"",p5,w.map one,À,À,Ù g6,?_,?_⟩
   .have e:("":Str).length=0:=â
    rw[ax,e,Nat.mul_zero];lia
   have Y:=kad w;generalize Txt.join "" (w.map one)=aj at Y ⊢;have nl:aj.length=G:=by rw[Ca,Y,wl]
   have P:∀(nw:Str) (H7:b_),gP nw->nw.cps.toList[at']?=Á c->hI l (Ý H4 l []) H7->H7 l=Ð (ys.map Ê)->NK K {nx:=GB D b l n G at' f H4 (i+1),rt:=Q,ct:=GB D b l n G at' f H4 (i+1),bk:=NJ K (ì í Q)} [Å D,gm n,î abc,gm G,gm at',iX f,Å b,Å l,Á (Ë (i:Int)),Å p5,î nw] H7:=λnw H7 w1 w2 B7 h7=>by
    refine⟨_,À,È ⟨À,_,Ù h7⟩,_,À,l,_,_,À,À,h7,gY (by rw[fP];lia),?_⟩;refine⟨ys++[nw],_,_,_,À,?_,by simp[m],?_,?_,B7.trans .upd_at⟩
    .rw[fG,g8];rfl
    .intro y J;rcases iT.mp J with z|z
     .exact ak y z
     .rw[g_.mp z];exact w1
    .intro j y J;by_cases cj:j<ys.length
     .rw[uc cj] at J;exact aa j y J
     .have aB:j=i:=by
       have:=(gR.mp J).1;rw[ie,pk] at this;lia
      subst aB;rw[tr Ã,m,yc] at J;cases J;rw[<-hc];exact w2
   refine⟨_,À,D0,λt ht=>⟨t,_,À,Í (fR.of fG),À,À,_,À,?_⟩⟩;have aH:l≠t:=f6 h6 ht;have B7:=B6.new (o:=.tup [è "part",è "call",è "say",è "jump",è "test",è "give"]) ht;have h7:(Ā H6 t [è "part",è "call",è "say",è "jump",è "test",è "give"]) l=Ð (ys.map Ê):=by rw[fM aH];exact h6
   have xl:("x":Str).length=1:=â
   have ay:(aj++"x").cps.toList[at']?=Á c:=by
    rw[Pq,Y,uc (by rw[wl];lia)];exact Z
   show if hU (Ä aj) (pW.map Ê)=true then _ else _;rw[rq];refine gz (λT=>?_) (λT=>?_)
   .refine Ú (Í (È ⟨_,_,À,À,by rw[xl];have:=gY (n:=100) Ï;lia,?_⟩));have z4:=kft _ T;exact P _ _ (Vr Y (by rw[wl];lia) s) ay B7 h7
   .refine⟨_,À,_,_,À,À,_,À,gz (λh8=>?_) (λ_=>?_)⟩
    .refine Õ _ À _ (È ⟨_,_,À,À,_,_,À,À,(by show(0:Int)<3;decide),ñ À _ À (gz (λ_=>?_) (λ_=>?_))⟩)
     .refine Ú (Í (È ⟨_,_,À,À,by rw[xl];have:=gY (n:=100) Ï;lia,?_⟩));exact P _ _ (Vr Y (by rw[wl];lia) s) ay B7 h7
     .exact P _ _ (OH Y Ã Ã s T) (by rw[Y];exact Z) B7 h7
    .exact i4 (P _ _ (OH Y Ã Ã s T) (by rw[Y];exact Z) B7 h7)
  .rintro O H5 ⟨ys,o1,o2,o3,rfl,p,m,ak,aa,B5⟩;have m:ys.length=n:=by simpa using m
   have nd:ys.Nodup:=by
    rw[List.Nodup,DJ];intro i j hi hj lt e;have e1:=aa i _ (gF hi);have e2:=aa j _ (gF hj);rw[e,e2] at e1;have e3:=ď e1;have a1:0<=(f+5*(i:Int)) % 26:=ug _ Ï;have a2:0<=(f+5*(j:Int)) % 26:=ug _ Ï;lia
   refine Ú (q l ys kk H5 Hl m nd ak p ((S4.new hl).mono B5 fG ar) Ã (B4.through hl B5))
structure sv(rl:d_)(H:b_)(R:gG->Prop)(n:Nat)(H':b_)(rvs:É V)(rs:É gG):Prop where
 at_:H' rl=Ð rvs
 all:ia (kh H') rvs rs
 len:rs.length=n
 rough:∀r∈rs,R r
 but:hI rl H H'
def sv.vlen(m:sv b H R n H' a rs):a.length=n:=m.all.len.trans m.len
def sv.grown(m:sv d H R n H' a rs)(s:gJ H' c):sv d H R n c a rs:=
 ⟨s _ _ m.at_,m.all.imp λ_ _ z=>z.mono (.of_same s),m.len,m.rough,λb o e h=>s _ _ (m.but b o e h)⟩
def sv.set(j:Nat)(m:sv b H R n H' a rs)(q:kh H' v r)(e:R r) :
  sv b H R n (Ý H' b (a.set j v)) (a.set j v) (rs.set j r):=by
 have t:gZ H' (Ý H' b (a.set j v)):=(gZ.refl H').lst m.at_;refine⟨fG,(m.all.set q).imp λ_ _ z=>z.mono t,by rw[uV];exact m.len,λd c=>?_,m.but.trans .upd_at⟩;rcases DI c with z|z
 .exact m.rough d z
 .rw[z];exact e
def sv.get(m:sv f H R n H' a rs)(d:j<n):∃p xs r,a[j]?=Á (Â p)/\rs[j]?=Á r/\H' p=ä (Ä (pX r)::xs)/\kh H' (Â p) r/\R r:=by
 obtain⟨v,r,c,b,q⟩:=m.all.get (i:=j) (by rw[m.len];exact d);obtain⟨p,xs,rfl,e⟩:=q.ref;exact⟨p,xs,r,c,b,e,q,m.rough r (iS b)⟩
def U0(n:Nat)(rs:É gG):Prop:=∃r,rs[n-1]?=Á r/\oG r=true
def kjQ(a:Bool)(rs:É gG):Prop:=a=true->∃r,rs[0]?=Á r/\xy r=true
def BY(h:pX r="jump"):∃c,r=.jump c:=by
 cases r with
 |jump c=>exact Æ c À
 |num x z=>exact Ì h (by show ¬("num":Str)="jump";decide +kernel)
 |op x s a b=>exact Ì h (by show ¬("op":Str)="jump";decide +kernel)
 |call x k d=>exact Ì h (by show ¬("call":Str)="jump";decide +kernel)
 |say a=>exact Ì h (by show ¬("say":Str)="jump";decide +kernel)
 |test a c=>exact Ì h (by show ¬("test":Str)="jump";decide +kernel)
 |give a=>exact Ì h (by show ¬("give":Str)="jump";decide +kernel)
def kjs(h:pX r="num"):xy r=true:=by
 cases r with
 |num x z=>rfl
 |jump c=>exact Ì h (by show ¬("jump":Str)="num";decide +kernel)
 |op x s a b=>exact Ì h (by show ¬("op":Str)="num";decide +kernel)
 |call x k d=>exact Ì h (by show ¬("call":Str)="num";decide +kernel)
 |say a=>exact Ì h (by show ¬("say":Str)="num";decide +kernel)
 |test a c=>exact Ì h (by show ¬("test":Str)="num";decide +kernel)
 |give a=>exact Ì h (by show ¬("give":Str)="num";decide +kernel)
def kjq(h:hU (Ä (pX r)) [è "jump",è "give"]=true):oG r=true:=by
 cases r with
 |num x z=>exact Ì h (by show ¬hU (Ä "num") [è "jump",è "give"]=true;decide +kernel)
 |op x s a b=>exact Ì h (by show ¬hU (Ä "op") [è "jump",è "give"]=true;decide +kernel)
 |call x k c=>exact Ì h (by show ¬hU (Ä "call") [è "jump",è "give"]=true;decide +kernel)
 |say a=>exact Ì h (by show ¬hU (Ä "say") [è "jump",è "give"]=true;decide +kernel)
 |test a d=>exact Ì h (by show ¬hU (Ä "test") [è "jump",è "give"]=true;decide +kernel)
 |_=>rfl
def AD(h:è a=è b):a=b:=by cases h;rfl
def F9(h:∀r,rs[n]?=Á r->oP r=false):stp rs n=n:=by
 unfold stp;cases e:rs[n]? with
 |none=>rfl
 |some r=>cases r with
  |jump t=>exact Ì (h _ e) (by show ¬true=false;decide)
  |_=>rfl
theorem EM(h:∀r,rs[n]?=Á r->oP r=false):∀k,runJ rs k n=n
 |0=>rfl
 |k+1=>by
  show runJ rs k (stp rs n)=n;rw[F9 h];exact EM h k
theorem Cc(rs:É gG):∀(k n:Nat),runJ rs (k+1) n=stp rs (runJ rs k n)
 |0,n=>rfl
 |k+1,n=>by
  show runJ rs (k+1) (stp rs n)=stp rs (runJ rs k (stp rs n));exact Cc rs k (stp rs n)
def kfx(i:oP b=false)(g:j<rs.length):∀(k m:Nat),(∀r,rs[runJ rs k m]?=Á r->oP r=false)->∀r,(rs.set j b)[runJ (rs.set j b) k m]?=Á r->oP r=false:=by
 have a:∀r,(rs.set j b)[j]?=Á r->oP r=false:=λr e=>by
  rw[ph g] at e;cases e;exact i
 intro k
 induction k with
 |zero=>
  intro m h r e;by_cases c:j=m
  .subst c;exact a r e
  .have d:(rs.set j b)[m]?=Á r:=e;rw[rW c] at d;exact h r d
 |succ k l=>
  intro m h r e;by_cases c:j=m
  .subst c;rw[EM a] at e;exact a r e
  .have f:stp (rs.set j b) m=stp rs m:=by unfold stp;rw[rW c]
   have d:(rs.set j b)[runJ (rs.set j b) k (stp (rs.set j b) m)]?=Á r:=e;rw[f] at d;exact l (stp rs m) h r d
def Cj(h:¬pX r="jump"):oP r=false:=by
 cases r<;>first|rfl|exact Ì À h
def Gz(e nm:d_)(a:Bool)(H:b_)(R:gG->Prop)(n i:Nat):fO->b_->Prop:=λd f=>∃(c:List V) (b:List gG) (g h j:Option V),d=[Å e,Å nm,Á (.bl a),Á (Ë ((n-1:Nat):Nat)),g,h,j]/\sv e H R n f c b/\U0 n b/\kjQ a b/\∀m,m<i->∀r,b[runJ b n m]?=Á r->oP r=false
def kfm{K:a_}{vs:List V}{H:b_}{Q:fS}{E:f_}(h:Fq K vs H Q E):O4 K (ì í Q) (gW Oz vs) H:=by
 obtain⟨C,P,bare,a,g,ys,R,rfl,af,hA,aq,ak,hR,av,L,ag,ax,aw,au,aC,ab,q⟩:=h;obtain⟨n,hn⟩:∃n,n=g.length:=Æ _ À;have n1:1<=n:=by rw[hn];exact sJ.mpr aq
 have aE:n<=100:=by rw[hn];exact ak
 have M0:sv C H R n H a g:=⟨af,hA,hn.symm,hR,.refl _ _⟩;refine⟨_,À,_,_,À,È ⟨_,Ù af,À⟩,_,_,À,À,?_⟩;show M5 K _ [Å C,Å P,Á (.bl bare),Á (Ë (((a.length:Nat):Int)-1)),Ç,Ç,Ç] H;rw[show((a.length:Nat):Int)-1=((n-1:Nat):Nat) by rw[M0.vlen];lia];have J:∀H',Gz C P bare H R n 0 [Å C,Å P,Á (.bl bare),Á (Ë ((n-1:Nat):Nat)),Ç,Ç,Ç] H'->M3 K (ì í Q) [Å C,Å P,Á (.bl bare),Á (Ë ((n-1:Nat):Nat)),Ç,Ç,Ç] H':=λH' P0=>by
  obtain⟨aF,aG,_,_,_,_,MM,_,_,_⟩:=id P0;refine⟨_,À,_,_,À,È ⟨_,Ù MM.at_,À⟩,_,À,Ã,by rw[MM.vlen];lia,sP (λi=>Gz C P bare H R n i) P0 ?_ ?_⟩
  .rintro i ah H1 hi ⟨a,g,o4,o5,o6,rfl,M,hE,hN,hJ⟩;have hi:i<n:=by rw[MM.vlen] at hi;simpa using hi
   have e0:(0:Int)+(i:Int)=((i:Nat):Int):=Ã
   rw[e0];refine Ú ?_;refine È ⟨_,À,C,À,Æ _ (Ù M.at_),wZ (xs:=a) (λj σ H'=>∃(S:Nat) (o:Option V),σ=[Å C,Å P,Á (.bl bare),Á (Ë ((n-1:Nat):Nat)),gm i,gm S,o]/\H'=H1/\S<n/\(∀r,g[i]?=Á r->xy r=true->S=i)/\S=runJ g j i)
    ⟨i,o6,À,À,hi,λ_ _ _=>À,À⟩ (λ_ _ _ _ ⟨_,_,_,e,_⟩=>by rw[e];exact Ù M.at_) ?_ ?_⟩
   .rintro j x ah Z hx ⟨S,o,rfl,rfl,Y,hk,f⟩;obtain⟨p,xs,r,e1,G,hp,U,X⟩:=M.get Y;have u:a[((S:Nat):Int).toNat]?=Á (Â p):=by simpa using e1
    refine Õ _ À _ (ke (Ù M.at_) Ã u (û hp (ñ À _ À (gz (λO=>?_) (λO=>?_)))))
    .obtain⟨t',rfl⟩:=BY (AD O);obtain⟨p',e3,ay⟩:=U;cases e3;refine Õ _ À _ (ke (Ù M.at_) Ã u (û ay ?_));refine⟨t',_,À,À,by rw[hn];exact ag _ X,λr hr aa=>?_,?_⟩
     .have:=hk r hr aa;rw[this] at G;rw[G] at hr;cases hr;cases aa
     .rw[Cc,<-f];unfold stp;rw[G]
    .refine⟨S,_,À,À,Y,hk,?_⟩;rw[Cc,<-f,F9];intro r' d;rw[G] at d;cases d;exact Cj λz=>O (by rw[z])
   .rintro ah Z ⟨S,o,rfl,rfl,Y,hk,f⟩;rw[M.vlen] at f;obtain⟨p,xs,r,e1,G,hp,U,X⟩:=M.get Y;have u:a[((S:Nat):Int).toNat]?=Á (Â p):=by simpa using e1
    refine Õ _ À _ (ke (Ù M.at_) Ã u (û hp (ñ À _ À (gz (λO=>?_) (λO=>⟨a,g,_,_,_,À,M,hE,hN,λm hm=>?_⟩)))));rotate_left
    .by_cases cm:m<i
     .exact hJ m cm
     .have:m=i:=Ã
      subst this;intro r' d;rw[<-f,G] at d;cases d;exact Cj λz=>O (by rw[z])
    obtain⟨t',rfl⟩:=BY (AD O);refine Æ ka (λk az=>Æ ka (λb w=>Æ ka (λl hl=>?_)));have ar:k≠b:=f6 fG w;have aA:k≠l:=f6 (by rw[fM ar];exact fG) hl;have aB:b≠l:=f6 fG hl;have sm:gJ Z (Ý (Ā (Ā Z k [è "say",è ""]) b [è "give",è ""]) l [V.ref k,V.ref b]):=(((Ø Z).new az).new w).new hl;have M2:=M.grown sm;have ae:(Ý (Ā (Ā Z k [è "say",è ""]) b [è "give",è ""]) l [V.ref k,V.ref b]) l=Ð [V.ref k,V.ref b]:=fG;have h1:(Ý (Ā (Ā Z k [è "say",è ""]) b [è "give",è ""]) l [V.ref k,V.ref b]) k=ä [è "say",è ""]:=by rw[fM aA,fM ar,fG]
    have h2:(Ý (Ā (Ā Z k [è "say",è ""]) b [è "give",è ""]) l [V.ref k,V.ref b]) b=ä [è "give",è ""]:=by rw[fM aB,fG]
    generalize (upd (upd (upd Z k (.tup [V.str "say",V.str ""])) b (.tup [V.str "give",V.str ""])) l (.lst [V.ref k,V.ref b]))=H3 at M2 ae h1 h2 ⊢;have aj:∀(v:V) (r:gG),kh H3 v r->R r->oP r=false->(i=n-1->oG r=true)->oW ø (fI 4) sj v [Å C,Å P,Á (.bl bare),Á (Ë ((n-1:Nat):Nat)),gm i,gm S,o] H3 (Gz C P bare H R n (i+1)):=λv r hv hr hj he=>by
     refine Õ _ À _ (uH M2.at_ Ã (by rw[M2.vlen];simpa using hi) ?_);have ei:((i:Nat):Int).toNat=i:=Ò
     rw[ei];refine⟨_,g.set i r,_,_,_,À,M2.set i hv hr,?_,λI=>?_,λm hm=>?_⟩
     .obtain⟨r1,B,D⟩:=hE;by_cases c:i=n-1
      .exact⟨r,by rw[<-c,ph (by rw[M2.len];exact hi)],he c⟩
      .exact Î r1 (by rw[rW c];exact B) D
     .obtain⟨r0,B,D⟩:=hN I;have c:i≠0:=λc=>by
       subst c;have:=hk r0 B D;subst this;rw[G] at B;cases B;cases D
      exact Î r0 (by rw[rW c];exact B) D
     .have il:i<g.length:=by rw[M2.len];exact hi
      by_cases cm:m<i
      .exact kfx hj il n m (hJ m cm)
      .have:m=i:=Ã
       subst this;have ai:∀r',(g.set m r)[m]?=Á r'->oP r'=false:=λr' e=>by rw[ph il] at e;cases e;exact hj
       intro r' d;rw[EM ai] at d;exact ai r' d
    refine Õ _ À _ (È (Æ À ?_));refine Í (Ú ?_);by_cases c:i=n-1
    .have ec:æ (V.int (i:Nat)=V.int ((n-1:Nat):Nat))=true:=by rw[c];exact decide_eq_true À
     rw[ec];exact ke (Ù ae) Ï À (aj _ (.give "") (Ą b h2) L À λ_=>À)
    .have ec:æ (V.int (i:Nat)=V.int ((n-1:Nat):Nat))=false:=decide_eq_false (λz=>c (by injection z with z;lia));rw[ec];exact ke (Ù ae) Ï À (aj _ (.say "") (Ą k h1) av À λz=>Ì z c)
  .rintro ah H1 ⟨a,aD,o4,o5,o6,rfl,M,hE,hN,hJ⟩;rw[MM.vlen,sL] at hJ;refine Ú (q a aD H1 M.at_ M.all (M.len.trans hn) M.rough ?_ ?_ (by intro m hm;rw[M.len] at hm ⊢;exact hJ m hm) M.but)
   .obtain⟨r,B,D⟩:=hE;rw[wG,M.len,B,pL,D]
   .intro I;obtain⟨r,B,D⟩:=hN I;rw[Hr,B,pL,D]
 have s:∀(H':b_) (a:List V) (g:List gG),sv C H R n H' a g->U0 n g->M4 K (ì í Q) [Å C,Å P,Á (.bl bare),Á (Ë ((n-1:Nat):Nat)),Ç,Ç,Ç] H':=λH' a g M hE=>by
  refine Õ _ À bare (mD (λI=>?_) (λI=>?_))
  .have n2:2<=n:=by rw[hn];exact ab I
   obtain⟨p,xs,r,e1,G,hp,U,X⟩:=M.get (j:=0) Ã;refine Ú (ke (Ù M.at_) Ï e1 (û hp (ñ À _ À (nN (λO=>?_) (λO=>?_)))))
   .refine⟨_,À,_,_,À,À,_,À,gz (λ_=>?_) (λhz=>Ì (show(0:Int)<((n-1:Nat):Nat) by lia) hz)⟩;have ao:=M.but P _ aC ax;obtain⟨y,yr,rfl⟩:∃y yr,ys=y::yr:=List.exists_cons_of_ne_nil aw;refine Ú (ke (Ù ao) Ï À ⟨kM,λb w=>?_⟩);have M2:=M.grown ((Ø H').new (o:=.tup [è "num",è y,V.int 3]) w);refine Ú (uH M2.at_ Ï (by rw[M2.vlen];exact n1) (J _ ⟨_,g.set 0 (.num y 3),_,_,_,À,M2.set 0 (Ą b fG) (au y pH I),?_,λ_=>⟨.num y 3,ph (by rw[M.len];exact n1),À⟩,λ_ z=>Ì z (mH _)⟩));obtain⟨r1,B,D⟩:=hE;exact Î r1 (by rw[rW Ã];exact B) D
   .exact i4 (J _ ⟨a,g,_,_,_,À,M,hE,λ_=>Î r G (kjs (AD O)),λ_ z=>Ì z (mH _)⟩)
  .exact i4 (J _ ⟨a,g,_,_,_,À,M,hE,λT=>(by rw[I] at T;cases T),λ_ z=>Ì z (mH _)⟩)
 obtain⟨p,xs,r,e1,G,hp,U,X⟩:=M0.get (j:=n-1) Ã;have u:a[((n-1:Nat):Int).toNat]?=Á (Â p):=by simpa using e1
 refine Õ _ À _ (ke (Ù af) Ã u (û hp ⟨ka,λt ht=>⟨t,_,À,Í (fR.of fG),À,À,_,À,?_⟩⟩));have M1:=M0.grown ((Ø H).new (o:=.tup [è "jump",è "give"]) ht);refine mD (λI=>?_) (λI=>?_)
 .refine Æ ka (λb w=>?_);have M2:=M1.grown ((Ø _).new (o:=.tup [è "give",è ""]) w);refine Õ _ À _ (uH M2.at_ Ã (by rw[M2.vlen];lia) ?_);have ei:((n-1:Nat):Int).toNat=n-1:=Ò
  rw[ei];exact s _ _ _ (M2.set (n-1) (r:=.give "") (Ą b fG) L) ⟨.give "",ph (by rw[M0.len];lia),À⟩
 .refine s _ _ _ M1 ⟨r,G,kjq ?_⟩;have T:(! hU (Ä (pX r)) [è "jump",è "give"])=false:=I;simpa using T
def wC(b:d_)(H:b_)(v:V)(ks:Ñ):Prop:=∃a,v=Â a/\a≠b/\H a=Ð (ks.map Ê)
def wC.same(h:wC b H v ks)(s:Ö H'):wC b H' v ks:=by
 obtain⟨a,e,n,h⟩:=h;exact⟨a,e,n,s _ _ h⟩
def wC.upd(h:wC b H v ks):wC b (upd H b o) v ks:=by
 obtain⟨a,e,n,h⟩:=h;exact⟨a,e,n,by rw[fM n];exact h⟩
def so(kss:É Ñ):Nat:=(kss.map tG).sum
theorem Pd:∀{kss:List (List Str)} {m:Nat} {ks kp:List Str},kss[m]?=Á ks->so (kss.set m kp)+ks.length=so kss+kp.length
 |[],m,ks,kp,h=>by simp at h
 |a::r,0,ks,kp,h=>by
  simp at h;subst h;show kp.length+so r+a.length=a.length+so r+kp.length;lia
 |a::r,m+1,ks,kp,h=>by
  have b:=Pd (kss:=r) (m:=m) (ks:=ks) (kp:=kp) (by simpa using h);show a.length+so (r.set m kp)+ks.length=a.length+so r+kp.length;lia
structure oJ(kl:d_)(H:b_)(ys ps:Ñ)(w:Str)(n:Nat)(H':b_)(refs:É V)(kss:É Ñ):Prop where
 at_:H' kl=Ð refs
 all:ia (wC kl H') refs kss
 len:kss.length=n
 wit:∀(i:Nat) ks,kss[i]?=Á ks->ks.length<=100/\(∀y∈ks,y∈ys)/\(w∈ks\/(i=0/\ps=[]))
 same:Ö H'
def oJ.grown(k:oJ c H ys ps w n H' a kss)(s:gJ H' b):oJ c H ys ps w n b a kss:=
 ⟨s _ _ k.at_,k.all.imp λ_ _ z=>z.same s,k.len,k.wit,k.same.trans s⟩
def oJ.vlen(k:oJ b H ys ps w n H' a kss):a.length=n:=k.all.len.trans k.len
def oJ.get(k:oJ c H ys ps w n H' b kss)(g:j<n):∃a ks,b[j]?=Á (Â a)/\kss[j]?=Á ks/\a≠c/\H' a=Ð (ks.map Ê):=by
 obtain⟨v,ks,d,e,a,rfl,h,f⟩:=k.all.get (i:=j) (by rw[k.len];exact g);exact⟨a,ks,d,e,h,f⟩
def oJ.set(k:oJ f H ys ps w n H' d kss)(g:H f=none)(j:a≠f)(l:H' a=Ð (kp.map Ê))
  (q:kp.length<=100/\(∀y∈kp,y∈ys)/\(w∈kp\/(m=0/\ps=[]))):oJ f H ys ps w n (Ý H' f (d.set m (Â a))) (d.set m (Â a)) (kss.set m kp):=by
 refine⟨fG,ia.set (k.all.imp λ_ _ z=>z.upd) ⟨a,À,j,by rw[fM j];exact l⟩,by rw[uV];exact k.len,λi r e=>?_,λb o h=>?_⟩
 .by_cases c:m=i
  .subst c;have p:m<kss.length:=by have:=(gR.mp e).1;rw[uV] at this;exact this
   rw[ph p] at e;cases e;exact q
  .rw[rW c] at e;exact k.wit i r e
 .rw[fM (f6 h g)];exact k.same _ _ h
def LP{a:Type}(p:a->Bool)(l:É a)(i:Nat)(v:a)(h:l[i]?=Á v):(l.take (i+1)).filter p=(l.take i).filter p++(if p v=true then[v] else[]):=by
 rw[mq,h,Bv];cases b:p v<;>simp[b]
def kgC(h:hU (Ä (pX r)) [è "num",è "op",è "call"]=true):∃x,pQ r=Ä x:=by
 cases r with
 |num x z=>exact Æ x À
 |op x s a b=>exact Æ x À
 |call x k d=>exact Æ x À
 |jump c=>exact Ì h (by show ¬hU (Ä "jump") [è "num",è "op",è "call"]=true;decide +kernel)
 |say a=>exact Ì h (by show ¬hU (Ä "say") [è "num",è "op",è "call"]=true;decide +kernel)
 |test a c=>exact Ì h (by show ¬hU (Ä "test") [è "num",è "op",è "call"]=true;decide +kernel)
 |give a=>exact Ì h (by show ¬hU (Ä "give") [è "num",è "op",è "call"]=true;decide +kernel)
def khI(h:kh H (Â p) r)(e:pQ r=Ä x):∃xs,H p=ä (Ä (pX r)::Ä x::xs):=by
 cases r with
 |call y k f=>cases e;obtain⟨c,q,b,h,_⟩:=h;cases b;exact Æ _ h
 |jump d=>cases e
 |say a=>cases e
 |test a d=>cases e
 |give a=>cases e
 |_=>cases e;obtain⟨c,b,h⟩:=h;cases b;exact Æ _ h
def keS{ys:List Str}{cs:List Nat}{rs:List gG}{i m j:Nat}{r:gG}(f:rs[i]?=Á r)(g:xA ys cs rs.length r)(d:rs.getLast?.map oG=Á true)(l:(ma i r)[j]?=Á m):m<rs.length:=by
 have o:i<rs.length:=(gR.mp f).1;have nx:oG r=false->i+1<rs.length:=λk=>by
  by_cases c:i+1<rs.length
  .exact c
  .have h:i=rs.length-1:=Ã
   rw[wG,<-h,f,pL,k] at d;cases d
 have b:=iS l;cases r with
 |jump n=>rw[g_.mp b];exact g
 |test a n=>
  rcases g7.mp b with e|e
  .rw[e];exact nx À
  .rw[g_.mp e];exact g.2
 |give a=>cases b
 |_=>rw[g_.mp b];exact nx À
def AR(rs:É gG)(i:Nat)(kss:É Ñ):Prop:=∀(n m:Nat) r b a,n<i->rs[n]?=Á r->m∈ma n r->kss[n]?=Á b->kss[m]?=Á a->∀y∈a,y∈b\/pQ r=Ä y
def vy(ps:Ñ)(kss:É Ñ):Prop:=∀a,kss[0]?=Á a->∀y∈a,y∈ps
def vy.set(h:vy ps kss)(e:kss[m]?=Á b)(s:∀y∈kp,y∈b):vy ps (kss.set m kp):=by
 intro g a y d;by_cases c:m=0
 .subst c;have f:0<kss.length:=(gR.mp e).1;rw[ph f] at a;cases a;exact h b e y (s y d)
 .rw[rW c] at a;exact h g a y d
def yY(m nm l e:d_)(H:b_)(ys ps:Ñ)(w:Str)(rs:É gG)(B i:Nat):fO->b_->Prop:=λd f=>∃(c:List V) (b:List (List Str)) (a:Bool) (g h j k:Option V),d=[Å m,Å nm,Å l,Å e,Á (.bl a),g,h,j,k]/\oJ e H ys ps w rs.length f c b/\2*so b+a.toNat<=B/\vy ps b/\(a=false->AR rs i b)
def GU(t nm s h:d_)(H:b_)(ys ps:Ñ)(w:Str)(rs:É gG)(B i:Nat)(n l:d_)(o:Ñ)(p:É Nat)(a:É Ñ)(j:Nat):fO->b_->Prop:=λf e=>∃(d:List V) (c:List (List Str)) (b:Bool) (q r:Option V),f=[Å t,Å nm,Å s,Å h,Á (.bl b),gm i,Å n,q,r]/\oJ h H ys ps w rs.length e d c/\2*so c+b.toNat<=B/\e n=Ð (o.map Ê)/\e l=Ð (gu p)/\vy ps c/\
 (b=false->c=a/\AR rs i a/\∀g,g<j->∀m k,p[g]?=Á m->a[m]?=Á k->∀y∈k,y∈o)
def mV(a b:d_)(H H':b_):Prop:=∀c o,c≠a->c≠b->H c=Á o->H' c=Á o
def mV.refl(a b:d_)(H:b_):mV a b H H:=λ_ _ _ _ h=>h
def mV.trans(x:mV a b H d)(y:mV a b d e):mV a b H e:=λc o n m h=>y c o n m (x c o n m h)
def mV.of_l(x:hI a H H'):mV a b H H':=λc o n _ h=>x c o n h
def mV.of_r(x:hI b H H'):mV a b H H':=λc o _ m h=>x c o m h
def mV.upd_r:mV a b H (upd H b o):=.of_r .upd_at
def mV.tp(x:mV a b H H')(c:H a=Ð xs)(d:H b=Ð ys):gZ H H':=λp e h=>
 x p _ (by rintro rfl;rw[h] at c;cases c) (by rintro rfl;rw[h] at d;cases d) h
def mV.but(x:hI a H d)(f:H b=none)(y:mV a b d e):hI a H e:=λc o n h=>y c o n (f6 h f) (x c o n h)
def ov:V->Nat
 |.str s=>if s="" then 1 else 0
 |.ref _=>4
 |_=>0
def yW(ks:Ñ)(H:b_):V->Prop
 |.str s=>s=""->ks≠[]
 |.int _=>True
 |.ref q=>∃a:List Str,H q=ä (a.map Ê)/\a.length<=4/\ks≠[]
 |_=>False
def yW.mono(h:yW ks H x)(t:gZ H H'):yW ks H' x:=by
 cases x with
 |str s=>exact h
 |int i=>exact h
 |ref q=>obtain⟨a,b,c⟩:=h;exact Î a (t _ _ b) c
 |_=>exact h.elim
def tY(ks:Ñ)(H:b_)(y x:V):Prop:=match x with
 |.str s=>(s=""->∃z∈ks,y=Ä z)/\(s≠""->y=Ä s)
 |.int i=>y=Ë i
 |.ref q=>∃(c a:List Str) (d:d_),H q=ä (c.map Ê)/\y=Â d/\H d=ä (a.map Ê)/\a.length=c.length/\∀b∈a,b∈ks
 |_=>False
def tY.mono(h:tY ks H y x)(t:gZ H H'):tY ks H' y x:=by
 cases x with
 |str s=>exact h
 |int i=>exact h
 |ref q=>obtain⟨a,b,g,c,d,e,f⟩:=h;exact⟨a,b,g,t _ _ c,d,t _ _ e,f⟩
 |_=>exact h.elim
def Py(t:f[0]?=Á (Á (Â st)))(j:f[2]?=Á (Á (Â n)))(l:f[4]?=Á (Á (Ë (i:Nat))))
  (c:H n=Ð b) (u:b[i]?=Á (Â a)) (m:H a=Ð (ks.map Ê)) (x:ks≠[]) (v:ks.length<=100) (S:iR K H st k) (z:k<=900000) (w:a≠st)
  (q:∀(y:Str) (H':b_),y∈ks->iR K H' st (k+1)->hI st H H'->Q (Ä y) H') :
  fV ċ (Ó 2 (fI 4)) (å (kQ K) f9 (ç ø (iO (gV K) (Þ (Ó 2 (fI 4)))))) f H Q:=by
 have B:0<ks.length:=sJ.mpr x;have e:b[((i:Nat):Int).toNat]?=Á (Â a):=by simpa using u
 refine⟨_,j,_,l,ke (Ù c) Ã e ⟨_,t,_,j,_,l,ke (Ù c) Ã e ⟨_,_,À,È ⟨_,Ù m,À⟩,st,_,k,À,S,Ã,by rw[fP];lia,by rw[fP];lia,λd o r s p g=>?_⟩⟩⟩;rw[fP] at s;have h:d.toNat<ks.length:=Ã
 exact ke (Ù (g a _ w m)) r (Cr (gF h)) (q _ o (nE h) p g)
def ke9(Q:H E=Ð w)(hr:w[i]?=Á (Â a))(ha:H a=Ð (ks.map Ê))(T:ks.length<=100)(S:iR K H st k)(hk:k<=800000)(na:a≠st)(nk:E≠st)
  (ab:H g=Ð vs) (vl:vs.length<=100) (ns:g≠st) (ok:yW ks H x)
  (q:∀(y:V) (d:Nat) (H':b_),tY ks H' y x->H' g=Ð (vs++[y])->iR K H' st d->d<=k+ov x->mV st g H H'->D.nx [Å st,Å rl,Å E,Å fd,gm i,Å p,Å g,Á y] H') :
  MX K D [Å st,Å rl,Å E,Å fd,gm i,Å p,Å g,Á x] H:=by
 have m:∀(y:V) (d:Nat) (G:b_),tY ks G y x->iR K G st d->d<=k+ov x->hI st H G->MW K D [Å st,Å rl,Å E,Å fd,gm i,Å p,Å g,Á y] G:=λy d G f S1 l1 B1=>by
  have X:=B1 g _ ns ab;refine⟨_,À,È ⟨À,_,Ù X⟩,_,À,g,_,_,À,À,X,gY Ã,?_⟩;exact q y d _ (f.mono ((gZ.refl G).lst X)) fG (S1.mono .upd_at X (Ne.symm ns)) l1 ((mV.of_l B1).trans .upd_r)
 cases x with
 |str s=>
  refine Ú (ñ À _ À (gz (λe=>?_) (λe=>?_)))
  .have e':s="":=by cases e;rfl
   refine Py À À À Q hr ha (ok e') T S Ã na λy H' hy J v=>?_;refine m (Ä y) _ H' ⟨λ_=>Î y hy À,λz=>Ì e' z⟩ J ?_ v;show k+1<=k+(if s="" then 1 else 0);rw[if_pos e'];exact ï
  .refine⟨_,À,_,_,_,À,.str_tuple _,_,À,i4 ?_⟩;exact m (Ä s) k H ⟨λz=>Ì (by rw[z]) e,λ_=>À⟩ S Ã (.refl _ _)
 |int j=>
  refine Ú (ñ À _ À (no (λz=>by cases z) ?_));refine⟨_,À,_,_,_,À,.int_tuple _,_,À,i4 ?_⟩;exact m (Ë j) k H À S Ã (.refl _ _)
 |ref t=>
  obtain⟨as,I,l4,ne⟩:=ok;obtain⟨ae,R⟩:=S.lst;have nt:t≠st:=Ne.symm (Ez R I);refine Ú (Í (Í (È ⟨t,_,_,À,À,fR.of I,_,À,i4 ?_⟩)));refine⟨_,À,_,_,_,À,.tup_tuple (fR.of I),_,À,lC ?_⟩;refine Í ⟨_,À,t,À,Æ _ (fR.of I),λL O=>?_⟩;have nL:L≠st:=λz=>by rw[z,R] at O;cases O
  refine Cf (xs:=as.map Ê) (λj r H'=>∃(C:List Str) (d:Nat) (o:Option V),r=[Å st,Å rl,Å E,Å fd,gm i,Å p,Å g,Å t,o]/\H' L=Ð (C.map Ê)/\C.length=j/\(∀b∈C,b∈ks)/\iR K H' st d/\d<=k+j/\hI st H H') ?_ ?_ ?_ ?_
  .exact⟨[],k,Ç,À,fG,À,Ò,S.new O,Ã,(hI.refl st H).new O⟩
  .rintro j r H' _ ⟨_,_,_,_,_,_,_,_,_,B⟩;exact fR.of (B t _ nt I)
  .rintro j x r H' hx ⟨C,d,o,rfl,Y,U,bm,J,P,v⟩;have jl:j<as.length:=by have:=(gR.mp hx).1;rw[fP] at this;exact this
   refine oO (Py À À À (v E _ nk Q) hr (v a _ na ha) ne T J Ã na λy H2 hy S2 B2=>?_);have M:=B2 L _ nL Y;refine⟨_,M,gY (by rw[fP];lia),C++[y],d+1,_,À,by rw[fG,g8];rfl,by simp[U],λb aa=>?_,S2.mono .upd_at M (Ne.symm nL),Ã,?_⟩
   .rcases iT.mp aa with z|z
    .exact bm b z
    .rw[g_.mp z];exact hy
   .exact λc u n h=>by rw[fM (f6 h O)];exact(v.trans B2) c u n h
  .rintro r H2 ⟨C,d,o,_,Y,U,bm,J,P,v⟩;rw[fP] at U P;refine⟨L,_,À,È ⟨Ù Y,λl Z=>?_⟩⟩;have nl:L≠l:=f6 Y Z;have M:=v t _ nt I;refine m (Â l) d _ ⟨as,C,l,by rw[fM (f6 M Z)];exact M,À,fG,U,bm⟩ (J.new Z) ?_ (v.new Z);show d<=k+4;lia
 |_=>exact ok.elim
def ke2(w:V)(rest:É V):nX (w::rest) (Á 1) Ç=rest:=by
 unfold nX;have a:HT.sIx (Ô (w::rest)) 0 (Á 1)=1:=by
  rw[show(1:Int)=((1:Nat):Int) from À,HT.sIx_nat,iN];lia
 rw[a,HT.sIx_none,List.drop_succ_cons,Ef,iN];exact m5 Ã
def ke1(w:V)(h:rest≠[]):¬(HT.sIx (Ô (w::rest)) 0 (Á 1)=0/\HT.sIx (Ô (w::rest)) (Ô (w::rest)) Ç=Ô (w::rest)):=by
 rintro⟨a,_⟩;rw[show(1:Int)=((1:Nat):Int) from À,HT.sIx_nat,iN] at a;lia
def kjo(aa:H t=Ð L)(hr:L[i]?=Á (Â a))(ha:H a=Ð (ks.map Ê))(ak:ks.length<=100)(S:iR K H st k)(hk:k<=750000)(na:a≠st)(nk:t≠st)
  (hp:H p=ä (Ä w::rest)) (ag:rest≠[]) (aD:rest.length<=4) (ok:∀x∈rest,yW ks H x) (aC:(rest.map ov).sum<=5) (Y:H fd=Ð fs) (fl:fs.length<=100) (nf:fd≠st)
  (q:∀(o6 o7:Option V) (p':d_) (vs:List V) (J:Nat) (H':b_),H' fd=Ð (fs++[Â p'])->H' p'=ä (Ä w::vs)->ia (tY ks H') vs rest->iR K H' st J->J<=k+5->mV st fd H H'->D.nx [Å st,Å rl,Å t,Å fd,gm i,Å p,o6,o7] H') :
  MZ K D [Å st,Å rl,Å t,Å fd,gm i,Å p,o6,o7] H:=by
 obtain⟨aE,s⟩:=S.lst;refine Æ mU (λb d=>?_);have ax:b≠st:=λz=>by rw[z,s] at d;cases d
 have s1:Ö (Ý H b []):=(Ø H).new d;have g1:(Ý H b []) b=Ð []:=fG;show MY K D [Å st,Å rl,Å t,Å fd,gm i,Å p,Å b,o7] (Ý H b []);generalize upd H b (.lst [])=P at s1 g1 ⊢;refine Í (Õ _ À _ (Í ⟨p,_,À,fR.of (s1 _ _ hp),ke1 _ ag,λv af=>?_⟩));rw[ke2];have r:Ö (Ā P v rest):=s1.new af;have g2:(Ā P v rest) b=Ð []:=by rw[fM (f6 g1 af)];exact g1
 have t2:(Ā P v rest) v=ä rest:=fG;generalize upd P v (.tup rest)=H2 at r g2 t2 ⊢;have az:v≠st:=Ne.symm (Ez (r _ _ s) t2);have ay:v≠b:=Ne.symm (Ez g2 t2);have ar:fd≠b:=f6 Y d;have au:t≠b:=f6 aa d;have aq:a≠b:=f6 ha d;have aw:p≠st:=Ne.symm (Ez s hp);have av:p≠b:=f6 hp d;refine⟨v,À,Æ _ (fR.of t2),v7 (xs:=rest) (λj C H'=>∃(vs:List V) (J:Nat) (o:Option V),C=[Å st,Å rl,Å t,Å fd,gm i,Å p,Å b,o]/\H' b=Ð vs/\ia (tY ks H') vs (rest.take j)/\iR K H' st J/\J<=k+((rest.take j).map ov).sum/\mV st b H2 H') ?_ ?_ ?_ ?_⟩
 .exact⟨[],k,o7,À,g2,.nil,S.same r,Ò,.refl _ _ _⟩
 .rintro j C H' _ ⟨_,_,_,_,_,_,_,_,B⟩;exact fR.of (B v _ az ay t2)
 .rintro j x C H' hx ⟨vs,J,o,rfl,g,Q,U,Z,E⟩;have jl:j<rest.length:=(gR.mp hx).1;have et:rest.take (j+1)=rest.take j++[x]:=by rw[mq,hx];rfl
  have c5:((rest.take j).map ov).sum<=5:=by
   have e:=congrArg (λl=>(l.map ov).sum) (xW j rest);simp only[g8,IJ] at e;lia
  have vl:vs.length<=4:=by rw[Q.len,kz];lia
  refine ke9 (E t _ nk au (r _ _ aa)) hr (E a _ na aq (r _ _ ha)) ak U Ã na nk g Ã ax (((ok x (iS hx)).mono (.of_same r)).mono (E.tp (r _ _ s) g2)) λy k2 G f h3 S3 l3 B3=>?_;obtain⟨aB,I⟩:=U.lst;refine⟨vs++[y],k2,_,À,h3,?_,S3,?_,E.trans B3⟩
  .rw[et];exact(Q.imp λ_ _ z=>z.mono (B3.tp I g)).snoc f
  .rw[et,g8,IJ];show k2<=k+(((rest.take j).map ov).sum+(ov x+0));lia
 .rintro C G ⟨vs,J,o,rfl,g,Q,U,Z,E⟩;rw[vL] at Q Z;have ai:=E p _ aw av (r _ _ hp);have X:=E fd _ nf ar (r _ _ Y);obtain⟨aB,I⟩:=U.lst;have vl:vs.length=rest.length:=Q.len;have aA:vs≠[]:=λz=>ag (sH.mp (by rw[<-vl,z];rfl));have BH:hI st H G:=mV.but r.but d E;refine⟨_,À,È ⟨À,_,Ù X⟩,_,À,û ai ⟨kK,λR ab=>⟨_,À,b,_,À,È ⟨Ù (by rw[fM (f6 g ab)];exact g),λT ae=>?_⟩⟩⟩⟩;have ao:R≠T:=f6 fG ae;refine Í (Í (Í ⟨R,T,[Ä w],vs,À,À,fR.of (by rw[fM ao];exact fG),fR.of fG,Ò,?_,λz=>Ì z aA,λ_ M aj=>?_⟩))
  .have:=gY (n:=100) Ï;show 1+vs.length<=gM;lia
  have s5:gJ G (Ā (Ā (Ā G R [Ä w]) T vs) M (Ä w::vs)):=(((Ø G).new ab).new ae).new aj;have g5:(Ā (Ā (Ā G R [Ä w]) T vs) M (Ä w::vs)) M=ä (Ä w::vs):=fG;show m7 (Â fd) [Â M] (Ā (Ā (Ā G R [Ä w]) T vs) M (Ä w::vs)) λx P=>D.nx [Å st,Å rl,Å t,Å fd,gm i,Å p,Å b,o] P;generalize upd (upd (upd G R (.tup [.str w])) T (.tup vs)) M (.tup (.str w::vs))=H5 at s5 g5 ⊢;have O:=s5 _ _ X;refine⟨fd,_,_,À,À,O,gY Ã,?_⟩;have ah:gZ H5 (Ý H5 fd (fs++[Â M])):=(gZ.refl H5).lst O;refine q _ _ M vs J _ fG (ah _ _ g5) ((Q.imp λ_ _ z=>z.mono (.of_same s5)).imp λ_ _ z=>z.mono ah) ((U.same s5).mono .upd_at O (Ne.symm nf)) Ã ?_;exact λc u n m h=>by rw[fM m];exact s5 _ _ (BH c u n h)
def kfi(h:s∈oq):s≠"":=by
 intro e;subst e;exact Ì h â
def Y8{a b:List Str}(h:a.map Ê=b.map Ê):a.length=b.length:=by
 have:=congrArg tG h;simpa using this
def CL(h:tY ks H y (Ä s))(n:s≠""):y=Ä s:=h.2 n
def AK(h:tY ks H y (Ä "")):∃z∈ks,y=Ä z:=h.1 À
def CJ{s:Str}(n:s≠""):ov (Ä s)=0:=by
 show(if s="" then 1 else 0)=0;rw[ù n]
def Tg{vs:List V}(h:vs.length=2):∃a b,vs=[a,b]:=by
 match vs,h with
 |[a,b],_=>exact Î a b À
def IH{vs:List V}(h:vs.length=1):∃a,vs=[a]:=by
 match vs,h with
 |[a],_=>exact Æ a À
def kij{vs:List V}(h:vs.length=3):∃a b c,vs=[a,b,c]:=by
 match vs,h with
 |[a,b,c],_=>exact⟨a,b,c,À⟩
def kik{vs:List V}(h:vs.length=4):∃a b c d,vs=[a,b,c,d]:=by
 match vs,h with
 |[a,b,c,d],_=>exact⟨a,b,c,d,À⟩
def khf{H:b_}{p:d_}{r:gG}{ys ks:List Str}{cs:List Nat}{n:Nat}(j:kh H (Â p) r)(l:xA ys cs n r)(C:∀y∈ys,y≠"")(J:∀c∈cs,c<=4)(o:ks≠[]\/xy r=true) :
  ∃rest,H p=ä (Ä (pX r)::rest)/\rest≠[]/\rest.length<=4/\(∀x∈rest,yW ks H x)/\(rest.map ov).sum<=5/\∀(H':b_) (i:d_) (vs:List V),ia (tY ks H') vs rest->H' i=ä (Ä (pX r)::vs)->gZ H H'->∃R,kh H' (Â i) R/\tQ ks r R:=by
 cases r with
 |num x z=>
  obtain⟨i,e,h⟩:=j;cases e;have u:=C x l.1;refine⟨_,h,Ò,Ò,λv g=>?_,?_,λH' i vs d f t=>?_⟩
  .rcases g7.mp g with rfl|g
   .exact λz=>Ì z u
   .rw[g_.mp g];exact trivial
  .show ov (Ä x)+(0+0)<=5;rw[CJ u];decide
  .obtain⟨a,b,rfl⟩:=Tg d.len;have E:=CL (d.at_ 0 _ _ À À) u;have B:b=Ë z:=d.at_ 1 _ _ À À;subst E B;exact⟨.num x z,Ą i f,À⟩
 |op x s a b=>
  obtain⟨i,e,h⟩:=j;cases e;obtain⟨O,ss,rfl,rfl⟩:=l;have u:=C x O;have M:=kfi ss;have w:ks≠[]:=o.resolve_right (by intro z;cases z);refine⟨_,h,Ò,Ò,λv g=>?_,?_,λH' i vs d f t=>?_⟩
  .rcases g7.mp g with rfl|g
   .exact λz=>Ì z u
   .rcases g7.mp g with rfl|g
    .exact λz=>Ì z M
    .rcases g7.mp g with rfl|g
     .exact λ_=>w
     .rw[g_.mp g];exact λ_=>w
  .show ov (Ä x)+(ov (Ä s)+(ov (Ä "")+(ov (Ä "")+0)))<=5;rw[CJ u,CJ M];decide +kernel
  .obtain⟨D,I,S,v4,rfl⟩:=kik d.len;have E:=CL (d.at_ 0 _ _ À À) u;have B:=CL (d.at_ 1 _ _ À À) M;obtain⟨T,m3,K⟩:=AK (d.at_ 2 _ _ À À);obtain⟨U,m4,Y⟩:=AK (d.at_ 3 _ _ À À);subst E B K Y;exact⟨.op x s T U,Ą i f,T,U,À,m3,m4⟩
 |call x k as=>
  obtain⟨i,q,e,h,Q⟩:=j;cases e;obtain⟨O,c,hc,rfl⟩:=l;have u:=C x O;have w:ks≠[]:=o.resolve_right (by intro z;cases z);have X:=J c (iS hc);refine⟨_,h,Ò,Ò,λv g=>?_,?_,λH' i vs d f t=>?_⟩
  .rcases g7.mp g with rfl|g
   .exact λz=>Ì z u
   .rcases g7.mp g with rfl|g
    .exact trivial
    .rw[g_.mp g];exact⟨_,Q,by rw[uQ];exact X,w⟩
  .show ov (Ä x)+(0+(4+0))<=5;rw[CJ u];decide
  .obtain⟨D,I,S,rfl⟩:=kij d.len;have E:=CL (d.at_ 0 _ _ À À) u;have B:I=Ë (k:Nat):=d.at_ 1 _ _ À À;obtain⟨W,P,q',L,K,Z,hl,hm⟩:=(show tY ks H' S (Â q) from d.at_ 2 _ _ À À);subst E B K;have:=t _ _ Q;rw[L] at this;have e:=Y8 (lj.tup.inj (ď this));exact⟨.call x k P,⟨i,q',À,f,Z⟩,P,À,hl.trans e,hm⟩
 |say a=>
  obtain⟨i,e,h⟩:=j;cases e;have l:a="":=l;subst l;have w:ks≠[]:=o.resolve_right (by intro z;cases z);refine⟨_,h,Ò,Ò,λv g=>?_,?_,λH' i vs d f t=>?_⟩
  .rw[g_.mp g];exact λ_=>w
  .show ov (Ä "")+0<=5
   decide +kernel
  .obtain⟨D,rfl⟩:=IH d.len;obtain⟨z,m,e⟩:=AK (d.at_ 0 _ _ À À);subst e;exact Õ (.say z) (Ą i f) z m
 |jump G=>
  obtain⟨i,e,h⟩:=j;cases e;refine⟨_,h,Ò,Ò,λv g=>?_,?_,λH' i vs d f t=>?_⟩
  .rw[g_.mp g];exact trivial
  .show 0+0<=5
   decide
  .obtain⟨D,rfl⟩:=IH d.len;have e:D=Ë (G:Nat):=d.at_ 0 _ _ À À;subst e;exact⟨.jump G,Ą i f,À⟩
 |test a G=>
  obtain⟨i,e,h⟩:=j;cases e;obtain⟨l,_⟩:a=""/\_:=l;subst l;have w:ks≠[]:=o.resolve_right (by intro z;cases z);refine⟨_,h,Ò,Ò,λv g=>?_,?_,λH' i vs d f t=>?_⟩
  .rcases g7.mp g with rfl|g
   .exact λ_=>w
   .rw[g_.mp g];exact trivial
  .show ov (Ä "")+(0+0)<=5
   decide +kernel
  .obtain⟨D,I,rfl⟩:=Tg d.len;obtain⟨z,m,e⟩:=AK (d.at_ 0 _ _ À À);have B:I=Ë (G:Nat):=d.at_ 1 _ _ À À;subst e B;exact Õ (.test z G) (Ą i f) z m
 |give a=>
  obtain⟨i,e,h⟩:=j;cases e;have l:a="":=l;subst l;have w:ks≠[]:=o.resolve_right (by intro z;cases z);refine⟨_,h,Ò,Ò,λv g=>?_,?_,λH' i vs d f t=>?_⟩
  .rw[g_.mp g];exact λ_=>w
  .show ov (Ä "")+0<=5
   decide +kernel
  .obtain⟨D,rfl⟩:=IH d.len;obtain⟨z,m,e⟩:=AK (d.at_ 0 _ _ À À);subst e;exact Õ (.give z) (Ą i f) z m
def kfl{K:a_}{vs:List V}{H:b_}{Q:fS}{E:f_}(h:Fp K vs H Q E):OX K (ì í Q) (gW FM vs) H:=by
 obtain⟨t,rl,kl,k,rvs,refs,rs,aj,ys,cs,rfl,S,hk,I,hA,D,aq,aa,af,hT,R,P,ah,ao,ak,T,q⟩:=h;obtain⟨au,J⟩:=S.lst;refine Æ mU (λg e=>?_);have nf:g≠t:=λz=>by rw[z,J] at e;cases e
 have Z:Ö (Ý H g []):=(Ø H).new e;have g1:(Ý H g []) g=Ð []:=fG;generalize upd H g (.lst [])=H1 at Z g1 ⊢;refine⟨_,À,rl,À,Æ _ (Ù (Z _ _ I)),Cv (xs:=rvs) (λi f H'=>∃(s:List V) (d:List gG) (O:Nat) (o4 o5 o6 o7:Option V),f=[Å t,Å rl,Å kl,Å g,o4,o5,o6,o7]/\H' g=Ð s/\ia (kh H') s d/\d.length=i/\
  (∀(j:Nat) ks r U,aj[j]?=Á ks->rs[j]?=Á r->d[j]?=Á U->tQ ks r U)/\iR K H' t O/\O<=k+5*i/\hI t H H') ?_ ?_ ?_ ?_⟩
 .exact⟨[],[],k,Ç,Ç,Ç,Ç,À,g1,.nil,À,λj ks r U _ _ z=>by simp at z,S.same Z,Ã,Z.but⟩
 .rintro i f H' _ ⟨_,_,_,_,_,_,_,_,_,_,_,_,_,_,B⟩;exact Ù (B rl _ ak I)
 .rintro i x f H' w hx M ⟨s,d,O,o4,o5,o6,o7,rfl,m,X,b,hF,S',o,B'⟩;obtain⟨r,Y,G⟩:=hA.of_v hx;obtain⟨p,xs,rfl,_⟩:=G.ref;have il:i<rs.length:=(gR.mp Y).1;have ar:=D.few;obtain⟨v,ks,e1,e2,a,rfl,ha⟩:=hT.get (i:=i) (by rw[R];exact il);have na:a≠t:=λz=>ao (Â a) (iS e1) (by rw[z]);have y:hI t H (Ā H' w [Ë (i:Nat),Â p]):=B'.new M;have s2:gJ H' (Ā H' w [Ë (i:Nat),Â p]):=(Ø H').new M;have g2:(Ā H' w [Ë (i:Nat),Â p]) w=ä [Ë (i:Nat),Â p]:=fG;generalize upd H' w (.tup [.int (i:Nat),.ref p])=H2 at y s2 g2 ⊢;refine⟨w,_,À,fR.of g2,À,_,_,À,_,_,À,À,?_⟩;have T2:gZ H H2:=.of_but y J;obtain⟨rest,h1,h2,h3,h4,h5,h6⟩:=khf (ks:=ks) (G.mono T2) (D.rough r (iS Y)) aq aa (ah i ks r e2 Y);have f2:=s2 _ _ m;have S2:=S'.same s2;obtain⟨av,L⟩:=S2.lst;refine kjo (y kl _ T af) e1 (y a _ na ha) (P i ks e2) S2 Ã na T h1 h2 h3 h4 h5 f2 (by rw[X.len,b];lia) nf λp6 p7 p' vs k3 H3 f3 g3 ab S3 l3 B3=>?_;have T3:gZ H2 H3:=B3.tp L f2;obtain⟨U,ag,ae⟩:=h6 H3 p' vs ab g3 T3;refine⟨s++[Â p'],d++[U],k3,_,_,_,_,À,f3,((X.imp λ_ _ z=>(z.mono (.of_same s2)).mono T3)).snoc ag,by simp[b],λj ai r1 r2 a1 a2 C=>?_,S3,Ã,?_⟩
  .by_cases c:j<d.length
   .rw[uc c] at C;exact hF j ai r1 r2 a1 a2 C
   .have c2:j=i:=by
     have:=(gR.mp C).1;rw[ie,pk] at this;lia
    subst c2;rw[tr Ã,b,yc] at C;cases C;rw[e2] at a1;cases a1;rw[Y] at a2;cases a2;exact ae
  .exact λc u n h=>by
    have hc:=y c u n h;exact B3 c u n (f6 h e) hc
 .rintro f H' ⟨s,d,O,o4,o5,o6,o7,rfl,m,X,b,hF,S',o,B'⟩;rw[hA.len] at b o;refine⟨_,À,g,_,À,È ⟨Ù m,λl hl=>?_⟩⟩;exact q l s d O _ fG (X.imp λ_ _ z=>z.mono ((gZ.refl H').new hl)) b hF (S'.new hl) o (B'.new hl)
def Rc(S:iR K H st k)(h:C3 H v ks):v≠Â st:=by
 rintro rfl;obtain⟨a,e,h⟩:=h;cases e;obtain⟨d,f,c,b,_⟩:=S;rw[h] at b;cases ks with
 |_=>cases b
def kaW(h:tQ ks r c)(n:Nat):ma n c=ma n r:=by
 cases r with
 |num x z=>have h:c=.num x z:=h;subst h;rfl
 |op x s a b=>obtain⟨_,_,rfl,_⟩:=h;rfl
 |jump t=>have h:c=.jump t:=h;subst h;rfl
 |_=>obtain⟨_,rfl,_⟩:=h;rfl
def kcL(h:tQ ks r c):pQ c=pQ r:=by
 cases r with
 |num x z=>have h:c=.num x z:=h;subst h;rfl
 |op x s a b=>obtain⟨_,_,rfl,_⟩:=h;rfl
 |jump t=>have h:c=.jump t:=h;subst h;rfl
 |_=>obtain⟨_,rfl,_⟩:=h;rfl
def ke8(h:tQ ks r c):oG c=oG r:=by
 cases r with
 |num x z=>have h:c=.num x z:=h;subst h;rfl
 |op x s a b=>obtain⟨_,_,rfl,_⟩:=h;rfl
 |jump t=>have h:c=.jump t:=h;subst h;rfl
 |_=>obtain⟨_,rfl,_⟩:=h;rfl
def kcK(h:tQ ks r c):oP c=oP r:=by
 cases r with
 |num x z=>have h:c=.num x z:=h;subst h;rfl
 |op x s a b=>obtain⟨_,_,rfl,_⟩:=h;rfl
 |jump t=>have h:c=.jump t:=h;subst h;rfl
 |_=>obtain⟨_,rfl,_⟩:=h;rfl
def kaX(h:tQ ks r f):∀y∈mJ f,y∈ks:=by
 cases r with
 |num x z=>have h:f=.num x z:=h;subst h;intro y e;cases e
 |op x s a b=>
  obtain⟨c,d,rfl,g,i⟩:=h;intro y e;rcases g7.mp e with rfl|e
  .exact g
  .rw[g_.mp e];exact i
 |call x k j=>obtain⟨_,rfl,_,h⟩:=h;exact h
 |jump t=>have h:f=.jump t:=h;subst h;intro y e;cases e
 |_=>obtain⟨_,rfl,h⟩:=h;intro y e;rw[g_.mp e];exact h
def khg(e:xA ys cs n r)(f:∀y∈ks,y∈ys)(h:tQ ks r g):GY ys cs n g:=by
 cases r with
 |num x z=>have h:g=.num x z:=h;subst h;exact e
 |op x s a b=>obtain⟨c,d,rfl,i,j⟩:=h;exact⟨e.1,e.2.1,f _ i,f _ j⟩
 |call x k u=>
  obtain⟨v,rfl,m,h⟩:=h;obtain⟨o,c,p,q⟩:=e;refine Î o ?_ (λa l=>f _ (h a l));rw[m,q,uQ];exact p
 |jump t=>have h:g=.jump t:=h;subst h;exact e
 |test a t=>obtain⟨_,rfl,h⟩:=h;exact Æ (f _ h) e.2
 |_=>obtain⟨_,rfl,h⟩:=h;exact f _ h
structure vn(rs rs':É gG):Prop where
 len:rs'.length=rs.length
 fill:∀(i:Nat) r r',rs[i]?=Á r->rs'[i]?=Á r'->∃ks,tQ ks r r'
def vn.get{rs a:List gG}(h:vn rs a){i:Nat}{c:gG}(e:a[i]?=Á c):∃r ks,rs[i]?=Á r/\tQ ks r c:=by
 have b:i<rs.length:=by rw[<-h.len];exact(gR.mp e).1
 obtain⟨ks,f⟩:=h.fill i _ _ (gF b) e;exact⟨_,ks,gF b,f⟩
def vn.stp{rs c:List gG}(h:vn rs c)(n:Nat):stp c n=stp rs n:=by
 unfold Bg.stp;cases e:c[n]? with
 |none=>
  have:rs[n]?=none:=by rw[List.getElem?_eq_none_iff] at e ⊢;rw[<-h.len];exact e
  rw[this]
 |some d=>
  obtain⟨r,j,g,f⟩:=h.get e;rw[g];cases r with
  |num x z=>have f:d=.num x z:=f;subst f;rfl
  |op x s a b=>obtain⟨_,_,rfl,_⟩:=f;rfl
  |call x k i=>obtain⟨_,rfl,_⟩:=f;rfl
  |say a=>obtain⟨_,rfl,_⟩:=f;rfl
  |jump t=>have f:d=.jump t:=f;subst f;rfl
  |test a t=>obtain⟨_,rfl,_⟩:=f;rfl
  |give a=>obtain⟨_,rfl,_⟩:=f;rfl
theorem vn.runJ(h:vn rs a):∀(k n:Nat),runJ a k n=runJ rs k n
 |0,_=>rfl
 |k+1,n=>by
  show Bg.runJ a k (Bg.stp a n)=Bg.runJ rs k (Bg.stp rs n);rw[h.stp];exact vn.runJ h k _
def vn.ring{rs a:List gG}(h:vn rs a)(q:yE rs):yE a:=by
 intro n b g e;rw[h.len] at b;rw[h.len,h.runJ] at e;obtain⟨r,d,c,f⟩:=h.get e;rw[kcK f];exact q n b r c
def kj8{K:a_}{vs:List V}{H:b_}{Q:fS}{E:f_}(h:Gb K vs H Q E):Sj K (ì í Q) (gW GF vs) H:=by
 obtain⟨J,Z,pr,cn,wd,m,k,O,s,P,rfl,S,hk,R,ae,aF,aP,I,aO,pnd,pin,aJ,au,aG,ar,m1,aR,nnm,aj,aD,q⟩:=h;refine⟨_,À,_,_,À,È ⟨_,Ù I,À⟩,È ⟨À,Í (Ú (È ⟨_,_,À,À,_,À,_,À,J,_,k,À,S,Ã,Ã,Ã,λd H1 d0 d1 S1 B1=>È ⟨_,_,À,À,_,_,À,?_⟩⟩))⟩⟩;rw[fP];obtain⟨n,hn,n1,aS,aT,n2⟩:∃n:Nat,(if 1+d>1+(if decide (V.int ((s.length:Nat):Int)=V.int 0)=true then 1 else 0) then 1+d else 1+(if decide (V.int ((s.length:Nat):Int)=V.int 0)=true then 1 else 0))=(n:Int)/\1<=n/\n<=52/\n<=m+1/\(s=[]->2<=n):=by
  by_cases c:s=[]
  .have e:æ (V.int ((s.length:Nat):Int)=V.int 0)=true:=by rw[c];rfl
   rw[e,if_pos À];by_cases c2:1+d>1+1
   .rw[if_pos c2];exact⟨(1+d).toNat,Ã,Ã,Ã,Ã,λ_=>Ã⟩
   .rw[ù c2];exact⟨2,À,Ã,Ã,Ã,λ_=>Ã⟩
  .have e:æ (V.int ((s.length:Nat):Int)=V.int 0)=false:=decide_eq_false λz=>c (sH.mp (by injection z with z;lia));rw[e,ù Bool.false_ne_true];by_cases c2:1+d>1+0
   .rw[if_pos c2];exact⟨(1+d).toNat,Ã,Ã,Ã,Ã,λz=>Ì z c⟩
   .rw[ù c2];exact⟨1,À,Ã,Ã,Ã,λz=>Ì z c⟩
 rw[hn];refine⟨_,À,_,À,Ã,Ã,λL hL=>?_⟩;obtain⟨aV,aK⟩:=S1.lst;have nL:L≠J:=λz=>by rw[z,aK] at hL;cases hL
 have HL:H L=none:=B1.free nL hL;refine BU (λi ak H'=>∃(B:List V) (U:List gG) (k':Nat) (o:Option V),ak=[Å J,î wd,Å Z,Å pr,Å cn,gm m,gm n,Ç,Ç,o]/\
  H' L=Ð B/\ia (kh H') B U/\U.length=i/\(∀r∈U,xA O P n r)/\iR K H' J k'/\k'<=k+1+8*i/\hI J H H') ?_ ?_ ?_
 .exact⟨[],[],k+1,Ç,À,fG,.nil,À,Ò,S1.new hL,Ã,B1.new hL⟩
 .rintro i ak H' hi ⟨B,U,k',o,rfl,T,hA,b,ro,S',aQ,B'⟩;have hi:i<n:=by simpa using hi
  refine oO ⟨_,À,_,À,_,À,_,À,J,Z,cn,n,k',O,P,À,S',Ã,B' Z _ nnm R,ae,aF,n1,Ã,B' cn _ aD aJ,au,aG,ar,nnm,aD,λv r k2 H2 hv hr S2 l2 B2=>?_⟩;have h2:=B2 L _ nL T;have t2:gZ H' H2:=by obtain⟨_,e⟩:=S'.lst;exact .of_but B2 e
  have t3:gZ H2 (Ý H2 L (B++[v])):=(gZ.refl H2).lst h2;refine⟨_,h2,gY (by rw[hA.len];lia),B++[v],U++[r],k2,_,À,fG,(hA.imp λ_ _ z=>(z.mono t2).mono t3).snoc (hv.mono t3),by simp[b],λw ai=>?_,S2.mono .upd_at h2 (Ne.symm nL),Ã,?_⟩
  .rcases iT.mp ai with z|z
   .exact ro w z
   .rw[g_.mp z];exact hr
  .exact hI.past (B'.trans B2) HL .upd_at
 .rintro ak H2 ⟨B,U,k2,o,_,T,hA,b,ro,S2,aA,B2⟩;have b:U.length=n:=by simpa using b
  have aA:k2<=k+1+8*n:=by simpa using aA
  have aN:Z≠L:=f6 R HL;have aU:pr≠L:=f6 I HL;have Ok:AS O P U:=⟨λz=>by rw[z] at b;simp at b;lia,Ã,by rw[b];exact ro⟩;have aC:=B2 pr _ aj I;have ag:æ (V.int ((Ô (s.map Ê):Nat):Int)=V.int 0)=true->s=[]:=λz=>by
   have z':=of_decide_eq_true z;rw[fP] at z';injection z' with z';exact sH.mp Ã
  have D:s=[]->æ (V.int ((Ô (s.map Ê):Nat):Int)=V.int 0)=true:=λz=>by rw[z];rfl
  refine⟨_,À,_,À,_,À,_,_,À,È ⟨_,Ù aC,À⟩,È ⟨À,L,Z,_,B,U,O,xA O P n,À,T,hA,Ok.pos,Ok.few,ro,À,À,λt ht=>by rw[b];exact ht,B2 Z _ nnm R,ae,λy hy _=>Î hy Ï Ï,aN,λz=>by rw[b];exact n2 (ag z),λab x H3 h3 av Kz ay ah ax aI B3=>?_⟩⟩;have n3:x.length=n:=Kz.trans b;have aq:AS O P x:=⟨λz=>by rw[z] at n3;simp at n3;lia,Ã,by rw[n3];exact ay⟩;have S3:iR K H3 J k2:=S2.mono B3 T (Ne.symm nL);have af:hI J H H3:=hI.past B2 HL B3;refine⟨_,À,_,À,_,À,L,Z,pr,ab,x,O,s,P,À,h3,av,aq,ah,af Z _ nnm R,aF,af pr _ aj I,aO,pin,λz=>ax (D z),λkl aa G H4 aB h4 hT lk hK aw s4=>?_⟩;have S4:=S3.same s4;have ao:hI J H H4:=af.trans s4.but;have aM:kl≠J:=λz=>by obtain⟨_,e⟩:=S3.lst;rw[z,e] at aB;cases aB
  refine⟨_,À,_,À,pr,_,À,È ⟨Ù (ao pr _ aj I),λt ht=>?_⟩⟩;have s5:gJ H4 (Ā H4 t (s.map Ê)):=(Ø H4).new ht;have g5:(Ā H4 t (s.map Ê)) t=ä (s.map Ê):=fG;generalize upd H4 t (.tup (s.map V.str))=H5 at s5 g5 ⊢;have S5:=S4.same s5;have az:ia (C3 H5) aa G:=hT.imp λ_ _ ⟨a,e,h⟩=>Î a e (s5 _ _ h);refine⟨_,À,_,À,_,À,J,L,kl,k2,ab,aa,x,G,O,P,À,S5,Ã,s5 _ _ (s4 _ _ h3),(av.imp λ_ _ z=>(z.mono (.of_same s4)).mono (.of_same s5)),aq,aP,ar,s5 _ _ h4,az,lk,λi j e=>(hK i j e).1,λi j r u M=>?_,λa ha=>?_,nL,aM,λp aE g k6 H6 h6 aH l hF S6 l6 B6=>?_⟩
  .rcases(hK i j u).2.2 with z|⟨z1,z2⟩
   .exact È z
   .subst z1;have:=ax (D z2);rw[Hr,M] at this;exact Í (ď this)
  .obtain⟨i,hi,e⟩:=nB.mp ha;obtain⟨j,_,z⟩:=az.of_v (i:=i) (v:=a) (by rw[gF hi,e]);exact Rc S5 z
  refine Æ kM (λf hf=>?_);obtain⟨_,e5⟩:=S5.lst;have t6:gZ H5 H6:=.of_but B6 e5;have t7:gZ H6 (Ā H6 f [Ä wd,Â t,Â p]):=(gZ.refl H6).new hf;have Y:∀(i:Nat) r,x[i]?=Á r->∃j,G[i]?=Á j:=λi r e=>Æ _ (gF (by rw[lk];exact(gR.mp e).1));have al:vn x g:=Æ l (λi r w u M=>by
   obtain⟨j,X⟩:=Y i r u;exact Æ j (hF i j r w X u M))
  have C:∀(i:Nat) w,g[i]?=Á w->∃r j,x[i]?=Á r/\G[i]?=Á j/\tQ j r w:=λi w e=>by
   obtain⟨r,_,u,_⟩:=al.get e;obtain⟨j,X⟩:=Y i r u;exact⟨r,j,u,X,hF i j r w X u e⟩
  have ok:xh O P (Î wd s g):=by
   refine⟨pnd,pin,λz=>?_,?_,λw ai=>?_,?_,al.ring aI,G,?_,Æ aw.zero (λi m w j km e hm X em y hy=>?_),λi w j e X=>?_⟩
   .have z':g=[]:=z;rw[z',n3] at l;simp at l;lia
   .show g.length<=60;lia
   .show GY O P g.length w;obtain⟨i,hi,e⟩:=nB.mp ai;obtain⟨r,j,u,M,f⟩:=C i w (by rw[<-e];exact gF hi);rw[l,n3];exact khg (ay r (iS u)) (hK i j M).2.1 f
   .show g.getLast?.map oG=Á true;have hl:g.length-1<g.length:=Ã
    obtain⟨r,j,u,M,f⟩:=C (g.length-1) _ (gF hl);rw[wG,gF hl,pL,ke8 f];rw[wG,<-l,u,pL] at ah;exact ah
   .show G.length=g.length;rw[lk,l]
   .obtain⟨r,aL,u,M,f⟩:=C i w e;rw[kaW f] at hm;rw[kcL f];exact aw.on i m r j km u hm X em y hy
   .obtain⟨r,aL,u,M,f⟩:=C i w e;rw[X] at M;cases M;exact kaX f
  refine q _ (Î wd s g) k6 _ ⟨f,t,p,aE,À,fG,t7 _ _ (t6 _ _ g5),t7 _ _ h6,aH.imp λ_ _ z=>z.mono t7⟩ À À ok (by show g.length<=m+1;lia) (S6.new hf) Ã ?_;exact((ao.trans s5.but).trans B6).new hf
inductive ou(rs:É gG)(un:Option Str):Nat->Prop where
 |zero:ou rs un 0
 |step {n m:Nat} {r:gG}:ou rs un n->rs[n]?=Á r->(∀y,un=Á y->pQ r≠Ä y)->m∈ma n r->ou rs un m
structure wY(rs:É gG):Prop where
 pos:0<rs.length
 few:rs.length<64
 inr:∀(n m:Nat) r,rs[n]?=Á r->m∈ma n r->m<rs.length
 ring:yE rs
def ou.lt(g:wY rs)(h:ou rs b m):m<rs.length:=by
 cases h with
 |zero=>exact g.pos
 |step _ e _ a=>exact g.inr _ _ _ e a
def OF{rs:List gG}(f:∀r∈rs,∀t:Nat,uv r=Ë (t:Nat)->t<rs.length)(h:rs.getLast?.map oG=Á true):∀(n m:Nat) r,rs[n]?=Á r->m∈ma n r->m<rs.length:=by
 intro i m r g b;have nx:oG r=false->i+1<rs.length:=λj=>by
  grind
 have d:=f r (iS g);cases r with
 |jump c=>rw[g_.mp b];exact d c À
 |test a c=>
  rcases g7.mp b with e|e
  .rw[e];exact nx À
  .rw[g_.mp e];exact d c À
 |give a=>cases b
 |_=>rw[g_.mp b];exact nx À
def xh.good{ys:List Str}{cs:List Nat}{b:kI}(h:xh ys cs b):wY b.rows:=by
 have:=h.few;refine⟨sJ.mpr h.pos,Ã,OF (λr f t e=>?_) h.last,h.ring⟩;have d:=h.rows r f;cases r with
 |jump c=>
  injection e with e;have:c=t:=Ã
  subst this;exact d
 |test a c=>
  injection e with e;have:c=t:=Ã
  subst this;exact d.2
 |_=>cases e
theorem w4:∀{n:Nat} {l:List Nat},l.Nodup->(∀x∈l,x<n)->l.length<=n
 |0,l,_,h=>by
  cases l with
  |nil=>exact ï
  |cons a r=>exact Ì (h a pH) (mH _)
 |n+1,l,d,h=>by
  by_cases c:n∈l
  .have e:=w4 (n:=n) (l:=l.erase n) (d.erase n) λx b=>by
    have:=(d.mem_erase_iff).mp b;have:=h x this.2;lia
   rw[List.length_erase_of_mem c] at e;lia
  .have e:=w4 (n:=n) d λx b=>by
    have:=h x b;have:x≠n:=λz=>c (z ▸ b);lia
   lia
theorem TV:∀{l:List Nat},l.Pairwise (·<=·)->l.Nodup->l.Pairwise (·<·)
 |[],_,_=>.nil
 |a::r,h,b=>by
  rw[List.pairwise_cons] at h ⊢;rw[tv] at b;refine⟨λx c=>?_,TV h.2 b.2⟩;have:=h.1 x c;have:a≠x:=λz=>b.1 (z ▸ c);lia
def kdW{c:List Int}{d:List Nat}(p:c.Perm (d.map λn=>((n:Nat):Int)))(s:c.Pairwise (·<=·))(k:d.Nodup):∃ks:List Nat,c=ks.map (λn=>((n:Nat):Int))/\(∀x,x∈ks↔x∈d)/\ks.Pairwise (·<·):=by
 have j:c.map (λi=>((i.toNat:Nat):Int))=c:=by
  have:∀i∈c,((i.toNat:Nat):Int)=i:=λi g=>by
   obtain⟨n,_,e⟩:=kA.mp (p.mem_iff.mp g);lia
  exact(DQ this).trans (Fv _)
 have f:(c.map pA).Perm d:=by
  have:=p.map pA;rw[pJ] at this;have e:d.map (pA ∘ λn=>((n:Nat):Int))=d:=by
   have:∀n∈d,(pA ∘ λn=>((n:Nat):Int)) n=n:=λn _=>Ò
   exact(DQ this).trans (Fv _)
  rw[e] at this;exact this
 refine⟨c.map pA,?_,λx=>f.mem_iff,TV ?_ (f.nodup_iff.mpr k)⟩
 .rw[pJ];exact j.symm
 .rw[List.pairwise_map];exact s.imp λ{a b} h=>Ã
end Bg
namespace L2
open PySem PySem.Spec PyProof.Rows
def RN{b:Type}[DecidableEq b]{l:List b}:∀{zs:List b},l.Nodup->(∀y∈l,y∈zs)->l.length<=zs.length:=by
 induction l with
 |nil=>intro zs _ _;exact lu _
 |cons a r e=>
  intro zs g h;obtain⟨f,i⟩:=tv.mp g;have c:a∈zs:=h a pH;have:=e (zs:=zs.erase a) i λy d=>(List.mem_erase_of_ne (λz=>f (by rw[<-z];exact d))).mpr (h y (my _ d));rw[List.length_erase_of_mem c] at this;have:0<zs.length:=List.length_pos_of_mem c;simp only[iN];lia
abbrev yZ:É (Str×c_):=[(("default":Str),c_.none)]
def CO:(toString "min"++toString ".loop":String)="min.loop":=Ï
def kdN{prog:f5}{w:fW}{A:ig}{R:Result->fU->Prop}{I:d_}{G E:List d_}{n:Nat}{P:Nat->c_->Prop}{fO:Nat->Heap->Prop}(W:Walks prog w A.in1 I G E n P fO)(g:Nat->Nat->Bool)(O:CmpOf prog w A.in1 .Lt P g)(S:d_)(K:S∉G) :
  ∀(k j:Nat) (s:fU) (e:c_) (c:Nat),n-(j+1)=k->j+1<=n->fO (j+1) s.heap->P (v8 g j) e->Ć S=Á {cls:=.type "list",dict:=Ç,data:=.seq #[e,e] c,slots:=#[]}->
  (∀v h' t,P (v8 g (n-1)) v->(∀b o,b∉E->b≠S->Ć b=Á o->h'.get? b=Á o)->R (.ok (.ret v)) (Ď h' t))->
  pB (model prog w) A (.builtin "min.loop" (Æ [Â I,.none,Â S] yZ)) R s:=by
 have L:S∉E:=λz=>K (W.sub _ z);intro k
 induction k with
 |zero=>
  intro j s e c U T B r m d;have h:j+1=n:=Ã
  refine vN F.entry_min_loop ?_;rw[ig.under_plainId F.plain_min_loop _];show gN _ A.in1 (Cn (Â S) >>= _) _ _ s;refine fN (BM m À ?_);show gN _ A.in1 (tryCatch (uz (Â I)) _ >>= _) _ _ s;refine fN (Af (W.done s _ _ (h ▸ B) λQ t i=>?_));have a:=i S _ L m;show gN _ A.in1 (updateSeq S (λ_=>#[]) >>= _) _ _ _;refine fN ?_;refine BE a À (fN (EE (gH ?_)));exact d e _ t (by rw[<-h];exact r) λb o f l q=>(rf _ _ (Ne.symm l)).trans (i b o f q)
 |succ k J=>
  intro j s e c U T B r m d;have h:j+1<n:=Ã
  refine vN F.entry_min_loop ?_;rw[ig.under_plainId F.plain_min_loop _];show gN _ A.in1 (Cn (Â S) >>= _) _ _ s;refine fN (BM m À ?_);show gN _ A.in1 (tryCatch (uz (Â I)) _ >>= _) _ _ s;refine fN (Af (W.item (j+1) s _ _ h B λv Q t lE p i=>?_));have a:=i S _ L m;show gN _ A.in1 (tryCatch (holding [v,v] (richCompare .Lt v e >>= _)) _ >>= _) _ _ _;refine fN (Af (oh (fN (O (j+1) (v8 g j) v e _ _ _ lE r ?_))));refine fN (oh (vK ?_));refine fN (EE (gH ?_));cases H:g (j+1) (v8 g j) with
  |true=>
   simp only[if_true];refine fN ?_;refine BE a À (fN (EE ?_));rw[CO];refine gH ⟨vR F.plain_min_loop _,J (j+1) _ v _ Ã h (W.frame _ _ _ p λb M o q=>?_) (by simp only[v8,H,if_true];exact lE) (uS _ a À)
    λD u C y x=>d D u C y λb o f l q=>x b o f l ((rf _ _ (Ne.symm l)).trans (i b o f q))⟩
   exact(rf _ _ (λz:S=b=>K (by rw[z];exact M))).trans q
  |false=>
   simp only[Bool.false_eq_true,if_false];refine fN (EE ?_);rw[CO];exact gH ⟨vR F.plain_min_loop _,J (j+1) _ e c Ã h p (by simp only[v8,H,Bool.false_eq_true,if_false];exact r) a λD u C y x=>d D u C y λb o f l q=>x b o f l (i b o f q)⟩
def kb3{prog:f5}{w:fW}{A:ig}{R:Result->fU->Prop}{I:d_}{m g:List d_}{n:Nat}{P:Nat->c_->Prop}{fO:Nat->Heap->Prop}(W:Walks prog w A.in1 I m g n P fO)(h:Nat->Nat->Bool)(B:CmpOf prog w A.in1 .Lt P h)(S:d_)(k:S∉m){s:fU}{c:Nat}(st:fO 0 s.heap)
  (p:Ć S=Á {cls:=.type "list",dict:=Ç,data:=.seq #[] c,slots:=#[]})
  (d:n=0->∀h' a,(∀b o,b∉g->Ć b=Á o->h'.get? b=Á o)->R (.ok (.ret .none)) (Ď h' a))
  (i:0<n->∀v h' a,P (v8 h (n-1)) v->(∀b o,b∉g->b≠S->Ć b=Á o->h'.get? b=Á o)->R (.ok (.ret v)) (Ď h' a)) :
  pB (model prog w) A (.builtin "min.loop" (Æ [Â I,.none,Â S] yZ)) R s:=by
 have E:S∉g:=λz=>k (W.sub _ z);refine vN F.entry_min_loop ?_;rw[ig.under_plainId F.plain_min_loop _];show gN _ A.in1 (Cn (Â S) >>= _) _ _ s;refine fN (BM p À ?_);show gN _ A.in1 (tryCatch (uz (Â I)) _ >>= _) _ _ s;by_cases j:0<n
 .refine fN (Af (W.item 0 s _ _ j st λv r a lE l f=>?_));have e:=f S _ E p;show gN _ A.in1 (updateSeq S (λ_=>#[v,v]) >>= _) _ _ _;refine fN ?_;refine BE e À ?_;rw[CO];refine gH ⟨vR F.plain_min_loop _,kdN W h B S k _ 0 _ v _ À j (W.frame _ _ _ l λb y o q=>?_) lE (uS _ e À) λJ C H G D=>
   i j J C H G λb o u x q=>D b o u x ((rf _ _ (Ne.symm x)).trans (f b o u q))⟩
  exact(rf _ _ (λz:S=b=>k (by rw[z];exact y))).trans q
 .have t:n=0:=Ã
  refine fN (Af (W.done s _ _ (t ▸ st) λr a f=>?_));exact fN (Av (gH (d t r a f)))
def kc5(a:c_):argsOk "min" (Æ [a] yZ):=by unfold argsOk;kernel_rfl
theorem kgM{prog:f5}{w:fW}{A:ig}{E:gC}{s:fU}{id:String}{b:Builtin}{us:List c_}{a:List (Str×c_)}{Q:gC}(j:builtinKind id=none)(k:plainId id=true)(i:entryFor table id=Á b)(h:argsOk id (Æ us a))
  (g:ö prog w A.in1 (b (Æ us a)) (λc s'=>match c with
   |.done f=>(match(Except.ok f:Result) with|.ok (.ret v)=>Q v s'|.ok _=>False|.error e=>E e s')
   |.again d=>d.quiet=true/\pB (model prog w) A d (λr s'=>match r with|.ok (.ret v)=>Q v s'|.ok _=>False|.error e=>E e s') s') E s):ö prog w A (call (.builtin id) us a) Q E s:=by
 refine yn (Br k i ?_);simp only[Ac,j];cases m:Manifest.signature? id with
 |none=>exact gH g
 |some sig=>
  have l:Bind.checkArgs id sig (Æ us a)=pure ():=by simpa only[argsOk,m] using h
  simp only[l];exact gH g
def kdM{E:gC}{Q:gC}(n:A.handled=none)(r:s.heap.IsList l (xa xs))
  (m:xs.size=0->∀h' a,(∀b o,Ć b=Á o->h'.get? b=Á o)->Q .none (Ď h' a))
  (h:0<xs.size->∀v h' a,(xa xs)[v8 (λi j=>æ (numAt xs i<numAt xs j)) (xs.size-1)]?=Á v->(∀b o,Ć b=Á o->h'.get? b=Á o)->Q v (Ď h' a)) :
  ö prog w A (call (.builtin "min") [Â l] yZ) Q E s:=by
 refine kgM F.kind_min F.plain_min F.entry_min (kc5 _) ?_;show gN _ A.in1 (Builtin.Builtins.bindParams "min" ["key","default"] 0 (Æ [] yZ) >>= _) _ _ s;refine fN (BX (show Builtin.Builtins.bindParams "min" ["key","default"] 0 (Æ [] yZ)=pure [Ç,Á .none] by kernel_rfl) ?_);refine fN (gH ?_);refine fN (iter_intList r λD e B c x=>?_);subst e;refine fN (uW ?_);rw[CO];have W:=Walks.list (prog:=prog) (w:=w) (A:=A.in1) n ó l x (xa xs);have f:(xa xs).size=xs.size:=by simp[xa]
 have g:∀{h':Heap},(∀b o,b∉[ó]->b≠(s.heap.push (ć "list_iterator" (.fields #[Â l,.int 0 0]))).objs.size->(((s.heap.push (ć "list_iterator" (.fields #[Â l,.int 0 0]))).push (ć "list" (.seq #[]))).get? b=Á o->h'.get? b=Á o))->∀b o,Ć b=Á o->h'.get? b=Á o:=λ{h'} k b o q=>by
  have C:=iD q;refine k b o (λz=>?_) (λz=>?_) (i5 _ (i5 _ q))
  .have:=g_.mp z;lia
  .rw[wQ] at z;lia
 refine gH ⟨vR F.plain_min_loop _,kb3 W _ (CmpOf.ints_lt (numAt xs) λ_ _=>intItems_at) _ (λz=>px _ (c _ z)) (W.frame _ _ _ B λb _ o q=>i5 _ q) (mr _ À) (λt h' a k=>?_) λu v h' a p k=>?_⟩
 .exact m (by rw[<-f];exact t) h' a (g λb o d _ q=>k b o d q)
 .exact h (by rw[<-f];exact u) v h' a (by simpa[f] using p) (g λb o d y q=>k b o d y q)
def keU{X:fQ}{d:List (d_×Obj)}{s:fU}{M:fO}{H:b_}{a:d_}{G:List Str}{m:Nat}{Q:fS}(I:fJ X d M H s)
  (T:BgSet.SetTb (Ek ë X.w) s.heap a (λk=>æ (k∈G)) m (! BgSet.byText X.w) true)
  (q:∀f:List Str,f.Nodup->(∀x,x∈f↔x∈G)->Q (Ë (f.length:Nat)) H) :
  ö ë X.w X.A (call (.builtin "len") [Â a]) (lG X d M Q) X.xe s:=by
 obtain⟨o,g,Z,t,U,hex,p,v,h,R,S,hn,W,K,n⟩:=T;have hz:g.size<=gM:=fits_of_scanBound R;have b:∀e∈g.toList,∃x t,e.2=.str x t:=λe c=>by
  obtain⟨⟨k,B,_⟩,_⟩:=v e c;obtain⟨t,E⟩:=c_.isStrOf_shape B;exact Î k t E
 have C:∀x,x∈g.toList.map (λe=>strOf e.2)↔x∈G:=λx=>by
  rw[kA];have:=h x;rw[decide_eq_true_eq] at this;rw[this];constructor
  .rintro⟨e,c,rfl⟩;obtain⟨y,t,j⟩:=b e c;refine Î e c ?_;show c_.isStrOf (strOf e.2) e.2=true;rw[j];simp[strOf,c_.isStrOf]
  .rintro⟨e,c,B⟩;obtain⟨t,E⟩:=c_.isStrOf_shape B;exact Î e c (by show strOf e.2=x;rw[E];rfl)
 have D:(g.toList.map (λe=>strOf e.2)).Nodup:=by
  unfold List.Nodup;rw[List.pairwise_map];refine List.Pairwise.imp_of_mem (λ{e l} c u r z=>?_) n;obtain⟨y,t,j⟩:=b e c;obtain⟨Y,t',i⟩:=b l u;have O:y=Y:=by have:strOf e.2=strOf l.2:=z;rw[j,i] at this;exact this
  have P:c_.isStrOf y e.2=true:=by rw[j];simp[c_.isStrOf]
  have J:c_.isStrOf y l.2=false:=r y P;rw[i,O] at J;simp[c_.isStrOf] at J
 have L:=q _ D C;rw[fP,lO] at L;have hl:=yF;have hs:gM=16777216:=u4;exact call_len_set U hex p S Ã ⟨Ë (g.size:Nat),H,I.tok _,Æ _ À,L⟩
def CG(K:a_)(t:kF):gp:=λe H Q=>t e H λd c=>∃(p:d_) (b:List Str),d=[Â p]/\Rw K true c p (b.map Ê)/\b.length<=4000/\
 ∀a:List Str,a.Nodup->(∀x,x∈a↔x∈b)->Q (Ë (a.length:Nat)) c
def kdV{X:fQ}{a:Expr}{R:kF}{p1 n pos c:Pos}(hg:ko X "len")(y:ko X "set")(M:X.mg "len"=none)(z:X.mg "set"=none)(hc:X.calm=true)(Z:ny X [a] R)
  (B:gK [a] Û=[(Ü,þ a)]:=by rfl) (O:gK [Č "set" n [a] [] c] Û=[(Ü,þ (Č "set" n [a] [] c))]:=by rfl) :
  gL X (Č "len" p1 [Č "set" n [a] [] c] [] pos) (CG X.K R):=by
 intro d s G H Q I h;refine wI (uw I hg M boot_len ?_);refine PyProof.Rows.callWith_builtin1 ?_ O À;rw[O];show gN _ _ (spliced ((Ü,þ (Č "set" n [a] [] c))::lR pos [])) _ _ s;refine Calls.spliced_cons ?_;refine wI (uw I y z (show uZ "set"=Á (.type "set") by kernel_rfl) ?_);refine xV (gq (Z c d s G H _ I h) λus g ⟨S,U,p,r1,q1⟩=>?_) B À;obtain⟨l,D,rfl,hq,hlen,q⟩:=q1;obtain⟨u,rfl,rx⟩:=oU r1;cases rx;obtain⟨f,P,at_⟩:=p.seqB hq;have C:=P.length;rw[fP] at C;have L:=CA P;have hv:∀(i:Nat) k v,D[i]?=Á k->f.toArray[i]?=Á v->(Ek ë X.w).is k v=true/\v.scannable=true/\(true=true->Cm v=false):=λi k v J r=>by
  rw[List.getElem?_toArray] at r;have:=L.strs;rw[<-this,i3,r] at J;obtain⟨x,t,rfl⟩:=L.all v (iS r);have e:x=k:=by simpa[strOf] using J
  subst e;exact Ą (by show c_.isStrOf x (.str x t)=true;simp[c_.isStrOf]) (λ_=>À)
 have hb:f.toArray.size+1<scanBound:=by rw[iq,<-C];unfold scanBound;lia
 have Y:∀(j:Heap) (E m:Nat),m<=f.toArray.size->BgSet.SetTb (Ek ë X.w) j g.heap.objs.size (λk=>æ (k∈D)) m (! BgSet.byText X.w) true->
   (∀b o,b<g.heap.objs.size->g.heap.get? b=Á o->j.get? b=Á o)->
   ö ë X.w X.A (spliced (lR pos [])) (λS s'=>ö ë X.w X.A (call (.builtin "len") (Â g.heap.objs.size::S)) (lG X d G Q) X.xe s') X.xe {g with heap:=j,toks:=E}:=λj E m M T kp=>by
  have W:fJ X d G U {g with heap:=j,toks:=E}:=p.kept λb u e=>kp b u (iD e) e;exact Calls.spliced_nil (keU W T q)
 exact BgSet.set_of_tuple (kd:=Ek ë X.w) D true (p.ok.hd hc) at_ (by rw[iq];exact C) hv hb Y
def N'{X:fQ}{a:Expr}{g:kF}{m f pos b:Pos}(j:ko X "len")(c:ko X "set")(k:X.mg "len"=none)(d:X.mg "set"=none)(i:X.calm=true)(h:mG X [a] g)
  (e:gK [a] Û=[(Ü,þ a)]:=by rfl) (l:gK [Č "set" f [a] [] b] Û=[(Ü,þ (Č "set" f [a] [] b))]:=by rfl) :
  gE X (Č "len" m [Č "set" f [a] [] b] [] pos) (CG X.K g):=⟨kdV j c k d i h.up e l⟩
theorem N2:∀{a:List Int} {us:List c_},gQ (a.map V.int) us->vf us a
 |[],_,.nil=>.nil
 |n::r,_,.cons (b:=u) h t=>by
  obtain⟨k,rfl⟩:=h;exact .cons _ _ (N2 t)
def Ha(K:a_)(t:kF):gp:=λd H Q=>t d H λc b=>∃(p:d_) (a:List Int),c=[Â p]/\hH K b p (a.map V.int)/\(a=[]->ē b)/\∀z,z∈a->(∀y∈a,z<=y)->Q (Ë z) b
def khK(S:ko X "min")(R:X.calm=true)(W:X.mg "min"=none)(P:ny X [a] B)(w:gK [a] Û=[(Ü,þ a)]:=by rfl) :
  gL X (Č "min" p1 [a] [⟨Á "default",.Constant .none j kp,d⟩] pos) (Ha X.K B):=by
 intro b s D H Q I h;refine wI (uw I S W boot_min ?_);refine PyProof.Rows.callWith_kw ?_ (by rw[w];rfl) (by rw[w];rfl) À À;refine gq (P pos b s D H _ I h) λus s1 o=>?_;obtain⟨C,p,E,r1,l,z,L,Y,q0,q⟩:=o;subst L;obtain⟨u,rfl,rx⟩:=oU r1;cases rx;refine gq ((khT (nm:=Á "default") (kpos:=d) (R9 (X:=X) (j:=j) (pos:=kp)) kjV) pos b s1 D p (λC f=>C=[.non]/\f=p) E (Æ À À)) λks s2 o=>?_;obtain⟨zs,f,g,r2,G,J⟩:=o;subst G J;obtain⟨k1,rfl,rk⟩:=oU r2;obtain rfl:k1=c_.none:=rk;obtain⟨n,rv,pl,hz⟩:=g.list Y;have r:vf n z:=N2 rv;obtain⟨m,e⟩:=r.allInts.items;have c:z=m.toList.map (·.1):=by rw[<-r.numsOf,<-nums_intItems,<-e]
 have U:s2.heap.IsList l (xa m):=by rw[<-e];exact pl.isList
 refine kdM (g.ok.hd R) U (λx0 M tk k=>?_) λx1 v M tk Z k=>?_
 .refine Õ .non f (g.kept k) (q0 ?_);rw[c];simp[Hg x0]
 .obtain⟨t,rfl⟩:=intItems_at Z;obtain⟨h1,O⟩:=argBest_lt (numAt m) (m.size-1);refine⟨Ë _,f,g.kept k,Æ t À,q _ ?_ λy x=>?_⟩
  .rw[c,numAt_eq];exact getD_mem (by rw[fP,lO];lia)
  .rw[c] at x;obtain⟨i,T,rfl⟩:=mem_getD x;rw[fP,lO] at T;rw[<-numAt_eq];exact O i Ã
def khs(f:ko X "min")(e:X.calm=true)(g:X.mg "min"=none)(d:mG X [a] c)(h:gK [a] Û=[(Ü,þ a)]:=by rfl) :
  gE X (Č "min" i [a] [⟨Á "default",.Constant .none j kp,b⟩] pos) (Ha X.K c):=⟨khK f e g d.up h⟩
structure xb(P:f5)(w:fW)(K:a_)(mg:Str->Option c_)(base:Heap)(x:Str)(ps:Ñ)(k:Nat)(sp:gO):Prop where
 ex:∃(f:d_) (fd:m6),mg x=Á (Â f)/\rh K (Â f)=true/\uC K fd ps []/\oI P w K mg base (pG P w) k f fd ps sp
structure yN(P:f5)(w:fW)(K:a_)(mg:Str->Option c_)(base:Heap)(x:Str)(C:d_)(ps:Ñ)(k:Nat)(sp:gO):Prop where
 ex:∃(f:d_) (fd:m6),mg x=Á (Â C)/\GA K C f/\uC K fd ps []/\oI P w K mg base oK k f fd ps sp
def kj4{X:fQ}{k:Nat}{ps:List Str}{sp:gO}{x:Str}{p pos:Pos}{e:Expr}{es:List Expr}{t:kF}{E:f_}(c:xb ë X.w X.K X.mg X.base x ps k sp)(m:ku k X.A)(i:ko X x)(n:vk (pG ë X.w) X E)(d:mG X (e::es) t)
  (a:(x==("__debug__":Str))=false:=by decide) (h:gK (e::es) Û=(Ü,þ e)::gK es Û:=by rfl) (b:(lR pos (gK es Û)).any (·.1)=false:=by rfl) :
  gE X (Č x p (e::es) [] pos) (å sp E t):=by
 obtain⟨f,o,l,j,g,F⟩:=c.ex;exact⟨Rj F m i l j g .nil n d.up a h b⟩
def FY{X:fQ}{k:Nat}{C:d_}{ps:List Str}{sp:gO}{x:Str}{p pos:Pos}{e:Expr}{es:List Expr}{t:kF}(M:yN ë X.w X.K X.mg X.base x C ps k sp)(j:ku (k+1) X.A)(h:ko X x)(hz:ps.length<=1000)(c:mG X (e::es) t)
  (a:(x==("__debug__":Str))=false:=by decide) (g:gK (e::es) Û=(Ü,þ e)::gK es Û:=by rfl) (b:(lR pos (gK es Û)).any (·.1)=false:=by rfl) :
  gE X (Č x p (e::es) [] pos) (xq C sp t):=by
 obtain⟨f,m,i,l,d,F⟩:=M.ex;exact⟨kfD l F j h i d hz c.up a g b⟩
def CD(f:gE X o d)(h:gE X a e)(g:u6 a (Á (.Attribute o c b)) pos.line Û=pure Ü):oZ X (.Assign [.Attribute o c b] a pos) (yS X.K d e c):=⟨kh2 f.up h.up g⟩
def CS(d:gE X e b)(c:tx e a Û (þ e)=þ e):gE X (.Attribute e a pos) (xD X.K b a):=⟨khJ d.up c⟩
def FZ(d:GE X E)(c:X.A.handled=none)(b:gE X e a):oZ X (.Raise (Á e) Ç pos) (xr X.K E a):=⟨kfK d c b.up⟩
def IE{P:f5}{w:fW}{K:a_}{e:Str->Option c_}{a:Heap}{N:List Str}{b:Str}{scope:Scope}{f:d_}{c:c_}{A:ig}{outer:List Env}{s:fU}{H:b_}{E:f_}:GE (pT (pG P w) P w K e a N b scope f c A outer s H E) E:=λ_ _ _ _ _ _ _ I d n q=>kbU I d n q
def kgA{P:f5}{w:fW}{K:a_}{i:Str->Option c_}{c:Heap}{x a:Str}{st:Stmt}{f:d_}{fd:m6}{N ps:List Str}{k:Nat}{sp:gO}(F:wk K x a st f fd)(S:vZ N ps (kf st))(h:∀vs H Q E,sp vs H Q E->vs.length=ps.length)
  (d:∀(b:c_) (A:ig) (outer:List Env) (s:fU) (H:b_) (vs:List V) (Q:fS) (E:f_),ku k (A.deeper (oB a (kf st) ó f b))->sp vs H Q E->
   ∃t,nq (pT (pG P w) P w K i c N a (kf st) f b A outer s H E) (nJ st) t/\t (ì í Q) (gW N vs) H):oI P w K i c (pG P w) (k+1) f fd ps sp:=by
 obtain⟨o,p,iP,doc,q,n,b,ct,m,rfl,l,e⟩:=F.ex;exact G5 l e S h λA outer s H vs Q E j g=>d b A outer s H vs Q E j g
end L2
namespace Bg
open PySem L2
def El:Option Str->V
 |none=>.non
 |some y=>Ä y
def BS(_:a_):gO:=λf H Q _=>∃(rt:d_) (e:Option Str) (a:List V) (d:List gG),f=[Â rt,El e]/\H rt=ä a/\ia (kh H) a d/\wY d/\
 ∀(l:d_) (c:List Nat) (b:b_),(∀m,m∈c↔ou d e m)->c.Pairwise (·<·)->b l=Ð (gu c)->H l=none->Ö b->Q (Â l) b
abbrev kbP:Nat:=2
abbrev Mj:Nat:=3
def vF(b:kI)(n:Nat):Prop:=∃r y,b.rows[n]?=Á r/\y∈mJ r/\y∉b.params/\ou b.rows (Á y) n
structure CZ(cs:É Nat)(b:kI):Prop where
 pnd:b.params.Nodup
 p9:b.params.length<=100
 good:wY b.rows
 gl:∀r∈b.rows,∀t:Nat,uv r=Ë (t:Nat)->t<b.rows.length
 calls:∀x k as,gG.call x k as∈b.rows->cs[k]?=Á as.length
 last:b.rows.getLast?.map oG=Á true
 rd:∀r∈b.rows,Ô (mJ r)<=100
structure kiu(bs:É kI):Prop where
 few:bs.length<=100
 nnd:(bs.map (·.name)).Nodup
 part:∀b∈bs,CZ (bs.map (·.params.length)) b
def kku{p:Nat->Prop}:∀n,p n->∃m,p m/\∀j,j<m->¬p j:=λn=>by
 induction n using Nat.strongRecOn with
 |ind n b=>
  intro h;by_cases c:∃m,m<n/\p m
  .obtain⟨m,a,q⟩:=c;exact b m a q
  .exact Î n h (λj a q=>c (Î j a q))
def xh.clean(h:xh ys cs b)(n:Nat):¬vF b n:=by
 rintro⟨r,y,p,G,E,l⟩;obtain⟨a,j,k,x⟩:=h.known;have g:=h.good;have s:∀{m:Nat},ou b.rows (Á y) m->∀c,a[m]?=Á c->y∉c:=λ{m} D=>by
  induction D with
  |zero=>exact λc e z=>E (k.zero c e y z)
  |step C o B v t=>
   rename_i i u w;intro c e z;have f:=C.lt g;have d:a[i]?=Á a[i]:=gF (by rw[j];exact f);rcases k.on i u w _ c o v d e y z with q|q
   .exact t _ d q
   .exact B y À q
 have f:=l.lt g;have d:a[n]?=Á a[n]:=gF (by rw[j];exact f);exact s l _ d (x n r _ p d y G)
def yD.sh(h:yD ys cs i):kiu i:=by
 refine⟨by have:=h.few;lia,h.nnd,λb j=>?_⟩;have p:=h.part b j;have m:b.params.length<=4:=h.c4 _ (by rw[<-h.cnt];exact kA.mpr (Î b j À));refine⟨p.pnd,Ã,p.good,λr f t e=>?_,λx k d l=>?_,p.last,λr f=>?_⟩
 .have c:=p.rows r f;cases r with
  |jump g=>
   have:g=t:=by injection e with e;lia
   subst this;exact c
  |test a g=>
   have:g=t:=by injection e with e;lia
   subst this;exact c.2
  |_=>cases e
 .rw[h.cnt];exact(p.rows _ l).2.1
 .have c:=p.rows r f;cases r with
  |call x k d=>
   have:d.length<=4:=h.c4 _ (iS c.2.1);show d.length<=100;lia
  |op x s a b=>show 2<=100;decide
  |num x z=>show 0<=100;decide
  |jump t=>show 0<=100;decide
  |_=>show 1<=100;decide
structure DC(K:a_):Prop where
 clN:mW K (iI K "NoProgram")
 nNp:r8 K (iI K "NoProgram") "part"
 nNr:r8 K (iI K "NoProgram") "row"
 nNw:r8 K (iI K "NoProgram") "word"
 mNN:wt K (iI K "NoProgram") (iI K "NoProgram")
structure yX(K:a_):Prop where
 clL:mW K (iI K "NoLine")
 nLl:r8 K (iI K "NoLine") "line"
def we(k n:Int)(w:Str):É (Str×V):=[("part",Ë k),("row",Ë n),("word",Ä w)]
def Ab(K:a_):gO:=λf H Q _=>∃(x:d_) (a b c:V),f=[Â x,a,b,c]/\H x=Á (kW x (iI K "NoProgram") Ç)/\
 ∀(d:d_) (e:b_),H d=none->d≠x->e x=Á (kW x (iI K "NoProgram") (Á d))->e d=Á (kv d [("part",a),("row",b),("word",c)])->hI x H e->ē e
def Al(K:a_):gO:=λd H Q E=>∃(k:Int) (r:V) (c:Str),d=[Ë k,r,Ä c]/\((r=.non/\ē H)\/
 ∃n:Int,r=Ë n/\∀(b:d_) (a:b_),Ö a->a b=Á (kv b (we k n c))->E (Â (iI K "NoProgram")) (Á b) a)
def Ia(_:a_):gO:=λd H Q _=>∃(v:V) (b:kI) (c:List Nat),d=[v]/\uu H v b/\CZ c b/\((∀n,¬vF b n)->∀(a:b_),Ö a->ē a)/\
 ∀n:Nat,vF b n->(∀m,m<n->¬vF b m)->∀(a:b_),Ö a->Q (Ë (n:Nat)) a
def HQ(_:a_):gO:=λe H Q _=>∃(rt:d_) (a:List V) (b:List gG),e=[Â rt]/\H rt=ä a/\ia (kh H) a b/\b.length<64/\(∀r∈b,Ô (mJ r)<=100)/\
 ∀(l:d_) (d:List Str) (c:b_),(∀y,y∈d↔∃r∈b,y∈mJ r)->d.length<=7000->H l=none->c l=Ð (d.map Ê)->Ö c->Q (Â l) c
abbrev We:Nat:=0
abbrev HE:Nat:=1
abbrev kbO:Nat:=2
abbrev kbq:Nat:=3
abbrev WR:Nat:=1
abbrev Wz:Nat:=2
abbrev XO:Nat:=3
abbrev W2:Nat:=4
def AL(_:a_):gO:=λb H Q _=>∃(rt:d_) (n:Nat) (a:List V) (v:V) (r:gG),b=[Â rt,Ë (n:Nat)]/\H rt=ä a/\a[n]?=Á v/\kh H v r/\∀l,H l=none->Q (Â l) (Ý H l (gu (ma n r)))
abbrev kjx:Nat:=0
abbrev kiy:Nat:=1
def Gc(_:a_):gO:=λb H Q _=>∃(v:V) (r:gG),b=[v]/\kh H v r/\∀(l:d_) (a:b_),a l=Ð ((mJ r).map Ê)->H l=none->Ö a->Q (Â l) a
abbrev kjz:Nat:=0
abbrev kiA:Nat:=1
def Fb(_:a_):gO:=λh H Q _=>∃(g rt:d_) (y:Str) (f:List Str) (a:List V) (c:List gG),h=[Â g,Â rt,Ä y]/\H g=ä (f.map Ê)/\f.length<=100/\H rt=ä a/\ia (kh H) a c/\wY c/\
 ∀(l:d_) (e:List Bool) (d:b_),e.length=c.length->(∀(m:Nat) b,e[m]?=Á b->(b=true↔y∉f/\ou c (Á y) m))->H l=none->d l=Ð (e.map V.bl)->Ö d->Q (Â l) d
abbrev kc4:Nat:=1
abbrev kcH:Nat:=2
def F6(_:a_):gO:=λg H Q _=>∃(e rt:d_) (a:List V) (b:kI) (f:List Nat),g=[Â e,Â rt]/\H e=ä (b.params.map Ê)/\H rt=ä a/\ia (kh H) a b.rows/\CZ f b/\
 ∀(l:d_) (c:List Nat) (d:b_),(∀m,m∈c↔vF b m)->c.Pairwise (·<=·)->c.length<=7000->H l=none->d l=Ð (gu c)->Ö d->Q (Â l) d
abbrev kgJ:Nat:=2
abbrev kf7:Nat:=3
inductive iW where
 |num (x:Str) (z:Int)
 |op (x s a b:Str)
 |call (x:Str) (k:Int) (as:Ñ)
 |say (a:Str)
 |jump (to:Int)
 |test (a:Str) (to:Int)
 |give (a:Str)
structure gD where
 name:Str
 params:Ñ
 rows:É iW
def vo:iW->Str
 |.num _ _=>"num"|.op _ _ _ _=>"op"|.call _ _ _=>"call"|.say _=>"say"|.jump _=>"jump"|.test _ _=>"test"|.give _=>"give"
def mK(H:b_)(v:V):iW->Prop
 |.num x z=>∃p,v=Â p/\H p=ä [Ä "num",Ä x,Ë z]
 |.op x s a b=>∃p,v=Â p/\H p=ä [Ä "op",Ä x,Ä s,Ä a,Ä b]
 |.call x k d=>∃p q,v=Â p/\H p=ä [Ä "call",Ä x,Ë k,Â q]/\H q=ä (d.map Ê)
 |.say a=>∃p,v=Â p/\H p=ä [Ä "say",Ä a]
 |.jump c=>∃p,v=Â p/\H p=ä [Ä "jump",Ë c]
 |.test a c=>∃p,v=Â p/\H p=ä [Ä "test",Ä a,Ë c]
 |.give a=>∃p,v=Â p/\H p=ä [Ä "give",Ä a]
def mK.mono(h:mK H v r)(t:gZ H H'):mK H' v r:=by
 cases r with
 |call x k b=>obtain⟨p,q,e,h,a⟩:=h;exact⟨p,q,e,t _ _ h,t _ _ a⟩
 |_=>obtain⟨p,e,h⟩:=h;exact Î p e (t _ _ h)
def mK.ref(h:mK H v r):∃p xs,v=Â p/\H p=ä (Ä (vo r)::xs):=by
 cases r with
 |call x k a=>obtain⟨p,q,e,h,b⟩:=h;exact⟨p,_,e,h⟩
 |_=>obtain⟨p,e,h⟩:=h;exact⟨p,_,e,h⟩
def iW.low:iW->gG
 |.num x z=>.num x z
 |.op x s a b=>.op x s a b
 |.call x k d=>.call x k.toNat d
 |.say a=>.say a
 |.jump c=>.jump c.toNat
 |.test a c=>.test a c.toNat
 |.give a=>.give a
def gG.up:gG->iW
 |.num x z=>.num x z
 |.op x s a b=>.op x s a b
 |.call x k d=>.call x (k:Nat) d
 |.say a=>.say a
 |.jump c=>.jump (c:Nat)
 |.test a c=>.test a (c:Nat)
 |.give a=>.give a
def gG.up_low(r:gG):r.up.low=r:=by cases r<;>simp[gG.up,iW.low]
def kh.up(h:kh H v r):mK H v r.up:=by cases r<;>exact h
def iW.ok0:iW->Prop
 |.call _ k _=>0<=k
 |.jump a=>0<=a
 |.test _ a=>0<=a
 |_=>True
def mK.low(h:mK H v r)(k:r.ok0):kh H v r.low:=by
 cases r with
 |call x n d=>obtain⟨p,q,e,h,c⟩:=h;exact⟨p,q,e,by rw[show((n.toNat:Nat):Int)=n from by have:0<=n:=k;lia];exact h,c⟩
 |jump b=>obtain⟨p,e,h⟩:=h;exact Î p e (by rw[show((b.toNat:Nat):Int)=b from by have:0<=b:=k;lia];exact h)
 |test a b=>obtain⟨p,e,h⟩:=h;exact Î p e (by rw[show((b.toNat:Nat):Int)=b from by have:0<=b:=k;lia];exact h)
 |_=>exact h
def yM:iW->V
 |.jump a=>Ë a
 |.test _ a=>Ë a
 |_=>.non
def xk:iW->Bool
 |.jump _=>true
 |.give _=>true
 |_=>false
def kgQ(r:iW):oG r.low=xk r:=by cases r<;>rfl
def rT(cs:É Nat)(n:Nat):iW->Prop
 |.call _ k b=>k<0\/cs[k.toNat]?≠Á b.length
 |.jump a=>a<0\/(n:Int)<=a
 |.test _ a=>a<0\/(n:Int)<=a
 |_=>False
def rT.ok0(h:¬rT cs n r):r.ok0:=by
 cases r with
 |call x k c=>exact ES.mp λz=>h (È z)
 |jump b=>exact ES.mp λz=>h (È z)
 |test a b=>exact ES.mp λz=>h (È z)
 |_=>trivial
def Kv(cs:É Nat)(ws:É iW)(n:Nat):Prop:=∃r,ws[n]?=Á r/\(rT cs ws.length r\/(n+1=ws.length/\xk r=false))
def oV(rs:É gG)(n:Nat):Prop:=(∃r,rs[n]?=Á r/\oP r=true)/\∃k,runJ rs (k+1) n=n
section
variable(f:Nat->Nat)(p:Nat->Bool)
variable{f p}
theorem GI:∀(L:Nat) (g:Nat->Nat),(∀k,k<=L->g k<L)->∃i j,i<j/\j<=L/\g i=g j
 |0,g,h=>Ì (h 0 ï) (by omega)
 |L+1,g,h=>by
  by_cases m:∃i,i<L+1/\g i=g (L+1)
  .obtain⟨i,d,e⟩:=m;exact⟨i,L+1,d,ï,e⟩
  .have a:∀i,i<L+1->g i≠g (L+1):=λi d e=>m (Î i d e);have q:=h (L+1) ï;have l:∀k,k<=L->(if g k=L then g (L+1) else g k)<L:=λk s=>by
    have o:=h k (by omega);have n:=a k (by omega);by_cases e:g k=L
    .rw[if_pos e];have p:g (L+1)≠L:=λz=>n (by rw[e,z]);omega
    .rw[ù e];omega
   obtain⟨i,j,f,r,e⟩:=GI L (λk=>if g k=L then g (L+1) else g k) l;refine⟨i,j,f,by omega,?_⟩;by_cases c:g i=L
   .by_cases b:g j=L
    .rw[c,b]
    .simp only[if_pos c,ù b] at e;exact Ì e.symm (a j (by omega))
   .by_cases b:g j=L
    .simp only[ù c,if_pos b] at e;exact Ì e (a i (by omega))
    .simp only[ù c,ù b] at e;exact e
end
theorem wX(rs:É gG):∀(a b n:Nat),runJ rs (a+b) n=runJ rs b (runJ rs a n)
 |0,b,n=>by rw[Nat.zero_add];rfl
 |a+1,b,n=>by
  rw[Nat.add_right_comm];show runJ rs (a+b) (stp rs n)=runJ rs b (runJ rs a (stp rs n));exact wX rs a b _
def GP(b:∀r∈rs,∀t:Nat,uv r=Ë (t:Nat)->t<rs.length)(a:n<rs.length):stp rs n<rs.length:=by
 unfold stp;cases e:rs[n]? with
 |none=>exact a
 |some r=>
  cases r with
  |jump t=>exact b _ (iS e) t À
  |_=>exact a
theorem AC(b:∀r∈rs,∀t:Nat,uv r=Ë (t:Nat)->t<rs.length):∀(k:Nat) {n:Nat},n<rs.length->runJ rs k n<rs.length
 |0,_,a=>a
 |k+1,n,a=>AC b k (GP b a)
def tK(rs:É gG)(n:Nat):Prop:=∃r,rs[n]?=Á r/\oP r=true
def kaa(h:¬tK rs n):∀r,rs[n]?=Á r->oP r=false:=λr e=>by
 cases c:oP r with
 |false=>rfl
 |true=>exact Ì (Î r e c) h
def stay(h:¬tK rs n)(k:Nat):runJ rs k n=n:=EM (kaa h) k
def LS(h:tK rs (runJ rs b n))(d:a<=b):tK rs (runJ rs a n):=by
 apply Classical.byContradiction;intro c;have e:runJ rs b n=runJ rs a n:=by
  rw[show b=a+(b-a) from Ã,wX];exact stay c _
 rw[e] at h;exact c h
def kdP(a:∀r∈rs,∀t:Nat,uv r=Ë (t:Nat)->t<rs.length)(h:∀n,¬oV rs n):yE rs:=by
 intro n d r e;cases c:oP r with
 |false=>rfl
 |true=>
  exfalso;obtain⟨i,j,l,g,q⟩:=GI rs.length (λk=>runJ rs k n) λk _=>AC a k d;have f:tK rs (runJ rs i n):=LS (b:=rs.length) (Î r e c) Ã;refine h (runJ rs i n) ⟨f,j-i-1,?_⟩;rw[<-wX,show i+(j-i-1+1)=j from Ã];exact q.symm
def oV.first{rs:List gG}(f:∀r∈rs,∀t:Nat,uv r=Ë (t:Nat)->t<rs.length){n:Nat}(g:n<rs.length)(h:oV rs n):∃p,1<=p/\p<=rs.length/\runJ rs p n=n/\∀q,1<=q->q<p->runJ rs q n≠n:=by
 obtain⟨_,k,e⟩:=h;obtain⟨p,⟨l,a⟩,c⟩:=kku (p:=λp=>1<=p/\runJ rs p n=n) (k+1) (Æ Ã e);refine⟨p,l,?_,a,λq o b z=>c q b (Æ o z)⟩;apply Classical.byContradiction;intro d;obtain⟨i,j,b,s,q⟩:=GI rs.length (λk=>runJ rs k n) λk _=>AC f k g;have m:runJ rs i n=runJ rs j n:=q;refine c (i+(p-j)) Ã (Æ Ã ?_);rw[wX,m,<-wX,show j+(p-j)=p from Ã];exact a
def oV.jumps(h:oV rs n)(a:Nat):tK rs (runJ rs a n):=by
 obtain⟨j,k,e⟩:=h;have all:∀m,runJ rs (m*(k+1)) n=n:=λm=>by
  induction m with
  |zero=>rw[Nat.zero_mul];rfl
  |succ m c=>rw[Nat.succ_mul,wX,c,e]
 refine LS (b:=a*(k+1)) (by rw[all];exact j) ?_;exact Nat.le_mul_of_pos_right a Ã
def kfu(l:∀r∈rs,∀t:Nat,uv r=Ë (t:Nat)->t<rs.length)(m:n<rs.length)(h:∀a b,a<b->b<i->runJ rs a n≠runJ rs b n)(q:∀a,a<i->tK rs (runJ rs a n))
  (k:¬tK rs (runJ rs i n)\/∃j,j<i/\runJ rs i n=runJ rs j n):(runJ rs i n=n/\0<i)↔oV rs n:=by
 constructor
 .rintro⟨e,pos⟩;exact⟨q 0 pos,i-1,by rw[show i-1+1=i from Ã];exact e⟩
 .intro g;obtain⟨p,v,_,d,s⟩:=g.first l m;rcases k with c|⟨j,u,f⟩
  .exact Ì (g.jumps i) c
  .have w:i<=p:=by
    apply Classical.byContradiction;intro z;exact h 0 p Ã Ã d.symm
   refine Æ ?_ Ã;by_cases c:p=i
   .rw[<-c];exact d
   .by_cases o:j=0
    .subst o;exact f
    .exfalso;refine s (j+(p-i)) Ã Ã ?_;rw[wX,<-f,<-wX,show i+(p-i)=p from Ã];exact d
def tT(rs:É gG)(n m:Nat):Nat:=if m=n then m else stp rs m
def sk(rs:É gG)(n:Nat):Nat->Nat->Nat
 |0,m=>m
 |k+1,m=>tT rs n (sk rs n k m)
def khF(k:Nat):(∃q,1<=q/\q<=k+1/\runJ rs q n=n/\sk rs n k (stp rs n)=n)\/((∀q,1<=q->q<=k+1->runJ rs q n≠n)/\sk rs n k (stp rs n)=runJ rs (k+1) n):=by
 induction k with
 |zero=>
  by_cases c:runJ rs 1 n=n
  .exact È ⟨1,Ã,Ã,c,c⟩
  .exact Í ⟨λq a b=>by rw[show q=1 from Ã];exact c,À⟩
 |succ k f=>
  rcases f with⟨q,a,b,e,l⟩|⟨no,l⟩
  .refine È ⟨q,a,Ã,e,?_⟩;show tT rs n (sk rs n k (stp rs n))=n;rw[l];unfold tT;rw[if_pos À]
  .have d:sk rs n (k+1) (stp rs n)=runJ rs (k+2) n:=by
    show tT rs n (sk rs n k (stp rs n))=_;rw[l];unfold tT;rw[ù (no (k+1) Ã Ã),<-Cc]
   by_cases c:runJ rs (k+2) n=n
   .exact È ⟨k+2,Ã,Ã,c,by rw[d];exact c⟩
   .refine Í ⟨λq a b=>?_,d⟩;by_cases z:q=k+2
    .rw[z];exact c
    .exact no q a Ã
def kdD(b:∀r∈rs,∀t:Nat,uv r=Ë (t:Nat)->t<rs.length)(c:n<rs.length)(j:tK rs n):sk rs n rs.length (stp rs n)=n↔oV rs n:=by
 rcases khF (rs:=rs) (n:=n) rs.length with⟨q,h,i,e,l⟩|⟨no,l⟩
 .exact⟨λ_=>⟨j,q-1,by rw[show q-1+1=q from Ã];exact e⟩,λ_=>l⟩
 .constructor
  .intro z;rw[l] at z;exact Ì z (no _ Ã Ã)
  .intro f;obtain⟨p,d,g,a,_⟩:=f.first b c;exact Ì a (no p d Ã)
def gD.low(b:gD):kI:=Î b.name b.params (b.rows.map iW.low)
def kkb(r:iW):Ñ:=mJ r.low
structure RH(b:gD):Prop where
 p9:b.params.length<=100
 few:b.rows.length<64
 rd:∀r∈b.rows,Ô (kkb r)<=100
structure tL(ps:É gD):Prop where
 few:ps.length<=100
 part:∀b∈ps,RH b
def lL(ps:É gD):É Nat:=ps.map (·.params.length)
def vq(ps:É gD)(k:Nat)(b:gD):Prop:=b.name∈(ps.take k).map (·.name)\/¬b.params.Nodup
def rP(cs:É Nat)(b:gD)(n:Nat):Prop:=(b.rows=[]/\n=0)\/Kv cs b.rows n
def oE(p:Nat->Prop)(n:Nat):Prop:=p n/\∀m,m<n->¬p m
def oE.one(a:oE p n)(b:oE p m):n=m:=by
 rcases Iy n m with lt|eq|lt
 .exact Ì a.1 (b.2 n lt)
 .exact eq
 .exact Ì b.1 (a.2 m lt)
inductive sX(ps:É gD)(k:Nat)(b:gD):Nat->Str->Prop where
 |name:vq ps k b->sX ps k b 0 "name"
 |row {n:Nat}:¬vq ps k b->oE (rP (lL ps) b) n->sX ps k b n "row"
 |ring {n:Nat}:¬vq ps k b->(∀m,¬rP (lL ps) b m)->oE (oV b.low.rows) n->sX ps k b n "ring"
 |unset {n:Nat}:¬vq ps k b->(∀m,¬rP (lL ps) b m)->(∀m,¬oV b.low.rows m)->oE (vF b.low) n->sX ps k b n "unset"
structure yK(ps:É gD)(k:Nat)(b:gD):Prop where
 name:¬vq ps k b
 row:∀m,¬rP (lL ps) b m
 ring:∀m,¬oV b.low.rows m
 unset:∀m,¬vF b.low m
def sX.not(h:sX ps k b n w)(c:yK ps k b):False:=by
 cases h with
 |name z=>exact c.name z
 |row _ z=>exact c.row _ z.1
 |ring _ _ z=>exact c.ring _ z.1
 |unset _ _ _ z=>exact c.unset _ z.1
def sX.one(h:sX ps k b n w)(h':sX ps k b m u):n=m/\w=u:=by
 cases h with
 |name z=>cases h' with
  |name _=>exact Æ À À
  |row q _=>exact Ì z q
  |ring q _ _=>exact Ì z q
  |unset q _ _ _=>exact Ì z q
 |row z y=>cases h' with
  |name q=>exact Ì q z
  |row _ q=>exact Æ (y.one q) À
  |ring _ q _=>exact Ì y.1 (q _)
  |unset _ q _ _=>exact Ì y.1 (q _)
 |ring z y x=>cases h' with
  |name q=>exact Ì q z
  |row _ q=>exact Ì q.1 (y _)
  |ring _ _ q=>exact Æ (x.one q) À
  |unset _ _ q _=>exact Ì x.1 (q _)
 |unset z y x v=>cases h' with
  |name q=>exact Ì q z
  |row _ q=>exact Ì q.1 (y _)
  |ring _ _ q=>exact Ì q.1 (x _)
  |unset _ _ _ q=>exact Æ (v.one q) À
def vh(ps:É gD):Prop:=∀(k:Nat) b,ps[k]?=Á b->yK ps k b
structure vi(ps:É gD)(k n:Nat)(w:Str):Prop where
 at_:∃b,ps[k]?=Á b/\sX ps k b n w
 ahead:∀(j:Nat) b,j<k->ps[j]?=Á b->yK ps j b
def kjS(ps:É gD)(i j:Int)(w:Str):Prop:=(vh ps/\i=-1/\j=0/\w="")\/∃k n:Nat,vi ps k n w/\i=(k:Int)/\j=(n:Int)
def vi.clean(f:vi ps k n w):¬vh ps:=λc=>by
 obtain⟨b,e,h⟩:=f.at_;exact h.not (c k b e)
def vi.one(f:vi ps k n w)(g:vi ps a d i):k=a/\n=d/\w=i:=by
 obtain⟨b,e,u⟩:=f.at_;obtain⟨j,c,h⟩:=g.at_;have l:k=a:=by
  rcases Iy k a with lt|eq|lt
  .exact(u.not (g.ahead k b lt e)).elim
  .exact eq
  .exact(h.not (f.ahead a j lt c)).elim
 subst l;rw[e] at c;cases c;exact Æ À (u.one h)
def AH(h:∀m,¬rP cs b m):∀r∈b.rows,¬rT cs b.rows.length r:=λr c z=>by
 obtain⟨i,a,e⟩:=nB.mp c;exact h i (Í ⟨r,by rw[gF a,e],È z⟩)
def F1(h:∀m,¬rP cs b m):∀r∈b.low.rows,∀t:Nat,uv r=Ë (t:Nat)->t<b.low.rows.length:=λr j t e=>by
 obtain⟨g,d,rfl⟩:=kA.mp j;have f:=AH h g d;show t<Ô (b.rows.map iW.low);rw[fP];cases g with
 |jump c=>
  have i:¬(c<0\/(b.rows.length:Int)<=c):=f;have:c.toNat=t:=by injection e with e;lia
  lia
 |test a c=>
  have i:¬(c<0\/(b.rows.length:Int)<=c):=f;have:c.toNat=t:=by injection e with e;lia
  lia
 |_=>cases e
def Pb(l:RH b)(j:¬vq ps k b)(h:∀m,¬rP (lL ps) b m)(q:∀m,¬oV b.low.rows m):CZ (lL ps) b.low:=by
 have g:=F1 h;have u:b.rows≠[]:=λz=>h 0 (È (Æ z À));have v:0<b.rows.length:=sJ.mpr u;have s:b.low.rows.length=b.rows.length:=fP ..;have o:b.low.rows.getLast?.map oG=Á true:=by
  show((b.rows.map iW.low).getLast?).map oG=Á true;rw[wG,fP,i3];have p:b.rows.length-1<b.rows.length:=Ã
  rw[gF p,pL,pL,kgQ];cases c:xk b.rows[b.rows.length-1] with
  |true=>rfl
  |false=>exact Ì (Í ⟨_,gF p,Í (Æ Ã c)⟩) (h (b.rows.length-1))
 refine⟨Classical.not_not.mp λz=>j (Í z),l.p9,⟨Ã,by rw[s];exact l.few,OF g o,kdP g q⟩,g,λx k w i=>?_,o,λr i=>?_⟩
 .obtain⟨d,a,e⟩:=kA.mp i;have t:=AH h d a;cases d with
  |call y n f=>
   injection e with e1 e2 e3;rw[<-e2,<-e3];have j:¬(n<0\/(lL ps)[n.toNat]?≠Á f.length):=t;exact Classical.not_not.mp λz=>j (Í z)
  |_=>cases e
 .obtain⟨d,a,rfl⟩:=kA.mp i;exact l.rd d a
def tI(H:b_)(v:V)(b:gD):Prop:=∃p q r a,v=Â p/\H p=ä [Ä b.name,Â q,Â r]/\H q=ä (b.params.map Ê)/\H r=ä a/\ia (mK H) a b.rows
def md(H:b_)(p:d_)(ps:É gD):Prop:=∃a,H p=ä a/\ia (tI H) a ps
def tI.mono(h:tI H v b)(t:gZ H H'):tI H' v b:=by
 obtain⟨p,q,r,g,e,a,c,d,f⟩:=h;exact⟨p,q,r,g,e,t _ _ a,t _ _ c,t _ _ d,f.imp λ_ _ z=>z.mono t⟩
def md.mono(h:md H p ps)(t:gZ H H'):md H' p ps:=by
 obtain⟨b,e,a⟩:=h;exact⟨b,t _ _ e,a.imp λ_ _ z=>z.mono t⟩
def tI.low(h:tI H v b)(n:∀m,¬rP cs b m):uu H v b.low:=by
 obtain⟨p,q,r,s,e,j,k,l,d⟩:=h;refine⟨p,q,r,s,e,j,k,l,by rw[d.len];exact(fP ..).symm,λi v o g a=>?_⟩;have a:(b.rows.map iW.low)[i]?=Á o:=a;rw[i3] at a;obtain⟨f,c,rfl⟩:=pj.mp a;exact(d.at_ i v f g c).low (rT.ok0 (AH n f (iS c)))
def CT(n:Nat):iW->Prop
 |.jump a=>a<0\/(n:Int)<=a
 |.test _ a=>a<0\/(n:Int)<=a
 |_=>False
def GZ(cs:É Nat):iW->Prop
 |.call _ k a=>k<0\/cs[k.toNat]?≠Á a.length
 |_=>False
def Gr:rT cs n r↔CT n r\/GZ cs r:=by
 cases r with
 |call x k c=>exact⟨λz=>Í z,λz=>z.elim (λq=>q.elim) id⟩
 |jump b=>exact⟨λz=>È z,λz=>z.elim id (λq=>q.elim)⟩
 |test a b=>exact⟨λz=>È z,λz=>z.elim id (λq=>q.elim)⟩
 |num x z=>exact⟨λz=>z.elim,λz=>z.elim id id⟩
 |_=>exact⟨λz=>z.elim,λz=>z.elim id id⟩
def Ft(_:a_):gO:=λa H Q _=>∃(v:V) (r:iW),a=[v]/\mK H v r/\Q (yM r) H
def uU(K:a_):gO:=λd H Q _=>∃(x:d_) (a:V),d=[Â x,a]/\H x=Á (kW x (iI K "NoLine") Ç)/\
 ∀(b:d_) (c:b_),H b=none->b≠x->c x=Á (kW x (iI K "NoLine") (Á b))->c b=Á (kv b [("line",a)])->hI x H c->ē c
def E9(K:a_):gO:=λd H Q E=>∃(p:d_) (b:List gD),d=[Â p]/\md H p b/\tL b/\(vh b->∀(a:b_),Ö a->ē a)/\
 ∀(k n:Nat) (w:Str),vi b k n w->∀(c:d_) (a:b_),Ö a->a c=Á (kv c (we k n w))->E (Â (iI K "NoProgram")) (Á c) a
def Iv(_:a_):gO:=λd H Q _=>∃(p:d_) (k:Nat) (c:List gD) (b:gD),d=[Â p,Ë (k:Nat)]/\md H p c/\tL c/\c[k]?=Á b/\(vq c k b->∀(a:b_),Ö a->Q (Ë 0) a)/\(¬vq c k b->∀(a:b_),Ö a->ē a)
def IS(_:a_):gO:=λd H Q _=>∃(p:d_) (k:Nat) (c:List gD) (b:gD),d=[Â p,Ë (k:Nat)]/\md H p c/\tL c/\c[k]?=Á b/\
 (∀n:Nat,oE (rP (lL c) b) n->∀(a:b_),Ö a->Q (Ë (n:Nat)) a)/\((∀m,¬rP (lL c) b m)->∀(a:b_),Ö a->ē a)
def HJ(_:a_):gO:=λc H Q _=>∃(rt:d_) (v:V) (a:List V) (r:iW),c=[Â rt,v]/\H rt=ä a/\mK H v r/\∀(b:Bool),(b=true↔CT a.length r)->Q (.bl b) H
def HH(_:a_):gO:=λc H Q _=>∃(p:d_) (v:V) (a:List gD) (r:iW),c=[Â p,v]/\md H p a/\mK H v r/\∀(b:Bool),(b=true↔GZ (lL a) r)->Q (.bl b) H
def CH(rs:É gG):Prop:=∀r∈rs,∀t:Nat,uv r=Ë (t:Nat)->t<rs.length
def Ic(_:a_):gO:=λd H Q _=>∃(rt:d_) (c:List V) (b:List gG),d=[Â rt]/\H rt=ä c/\ia (kh H) c b/\b.length<64/\CH b/\
 (∀n:Nat,oE (oV b) n->∀(a:b_),Ö a->Q (Ë (n:Nat)) a)/\((∀m,¬oV b m)->∀(a:b_),Ö a->ē a)
def HI(_:a_):gO:=λe H Q _=>∃(rt:d_) (n:Nat) (c:List V) (a:List gG),e=[Â rt,Ë (n:Nat)]/\H rt=ä c/\ia (kh H) c a/\a.length<64/\CH a/\n<a.length/\
 ∀(b:Bool) (d:b_),(b=true↔oV a n)->Ö d->Q (.bl b) d
def E7(_:a_):gO:=λf H Q _=>∃(p rt:d_) (n:Nat) (a:List V) (e:List gD) (c:List iW),f=[Â p,Â rt,Ë (n:Nat)]/\md H p e/\H rt=ä a/\ia (mK H) a c/\n<c.length/\
 ∀(b:Bool) (d:b_),(b=true↔Kv (lL e) c n)->Ö d->Q (.bl b) d
def F5(_:a_):gO:=λe H Q _=>∃(rt:d_) (n:Nat) (a:List V) (c:List gG),e=[Â rt,Ë (n:Nat)]/\H rt=ä a/\ia (kh H) a c/\CH c/\n<c.length/\
 ∀(b:Bool) (d:b_),(b=true↔oV c n)->Ö d->Q (.bl b) d
def Ka(_:a_):gO:=λe H Q _=>∃(p:d_) (k:Nat) (c:List gD) (b:gD),e=[Â p,Ë (k:Nat)]/\md H p c/\tL c/\c[k]?=Á b/\
 ∀(l:d_) (a:List V) (d:b_),d l=Ð a->((yK c k b/\a=[])\/∃(q:d_) (n:Nat) (w:Str) (rest:List V),a=Â q::rest/\d q=ä [Ë (n:Nat),Ä w]/\sX c k b n w)->Ö d->Q (Â l) d
def kgY(H:b_)(q:d_)(ps:É gD):Prop:=∃i j w,kjS ps i j w/\H q=ä [Ë i,Ë j,Ä w]
def GO(_:a_):gO:=λc H Q _=>∃(p:d_) (b:List gD),c=[Â p]/\md H p b/\tL b/\∀(q:d_) (a:b_),kgY a q b->Ö a->Q (Â q) a
abbrev XH:Nat:=0
abbrev D6:Nat:=1
abbrev kcZ:Nat:=4
abbrev kcC:Nat:=5
abbrev Ye:Nat:=0
abbrev Ya:Nat:=1
abbrev Y4:Nat:=2
abbrev YA:Nat:=3
abbrev WE:Nat:=1
abbrev Ws:Nat:=2
abbrev WC:Nat:=0
abbrev Wq:Nat:=1
abbrev Yg:Nat:=2
abbrev Yc:Nat:=3
abbrev WD:Nat:=1
abbrev Wr:Nat:=2
abbrev kcV:Nat:=0
abbrev kcy:Nat:=1
abbrev kgI:Nat:=0
abbrev kf6:Nat:=1
abbrev kbQ:Nat:=3
abbrev kbr:Nat:=4
abbrev kkt:Nat:=4
abbrev kjP:Nat:=5
end Bg
namespace PySem.W
open PySem PySem.Calls PyProof.Rows PyProof.V PySem.Spec Builtin Builtin.Str Builtin.Int
def kae{E:gC}(q:A.handled=none)(k:s.heap.IsList l items)(d:s.heap.IsRevIter r l ((items.size:Int)-1))(g:l≠r)(u:items.size<=gM)
  (m:∀h' j (a:Array c_),(∀b o,b≠r->Ć b=Á o->h'.get? b=Á o)->ItemsOf (λi v=>items[items.size-1-i]?=Á v) a items.size->Q a.toList (Ď h' j)) :
  ö prog w A (collect (Â r)) Q E s:=by
 unfold collect;refine fN (wpAny_runValue (vN PySem.F.entry_proto_collect ?_));rw[ig.under_plainId PySem.F.plain_proto_collect _];show gN _ A.in1 (newList [] >>= λl=>again (.builtin "list.__iadd__" (Æ [l,Â r] []))) _ _ s;refine fN (uW (gH ⟨vR PySem.F.plain_list_iadd _,vN PySem.F.entry_list_iadd ?_⟩));rw[ig.under_plainId PySem.F.plain_list_iadd _];have y:r<s.heap.objs.size:=let⟨_,h,_⟩:=d;iD h;have x:l<s.heap.objs.size:=let⟨_,h,_⟩:=k;iD h;have n:(s.heap.push (ć "list" (.seq ([]:É c_).toArray))).get? ó=Á (ć "list" (.seq #[])):=mr _ À;show gN _ A.in1 (Builtin.List.listExtendWith (Â ó) (Â r) (Â ó)) _ _ (č (s.heap.push (ć "list" (.seq ([]:É c_).toArray))));refine kbw (prog:=prog) (w:=w) (A:=A) (R:=wants _ E) (s:=č (s.heap.push (ć "list" (.seq ([]:É c_).toArray)))) (items:=items) q (k.at λo e=>i5 _ e) (d.at λo e=>i5 _ e) g _ (yb y) (yb x) _ 0 n (λh' j a z t f c=>?_) u;show gN _ A (load ó >>= _) _ _ _;refine fN (wpAny_load f (gH ?_));exact m h' j a (λb o p e=>t b o (kP (iD e)) p (i5 _ e)) c
def kfk:∀{us:List c_} {ys:List Str},yx us ys->yx us.reverse ys.reverse:=by
 intro us ys h;have e:∀{a b:List c_} {c d:List Str},yx a c->yx b d->yx (a++b) (c++d):=by
  intro a b c d g i
  induction g with
  |nil=>exact i
  |cons y t _ f=>exact .cons y t f
 induction h with
 |nil=>exact .nil
 |cons y t _ f=>rw[List.reverse_cons,List.reverse_cons];exact e f (.cons y t .nil)
def join_rev{prog:f5}{w:fW}{A:ig}{E:gC}{s:fU}{r l:d_}{sep:Str}{t:Tok}{items:Array c_}{ys:List Str}{Q:gC}(z:A.handled=none)(C:s.heap.IsList l items)(e:s.heap.IsRevIter r l ((items.size:Int)-1))(m:l≠r)(D:items.size<=gM)(j:yx items.toList ys)
  (n:(ys.reverse.map (·.length)).sum+ys.reverse.length*sep.length<=16777216) (h:∀h' t' k,(∀b o,b≠r->Ć b=Á o->h'.get? b=Á o)->Q (.str (Txt.join sep ys.reverse) t') (Ď h' k)) :
  ö prog w A (call (.builtin "str.join") [.str sep t,Â r]) Q E s:=by
 refine yn (Br PySem.F.slot_str_join.plain PySem.F.entry_str_join (PySem.F.slot_str_join.check _ _ _ _ _ _ _ _ (typeIs_str _ _ _) (PySem.F.args_str_join_2 _ _) ?_));rw[join_tree_other];refine fN (An (T:="list_reverseiterator") e.typeIs ?_);show gN _ A.in1 ((pyIter (Â r)).tryCatch _ >>= λI=>collect I >>= λitems=>joinTail sep items) _ _ s;refine fN (Af (wpAny_pyIter_revIter e ?_));refine fN (kae (A:=A.in1) z C e m D λh' K c B d=>?_);have v:c.toList=items.toList.reverse:=by
  apply DT;intro i;have J:c.size=items.size:=d.1;by_cases j:i<items.size
  .have u:c[i]?=Á c[i]:=Array.getElem?_eq_getElem Ã;have y:=d.2 i _ u;rw[uR,u,List.getElem?_reverse (by simpa using j)];simpa using y.symm
  .rw[ue (by rw[lO];lia),ue (by rw[List.length_reverse,lO];lia)]
 obtain⟨f,H,G⟩:=strsAre_values (kfk j);rw[v,H];have a:=joinOk_of (sep:=sep) n;rw[<-G] at a h;unfold JoinOk at a;rw[Bool.not_eq_true'] at a;have g:Gives (joinTail sep (strValues f)) (joinMade sep f):=by
  have x:=gives_joinTail sep f a;rcases f with _|⟨p,_|⟨q,r⟩⟩<;>exact x
 exact g prog w A (wants Q E) _ (post_join f ⟨joinFit_length a,λt' k=>h h' t' k B⟩)
end PySem.W
namespace L2
open PySem PySem.Spec PyProof.Rows
def F_(K:a_)(f:gp)(t:kF):gp:=λd H Q=>f d H λx e=>∃a:Str,x=Ä a/\t d e λg c=>∃(p:d_) (b:List Str),g=[Â p]/\hH K c p (b.map Ê)/\(b.reverse.map (·.length)).sum+b.reverse.length*a.length<=16777216/\Q (Ä (Txt.join a b.reverse)) c
def kbB{X:fQ}{o a:Expr}{P:gp}{O:kF}{m c f d:Pos}(w:ko X "reversed")(y:X.mg "reversed"=none)(hc:X.calm=true)(z:gL X o P)(ha:ny X [a] O)
  (i:tx o "join" Û (þ o)=þ o:=by rfl)
  (n:((lR d (gK [Č "reversed" m [a] [] c] Û)).all (λx=>!x.1)&&(w_ d (wW [] Û)).all (λx=>x.1.isSome)
   && æ (Ô ([Č "reversed" m [a] [] c]:É Expr)+Ô ([]:É sR)+(if([]:É sR).isEmpty then 0 else 1)<30))=true:=by rfl)
  (j:(f.endLine==d.line)=true:=by rfl) (B:gK [a] Û=[(Ü,þ a)]:=by rfl) (hs:gK [Č "reversed" m [a] [] c] Û=[(Ü,þ (Č "reversed" m [a] [] c))]:=by rfl) :
  gL X (.Call (.Attribute o "join" f) [Č "reversed" m [a] [] c] [] d) (F_ X.K P O):=by
 intro g s R H Q I h;refine wpAny_Call_method_late i n j À (gq (z g s R H _ I h) λv L zz=>?_);obtain⟨x,S,r,G,E⟩:=zz;obtain⟨sep,rfl,E⟩:=E;obtain⟨tk,rfl⟩:=id G;obtain⟨Z,h2⟩:=C9 (T:="str") r G À;refine⟨"str","str.join",pd,PySem.F.slot_str_join,PySem.F.type_str_join,Z,h2,?_⟩;rw[hs];refine Calls.callWith_builtin À (Calls.evalArgs_plain ?_);show gN _ _ (spliced ((Ü,þ (Č "reversed" m [a] [] c))::lR d [])) _ _ L;refine Calls.spliced_cons (wI (uw r w y boot_reversed ?_));refine xV (gq (ha c g L R S _ r E) λus M ⟨vs,U,t,r2,q2⟩=>?_) B À;obtain⟨l,ys,rfl,hq,hok,q⟩:=q2;obtain⟨u,rfl,rx⟩:=oU r2;cases rx;obtain⟨C,J,D,hz⟩:=t.list hq;have ll:l<M.heap.objs.size:=let⟨_,z,_⟩:=D.isList;iD z;refine call_reversed_list D.isList (Calls.spliced_nil ?_);have p:=J.length;refine PySem.W.join_rev (items:=C.toArray) (t.ok.hd hc) (D.isList.push _) ⟨_,mr _ À,À,À⟩ (kP ll) (by rw[iq,<-p];exact hz) (by simpa using CA J) hok λY t' k hk=>?_;have kp:∀b o,M.heap.get? b=Á o->Y.get? b=Á o:=λb o e=>hk b o (kP (iD e)) (i5 _ e);exact⟨Ä _,U,t.kept (t':=k) kp,Æ t' À,q⟩
def kbE{X:fQ}{o a:Expr}{m:gp}{l:kF}{h b d c:Pos}(i:ko X "reversed")(j:X.mg "reversed"=none)(p:X.calm=true)(q:gE X o m)(n:mG X [a] l)
  (e:tx o "join" Û (þ o)=þ o:=by rfl)
  (g:((lR c (gK [Č "reversed" h [a] [] b] Û)).all (λx=>!x.1)&&(w_ c (wW [] Û)).all (λx=>x.1.isSome)
   && æ (Ô ([Č "reversed" h [a] [] b]:É Expr)+Ô ([]:É sR)+(if([]:É sR).isEmpty then 0 else 1)<30))=true:=by rfl)
  (f:(d.endLine==c.line)=true:=by rfl) (k:gK [a] Û=[(Ü,þ a)]:=by rfl) (r:gK [Č "reversed" h [a] [] b] Û=[(Ü,þ (Č "reversed" h [a] [] b))]:=by rfl) :
  gE X (.Call (.Attribute o "join" d) [Č "reversed" h [a] [] b] [] c) (F_ X.K m l):=⟨kbB i j p q.up n.up e g f k r⟩
def R3:V->É V->b_->fS->Prop:=λx a H Q=>∃(z:Str) (i:Int),x=Ä z/\a=[Ë i]/\PadOk i=true/\Q (Ä (Txt.zfill z i)) H
def ke0:xF X "str.zfill" R3:=by
 intro a s m H x l v j Q I e d h;obtain⟨z,i,rfl,rfl,b,q⟩:=h;obtain⟨t,rfl⟩:=e;obtain⟨u,rfl,c⟩:=d.one;obtain⟨g,rfl⟩:=c;exact PySem.SC.zfill b λf k=>⟨Ä _,H,I.tok k,Æ f À,q⟩
def Rm:É V->b_->fS->Prop:=λa H Q=>∃i:Int,a=[Ë i]/\i.natAbs.log2<1920/\Q (Ä (Str.ofString (toString i))) H
def Yu:mS X (.type "str") Rm:=Yo
def yG:É V->b_->fS->Prop:=λa H Q=>Rm a H Q\/∃z:Str,a=[Ä z]/\Q (Ä z) H
def Ex:mS X (.type "str") yG:=by
 intro a s e H d c Q I r h;rcases h with h|⟨z,rfl,q⟩
 .exact Yu a s e H d c Q I r h
 .obtain⟨u,rfl,b⟩:=oU r;obtain⟨t,rfl⟩:=b;exact PySem.P.str_of_str ⟨Ä z,H,I,Æ t À,q⟩
def Vt:É V->b_->fS->Prop:=λa H Q=>∃i:Int,a=[Ë i]/\Q (Ë (if i<0 then -i else i)) H
def kc7:mS X (.builtin "abs") Vt:=kd4
def RZ:i6:=vc (λ_ j=>0<j/\j<2 ^ 64) λi j=>Ë (i / j)
def keG:iB X (oz .FloorDiv) RZ:=BD λi j _ _ _ _ _ a q=>by
 have c:(0:Int)<j:=a.1;have d:j<2 ^ 64:=a.2;have b:j.natAbs.log2<9000:=by
  have e:j.natAbs.log2<64:=(Fw Ã).mpr Ã;lia
 exact floordiv_int Ã (by rw[Hm i Ã];exact q) (È (PyProof.noPylong_of_log2 b))
end L2
namespace Bg
open PySem L2
def iL(z:Int):Str:=Str.ofString (toString z)
def pF(z:Int):Prop:=0<=z/\z<2 ^ 64
def BG(_:a_):gO:=λb H Q _=>∃z:Int,b=[Ë z]/\pF z/\∀a,Ö a->Q (Ä (iL z)) a
abbrev Y1:Nat:=0
abbrev Yx:Nat:=1
end Bg
namespace L2
open PySem PySem.Spec PyProof.Rows
theorem N1:∀l:List (Str×Tok),gQ ((l.map (·.1)).map V.str) (strValues l)
 |[]=>.nil
 |p::r=>.cons (Æ p.2 À) (N1 r)
def kca(hz:z.length+2<=gM):Ô (Txt.split z y)<=gM:=by
 unfold Txt.split;split
 .show 1<=gM;lia
 .split
  .show 1<=gM;lia
  .have a:=StrLaws.occ_length_le z y 0 z.length (z.length+1);rw[length_partsBetween];lia
def rH:V->É V->b_->fS->Prop:=λx a H Q=>∃(z y:Str),x=Ä z/\a=[Ä y]/\(y.length==0)=false/\z.length+2<=gM/\∀l,H l=none->Q (Â l) (Ý H l ((Txt.split z y).map Ê))
def sQ:xF X "str.split" rH:=by
 intro d s r H x B v w Q I p o h;obtain⟨z,y,rfl,rfl,j,m,q⟩:=h;obtain⟨t,rfl⟩:=p;obtain⟨u,rfl,n⟩:=o.one;obtain⟨i,rfl⟩:=n;have a:=kca (y:=y) m;have b:∀(l:List (Str×Tok)) (k:Nat),l.map (·.1)=Txt.split z y->lG X d r Q (Â ó) (Ď (s.heap.push (ć "list" (.seq (strValues l).toArray))) k):=λl k e=>by
  refine Õ (Â ó) _ (I.lnew (ys:=(l.map (·.1)).map Ê) (t':=k) (N1 l) (by rw[fP,e];exact a)) ?_;rw[e];exact q _ I.fresh
 cases hY:(decide (z.length<y.length) || decide (Builtin.Str.strKind z<Builtin.Str.strKind y)) with
 |true=>
  have c:Txt.split z y=[z]:=by unfold Txt.split;rw[if_pos hY]
  exact uh pI (typeIs_str s z t) HD (Ho _ _) (meets_str_split_cannot_occur z y t i hY) (b [(z,t)] s.toks c.symm)
 |false=>
  cases f:(Builtin.Str.occurrences z y 0 z.length (z.length+1)).isEmpty with
  |true=>
   have c:Txt.split z y=[z]:=by unfold Txt.split;rw[ù (by rw[hY];decide),if_pos f]
   exact uh pI (typeIs_str s z t) HD (Ho _ _) (meets_str_split_not_found z y t i hY j f) (b [(z,t)] s.toks c.symm)
  |false=>
   have c:Txt.split z y=Builtin.Str.partsBetween z (Builtin.Str.occurrences z y 0 z.length (z.length+1)) y.length:=by unfold Txt.split;rw[ù (by rw[hY];decide),ù (by rw[f];decide)]
   refine uh pI (typeIs_str s z t) HD (Ho _ _) (meets_str_split_sep z y t i hY j f Ã (by rw[<-c];exact a)) ?_;have g:=b (numbered s.toks (Txt.split z y)) (s.toks+Ô (Txt.split z y)) (numbered_texts _ _);rw[<-strsFrom_eq] at g;rw[<-c];exact g
def wj:É V->b_->fS->Prop:=λa H Q=>∃(x:Str) (n:Int),a=[Ä x]/\PySem.intText? x=Á n/\x.length<=640/\Q (Ë n) H
def yk:mS X (.type "int") wj:=by
 intro a s g H f d Q I r h;obtain⟨x,n,rfl,e,b,q⟩:=h;obtain⟨u,rfl,c⟩:=oU r;obtain⟨t,rfl⟩:=c;exact PySem.W.KIN.call_text e b ⟨Ë n,H,I.tok _,Æ _ À,q⟩
def wx(K:a_):i6:=λx y H Q=>mj K Ü x y H Q\/∃(c:Nat) (j:Str),x=Ä ⟨#[c]⟩/\y=Ä j/\Q (.bl (æ (c∈j.cps.toList))) H
def AN:iB X (kj .In) (wx X.K):=by
 refine pO.or ?_;intro a s e H x y v u Q I b d h;obtain⟨c,j,rfl,rfl,q⟩:=h;exact kdT a s e H _ _ v u Q I b d (Õ ⟨#[c]⟩ j À (by rw[StrLaws.found_one];exact q))
def A3(x:Str):su:=⟨λi _=>i<x.cps.size,λi H v a=>a=H/\∃c,x.cps[i]?=Á c/\v=Ä ⟨#[c]⟩,λi _=>x.cps.size<=i⟩
def Pj{P:f5}{w:fW}{K:a_}{tg:Expr}{T:String}(it:d_)(x:Str)(t:Tok)(hT:["enumerate","zip","dict_itemiterator","dict_reverseitemiterator","odict_iterator","itertools.zip_longest","itertools.pairwise"].contains T=false)
  (W:∀A:ig,A.handled=none->Walks P w A it [it] [it] x.cps.size (SignAt x) (λi h=>h.IsStrIter it T x t i))
  (j:∀(A:ig) (i:Nat) (s:fU) (Q:gC) (E:gC),s.heap.IsStrIter it T x t i->Q (Â it) s->ö P w A (pyIter (Â it)) Q E s):vx P w K tg (A3 x) [it] it (λi h=>h.IsStrIter it T x t i/\i<=x.cps.size) where
 mem:=Ò
 obj:=λi h a b g=>by
  have e:b=it:=by simpa using g
  subst e;obtain⟨⟨o,e,c,d⟩,_⟩:=a;exact Î o e (λv z=>by rw[d] at z;cases z)
 keep:=λi h n a k=>by
  obtain⟨⟨o,e,r⟩,l⟩:=a;exact Æ ⟨o,k it Ò o e,r⟩ l
 item:=by
  intro X L O J M i f s U H E I p a q;subst L O J;obtain⟨y,B,f2,C,D,G⟩:=p it Ò;refine(W X.A (I.ok.hd M)).item i s _ _ q a.1 λv n S hv m R=>?_;obtain⟨c,u,hx,rfl⟩:=hv;have Y:fJ X f U H (Ď n S):=I.turned (λb o g e=>R b o (by simpa using g) e) y B C D G;obtain⟨o,e,Z,d⟩:=id m;exact Ú (Dk (s:=Ď n S) e Z d hT ⟨Ä ⟨#[c]⟩,H,Y,Æ u À,⟨À,c,hx,À⟩,Æ m q,λb g=>(p b g).1⟩)
 done:=by
  intro X L O J M i f s U H E I p a q;subst L O J;obtain⟨y,B,f2,C,D,G⟩:=p it Ò;have ei:i=x.cps.size:=IM a.2 q;refine(W X.A (I.ok.hd M)).done s _ _ (by rw[<-ei];exact a.1) λn S R=>Æ À (I.turned (λb o g e=>R b o (by simpa using g) e) y B C D G)
 self:=λA i s Q E a h=>j A i s Q E a.1 h
def wB(b:gp):mY:=λc H R=>b c H λv a=>∃x:Str,v=Ä x/\R (A3 x) a
def kiQ{X:fQ}{w l:Expr}{m:gp}(p:gL X l m):sy X w l (wB m):=by
 intro a s z H R I h;refine gq (p a s z H _ I h) λv c y=>?_;obtain⟨x,f,d,u,r⟩:=y;obtain⟨x,rfl,q⟩:=r;obtain⟨t,rfl⟩:=u;have j:∀b∈[c.heap.objs.size],rK X a f b:=λb n=>by
  have e:b=c.heap.objs.size:=by simpa using n
  subst e;exact d.fpOk ï (d.hok.fresh ï)
 cases k:x.cps.all (·<128) with
 |true=>
  exact wpAny_pyIter_ascii k ⟨c.heap.objs.size,[c.heap.objs.size],_,_,f,À,d.kept (t':=c.toks) λb o e=>i5 _ e,
   Pj (T:="str_ascii_iterator") _ x t Ï (λA g=>Walks.strAscii g _ x t) (λ_ _ _ _ _ i h=>wpAny_pyIter_striter_ascii i h),Æ ⟨_,mr _ À,À,À⟩ (lu _),j,q⟩
 |false=>
  exact wpAny_pyIter_wide k ⟨c.heap.objs.size,[c.heap.objs.size],_,_,f,À,d.kept (t':=c.toks) λb o e=>i5 _ e,
   Pj (T:="str_iterator") _ x t Ï (λA g=>Walks.strWide g _ x t) (λ_ _ _ _ _ i h=>wpAny_pyIter_striter_wide i h),Æ ⟨_,mr _ À,À,À⟩ (lu _),j,q⟩
def CY(b:gE X l a):tX X c l (wB a):=⟨kiQ b.up⟩
def Vm:V->Option Int->Option Int->b_->fS->Prop:=λx b a H Q=>∃z:Str,x=Ä z/\z.length<=gM/\Q (Ä (Txt.slice z b a)) H
def kjH:sC X Vm:=by
 intro b s w H x v B C e d y Q I p c o g h;obtain⟨z,rfl,n,q⟩:=h;obtain⟨t,rfl⟩:=p;refine⟨"str",_,PySem.F.slot_str_getitem.lookup,typeIs_str _ _ _,?_⟩;have a:(if((1:Int)==1&&(Builtin.Str.strSliceIndices e d 1 z.length).length==z.length)=true then Made.val (.str z t) else Made.str ⟨((Builtin.Str.strSliceIndices e d 1 z.length).filterMap (z.cps[·]?)).toArray⟩).post (lG X b w Q) s:=
  post_val_or_str ⟨mC (Txt.slice_le z e d) n,λr k=>⟨Ä _,H,I.tok k,Æ r À,q⟩⟩
 cases o with
 |none=>
  cases g with
  |none=>exact DM (l:=Ç) (u:=Ç) (st:=Ç) c À a
  |int j f=>exact DM (l:=Ç) (u:=Á (j,f)) (st:=Ç) c À a
 |int i m=>
  cases g with
  |none=>exact DM (l:=Á (i,m)) (u:=Ç) (st:=Ç) c À a
  |int j f=>exact DM (l:=Á (i,m)) (u:=Á (j,f)) (st:=Ç) c À a
def wz(K:a_):V->Option Int->Option Int->b_->fS->Prop:=λx b a H Q=>Vo K x b a H Q\/Vm x b a H Q
def CF:sC X (wz X.K):=khm.or kjH
structure yH(mg:Str->Option c_)(x z:Str):Prop where
 ex:∃t,mg x=Á (.str z t)
structure yI(K:a_)(mg:Str->Option c_)(x:Str)(xs:É V):Prop where
 ex:∃(p:d_) (o:Obj) (its:Array c_) (n:Nat),mg x=Á (Â p)/\K.lookup p=Á o/\o.cls=.type "tuple"/\o.data=.seq its n/\its.size<=gM/\gQ xs its.toList
def kjc(c:ko X x)(d:yH X.mg x z)(a:(x==("__debug__":Str))=false:=by decide):gL X (.Name x p) (fY (Ä z)):=by
 intro b s f H Q I h;obtain⟨t,e⟩:=d.ex;exact yu I c e ⟨Ä z,H,I,Æ t À,h⟩ a
def EU(K:a_)(xs:É V):gp:=λ_ H Q=>∀p:d_,(∀a,fR K a p xs)->Q (Â p) H
def kjd(f:ko X x)(g:yI X.K X.mg x xs)(b:(x==("__debug__":Str))=false:=by decide):gL X (.Name x p) (EU X.K xs):=by
 intro d s r H Q I h;obtain⟨a,o,c,n,e,i,j,k,l,m⟩:=g.ex;exact yu I f e ⟨Â a,H,I,À,h a λq=>Í ⟨o,c,n,i,j,k,l,m⟩⟩ b
def Sa(b:ko X x)(c:yH X.mg x z)(a:(x==("__debug__":Str))=false:=by decide):gE X (.Name x p) (fY (Ä z)):=⟨kjc b c a⟩
def Sb(b:ko X x)(c:yI X.K X.mg x xs)(a:(x==("__debug__":Str))=false:=by decide):gE X (.Name x p) (EU X.K xs):=⟨kjd b c a⟩
def kd8{l:List Nat}{k:Nat}{x:Str}{g:lW}{o:kU}{q:gp}{R:b_->Prop}{a:fO}{H:b_}{D:d_}(b:Nat->fO->b_->Prop)(s:b 0 (oM l k a) (Ý H D []))
  (u:∀i c a H,x.cps[i]?=Á c->b i a H->g (Ä ⟨#[c]⟩) a H λf j=>n_ D o q {nx:=b (i+1),rt:=λ_ _=>False,ct:=b (i+1),bk:=λ_ H'=>R H'} f j) (t:∀a H,b x.cps.size a H->R H) :
  ∃W:Nat->Nat->fO->b_->Prop,(∃m,W 0 m (oM l k a) (Ý H D []))/\∀i m a H,W i m a H->
   ((A3 x).stop i H/\R H)\/((A3 x).go i H/\∃N:fO->b_->Prop,(∀d H',N d H'->∃n,n<m/\W (i+1) n d H')/\∀v H',(A3 x).yld i H v H'->g v a H' λf j=>n_ D o q {nx:=N,rt:=λ_ _=>False,ct:=N,bk:=λ_ H'=>R H'} f j):=by
 refine Î (λi m a H=>m=x.cps.size-i/\i<=x.cps.size/\b i a H) ⟨x.cps.size,Ò,lu _,s⟩ ?_;rintro i m a H ⟨rfl,z,p⟩;by_cases h:i<x.cps.size
 .refine Í ⟨h,b (i+1),λd H' w=>⟨x.cps.size-(i+1),Ã,À,h,w⟩,λv H' y=>?_⟩;obtain⟨rfl,c,e,rfl⟩:=y;exact u i c a H' e p
 .have r:i=x.cps.size:=Ã
  subst r;exact È ⟨ï,t a H p⟩
end L2
namespace HT
open PySem PySem.Spec PyProof.Rows
end HT
namespace L2
open PySem PySem.Spec PyProof.Rows
def ki9:vk (pG P w) X f9:=λ_ _ _ _ _ _ _ h=>by
 obtain⟨_,_,_,_,_,_,_,_,_,_,_,_,_,_,_,z⟩:=h;exact z.elim
end L2
namespace Bg
open PySem L2
structure mX(y:Str):Prop where
 l1:1<=y.length
 l20:y.length<=20
 dig:∀c∈y.cps.toList,48<=c/\c<=57
 lead:y.cps.toList.head?=Á 48->y="0"
def nj(y:Str):Nat:=NumText.digitsVal y.cps.toList
inductive ik where
 |part (x:Str) (ps:Ñ)
 |num (x:Str) (z:Nat)
 |op (x s a b:Str)
 |call (x f:Str) (as:Ñ)
 |say (a:Str)
 |jump (to:Nat)
 |test (a:Str) (to:Nat)
 |give (a:Str)
def i8(ws:Ñ):ik->Prop
 |.part x e=>ws=(("part":Str)::x::e)/\gP x/\∀y∈e,gP y
 |.num x z=>∃y,ws=([x,"=",y]:Ñ)/\gP x/\mX y/\z=nj y/\nj y<2 ^ 64
 |.op x s a b=>ws=([x,"=",a,s,b]:Ñ)/\gP x/\s∈oq/\gP a/\gP b
 |.call x f d=>ws=(x::("=":Str)::("call":Str)::f::d)/\gP x/\gP f/\∀y∈d,gP y
 |.say a=>ws=(["say",a]:Ñ)/\gP a
 |.jump c=>∃y,ws=(["jump",y]:Ñ)/\mX y/\c=nj y
 |.test a c=>∃y,ws=(["test",a,y]:Ñ)/\gP a/\mX y/\c=nj y
 |.give a=>ws=(["give",a]:Ñ)/\gP a
def oj(H:b_)(v:V):ik->Prop
 |.part x e=>∃p q,v=Â p/\H p=ä [Ä "part",Ä x,Â q]/\H q=ä (e.map Ê)
 |.num x z=>∃p,v=Â p/\H p=ä [Ä "num",Ä x,Ë (z:Nat)]
 |.op x s a b=>∃p,v=Â p/\H p=ä [Ä "op",Ä x,Ä s,Ä a,Ä b]
 |.call x f d=>∃p q,v=Â p/\H p=ä [Ä "call",Ä x,Ä f,Â q]/\H q=ä (d.map Ê)
 |.say a=>∃p,v=Â p/\H p=ä [Ä "say",Ä a]
 |.jump c=>∃p,v=Â p/\H p=ä [Ä "jump",Ë (c:Nat)]
 |.test a c=>∃p,v=Â p/\H p=ä [Ä "test",Ä a,Ë (c:Nat)]
 |.give a=>∃p,v=Â p/\H p=ä [Ä "give",Ä a]
def xC:ik->Str
 |.part _ _=>"part"|.num _ _=>"num"|.op _ _ _ _=>"op"|.call _ _ _=>"call"|.say _=>"say"|.jump _=>"jump"|.test _ _=>"test"|.give _=>"give"
def oj.mono(h:oj H v r)(t:gZ H H'):oj H' v r:=by
 cases r with
 |part x c=>obtain⟨p,q,e,h,a⟩:=h;exact⟨p,q,e,t _ _ h,t _ _ a⟩
 |call x k b=>obtain⟨p,q,e,h,a⟩:=h;exact⟨p,q,e,t _ _ h,t _ _ a⟩
 |_=>obtain⟨p,e,h⟩:=h;exact Î p e (t _ _ h)
def oj.ref(h:oj H v r):∃p xs,v=Â p/\H p=ä (Ä (xC r)::xs):=by
 cases r with
 |part x c=>obtain⟨p,q,e,h,a⟩:=h;exact⟨p,_,e,h⟩
 |call x k b=>obtain⟨p,q,e,h,a⟩:=h;exact⟨p,_,e,h⟩
 |_=>obtain⟨p,e,h⟩:=h;exact⟨p,_,e,h⟩
def vw(H:b_)(v:V):Option ik->Prop
 |none=>v=.non
 |some r=>oj H v r
def vw.mono(h:vw H v r)(t:gZ H H'):vw H' v r:=by
 cases r with
 |none=>exact h
 |some r=>exact oj.mono h t
open Classical in
noncomputable def lineOf? (ws:List Str):Option ik:=if h:∃r,i8 ws r then some (choose h) else none
def AG(h:w∈pW):¬gP w:=λn=>n.no h
def Dn:¬gP "=":=λn=>by
 have:=(n.abc 61 â).1;exact Ì this Ï
def CP:¬mX "call":=λn=>by
 have:=(n.dig 99 â).2;exact Ì this Ï
def kkw:¬mX "=":=λn=>by
 have:=(n.dig 61 â).2;exact Ì this Ï
def sS:ik->Str
 |.part _ _=>"part"|.say _=>"say"|.jump _=>"jump"|.test _ _=>"test"|.give _=>"give"|_=>"="
def i8.key(h:i8 ws r):(∃t,ws=sS r::t/\sS r∈pW)\/(sS r="="/\∃x t,ws=(x::("=":Str)::t)/\gP x):=by
 cases r with
 |num x z=>obtain⟨y,e,nx,_⟩:=h;exact Í ⟨À,x,_,e,nx⟩
 |op x s a b=>exact Í ⟨À,x,_,h.1,h.2.1⟩
 |call x f d=>exact Í ⟨À,x,_,h.1,h.2.1⟩
 |jump c=>obtain⟨y,e,_⟩:=h;exact È (Î _ e Đ)
 |test a c=>obtain⟨y,e,_⟩:=h;exact È (Î _ e Đ)
 |_=>exact È (Î _ h.1 Đ)
def i8.key_one(h:i8 ws r)(h':i8 ws d):sS r=sS d:=by
 rcases h.key with⟨t,e,m⟩|⟨e,x,t,ex,nx⟩<;>rcases h'.key with⟨g,a,f⟩|⟨a,i,g,b,c⟩
 .rw[e] at a;injection a
 .rw[e] at b;injection b with z _;exact Ì c (by rw[<-z];exact AG m)
 .rw[a] at ex;injection ex with z _;exact Ì nx (by rw[<-z];exact AG f)
 .rw[e,a]
def BN:¬gP "call":=AG â
def i8.one(h:i8 ws r)(h':i8 ws j):r=j:=by
 have l:=h.key_one h';cases r with
 |part x E=>
  cases j with
  |part k v=>have e:=h.1.symm.trans h'.1;injection e with _ e;injection e with d g;rw[d,g]
  |_=>exact Ì l Đ
 |say a=>
  cases j with
  |say m=>have e:=h.1.symm.trans h'.1;injection e with _ e;injection e with e _;rw[e]
  |_=>exact Ì l Đ
 |jump B=>
  cases j with
  |jump o=>
   obtain⟨y,d,_,g⟩:=h;obtain⟨n,c,_,i⟩:=h';have e:=d.symm.trans c;injection e with _ e;injection e with e _;rw[g,i,e]
  |_=>exact Ì l Đ
 |test a B=>
  cases j with
  |test m o=>
   obtain⟨y,d,_,_,g⟩:=h;obtain⟨n,c,_,_,i⟩:=h';have e:=d.symm.trans c;injection e with _ e;injection e with e0 e;injection e with e _;rw[g,i,e,e0]
  |_=>exact Ì l Đ
 |give a=>
  cases j with
  |give m=>have e:=h.1.symm.trans h'.1;injection e with _ e;injection e with e _;rw[e]
  |_=>exact Ì l Đ
 |num x z=>
  obtain⟨y,d,_,D,g,_⟩:=h;cases j with
  |num k q=>
   obtain⟨n,c,_,_,i,_⟩:=h';have e:=d.symm.trans c;injection e with e0 e;injection e with _ e;injection e with e _;rw[g,i,e,e0]
  |op k s a b=>have e:=congrArg tG (d.symm.trans h'.1);simp at e
  |call k f p=>have e:=congrArg tG (d.symm.trans h'.1);simp at e
  |_=>exact Ì l Đ
 |op x s a b=>
  cases j with
  |num k q=>obtain⟨n,c,_⟩:=h';have e:=congrArg tG (h.1.symm.trans c);simp at e
  |op k w m u=>have e:=h.1.symm.trans h'.1;injection e with e0 e;injection e with _ e;injection e with d e;injection e with g e;injection e with e3 _;rw[e0,d,g,e3]
  |call k f p=>
   have e:=h.1.symm.trans h'.1;injection e with e0 e;injection e with _ e;injection e with d e;exact Ì h.2.2.2.1 (by rw[d];exact BN)
  |_=>exact Ì l Đ
 |call x f p=>
  cases j with
  |num k q=>obtain⟨n,c,_⟩:=h';have e:=congrArg tG (h.1.symm.trans c);simp at e
  |op k w m u=>
   have e:=h.1.symm.trans h'.1;injection e with e0 e;injection e with _ e;injection e with d e;exact Ì h'.2.2.2.1 (by rw[<-d];exact BN)
  |call k C t=>have e:=h.1.symm.trans h'.1;injection e with e0 e;injection e with _ e;injection e with _ e;injection e with g e3;rw[e0,g,e3]
  |_=>exact Ì l Đ
def BR(h:i8 ws r):lineOf? ws=Á r:=by
 unfold lineOf?;have e:∃r,i8 ws r:=Æ r h;rw[dif_pos e,i8.one (Classical.choose_spec e) h]
def Ep(h:∀r,¬i8 ws r):lineOf? ws=none:=by
 unfold lineOf?;rw[dif_neg λ⟨r,z⟩=>h r z]
def FC(h:lineOf? ws=Á r):i8 ws r:=by
 by_cases c:∃r,i8 ws r
 .obtain⟨b,a⟩:=c;rw[BR a] at h;cases h;exact a
 .rw[Ep λr z=>c (Æ r z)] at h;cases h
noncomputable def parse (x:Str):List (Option ik):=(Txt.split x "\n").map λl=>lineOf? (Txt.split l " ")
def kn:ik->Bool
 |.part _ _=>true
 |_=>false
def m9(a:É (Option ik))(n:Nat):Prop:=a[n]?=Á Ç\/(n=0/\∃r,a[0]?=Á (Á r)/\kn r=false)
def sd:ik->Option Str
 |.part x _=>Á x
 |_=>none
def iZ(a:É ik):Ñ:=a.filterMap sd
def oC(a:É ik)(n:Nat):Prop:=∃x f b,a[n]?=Á (.call x f b)/\f∉iZ a
def rr:Ñ->Str->Nat
 |[],_=>0
 |x::r,y=>if x=y then 0 else rr r y+1
def nS(nm:Ñ):ik->iW
 |.num x z=>.num x (z:Nat)
 |.op x s a b=>.op x s a b
 |.call x f d=>.call x ((rr nm f:Nat):Int) d
 |.say a=>.say a
 |.jump c=>.jump (c:Nat)
 |.test a c=>.test a (c:Nat)
 |.give a=>.give a
 |.part x _=>.say x
def yA(a:É gD)(w:iW):É gD:=a.dropLast++(a.getLast?.map λb=>(Î b.name b.params (b.rows++[w]):gD)).toList
def lM(nm:Ñ)(a:É gD)(r:ik):É gD:=match r with
 |.part x b=>a++[Î x b []]
 |r=>yA a (nS nm r)
def ki(a:É ik):É gD:=a.foldl (lM (iZ a)) []
def vv(n:Int):É (Str×V):=[("line",Ë n)]
def wN(_:a_):gO:=λc H Q _=>∃y:Str,c=[Ä y]/\y.length<=99000/\∀(b:Bool) (a:b_),(b=true↔gP y)->Ö a->Q (.bl b) a
def By(_:a_):gO:=λc H Q _=>∃y:Str,c=[Ä y]/\y.length<=99000/\∀(b:Bool) (a:b_),(b=true↔mX y)->Ö a->Q (.bl b) a
def DX(K:a_):gO:=λd H Q _=>∃(l:d_) (a:List Str),d=[Â l]/\H l=Ð (a.map Ê)/\a.length<=99000/\(∀y∈a,y.length<=99000)/\∀(b:Bool) (c:b_),(b=true↔∀y∈a,gP y)->Ö c->Q (.bl b) c
def Hv(K:a_):gO:=λc H Q _=>∃(l:d_) (a:List Str),c=[Â l]/\H l=Ð (a.map Ê)/\2<=a.length/\a[1]?=Á ("=":Str)/\a.length<=99000/\(∀y∈a,y.length<=99000)/\
 ∀(v:V) (b:b_),vw b v (lineOf? a)->Ö b->Q v b
def H_(K:a_):gO:=λb H Q _=>∃(x:Str),b=[Ä x]/\x.length<=90000/\
 ∀(v:V) (a:b_),vw a v (lineOf? (ą x))->Ö a->Q v a
def v3(H:b_)(l:d_)(b:É (Option ik)):Prop:=∃a,H l=Ð a/\ia (vw H) a b
def Hu(K:a_):gO:=λd H Q E=>∃(l:d_) (c:List (Option ik)),d=[Â l]/\v3 H l c/\((∀n,¬m9 c n)->∀(a:b_),Ö a->ē a)/\
 ∀n:Nat,oE (m9 c) n->∀(b:d_) (a:b_),Ö a->a b=Á (kv b (vv (n:Nat)))->E (Â (iI K "NoLine")) (Á b) a
def xG(H:b_)(d:d_)(nm:Ñ):Prop:=∃a,H d=Á (.dK a)/\∀y,lD a (Sum.inr y)=if y∈nm then Á (V.int ((rr nm y:Nat):Int)) else none
def Hk(K:a_):gO:=λc H Q _=>∃(l:d_) (b:List ik),c=[Â l]/\v3 H l (b.map some)/\b.length<=99000/\∀(d:d_) (a:b_),xG a d (iZ b)->Ö a->Q (Â d) a
def Ht(K:a_):gO:=λe H Q E=>∃(l d:d_) (b:List ik),e=[Â l,Â d]/\v3 H l (b.map some)/\xG H d (iZ b)/\((∀n,¬oC b n)->∀(a:b_),Ö a->ē a)/\
 ∀n:Nat,oE (oC b) n->∀(c:d_) (a:b_),Ö a->a c=Á (kv c (vv (n:Nat)))->E (Â (iI K "NoLine")) (Á c) a
def Iw(K:a_):gO:=λe H Q _=>∃(v:V) (d:d_) (r:ik) (b:List Str),e=[v,Â d]/\oj H v r/\kn r=false/\xG H d b/\(∀x f c,r=.call x f c->f∈b)/\∀(w:V) (a:b_),mK a w (nS b r)->Ö a->Q w a
def HR(K:a_):gO:=λc H Q _=>∃(l d:d_) (a:List ik),c=[Â l,Â d]/\v3 H l (a.map some)/\a.length<=99000/\xG H d (iZ a)/\(∀n,¬m9 (a.map some) n)/\(∀n,¬oC a n)/\
 ∀(p:d_) (b:b_),md b p (ki a)->Ö b->Q (Â p) b
def Ar(K:a_):gO:=λd H Q E=>∃(x:Str),d=[Ä x]/\x.length<=90000/\
 (∀n:Nat,oE (m9 (parse x)) n->∀(b:d_) (a:b_),Ö a->a b=Á (kv b (vv (n:Nat)))->E (Â (iI K "NoLine")) (Á b) a)/\
 ∀c:List ik,parse x=c.map some->(∀n,¬m9 (parse x) n)->
  (∀n:Nat,oE (oC c) n->∀(b:d_) (a:b_),Ö a->a b=Á (kv b (vv (n:Nat)))->E (Â (iI K "NoLine")) (Á b) a)/\
  ((∀n,¬oC c n)->tL (ki c)/\(vh (ki c)->∀(p:d_) (a:b_),md a p (ki c)->Ö a->Q (Â p) a)/\
   ∀(k n:Nat) (w:Str),vi (ki c) k n w->∀(b:d_) (a:b_),Ö a->a b=Á (kv b (we k n w))->E (Â (iI K "NoProgram")) (Á b) a)
def tM(ps:É gD)(k:Int):Str:=((ps[k.toNat]?).map (·.name)).getD ""
def sV(ps:É gD):iW->Ñ
 |.num x z=>[x,"=",iL z]
 |.op x s a b=>[x,"=",a,s,b]
 |.call x k d=>x::"="::"call"::tM ps k::d
 |.say a=>["say",a]
 |.jump c=>["jump",iL c]
 |.test a c=>["test",a,iL c]
 |.give a=>["give",a]
def si(ps:É gD)(r:iW):Str:=Txt.join " " (sV ps r)
def oR(b:gD):Str:=Txt.join " " ("part"::b.name::b.params)
def kr(ps:É gD)(b:gD):Ñ:=oR b::b.rows.map (si ps)
def oQ(ps:É gD):Ñ:=(ps.map (kr ps)).flatten
def uF(ps:É gD):Str:=Txt.join "\n" (oQ ps)
def wc(m:Nat)(ps:É gD):iW->Prop
 |.num x z=>x.length<=8/\pF z
 |.op x s a b=>x.length<=8/\s.length<=8/\a.length<=8/\b.length<=8
 |.call x k d=>x.length<=8/\0<=k/\k<ps.length/\d.length<=m/\∀a∈d,a.length<=8
 |.say a=>a.length<=8
 |.jump c=>pF c
 |.test a c=>a.length<=8/\pF c
 |.give a=>a.length<=8
structure C4(m:Nat)(ps:É gD)(b:gD):Prop where
 nm:b.name.length<=8
 p8:b.params.length<=m
 pl:∀y∈b.params,y.length<=8
 few:b.rows.length<=64
 rows:∀r∈b.rows,wc m ps r
structure r_(m:Nat)(ps:É gD):Prop where
 few:ps.length<=8
 part:∀b∈ps,C4 m ps b
def IQ(_:a_):gO:=λd H Q _=>∃(p:d_) (v:V) (a:List gD) (r:iW),d=[Â p,v]/\md H p a/\(∀b∈a,b.name.length<=8)/\mK H v r/\wc 100 a r/\∀c,Ö c->Q (Ä (si a r)) c
def ED(_:a_):gO:=λc H Q _=>∃(p:d_) (a:List gD),c=[Â p]/\md H p a/\r_ 100 a/\∀b,Ö b->Q (Ä (uF a)) b
def Kj(_:a_):gO:=λd H Q _=>∃(p:d_) (v:V) (a:List gD) (r:iW),d=[Â p,v]/\md H p a/\(∀b∈a,b.name.length<=8)/\mK H v r/\wc 100 a r/\∀c,Ö c->Q (Ä (si a r)) c
def Ce(_:a_):gO:=λc H Q _=>∃(p:d_) (b:List gD),c=[Â p]/\md H p b/\r_ 100 b/\∀(l:d_) (a:b_),H l=none->a l=Ð ((oQ b).map Ê)->Ö a->Q (Â l) a
abbrev Y2:Nat:=0
abbrev Yy:Nat:=1
abbrev XM:Nat:=0
abbrev W0:Nat:=1
abbrev XJ:Nat:=1
abbrev WZ:Nat:=2
abbrev Wh:Nat:=2
abbrev V0:Nat:=3
abbrev XN:Nat:=3
abbrev W1:Nat:=4
abbrev Wg:Nat:=2
abbrev VZ:Nat:=3
abbrev kip:Nat:=0
abbrev kim:Nat:=1
abbrev Wf:Nat:=2
abbrev VY:Nat:=3
abbrev Yf:Nat:=0
abbrev Yb:Nat:=1
abbrev WS:Nat:=1
abbrev WA:Nat:=2
abbrev keN:Nat:=5
abbrev keb:Nat:=6
abbrev Y3:Nat:=1
abbrev Yz:Nat:=2
abbrev kc2:Nat:=2
abbrev kcF:Nat:=3
abbrev kbS:Nat:=0
abbrev kbt:Nat:=1
abbrev kgG:Nat:=1
abbrev kf4:Nat:=2
end Bg
namespace Bg
open PySem PySem.Spec PyProof.Rows L2
abbrev X5:Ñ:=["number"]
abbrev Lg:Ñ:=["number","sign","left","lots"]
def VI(K:a_):e_:=fZ (ô (hZ K) 1 (F_ K pR (ý 3)))
def VJ(K:a_):e_:=iA (lS (iJ K "list" m7 (fI 3) (Þ (ÿ yG 2)))) (VI K)
def VL(K:a_):e_:=đ (ô RZ 2 (fV vt BL DY)) 2
def VM(K:a_):e_:=iA (lS (iJ K "list" m7 (fI 3) (Þ (iJ K "str" R3 (iO yG (Þ (ô rJ 2 (fV vt BL DY)))) (Þ DY))))) (VL K)
def VN(K:a_):e_:=iA (xt (iY (ô y0 2 (fV vt BL DY))) (VM K)) (VJ K)
def Up(K:a_):e_:=õ (h_ lN) 3 (VN K)
def Uq(K:a_):e_:=õ (ÿ Vt 0) 2 (Up K)
def LA(K:a_):e_:=õ (HX (iY (ô ni 0 gj)) Hw pR) 1 (Uq K)
end Bg
namespace Bg
open PySem L2
def t_:Nat->Nat->É Char
 |0,_=>[]
 |k+1,r=>t_ k (r / 10)++[wO (r % 10)]
def CK(b:0<n)(a:d<10):nI 10 (10*n+d)=nI 10 n++[wO d]:=by
 rw[<-Nat.toDigits_append_toDigits Ï b a,HC a]
theorem Pw:∀(k m r:Nat),0<m->r<10 ^ k->nI 10 (m*10 ^ k+r)=nI 10 m++t_ k r
 |0,m,r,_,a=>by
  have:r=0:=by simpa using a
  subst this;simp[t_]
 |k+1,m,r,c,a=>by
  have d:r / 10<10 ^ k:=by rw[Nat.div_lt_iff_lt_mul Ï];rw[EY] at a;lia
  have e:m*10 ^ (k+1)+r=10*(m*10 ^ k+r / 10)+r % 10:=by
   have:=IK r 10;rw[EY,Nat.mul_add,show m*(10 ^ k*10)=10*(m*10 ^ k) by rw[Ai (10 ^ k) 10,<-Nat.mul_assoc,Ai m 10,Nat.mul_assoc]];lia
  have b:0<m*10 ^ k+r / 10:=l' (Nat.mul_pos c (Nat.pow_pos Ï)) (Ii _ _);rw[e,CK b (B0 _ Ï),Pw k m (r / 10) c d,sM];rfl
theorem Pv:∀k,t_ k 0=lq k '0'
 |0=>rfl
 |k+1=>by
  show t_ k (0 / 10)++[wO (0 % 10)]=_;rw[Nat.zero_div,Pv k,List.replicate_succ'];rfl
theorem RS:∀(k r:Nat),0<k->r<10 ^ k->t_ k r=lq (k-Ô (nI 10 r)) '0'++nI 10 r
 |0,_,h,_=>Ì h Ï
 |k+1,r,_,f=>by
  show t_ k (r / 10)++[wO (r % 10)]=_;by_cases c:r<10
  .rw[Nat.div_eq_of_lt c,Nat.mod_eq_of_lt c,Pv,HC c];rfl
  .have b:r / 10<10 ^ k:=by rw[Nat.div_lt_iff_lt_mul Ï];rw[EY] at f;lia
   have a:0<r / 10:=Nat.div_pos Ã Ï;have g:0<k:=by
    cases k with
    |zero=>rw[Nat.pow_zero] at b;lia
    |succ k=>exact Nat.succ_pos _
   have e:r=10*(r / 10)+r % 10:=(IK r 10).symm;have d:nI 10 r=nI 10 (r / 10)++[wO (r % 10)]:=by
    conv=>lhs;rw[e]
    exact CK a (B0 _ Ï)
   rw[RS k (r / 10) g b,d,ie,pk,Nat.add_sub_add_right,sM]
def Str.ext'{a b:Str}(h:a.cps.toList=b.cps.toList):a=b:=by
 cases a;cases b;congr 1;exact Ih.mp h
def tP(m:Nat):(iL (m:Nat)).cps.toList=(nI 10 m).map Char.toNat:=PySem.W.KIN.signs_num m
def vV(a b:Str):(a++b).cps.toList=a.cps.toList++b.cps.toList:=by
 show(a.cps++b.cps).toList=_;rw[vH]
def kkg(m:Nat)(h:m<2 ^ 64):Ô (iL (m:Nat))<=20:=by
 have e:Ô (iL (m:Nat))=Ô (nI 10 m):=by
  show(iL (m:Nat)).cps.size=_;rw[<-lO,tP,fP]
 rw[e,Nat.length_toDigits_le_iff Ï Ï];exact Eu h Ï
def Ni(m:Nat):∃c r,(nI 10 m)=c::r/\48<=c.toNat:=by
 cases h:nI 10 m with
 |nil=>have:=Nat.length_toDigits_pos (b:=10) (n:=m);rw[h] at this;exact Ì this Ï
 |cons c r=>
  refine⟨c,r,À,?_⟩;have a:c∈nI 10 m:=by rw[h];exact pH
  have:=Nat.isDigit_of_mem_toDigits Ï Ï a;unfold Char.isDigit at this;rw[Bool.and_eq_true,decide_eq_true_iff] at this;exact this.1
def Pn(k r:Nat)(d:0<k)(e:r<10 ^ k):(Txt.zfill (iL (r:Nat)) (k:Nat)).cps.toList=(t_ k r).map Char.toNat:=by
 have b:Ô (iL (r:Nat))=Ô (nI 10 r):=by
  show(iL (r:Nat)).cps.size=_;rw[<-lO,tP,fP]
 have l:Ô (nI 10 r)<=k:=(Nat.length_toDigits_le_iff Ï d).mpr e;rw[RS k r d e];unfold Txt.zfill;by_cases c:((k:Nat):Int)<=((iL (r:Nat)).length:Int)
 .rw[if_pos c,tP];have:Ô (nI 10 r)=k:=by rw[b] at c;lia
  rw[this,yc];rfl
 .rw[ù c];unfold zfilled;obtain⟨f,m,i,j⟩:=Ni r;have g:(iL (r:Nat)).cps[0]?=Á f.toNat:=by
   rw[<-uR,tP,i];rfl
  rw[g];have a:(Builtin.Str.padded (iL (r:Nat)) (((k:Nat):Int).toNat-Ô (iL (r:Nat))) 0 48).cps.toList=(lq (k-Ô (nI 10 r)) '0'++nI 10 r).map Char.toNat:=by
   unfold Builtin.Str.padded;show(Array.replicate _ 48++(iL (r:Nat)).cps++Array.replicate 0 48).toList=_;rw[vH,vH,Array.toList_replicate,Array.toList_replicate,tP,List.replicate_zero,oe,b,sL,g8,List.map_replicate];rfl
  split
  .rename_i h;have h:=ď h;lia
  .rename_i h;have h:=ď h;lia
  .exact a
def kkf(n:Nat)(h:10 ^ 18<=n):iL (n:Nat)=iL ((n / 10 ^ 18:Nat):Int)++Txt.zfill (iL ((n % 10 ^ 18:Nat):Int)) ((18:Nat):Int):=by
 apply Str.ext';rw[vV,tP,tP,Pn 18 _ Ï (B0 _ Ï),<-g8];congr 1;have a:0<n / 10 ^ 18:=Nat.div_pos h Ï;have e:=Pw 18 (n / 10 ^ 18) (n % 10 ^ 18) a (B0 _ Ï);rw[<-e];congr 1;rw[Ai];exact(IK n _).symm
def kfa(c:Nat):(lq c [è ""]).flatten=(lq c ("":Str)).map Ê:=by
 induction c with
 |zero=>rfl
 |succ c a=>rw[xX,rY,a,xX,kL];rfl
theorem khk:∀i:Nat,i<5->∃c,("+-*<=":Str).cps.toList[i]?=Á c/\(⟨#[c]⟩:Str)∈oq
 |0,_=>Î 43 â â
 |1,_=>Î 45 â â
 |2,_=>Î 42 â â
 |3,_=>Î 60 â â
 |4,_=>Î 61 â â
 |n+5,h=>Ã
def kaQ{K:a_}{vs:List V}{H:b_}{Q:fS}{E:f_}(h:IU K vs H Q E):LK K (ì í Q) (gW Lj vs) H:=by
 obtain⟨t,nm,cn,n,k,O,B,rfl,S,hk,I,P,aw,n1,n2,ae,G,ao,ab,nnm,M,q⟩:=h;have yl:0<O.length:=sJ.mpr P;have cl:0<B.length:=sJ.mpr G;refine⟨_,À,_,À,_,À,_,_,À,È ⟨_,Ù I,À⟩,t,_,k,À,S,Ã,by rw[fP];lia,by rw[fP];lia,λd H1 d0 d1 S1 B1=>?_⟩;rw[fP] at d1;have dl:d.toNat<O.length:=Ã
 refine ke (Ù (B1 nm _ nnm I)) d0 (Cr (gF dl)) ?_;have J:O[d.toNat]∈O:=nE dl;generalize O[d.toNat]=x at J ⊢;refine⟨_,À,t,12,k+1,À,S1,Ã,Ï,Ï,λs H2 s0 s1 y aa=>?_⟩;have u:hI t H H2:=B1.trans aa;have i:=u cn _ M ae;refine⟨_,À,_,_,À,À,_,À,gz (λ_=>?_) (λar=>?_)⟩
 .refine⟨_,À,_,À,t,k+2,À,y,Ã,λz k3 R z0 z1 g l3 f=>Æ kM (λp a=>?_)⟩;exact q _ (.num x z) _ _ (Ą p fG) (Î J z0 z1) (g.new a) Ã ((u.trans f).new a)
 refine⟨_,À,_,_,À,À,_,À,gz (λ_=>?_) (λau=>?_)⟩
 .refine⟨_,À,_,À,t,5,k+2,À,y,Ã,Ï,Ï,λe R U X g f=>?_⟩;obtain⟨c,hY,c2⟩:=khk e.toNat Ã;refine Bp â U hY ⟨yh,λp a=>?_⟩;exact q _ (.op x ⟨#[c]⟩ "" "") _ _ (Ą p fG) ⟨J,c2,À,À⟩ (g.new a) Ã ((u.trans f).new a)
 refine Ú (ñ À _ À (gz (λ_=>?_) (λ_=>?_)))
 .refine⟨_,À,_,À,_,_,À,È ⟨_,Ù i,À⟩,t,_,k+2,À,y,Ã,by rw[mI];lia,by rw[mI];lia,λe R U X g f=>?_⟩;rw[mI] at X;obtain⟨j,rfl⟩:∃j:Nat,e=(j:Int):=Æ e.toNat Ã;have jl:j<B.length:=Ã
  have m:=f cn _ M i;have T:B[j]?=Á B[j]:=gF jl;have c4:B[j]<=4:=ab _ (nE jl);generalize B[j]=c at T c4;refine⟨_,À,_,À,kK,λZ w=>?_⟩;have aj:cn≠Z:=f6 m w;refine Õ _ À _ (ke (Ù (by rw[fM aj];exact m)) Ã (v:=Ë (c:Nat)) (by simpa using kcT T) ?_);have D:=g.new (o:=.tup [è ""]) w;have C:=(u.trans f).new (o:=.tup [è ""]) w;have c5:1*c<=gM:=mC Ã (show 100<=gM by decide);refine Í ⟨Z,c,[è ""],À,À,fR.of fG,Ò,c5,λh1=>Æ va (λp a=>?_),λaq r b=>Æ va (λp a=>?_)⟩
  .have ag:Z≠p:=f6 fG a;subst h1;refine q _ (.call x j [""]) _ _ ⟨p,Z,À,fG,by rw[fM ag,fG];rfl⟩ ⟨J,1,T,À⟩ (D.new a) Ã (C.new a)
  .have ai:r≠p:=f6 fG a;refine q _ (.call x j (lq c "")) _ _ ⟨p,r,À,fG,by rw[fM ai,fG,kfa]⟩ ⟨J,c,T,À⟩ ((D.new b).new a) Ã ((C.new b).new a)
 refine⟨_,À,_,_,À,À,_,À,gz (λ_=>?_) (λav=>?_)⟩
 .exact Æ ka (λp a=>q _ (.say "") _ _ (Ą p fG) À (y.new a) Ã (u.new a))
 refine⟨_,À,_,_,À,À,_,À,gz (λ_=>?_) (λak=>?_)⟩
 .refine⟨_,À,_,À,t,_,k+2,À,y,Ã,Ã,Ã,λe R U X g f=>Æ kM (λp a=>?_)⟩;obtain⟨j,rfl⟩:∃j:Nat,e=(j:Int):=Æ e.toNat Ã;exact q _ (.test "" j) _ _ (Ą p fG) (Æ À Ã) (g.new a) Ã ((u.trans f).new a)
 refine⟨_,À,_,À,t,_,k+2,À,y,Ã,Ã,Ã,λe R U X g f=>Æ ka (λp a=>?_)⟩;obtain⟨j,rfl⟩:∃j:Nat,e=(j:Int):=Æ e.toNat Ã;refine Æ ka (λr b=>Æ ka (λl Y=>?_));have L:p≠r:=f6 fG b;have ah:r≠l:=f6 fG Y;have af:p≠l:=f6 (by rw[fM L];exact fG) Y;have D:=((g.new (o:=.tup [è "jump",V.int (j:Nat)]) a).new (o:=.tup [è "give",è ""]) b).new (o:=.lst [V.ref p,V.ref r]) Y;have C:=(((u.trans f).new (o:=.tup [è "jump",V.int (j:Nat)]) a).new (o:=.tup [è "give",è ""]) b).new (o:=.lst [V.ref p,V.ref r]) Y;refine⟨_,À,_,_,À,À,?_⟩;rcases(by lia:s=10\/s=11) with rfl|rfl
 .exact ke (Ù fG) Ï À (q _ (.jump j) _ _ (Ą p (by rw[fM af,fM L,fG])) (by show j<n;lia) D Ã C)
 .exact ke (Ù fG) Ï À (q _ (.give "") _ _ (Ą r (by rw[fM ah,fG])) À D Ã C)
def CW(h:pF z):z.natAbs.log2<1920:=by
 obtain⟨a,b⟩:=h;by_cases c:z.natAbs=0
 .rw[c];decide
 .have:z.natAbs.log2<64:=(Fw c).mpr Ã;lia
def xp(h:pF z):Ô (iL z)<=20:=by
 obtain⟨a,b⟩:=h;have e:z=((z.toNat:Nat):Int):=Ã
 rw[e];exact kkg _ Ã
def pP(a b:Str):Ô (a++b)=a.length+b.length:=by
 show(a.cps++b.cps).size=a.cps.size+b.cps.size;rw[Array.size_append]
def kgU(a:Str):("":Str)++a=a:=Str.ext' (by rw[vV];rfl)
def kgZ(a:Str):a++("":Str)=a:=Str.ext' (by rw[vV];show _++[]=_;rw[oe])
def M9(a b c:Str):a++b++c=a++(b++c):=Str.ext' (by rw[vV,vV,vV,vV,sM])
def FS(sep a b:Str):Txt.join sep [a,b]=a++sep++b:=by
 show Builtin.Str.glued sep [a,b]=_;rw[StrLaws.glued_eq_join];rfl
def keJ(sep a:Str):Txt.join sep [a]=a:=by
 show Builtin.Str.glued sep [a]=_;rw[StrLaws.glued_eq_join];rfl
def xT:(10:Int) ^ pA 18=1000000000000000000:=Ï
def kaL{K:a_}{vs:List V}{H:b_}{Q:fS}{E:f_}(h:BG K vs H Q E):LA K (ì í Q) (gW Lg vs) H:=by
 obtain⟨z,rfl,p,q⟩:=h;obtain⟨Y,Z⟩:=id p;refine⟨_,À,_,_,À,À,_,À,gz (λc=>Ì c Ã) (λ_=>?_)⟩;show Uq K _ [iX z,î "",Ç,Ç] H;refine Õ _ À _ ?_;rw[ù Ã];show Up K _ [iX z,î "",iX z,Ç] H;refine Æ mU (λL s=>?_);have D:Ö (Ý H L []):=(Ø H).new s;have y:Ĉ H L [] L=Ð []:=fG;show VN K _ [iX z,î "",iX z,Å L] _;generalize upd H L (.lst [])=S at D y ⊢;have k:∀(d:Int) (f:List Str) (i:b_),pF d->i L=Ð (f.map Ê)->Ö i->f.length<=1->(∀x∈f,x.length<=100)->Txt.join "" (f++[iL d]).reverse=iL z->VJ K (ì í Q) [iX z,î "",iX d,Å L] i:=λd f i C j l P R v=>by
  refine⟨_,À,È ⟨À,_,Ù j⟩,_,À,È ⟨_,À,CW C,L,_,_,À,À,j,gY (by rw[fP];lia),?_⟩⟩;have B:Ĉ i L (f.map Ê++[è (iL d)]) L=Ð ((f++[iL d]).map Ê):=by rw[fG,g8];rfl
  have G:Ö (Ý i L (f.map Ê++[è (iL d)])):=λb u e=>by rw[fM (f6 e s)];exact l b u e
  show VI K _ [iX z,î "",iX d,Å L] (Ý i L (f.map Ê++[è (iL d)]));generalize upd i L (.lst (f.map V.str++[V.str (iL d)]))=t at G B ⊢;have T:=xp C;have U:=xp p;refine⟨_,À,"",À,_,À,L,f++[iL d],À,Ù B,?_,Í (È ⟨_,_,À,À,?_,?_⟩)⟩
  .have:((f++[iL d]).reverse.map (·.length)).sum<=1000:=by
    rcases f with _|⟨a,_|⟨b,r⟩⟩
    .show Ô (iL d)+0<=1000;lia
    .have:=R a pH;show Ô (iL d)+(a.length+0)<=1000;lia
    .simp at P
   have n:("":Str).length=0:=â
   rw[n,Nat.mul_zero];lia
  .rw[v];exact mv (gY (by have n:("":Str).length=0:=(â);rw[n];lia))
  .show Q (Ä (("":Str)++Txt.join "" (f++[iL d]).reverse)) t;rw[v,kgU];exact q t G
 refine⟨λm g H'=>(m=1/\g=[iX z,î "",iX z,Å L]/\H' L=Ð []/\Ö H')\/
   (m=0/\10 ^ 18<=z/\g=[iX z,î "",Á (Ë (z / 1000000000000000000)),Å L]/\H' L=Ð [Ä (Txt.zfill (iL (z % 1000000000000000000)) 18)]/\Ö H'),Æ 1 (ñ À À y D),?_⟩
 rintro m g i (⟨rfl,rfl,j,l⟩|⟨rfl,big,rfl,j,l⟩)
 .refine⟨_,À,_,_,À,À,Î Ï Ï Ï,_,_,À,À,_,À,?_⟩;rw[xT];refine gz (λc=>?_) (λc=>?_)
  .refine⟨λg H'=>10 ^ 18<=z/\g=[iX z,î "",Á (Ë (z / 1000000000000000000)),Å L]/\H' L=Ð [Ä (Txt.zfill (iL (z % 1000000000000000000)) 18)]/\Ö H',λg H' h=>Î 0 Ï (Í (Æ À h)),?_⟩;show VM K _ [iX z,î "",iX z,Å L] i;refine⟨_,À,È ⟨À,_,Ù j⟩,_,À,_,_,À,À,Î Ï Ï Ï,_,_,À,À,?_,È ⟨_,À,?_,À,_,_,À,À,Ï,L,_,_,À,À,j,Ï,?_⟩⟩
   .show 0<(10:Int) ^ pA 18;rw[xT];decide
   .rw[xT];exact CW (Æ Ã Ã)
   rw[xT];show VL K _ [iX z,î "",iX z,Å L] _;refine⟨_,À,_,_,À,À,Î Ï Ï Ï,_,_,À,À,?_,?_⟩
   .rw[xT];exact Æ Ï Ï
   rw[xT];refine⟨Ã,À,fG,λb u e=>by rw[fM (f6 e s)];exact l b u e⟩
  .refine k z [] i p j l Ï (λx o=>by cases o) ?_;exact keJ _ _
 .have X:z / 1000000000000000000<1000000000000000000:=Ã
  refine⟨_,À,_,_,À,À,Î Ï Ï Ï,_,_,À,À,_,À,?_⟩;rw[xT];refine gz (λc=>Ì c Ã) (λc=>?_);have O:z=((z.toNat:Nat):Int):=Ã
  have M:z / 1000000000000000000=((z.toNat / 10 ^ 18:Nat):Int):=Ã
  have w:z % 1000000000000000000=((z.toNat % 10 ^ 18:Nat):Int):=Ã
  have J:=kkf z.toNat Ã;refine k _ [Txt.zfill (iL (z % 1000000000000000000)) 18] i (Æ Ã Ã) j l ï (λx o=>?_) ?_
  .rw[g_.mp o,w];have:=Pn 18 (z.toNat % 10 ^ 18) Ï (B0 _ Ï);have I:Ô (Txt.zfill (iL ((z.toNat % 10 ^ 18:Nat):Int)) ((18:Nat):Int))=18:=by
    show(Txt.zfill (iL ((z.toNat % 10 ^ 18:Nat):Int)) ((18:Nat):Int)).cps.size=18;rw[<-lO,this,fP];rfl
   show Ô (Txt.zfill (iL ((z.toNat % 10 ^ 18:Nat):Int)) ((18:Nat):Int))<=100;rw[I];decide
  .show Txt.join "" [iL (z / 1000000000000000000),Txt.zfill (iL (z % 1000000000000000000)) 18]=iL z;rw[FS,kgZ,M,w]
   conv=>rhs;rw[O,J]
   rfl
theorem PV:∀{a b A B:List Nat},a++c::A=b++c::B->c∉a->c∉b->a=b/\A=B
 |[],[],_,_,h,_,_=>Æ À (by injection h)
 |[],y::b,_,_,h,_,e=>by
  injection h with h1 h2;exact Ì (by rw[h1];exact pH) e
 |x::a,[],_,_,h,d,_=>by
  injection h with h1 h2;exact Ì (by rw[<-h1];exact pH) d
 |x::a,y::b,A,B,h,d,e=>by
  injection h with h1 h2;obtain⟨f,g⟩:=PV h2 (λz=>d (my _ z)) (λz=>e (my _ z));exact Æ (by rw[h1,f]) g
def vP(c:Nat)(x y:Str)(r:Ñ):(Str.join ⟨#[c]⟩ (x::y::r)).cps.toList=x.cps.toList++c::(Str.join ⟨#[c]⟩ (y::r)).cps.toList:=by
 show(x++⟨#[c]⟩++Str.join ⟨#[c]⟩ (y::r)).cps.toList=_;rw[vV,vV];show(x.cps.toList++[c])++_=_;rw[sM];rfl
theorem OD:∀{xs ys:List Str},xs≠[]->ys≠[]->(∀x∈xs,c∉x.cps.toList)->(∀y∈ys,c∉y.cps.toList)->Str.join ⟨#[c]⟩ xs=Str.join ⟨#[c]⟩ ys->xs=ys
 |[],_,h,_,_,_,_=>Ì À h
 |_,[],_,h,_,_,_=>Ì À h
 |[x],[y],_,_,_,_,h=>by rw[show x=y from h]
 |[x],y::y'::r,_,_,a,_,h=>by
  have e:=vP c y y' r;rw[<-h] at e;exact Ì (show c∈x.cps.toList from by rw[show x.cps.toList=_ from e];simp) (a x Ò)
 |x::x'::r,[y],_,_,_,b,h=>by
  have e:=vP c x x' r;rw[h] at e;exact Ì (show c∈y.cps.toList from by rw[show y.cps.toList=_ from e];simp) (b y Ò)
 |x::x'::r,y::y'::r',_,_,a,b,h=>by
  have e:=vP c x x' r;rw[h,vP c y y' r'] at e;obtain⟨f,g⟩:=PV e (b y Ò) (a x Ò);rw[Str.ext' f.symm,OD Ò Ò (λz d=>a z (my _ d)) (λz d=>b z (my _ d)) (Str.ext' g.symm)]
def w9(x y:Str):Txt.split x y≠[]:=by
 unfold Txt.split;split
 .simp
 .split
  .simp
  .rw[StrLaws.partsBetween_eq];obtain⟨p,r,e⟩:=StrLaws.partsFrom_ne x y.length 0 (Builtin.Str.occurrences x y 0 x.length (x.length+1));rw[e];simp
def BI(b:xs≠[])(a:∀x∈xs,c∉x.cps.toList):Txt.split (Txt.join ⟨#[c]⟩ xs) ⟨#[c]⟩=xs:=by
 refine OD (w9 _ _) b (StrLaws.split_free _ c) a ?_;rw[StrLaws.join_split];exact StrLaws.glued_eq_join _ _
def UH:("\n":Str)=⟨#[10]⟩:=â
def uB:(" ":Str)=⟨#[32]⟩:=â
def LR(e:c≠d):∀{xs:List Str},(∀x∈xs,c∉x.cps.toList)->c∉(Txt.join ⟨#[d]⟩ xs).cps.toList:=λ{xs} h=>by
 show c∉(Builtin.Str.glued ⟨#[d]⟩ xs).cps.toList;rw[StrLaws.glued_eq_join]
 induction xs with
 |nil=>exact λz=>by cases z
 |cons x r b=>
  cases r with
  |nil=>exact h x Ò
  |cons y r=>
   rw[vP];intro z;rcases iT.mp z with z|z
   .exact h x Ò z
   .rcases g7.mp z with z|z
    .exact e z
    .exact b (λw a=>h w (my _ a)) z
def EJ(h:∀x∈xs,x.length<=b):Ô (Txt.join sep xs)<=xs.length*(b+sep.length):=by
 show Ô (Builtin.Str.glued sep xs)<=_;rw[StrLaws.glued_eq_join];have a:=StrLaws.join_length_le sep xs;have c:(xs.map (·.length)).sum<=xs.length*b:=StrLaws.sumLen_le xs h;have:xs.length*(b+sep.length)=xs.length*b+xs.length*sep.length:=Nat.mul_add ..;lia
def ke7:∀(m:Nat),0<m->∃c r,nI 10 m=c::r/\c≠'0':=λm=>by
 induction m using Nat.strongRecOn with
 |ind m a=>
  intro b;by_cases h:m<10
  .have:m=1\/m=2\/m=3\/m=4\/m=5\/m=6\/m=7\/m=8\/m=9:=Ã
   rcases this with rfl|rfl|rfl|rfl|rfl|rfl|rfl|rfl|rfl<;>exact⟨_,_,À,Ï⟩
  .obtain⟨c,r,e,n⟩:=a (m / 10) Ã Ã;refine⟨c,r++[wO (m % 10)],?_,n⟩;have:=CK (n:=m / 10) (d:=m % 10) Ã Ã;rw[show 10*(m / 10)+m % 10=m from Ã] at this;rw[this,e];rfl
def khb(m:Nat):∀c∈(iL (m:Nat)).cps.toList,48<=c/\c<=57:=λc b=>by
 rw[tP] at b;obtain⟨d,a,e⟩:=kA.mp b;rw[<-e];exact PyProof.Rows.digit_range (Nat.isDigit_of_mem_toDigits Ï Ï a)
def kd7{a b:Char}(h:a.toNat=b.toNat):a=b:=Char.ext (UInt32.toNat.inj h)
def G1{z:Int}(h:pF z):mX (iL z)/\((nj (iL z):Nat):Int)=z:=by
 obtain⟨m,rfl⟩:=Int.eq_ofNat_of_zero_le h.1;have b:nj (iL (m:Nat))=m:=by unfold nj;rw[tP];exact PySem.W.KIN.val_back m
 refine Æ ⟨?_,xp h,khb m,λa=>?_⟩ (by rw[b])
 .show 1<=(iL (m:Nat)).cps.size;rw[<-lO,tP,fP];obtain⟨c,r,e,_⟩:=Ni m;rw[e];exact IL ..
 .by_cases c:m=0
  .subst c;decide +kernel
  .obtain⟨d,r,e,n⟩:=ke7 m (DS c);rw[tP,e] at a;have a:Á d.toNat=Á 48:=a;exact Ì (kd7 (ď a:d.toNat='0'.toNat)) n
def tJ(h:gP y):32∉y.cps.toList/\10∉y.cps.toList:=
 ⟨λz=>Ì (h.abc _ z).1 Ï,λz=>Ì (h.abc _ z).1 Ï⟩
def Gg(h:mX y):32∉y.cps.toList/\10∉y.cps.toList:=
 ⟨λz=>Ì (h.dig _ z).1 Ï,λz=>Ì (h.dig _ z).1 Ï⟩
def vU(h:w∈(["part","=","call","say","jump","test","give","+","-","*","<"]:Ñ)):32∉w.cps.toList/\10∉w.cps.toList:=by
 have:∀w∈(["part","=","call","say","jump","test","give","+","-","*","<"]:List Str),32∉w.cps.toList/\10∉w.cps.toList:=â
 exact this w h
def kdp(h:w∈oq):32∉w.cps.toList/\10∉w.cps.toList:=by
 have:∀w∈oq,32∉w.cps.toList/\10∉w.cps.toList:=â
 exact this w h
def i8.free(h:i8 ws r):ws≠[]/\∀w∈ws,32∉w.cps.toList/\10∉w.cps.toList:=by
 cases r with
 |part x l=>
  obtain⟨rfl,nx,g⟩:=h;refine⟨Ò,λw hw=>?_⟩;rcases g7.mp hw with rfl|hw
  .exact vU â
  .rcases g7.mp hw with rfl|hw
   .exact tJ nx
   .exact tJ (g w hw)
 |num x z=>
  obtain⟨y,rfl,nx,d,_⟩:=h;refine⟨Ò,λw hw=>?_⟩;simp only[g7,mz,or_false] at hw;rcases hw with rfl|rfl|rfl
  .exact tJ nx
  .exact vU â
  .exact Gg d
 |op x s a b=>
  obtain⟨rfl,nx,i,c,d⟩:=h;refine⟨Ò,λw hw=>?_⟩;simp only[g7,mz,or_false] at hw;rcases hw with rfl|rfl|rfl|rfl|rfl
  .exact tJ nx
  .exact vU â
  .exact tJ c
  .exact kdp i
  .exact tJ d
 |call x f k=>
  obtain⟨rfl,nx,e,c⟩:=h;refine⟨Ò,λw hw=>?_⟩;simp only[g7] at hw;rcases hw with rfl|rfl|rfl|rfl|hw
  .exact tJ nx
  .exact vU â
  .exact vU â
  .exact tJ e
  .exact tJ (c w hw)
 |say a=>
  obtain⟨rfl,n⟩:=h;refine⟨Ò,λw hw=>?_⟩;simp only[g7,mz,or_false] at hw;rcases hw with rfl|rfl
  .exact vU â
  .exact tJ n
 |jump j=>
  obtain⟨y,rfl,n,_⟩:=h;refine⟨Ò,λw hw=>?_⟩;simp only[g7,mz,or_false] at hw;rcases hw with rfl|rfl
  .exact vU â
  .exact Gg n
 |test a j=>
  obtain⟨y,rfl,n,m,_⟩:=h;refine⟨Ò,λw hw=>?_⟩;simp only[g7,mz,or_false] at hw;rcases hw with rfl|rfl|rfl
  .exact vU â
  .exact tJ n
  .exact Gg m
 |give a=>
  obtain⟨rfl,n⟩:=h;refine⟨Ò,λw hw=>?_⟩;simp only[g7,mz,or_false] at hw;rcases hw with rfl|rfl
  .exact vU â
  .exact tJ n
def Yi{a:List (List Str)}{b:List ik}(m:a≠[])(n:a.length=b.length)(h:∀(i:Nat) ws r,a[i]?=Á ws->b[i]?=Á r->i8 ws r):parse (Txt.join "\n" (a.map (Txt.join " ")))=b.map some:=by
 have f:∀ws∈a,∃r,i8 ws r:=λws c=>by
  obtain⟨i,d,e⟩:=nB.mp c;exact Æ _ (h i ws b[i] (by rw[gF d,e]) (gF Ã))
 unfold parse;rw[UH,uB,BI (by simpa using m) (λx l=>by
  obtain⟨ws,c,rfl⟩:=kA.mp l;obtain⟨r,k⟩:=f ws c;exact LR Ï λw j=>(k.free.2 w j).2)]
 rw[pJ];apply DT;intro i;rw[i3,i3];by_cases d:i<a.length
 .rw[gF d,gF (show i<b.length by lia)];have g:=h i a[i] b[i] (gF d) (gF Ã);show Á (lineOf? (Txt.split (Txt.join ⟨#[32]⟩ a[i]) ⟨#[32]⟩))=Á (Á b[i]);rw[BI g.free.1 (λw c=>(g.free.2 w c).1),BR g]
 .rw[ue Ã,ue Ã];rfl
def yO(ps:É gD):iW->Prop
 |.num x z=>gP x/\pF z
 |.op x s a b=>gP x/\s∈oq/\gP a/\gP b
 |.call x k d=>gP x/\0<=k/\k<ps.length/\d.length<=8/\∀a∈d,gP a
 |.say a=>gP a
 |.jump c=>pF c
 |.test a c=>gP a/\pF c
 |.give a=>gP a
structure kis(ps:É gD)(b:gD):Prop where
 nm:gP b.name
 p8:b.params.length<=8
 pn:∀y∈b.params,gP y
 few:b.rows.length<64
 rows:∀r∈b.rows,yO ps r
structure sU(ps:É gD):Prop where
 pos:ps≠[]
 few:ps.length<=8
 part:∀b∈ps,kis ps b
def Pc(h:w∈oq):w.length<=8:=by
 have:∀w∈oq,w.length<=8:=â
 exact this w h
def yO.wr(h:yO ps r):wc 8 ps r:=by
 cases r with
 |op x s a b=>exact⟨h.1.l8,Pc h.2.1,h.2.2.1.l8,h.2.2.2.l8⟩
 |call x k d=>exact⟨h.1.l8,h.2.1,h.2.2.1,h.2.2.2.1,λa c=>(h.2.2.2.2 a c).l8⟩
 |say a=>exact gP.l8 h
 |jump e=>exact h
 |give a=>exact gP.l8 h
 |_=>exact Æ h.1.l8 h.2
def sU.wr(h:sU ps):r_ 8 ps:=Æ h.few (λb a=>by
 have p:=h.part b a;exact⟨p.nm.l8,p.p8,λy d=>(p.pn y d).l8,by have:=p.few;lia,λr c=>(p.rows r c).wr⟩)
def sU.wd(h:sU ps):tL ps:=by
 refine⟨by have:=h.few;lia,λb d=>?_⟩;have p:=h.part b d;refine⟨by have:=p.p8;lia,p.few,λr e=>?_⟩;have q:=p.rows r e;cases r with
 |call x k c=>have:=q.2.2.2.1;show c.length<=100;lia
 |op x s a b=>show 2<=100;decide
 |num x z=>show 0<=100;decide
 |jump t=>show 0<=100;decide
 |_=>show 1<=100;decide
def tR(ps:É gD):iW->ik
 |.num x z=>.num x z.toNat
 |.op x s a b=>.op x s a b
 |.call x k d=>.call x (tM ps k) d
 |.say a=>.say a
 |.jump c=>.jump c.toNat
 |.test a c=>.test a c.toNat
 |.give a=>.give a
def Mq(ps:É gD)(r:iW):kn (tR ps r)=false/\sd (tR ps r)=none:=by cases r<;>exact Æ À À
def yv(ps:É gD)(b:gD):É ik:=.part b.name b.params::b.rows.map (tR ps)
def xm(ps:É gD):É ik:=(ps.map (yv ps)).flatten
def C_(ps:É gD)(b:gD):É Ñ:=(("part":Str)::b.name::b.params)::b.rows.map (sV ps)
def AA(c:0<=k)(d:k<ps.length):∃b,ps[k.toNat]?=Á b/\b∈ps/\tM ps k=b.name:=by
 have a:k.toNat<ps.length:=Ã
 refine⟨ps[k.toNat],gF a,nE a,?_⟩;unfold tM;rw[gF a];rfl
def kf0(g:sU ps)(h:yO ps r):i8 (sV ps r) (tR ps r):=by
 cases r with
 |num x z=>
  obtain⟨c,v⟩:=G1 h.2;exact⟨_,À,h.1,c,Ã,by have:=h.2.2;lia⟩
 |op x s a b=>exact⟨À,h.1,h.2.1,h.2.2.1,h.2.2.2⟩
 |call x k i=>
  obtain⟨b,_,f,e⟩:=AA h.2.1 h.2.2.1;exact⟨À,h.1,by rw[e];exact(g.part b f).nm,h.2.2.2.2⟩
 |jump d=>
  obtain⟨c,v⟩:=G1 (z:=d) h;exact⟨_,À,c,Ã⟩
 |test a d=>
  obtain⟨c,v⟩:=G1 h.2;exact⟨_,À,h.1,c,Ã⟩
 |_=>exact Æ À h
theorem Kf(ps:É gD):∀(a:List gD),(a.map (kr ps)).flatten=((a.map (C_ ps)).flatten).map (Txt.join " ")
 |[]=>rfl
 |b::a=>by
  rw[kL,rY,kL,rY,g8,<-Kf ps a];congr 1;unfold kr C_;rw[kL,pJ];rfl
inductive rN{α β:Type}(R:α->β->Prop):É α->É β->Prop where
 |nil:rN R [] []
 |cons {a:α} {b:β} {as:List α} {bs:List β}:R a b->rN R as bs->rN R (a::as) (b::bs)
def rN.app{e f:Type}{R:e->f->Prop}{c a:List e}{d b:List f}(h:rN R c d)(h':rN R a b):rN R (c++a) (d++b):=by
 induction h with
 |nil=>exact h'
 |cons r _ g=>exact .cons r g
def rN.len{c d:Type}{R:c->d->Prop}{a:List c}{b:List d}(h:rN R a b):a.length=b.length:=by
 induction h with
 |nil=>rfl
 |cons r _ e=>rw[iN,iN,e]
def rN.get{g j:Type}{R:g->j->Prop}{e:List g}{f:List j}(h:rN R e f):∀(i:Nat) a b,e[i]?=Á a->f[i]?=Á b->R a b:=by
 induction h with
 |nil=>intro i a b h;simp at h
 |cons r _ k=>
  intro i a b c d;cases i with
  |zero=>simp at c d;rw[<-c,<-d];exact r
  |succ i=>exact k i a b (by simpa using c) (by simpa using d)
theorem Fx{ps:List gD}(e:sU ps):∀(d:List gD),(∀b∈d,b∈ps)->rN i8 (d.map (C_ ps)).flatten (d.map (yv ps)).flatten
 |[],_=>.nil
 |b::d,h=>by
  have p:=e.part b (h b Ò);rw[kL,rY,kL,rY];refine rN.app (.cons (Î À p.nm p.pn) ?_) (Fx e d λc g=>h c (my _ g));have:∀(a:List iW),(∀r∈a,yO ps r)->rN i8 (a.map (sV ps)) (a.map (tR ps)):=λa=>by
   induction a with
   |nil=>exact λ_=>.nil
   |cons r a j=>exact λf=>.cons (kf0 e (f r Ò)) (j λq i=>f q (my _ i))
  exact this b.rows p.rows
def Mw{ps:List gD}(c:sU ps):parse (uF ps)=(xm ps).map some:=by
 have a:=Fx c ps λ_ h=>h;unfold uF oQ;rw[Kf];refine Yi ?_ a.len a.get;cases ps with
 |nil=>exact Ì À c.pos
 |cons b d=>rw[kL,rY];unfold C_;simp
def kfc(c:ps≠[])(n:Nat):¬m9 ((xm ps).map some) n:=by
 rintro(h|⟨_,r,h,q⟩)
 .rw[i3] at h;obtain⟨x,_,e⟩:=pj.mp h;cases e
 .cases ps with
  |nil=>exact c À
  |cons b a=>
   have:((xm (b::a)).map some)[0]?=Á (Á (.part b.name b.params)):=rfl;rw[this] at h;cases h;cases q
theorem Mt(ps:É gD):∀(rs:List iW),(rs.map (tR ps)).filterMap sd=[]
 |[]=>rfl
 |r::rs=>by rw[kL,uf,(Mq ps r).2];exact Mt ps rs
theorem LW(ps:É gD):∀(a:List gD),((a.map (yv ps)).flatten).filterMap sd=a.map (·.name)
 |[]=>rfl
 |b::a=>by
  rw[kL,rY,wD,LW ps a];unfold yv;rw[uf,Mt];rfl
def RJ(ps:É gD):iZ (xm ps)=ps.map (·.name):=LW ps ps
def kdL(h:x∈xm ps):(∃b∈ps,x=.part b.name b.params)\/∃b∈ps,∃r∈b.rows,x=tR ps r:=by
 obtain⟨l,c,f⟩:=List.mem_flatten.mp h;obtain⟨b,a,rfl⟩:=kA.mp c;rcases g7.mp f with e|e
 .exact È (Î b a e)
 .obtain⟨r,d,rfl⟩:=kA.mp e;exact Í ⟨b,a,r,d,À⟩
def Os(l:sU ps)(n:Nat):¬oC (xm ps) n:=by
 rintro⟨x,f,g,e,d⟩;rcases kdL (iS e) with⟨b,_,z⟩|⟨b,i,r,m,z⟩
 .cases z
 .have q:=(l.part b i).rows r m;cases r with
  |call o k a=>
   have z:ik.call x f g=.call o (tM ps k) a:=z;injection z with _ z _;obtain⟨c,_,j,h⟩:=AA q.2.1 q.2.2.1;rw[RJ] at d;exact d (by rw[z,h];exact kA.mpr (Î c j À))
  |_=>cases z
theorem LQ:∀{xs:List Str} {i:Nat} {y:Str},xs.Nodup->xs[i]?=Á y->rr xs y=i
 |[],i,y,_,h=>by simp at h
 |x::xs,0,y,_,h=>by
  have:x=y:=by simpa using h
  unfold rr;rw[if_pos this]
 |x::xs,i+1,y,a,h=>by
  have h:xs[i]?=Á y:=by simpa using h
  have b:x≠y:=λz=>(tv.mp a).1 (by rw[z];exact iS h);unfold rr;rw[ù b,LQ (tv.mp a).2 h]
def kfv{ps:List gD}(j:(ps.map (·.name)).Nodup){r:iW}(h:yO ps r):nS (ps.map (·.name)) (tR ps r)=r:=by
 cases r with
 |num x z=>
  show iW.num x ((z.toNat:Nat):Int)=_;rw[show((z.toNat:Nat):Int)=z from by have:=h.2.1;lia]
 |call x k d=>
  obtain⟨b,e,_,f⟩:=AA h.2.1 h.2.2.1;show iW.call x ((rr (ps.map (·.name)) (tM ps k):Nat):Int) d=_;rw[LQ (i:=k.toNat) j (by rw[i3,e,f];rfl),show((k.toNat:Nat):Int)=k from by have:=h.2.1;lia]
 |jump c=>
  show iW.jump ((c.toNat:Nat):Int)=_;rw[show((c.toNat:Nat):Int)=c from by have g:pF c:=h;have:=g.1;lia]
 |test a c=>
  show iW.test a ((c.toNat:Nat):Int)=_;rw[show((c.toNat:Nat):Int)=c from by have:=h.2.1;lia]
 |_=>rfl
def xc(h:kn r=false):lM nm a r=yA a (nS nm r):=by
 cases r<;>first|rfl|cases h
def wR(a:É gD)(b:gD)(w:iW):yA (a++[b]) w=a++[Î b.name b.params (b.rows++[w])]:=by
 unfold yA;rw[HK,List.getLast?_concat];rfl
theorem Oq:∀(rs:List iW) (a:List gD) (b:gD),(∀r∈rs,nS nm (tR ps r)=r)->(rs.map (tR ps)).foldl (lM nm) (a++[b])=a++[Î b.name b.params (b.rows++rs)]
 |[],a,b,_=>by rw[oe];rfl
 |r::rs,a,b,h=>by
  rw[kL,Ae,xc (Mq ps r).1,wR,h r Ò,Oq rs a _ λq c=>h q (my _ c)];show a++[(Î b.name b.params ((b.rows++[r])++rs):gD)]=_;rw[sM];rfl
theorem Nd:∀(d a:List gD),(∀b∈d,∀r∈b.rows,nS nm (tR ps r)=r)->((d.map (yv ps)).flatten).foldl (lM nm) a=a++d
 |[],a,_=>by rw[oe];rfl
 |b::d,a,h=>by
  rw[kL,rY,xZ];have:(yv ps b).foldl (lM nm) a=a++[b]:=by
   unfold yv;rw[Ae];show(b.rows.map (tR ps)).foldl (lM nm) (a++[Î b.name b.params []])=_;rw[Oq b.rows a _ (h b Ò)];rfl
  rw[this,Nd d _ λc e=>h c (my _ e),sM];rfl
def N_{ps:List gD}(c:sU ps)(e:(ps.map (·.name)).Nodup):ki (xm ps)=ps:=by
 unfold ki;rw[RJ];have:=Nd (ps:=ps) (nm:=ps.map (·.name)) ps [] λb a r d=>kfv e ((c.part b a).rows r d);rw[List.nil_append] at this;exact this
def r_.up(h:r_ 8 ps):r_ 100 ps:=by
 refine Æ h.few (λb a=>?_);have p:=h.part b a;refine⟨p.nm,by have:=p.p8;lia,p.pl,p.few,λr c=>?_⟩;have q:=p.rows r c;cases r with
 |call x k d=>exact⟨q.1,q.2.1,q.2.2.1,by have:=q.2.2.2.1;lia,q.2.2.2.2⟩
 |_=>exact q
def Rh(y:8<=m)(t:∀b∈ps,b.name.length<=8)(h:wc m ps r):∃n b,n<=m+4/\b<=20/\n*(b+1)<=9*(m+4)/\Ô (sV ps r)<=n/\∀w∈sV ps r,w.length<=b:=by
 have hY:("=":Str).length<=8:=â
 have i:("call":Str).length<=8:=â
 have iy:("say":Str).length<=8:=â
 have u:("jump":Str).length<=8:=â
 have v:("test":Str).length<=8:=â
 have j:("give":Str).length<=8:=â
 cases r with
 |num x z=>
  refine⟨3,20,Ã,Ï,Ã,ï,λw hw=>?_⟩;have hw:w∈[x,"=",iL z]:=hw;simp only[g7,mz,or_false] at hw;rcases hw with rfl|rfl|rfl
  .have:=h.1;lia
  .lia
  .exact xp h.2
 |op x s a b=>
  refine⟨5,8,Ã,Ï,Ã,ï,λw hw=>?_⟩;have hw:w∈[x,"=",a,s,b]:=hw;simp only[g7,mz,or_false] at hw;obtain⟨l,f,g,o⟩:=h;rcases hw with rfl|rfl|rfl|rfl|rfl
  .lia
  .exact hY
  .lia
  .lia
  .lia
 |call x k d=>
  obtain⟨l,f,g,o,p⟩:=h;refine⟨m+4,8,Ã,Ï,Ã,(by show d.length+4<=m+4;lia),λw hw=>?_⟩;have hw:w∈x::"="::"call"::tM ps k::d:=hw;simp only[g7] at hw;rcases hw with rfl|rfl|rfl|rfl|hw
  .lia
  .exact hY
  .exact i
  .obtain⟨b,_,q,e⟩:=AA f g;rw[e];exact t b q
  .exact p w hw
 |say a=>
  refine⟨2,8,Ã,Ï,Ã,ï,λw hw=>?_⟩;have hw:w∈(["say",a]:Ñ):=hw;simp only[g7,mz,or_false] at hw;rcases hw with rfl|rfl
  .exact iy
  .exact h
 |jump c=>
  refine⟨2,20,Ã,Ï,Ã,ï,λw hw=>?_⟩;have hw:w∈(["jump",iL c]:Ñ):=hw;simp only[g7,mz,or_false] at hw;rcases hw with rfl|rfl
  .lia
  .exact xp h
 |test a c=>
  refine⟨3,20,Ã,Ï,Ã,ï,λw hw=>?_⟩;have hw:w∈(["test",a,iL c]:Ñ):=hw;simp only[g7,mz,or_false] at hw;rcases hw with rfl|rfl|rfl
  .lia
  .have:=h.1;lia
  .exact xp h.2
 |give a=>
  refine⟨2,8,Ã,Ï,Ã,ï,λw hw=>?_⟩;have hw:w∈(["give",a]:Ñ):=hw;simp only[g7,mz,or_false] at hw;rcases hw with rfl|rfl
  .exact j
  .exact h
def OG(c:8<=m)(d:∀b∈ps,b.name.length<=8)(h:wc m ps r):Ô (sV ps r)<=m+4/\∀w∈sV ps r,w.length<=20:=by
 obtain⟨n,b,f,g,_,i,a⟩:=Rh c d h;exact Æ Ã (λw e=>by have:=a w e;lia)
def Ap:(" ":Str).length=1:=â
def DN:("\n":Str).length=1:=â
def kdJ(e:8<=m)(f:∀b∈ps,b.name.length<=8)(h:wc m ps r):Ô (si ps r)<=9*(m+4):=by
 obtain⟨n,b,_,_,g,a,c⟩:=Rh e f h;have d:=EJ (sep:=" ") c;rw[Ap] at d;have:Ô (sV ps r)*(b+1)<=n*(b+1):=tw _ a;show Ô (Txt.join " " (sV ps r))<=9*(m+4);lia
def B_(h:C4 m ps b):(("part":Str)::b.name::b.params).length<=m+2/\∀w∈("part":Str)::b.name::b.params,w.length<=8:=by
 refine⟨by have:=h.p8;show b.params.length+2<=m+2;lia,λw hw=>?_⟩;simp only[g7] at hw;rcases hw with rfl|rfl|hw
 .decide +kernel
 .exact h.nm
 .exact h.pl w hw
def kcQ(h:C4 m ps b):Ô (oR b)<=9*(m+4):=by
 obtain⟨a,c⟩:=B_ h;have:=EJ (sep:=" ") c;rw[Ap] at this;have:(("part":Str)::b.name::b.params).length*9<=(m+2)*9:=tw _ a;show Ô (Txt.join " " (("part":Str)::b.name::b.params))<=9*(m+4);lia
def kbV(g:8<=m)(d:r_ m ps)(e:b∈ps):Ô (kr ps b)<=65/\∀y∈kr ps b,y.length<=9*(m+4):=by
 have p:=d.part b e;refine⟨by unfold kr;rw[iN,fP];have:=p.few;lia,λy a=>?_⟩;rcases g7.mp a with rfl|a
 .exact kcQ p
 .obtain⟨r,h,rfl⟩:=kA.mp a;exact kdJ g (λc f=>(d.part c f).nm) (p.rows r h)
theorem FD(e:8<=m)(f:r_ m ps):∀(a:List gD),(∀b∈a,b∈ps)->Ô ((a.map (kr ps)).flatten)<=a.length*65/\∀y∈(a.map (kr ps)).flatten,y.length<=9*(m+4)
 |[],_=>⟨lu _,λy d=>by cases d⟩
 |b::a,h=>by
  obtain⟨k,i⟩:=FD e f a λc g=>h c (my _ g);obtain⟨l,j⟩:=kbV e f (h b Ò);rw[kL,rY];refine⟨by rw[ie,iN];lia,λy d=>?_⟩;rcases iT.mp d with z|z
  .exact j y z
  .exact i y z
def E2(c:8<=m)(a:r_ m ps):Ô (oQ ps)<=520/\∀y∈oQ ps,y.length<=9*(m+4):=by
 obtain⟨d,b⟩:=FD c a ps λ_ h=>h;have:=a.few;have:ps.length*65<=8*65:=tw _ this;exact Æ (by show Ô ((ps.map (kr ps)).flatten)<=520;lia) b
def kew(c:r_ 8 ps):Ô (uF ps)<=90000:=by
 obtain⟨a,b⟩:=E2 Ï c;have:=EJ (sep:="\n") b;rw[DN] at this;have:Ô (oQ ps)*109<=520*109:=tw _ a;show Ô (Txt.join "\n" (oQ ps))<=_;lia
end Bg
namespace L2
open PySem PySem.Spec PyProof.Rows
def Vk:i6:=λx y H Q=>∃a b:Str,x=Ä a/\y=Ä b/\Q (.bl (! æ (b.cps.toList<a.cps.toList))) H
def ki2:iB X (kj .LtE) Vk:=by
 intro c s g H x y v u Q I d e h;obtain⟨a,b,rfl,rfl,q⟩:=h;obtain⟨t,rfl⟩:=d;obtain⟨f,rfl⟩:=e;exact PySem.P.le_str (Õ (.bl _) H I q)
def tU:i6:=λx y H Q=>rV (λi j=>.bl (æ (i<=j))) x y H Q\/Vk x y H Q
def xi:iB X (kj .LtE) tU:=kky.or ki2
def UP:i6:=λx y H Q=>∃(a:Str) (n:Int),x=Ä a/\y=Ë n/\MulOk a n/\Q (Ä (Txt.mul a n)) H
def kgr:iB X (oz .Mult) UP:=by
 intro b s g H x y v u Q I e f h;obtain⟨a,n,rfl,rfl,d,q⟩:=h;obtain⟨t,rfl⟩:=e;obtain⟨c,rfl⟩:=f;exact PySem.SB.mul d λc k=>⟨Ä _,H,I.tok k,Æ c À,q⟩
end L2
namespace Rp
open PySem PySem.Builtin PySem.Builtin.Str
def gives1(x y z:Str)(t u v t1:Tok)(d:(u==0 || v==0)=false)(b:(u==v)=false)(c:(y==z)=false)(g:tooLong (x.length+Ô (occurrences x y 0 x.length 1)*z.length)=false) :
  Gives («str.replace» (Æ [.str x t,.str y u,.str z v,.int 1 t1] []))
   (if((occurrences x y 0 x.length 1).isEmpty || (y.length==0&&z.length==0))=true then .val (.str x t) else Ä (glued z (partsBetween x (occurrences x y 0 x.length 1) y.length))):=by
 generalize f:(«str.replace» ⟨[.str x t,.str y u,.str z v,.int 1 t1],[]⟩)=B;have e:B=(if((occurrences x y 0 x.length 1).isEmpty || (y.length==0&&z.length==0))=true then(rule "str.replace.nothing" >>= λ_=>ret (.str x t)) else
   (isSame (.str y u) (.str z v) >>= λa=>if a=true then(rule "str.replace.old-is-new" >>= λ_=>ret (.str x t)) else
    if tooLong (x.length+Ô (occurrences x y 0 x.length 1)*z.length)=true then unsupported "str.replace:memory" else
     retStr (glued z (partsBetween x (occurrences x y 0 x.length 1) y.length)))):=f.symm.trans À
 rw[e];cases h:((occurrences x y 0 x.length 1).isEmpty || (y.length==0&&z.length==0)) with
 |false=>
  rw[PySem.isSame_str_other y z u v d b c,g];exact .of_eq À
 |true=>exact .rule (.of_eq À)
def cut1(h:b.length<=1):∀c∈(glued z (partsBetween x b w)).cps.toList,c∈x.cps.toList\/c∈z.cps.toList:=by
 intro c e;have d:∀i j,c∈(strSub x i j).cps.toList->c∈x.cps.toList:=λi j h=>by
  have a:c∈(x.cps.extract i j).toList:=h;rw[Array.toList_extract] at a;exact Bs (vJ a)
 rcases b with _|⟨i,_|⟨k,r⟩⟩
 .exact È (d _ _ e)
 .have a:c∈((strSub x 0 i).cps++z.cps++(strSub x (i+w) x.length).cps).toList:=by simpa[partsBetween,glued] using e
  rw[vH,vH] at a;rcases iT.mp a with a|a
  .rcases iT.mp a with a|a
   .exact È (d _ _ a)
   .exact Í a
  .exact È (d _ _ a)
 .simp at h
def cut1_len(x y z:Str):Ô (glued z (partsBetween x (occurrences x y 0 x.length 1) y.length))<=x.length+z.length:=by
 have a:=StrLaws.occ_length_le x y 0 x.length 1;have b:Ô (glued y (partsBetween x (occurrences x y 0 x.length 1) y.length))=x.length:=by rw[StrLaws.glued_between_self]
 rw[size_glued,length_partsBetween,Bw] at b;rw[size_glued,length_partsBetween,Bw];have c:Ô (occurrences x y 0 x.length 1)*z.length<=1*z.length:=tw _ a;lia
end Rp
namespace L2
open PySem PySem.Spec PyProof.Rows
def vC(X:fQ)(e:Expr)(t:gp):Prop:=
 ∀(a:List (d_×Obj)) (s:fU) (b:fO) (H:b_) (Q:fS),fJ X a b H s->t b H Q->ö ë X.w X.A (þ e) (λu c=>lG X a b Q u c/\s.toks<=c.toks) X.xe s
def xN(X:fQ)(e:Expr)(t:gp):Prop:=
 ∀(a:List (d_×Obj)) (s:fU) (b:fO) (H:b_) (Q:fS),fJ X a b H s->t b H Q->ö ë X.w X.A (þ e) (λu c=>lG X a b Q u c/\s.toks<c.toks) X.xe s
def GH(X:fQ)(e:Expr)(t:gp):Prop:=
 ∀(a:List (d_×Obj)) (s:fU) (b:fO) (H:b_) (Q:fS),fJ X a b H s->t b H Q->0<s.toks->ö ë X.w X.A (þ e) (lG X a b Q) X.xe s
def A5:i6:=λx y H Q=>∃a b:Str,x=Ä a/\y=Ä b/\a.length+b.length<=gM/\Q (Ä (a++b)) H
def xN.le(h:xN X e b):vC X e b:=λa s c H Q I t=>gq (h a s c H Q I t) λ_ _ z=>Æ z.1 (mv z.2)
def GJ{X:fQ}{pos:Pos}(i:Nat){x:Str}(n:X.N[i]?=Á x:=by rfl)(t:Bh X.env.scope x:=by first|exact Or.inl rfl|exact Or.inr (Or.inl rfl)|exact Or.inr (Or.inr rfl))(j:(x==("__debug__":Str))=false:=by decide)(g:(x==("__classdict__":Str))=false:=by decide):vC X (.Name x pos) (fI i):=by
 intro f s w H Q I h;obtain⟨v,e,h⟩:=h;obtain⟨m,q,o⟩:=I.loc;obtain⟨u,r,l⟩:=o i x v n e t;have b:lG X f w Q u s/\s.toks<=s.toks:=Æ ⟨v,H,I,r,h⟩ ï;rcases l with⟨d,p⟩|⟨d,c,k,a⟩
 .exact Au (wpAny_loadName_local I.ok.kind d q p b) j
 rcases d with d|d
 .exact Au (wpAny_loadName_cell I.ok.kind d k a b) j
 .exact Au (wpAny_loadName_free I.ok.kind d k a b g) j
def R_:xN X (.Constant (Ä x) j pos) (fY (Ä x)):=λ_ _ _ H _ I h=>Calls.Constant_str ⟨⟨Ä x,H,I.tok _,Æ _ À,h⟩,IF _⟩
def Ou{d:fO}(I:fJ X c d H s)(i:hW x v)(j:hW y u)(q:A5 x y H Q) :
  ö ë X.w X.A (oz .Add v u) (λu s'=>lG X c d Q u s'/\s.toks<=s'.toks) X.xe s:=by
 obtain⟨a,b,rfl,rfl,h,q⟩:=q;obtain⟨t,rfl⟩:=i;obtain⟨k,rfl⟩:=j;refine PySem.P.add_str ?_;cases f:(a.length==0) with
 |true=>
  have e:a++b=b:=by
   have z:a.cps=#[]:=Hg (show a.length=0 from by simpa using f);show(⟨a.cps++b.cps⟩:Str)=b;rw[z];simp
  rw[e] at q;exact Æ ⟨Ä b,H,I,Æ k À,q⟩ ï
 |false=>
  cases g:(b.length==0) with
  |true=>
   have e:a++b=a:=by
    have z:b.cps=#[]:=Hg (show b.length=0 from by simpa using g);show(⟨a.cps++b.cps⟩:Str)=a;rw[z];simp
   rw[e] at q;exact Æ ⟨Ä a,H,I,Æ t À,q⟩ ï
  |false=>exact⟨by rw[Ag];exact h,⟨Ä (a++b),H,I.tok _,Æ _ À,q⟩,Ao _⟩
def kjU(l:vC X a e)(m:vC X b f):vC X (.BinOp a .Add b pos) (fV A5 e f):=by
 intro c s g H Q I h;refine wpAny_BinOp (gq (l c s g H _ I h) λv w d=>?_);obtain⟨⟨x,i,j,r,p⟩,n⟩:=d;refine gq (m c w g i _ j p) λu C d=>?_;obtain⟨⟨y,B,k,t,q⟩,o⟩:=d;exact gq (Ou k r t q) λ_ _ z=>Æ z.1 (mC n (mC o z.2))
def khS(l:xN X a e)(m:vC X b f):xN X (.BinOp a .Add b pos) (fV A5 e f):=by
 intro c s g H Q I h;refine wpAny_BinOp (gq (l c s g H _ I h) λv w d=>?_);obtain⟨⟨x,i,j,r,p⟩,n⟩:=d;refine gq (m c w g i _ j p) λu C d=>?_;obtain⟨⟨y,B,k,t,q⟩,o⟩:=d;exact gq (Ou k r t q) λ_ _ z=>Æ z.1 (l' n (mC o z.2))
def Sg(d:gp)(y z:Str):gp:=λe H Q=>d e H λx b=>∃a:Str,x=Ä a/\a.length<=99000/\
 ∀r:Str,(∀c∈r.cps.toList,c∈a.cps.toList\/c∈z.cps.toList)->r.length<=a.length+z.length->Q (Ä r) b
def khX{X:fQ}{o:Expr}{E:gp}{y z:Str}{b d m n B:Pos}{j1 j2 j3}(J:vC X o E)(j:(y==z)=false:=by decide)(hz:z.length<=8:=by decide)
  (e:tx o "replace" Û (þ o)=þ o:=by rfl)
  (f:(b.endLine==d.line)=true:=by rfl) :
  GH X (.Call (.Attribute o "replace" b) [.Constant (Ä y) j1 m,.Constant (Ä z) j2 n,.Constant (Ë 1) j3 B] [] d) (Sg E y z):=by
 intro g s P H Q I h R;refine wpAny_Call_method_late e À f À (gq (J g s P H _ I h) λv D O=>?_);obtain⟨⟨x,u,i,C,L⟩,U⟩:=O;obtain⟨a,rfl,W,q⟩:=L;obtain⟨p,r⟩:=C9 (T:="str") i C À;refine⟨"str","str.replace",pd,PySem.F.slot_str_replace,PySem.F.type_str_replace,p,r,?_⟩;refine Calls.callWith_builtin À (Calls.evalArgs_plain ?_);obtain⟨t,rfl⟩:=C;have K:D.toks≠0:=Ã
 show gN _ _ (spliced ((Ü,þ (.Constant (Ä y) j1 m))::(Ü,þ (.Constant (Ä z) j2 n))::[(Ü,þ (.Constant (Ë 1) j3 B))])) _ _ D;refine Calls.spliced_cons (Calls.Constant_str (k:=j1) (pos:=m) ?_);refine Calls.spliced_cons (Calls.Constant_str (k:=j2) (pos:=n) ?_);refine Calls.spliced_cons (wpAny_Constant_int ?_);refine Calls.spliced_nil ?_;have M:PySem.Builtin.Str.tooLong (a.length+Ô (Builtin.Str.occurrences a y 0 a.length 1)*z.length)=false:=by
  have G:=StrLaws.occ_length_le a y 0 a.length 1;have S:Ô (Builtin.Str.occurrences a y 0 a.length 1)*z.length<=1*z.length:=tw _ G;unfold PySem.Builtin.Str.tooLong;rw[u4];exact decide_eq_false Ã
 refine call_gives PySem.F.slot_str_replace (typeIs_str _ _ _) PySem.F.entry_str_replace (PySem.F.args_str_replace_4 _ _ _ _) (Rp.gives1 a y z t _ _ _ (by simp[K]) Ò j M) ?_;cases w:((Builtin.Str.occurrences a y 0 a.length 1).isEmpty || (y.length==0&&z.length==0)) with
 |true=>exact⟨Ä a,u,((i.tok _).tok _).tok _,Æ t À,q a (λc w=>È w) (Ii _ _)⟩
 |false=>
  have l:=Rp.cut1_len a y z;exact⟨by rw[u4];lia,Ä _,u,(((i.tok _).tok _).tok _).tok _,Æ _ À,q _ (Rp.cut1 (StrLaws.occ_length_le a y 0 a.length 1)) l⟩
def keH(r:xN X b t1)(u:vC X c t2)(v:GH X d i)(w:ny X es t)
  (x:gK (b::c::d::es) Û=(Ü,þ b)::(Ü,þ c)::(Ü,þ d)::gK es Û:=by rfl):ny X (b::c::d::es) (fX t1 (fX t2 (fX i t))):=by
 intro e a s g H Q I h;rw[x];show gN _ _ (spliced ((Ü,þ b)::(Ü,þ c)::(Ü,þ d)::lR e (gK es Û))) _ _ s;refine Calls.spliced_cons (gq (r a s g H _ I h) λY K f=>?_);obtain⟨⟨O,j,n,D,y⟩,T⟩:=f;refine Calls.spliced_cons (gq (u a K g j _ n y) λZ L f=>?_);obtain⟨⟨P,k,o,E,z⟩,U⟩:=f;refine Calls.spliced_cons (gq (v a L g k _ o z Ã) λu3 M f=>?_);obtain⟨R,l,p,G,B⟩:=f;exact gq (w e a M g l _ p B) λus W ⟨S,m,q,J,C⟩=>⟨O::P::R::S,m,q,.cons D (.cons E (.cons G J)),C⟩
def kfP(e:xN X a t1)(f:vC X b t2)(g:GH X c d)(h:mG X es t)
  (i:gK (a::b::c::es) Û=(Ü,þ a)::(Ü,þ b)::(Ü,þ c)::gK es Û:=by rfl):mG X (a::b::c::es) (fX t1 (fX t2 (fX d t))):=⟨keH e f g h.up i⟩
end L2
namespace Bg
open PySem L2
def yi(_:a_):gO:=λc H Q _=>∃y:Str,c=[Ä y]/\y.length<=99000/\∀(b:Bool) (a:b_),(b=true↔gP y)->Ö a->Q (.bl b) a
def BF(_:a_):gO:=λd H Q _=>∃(l:d_) (a:List Str),d=[Â l]/\H l=Ð (a.map Ê)/\a.length<=99000/\(∀y∈a,y.length<=99000)/\∀(b:Bool) (c:b_),(b=true↔∀y∈a,gP y)->Ö c->Q (.bl b) c
def BW(_:a_):gO:=λc H Q _=>∃y:Str,c=[Ä y]/\y.length<=99000/\∀(b:Bool) (a:b_),(b=true↔mX y)->Ö a->Q (.bl b) a
def IP(_:a_):gO:=λd H Q _=>∃(l:d_) (a:List Str),d=[Â l]/\H l=Ð (a.map Ê)/\1<=a.length/\a.length<=99000/\(∀y∈a,y.length<=99000)/\∀(b:Bool) (c:b_),(b=true↔∃r,i8 a r)->Ö c->Q (.bl b) c
def kjO(P:É (Option ik))(n:Int):Prop:=
 (n=-1/\∃a,P=a.map some/\(∀m,¬m9 P m)/\∀m,¬oC a m)\/
 ∃k:Nat,n=(k:Nat)/\(oE (m9 P) k\/((∀m,¬m9 P m)/\∃a,P=a.map some/\oE (oC a) k))
noncomputable def readL (xs:List Str):List (Option ik):=xs.map λl=>lineOf? (Txt.split l " ")
def I'(_:a_):gO:=λc H Q _=>∃(l:d_) (a:List Str),c=[Â l]/\H l=Ð (a.map Ê)/\a.length<=9000/\(∀x∈a,x.length<=90000)/\∀(n:Int) (b:b_),kjO (readL a) n->Ö b->Q (Ë n) b
def kJ(x:Str):Prop:=10∉x.cps.toList
def Bz(K:a_):gO:=λd H Q _=>∃(a:d_) (w:Str) (k:Nat),d=[Â a,Ä w]/\iR K H a k/\k<=900000/\w.length<=9000/\kJ w/\
 ∀(r:Str) (c:Nat) (b:b_),kJ r->r.length<=w.length+21->iR K b a c->c<=k+1->hI a H b->Q (Ä r) b
def HZ(K:a_):gO:=λd H Q _=>∃(a:d_) (x:Str) (k:Nat),d=[Â a,Ä x]/\iR K H a k/\k<=800000/\x.length<=9000/\kJ x/\
 ∀(r:Str) (c:Nat) (b:b_),kJ r->r.length<=x.length+30->iR K b a c->c<=k+4->hI a H b->Q (Ä r) b
abbrev kcY:Nat:=0
abbrev kcB:Nat:=1
abbrev Y0:Nat:=1
abbrev Yw:Nat:=2
abbrev kcX:Nat:=0
abbrev kcA:Nat:=1
abbrev YZ:Nat:=2
abbrev Yv:Nat:=3
abbrev kbN:Nat:=3
abbrev kbp:Nat:=4
abbrev XP:Nat:=1
abbrev W3:Nat:=2
abbrev XI:Nat:=2
abbrev W':Nat:=3
def kI.up(b:kI):gD:=Î b.name b.params (b.rows.map gG.up)
def kI.up_low(b:kI):b.up.low=b:=by
 have:(b.rows.map gG.up).map iW.low=b.rows:=by
  rw[pJ];exact(DQ λr _=>gG.up_low r).trans (Fv _)
 show(Î b.name b.params ((b.rows.map gG.up).map iW.low):kI)=b;rw[this]
def kjK(r:gG):xk r.up=oG r:=by cases r<;>rfl
def kdO{a:List kI}{k:Nat}{b:kI}(m:(a.map (·.name)).Nodup)(e:a[k]?=Á b):b.name∉(a.take k).map (·.name):=λz=>by
 obtain⟨n,c,h⟩:=kA.mp z;obtain⟨j,i,g⟩:=nB.mp c;rw[kz] at i;have p:j<k:=Ã
 rw[List.getElem_take] at g;have d:(a.map (·.name))[j]?=Á b.name:=by rw[i3,gF Ã,g];exact congrArg some h
 have f:(a.map (·.name))[k]?=Á b.name:=by rw[i3,e];rfl
 have o:=(gR.mp f).1;have l:=(gR.mp d).1;have:=(List.getElem?_inj l m).mp (d.trans f.symm);lia
def kjh(a:É kI):lL (a.map kI.up)=a.map (·.params.length):=by
 show(a.map kI.up).map _=_;rw[pJ];rfl
def kaZ{ys:List Str}{cs:List Nat}{f:List kI}(h:yD ys cs f):vh (f.map kI.up):=λk D e=>by
 rw[i3] at e;obtain⟨b,n,rfl⟩:=pj.mp e;have l:=iS n;have c:=h.sh.part b l;have C:=c.good.pos;refine⟨?_,λm=>?_,λm i=>?_,λm u=>?_⟩
 .rintro(z|z)
  .refine kdO h.nnd n ?_;have:((f.map kI.up).take k).map (·.name)=(f.take k).map (·.name):=by rw[<-uY,pJ];rfl
   rw[this] at z;exact z
  .exact z c.pnd
 .rintro(⟨z,_⟩|⟨r,d,z⟩)
  .have:Ô (b.rows.map gG.up)=0:=by rw[show b.rows.map gG.up=[] from z];rfl
   rw[fP] at this;lia
  .have d:(b.rows.map gG.up)[m]?=Á r:=d;have v:b.up.rows.length=b.rows.length:=fP ..;rw[i3] at d;obtain⟨q,g,rfl⟩:=pj.mp d;have j:=iS g;rw[v,kjh] at z;rcases z with z|⟨z,y⟩
   .cases q with
    |call x k s=>
     rcases(show((k:Nat):Int)<0\/_ from z) with w|w
     .lia
     .exact w (by rw[sL];exact c.calls x k s j)
    |jump t=>
     have:=c.gl _ j t À;rcases(show((t:Nat):Int)<0\/(b.rows.length:Int)<=(t:Nat) from z) with w|w<;>lia
    |test a t=>
     have:=c.gl _ j t À;rcases(show((t:Nat):Int)<0\/(b.rows.length:Int)<=(t:Nat) from z) with w|w<;>lia
    |_=>exact z
   .rw[kjK] at y;have p:=c.last;rw[wG,show b.rows.length-1=m from Ã,g] at p;have:=ď p;rw[y] at this;cases this
 .rw[kI.up_low] at i;obtain⟨⟨q,g,_⟩,_⟩:=id i;have B:=(gR.mp g).1;obtain⟨r,d,o⟩:=i.jumps b.rows.length;rw[c.good.ring m B r d] at o;cases o
 .rw[kI.up_low] at u;exact(h.part b l).clean m u
def uu.up(h:uu H v b):tI H v b.up:=by
 obtain⟨p,q,r,n,e,g,j,k,c⟩:=h;refine⟨p,q,r,n,e,g,j,k,by rw[c.len];exact(fP ..).symm,λi v l f a=>?_⟩;have a:(b.rows.map gG.up)[i]?=Á l:=a;rw[i3] at a;obtain⟨m,d,rfl⟩:=pj.mp a;exact(c.at_ i v m f d).up
def kjC(h:ia (uu H) a c):ia (tI H) a (c.map kI.up):=by
 refine⟨by rw[h.len,fP],λi v g f d=>?_⟩;rw[i3] at d;obtain⟨b,e,rfl⟩:=pj.mp d;exact(h.at_ i v b f e).up
end Bg
namespace L2
open PySem PySem.Spec PyProof.Rows
def He(y:Str):c_->Bool
 |.str z _=>ow (Ä z) (Ä y)
 |_=>false
def UN:V->É V->b_->fS->Prop:=λx b H Q=>∃(l:d_) (a:List Str) (y:Str) (j:Nat),x=Â l/\b=[Ä y]/\H l=Ð (a.map Ê)/\a[j]?=Á y/\(∀m,m<j->a[m]?≠Á y)/\Q (Ë (j:Nat)) H
def UO(K:a_):É V->b_->fS->Prop:=λb H Q=>∃(p:d_) (a:List Int),b=[Â p]/\hH K H p (a.map V.int)/\a≠[]/\∀z:Int,(∀n∈a,n<=z)->z∈a->Q (Ë z) H
def kgR:Dc X "list.index" UN:=by
 intro J s Z H x Y v W Q I T S h;obtain⟨l,K,y,j,rfl,rfl,L,E,C,q⟩:=h;cases T;obtain⟨u,rfl,R⟩:=S.one;obtain⟨t,rfl⟩:=R;obtain⟨z,a,n,r,U,e⟩:=I.lstM L;have D:=r.length;have d:∀(i:Nat) v,a[i]?=Á v->∃w b,K[i]?=Á w/\v=.str w b:=λi v p=>by
  have k:i<Ô (K.map Ê):=by rw[D];exact(gR.mp p).1
  obtain⟨w,G,rw_⟩:=r.get (gF k);rw[p] at G;cases G;rw[fP] at k;rw[List.getElem_map] at rw_;obtain⟨b,rfl⟩:=rw_;exact⟨_,b,gF k,À⟩
 have o:j<a.length:=by have:=(gR.mp E).1;rw[fP] at D;lia
 have c:(j:Int)<2 ^ 63-1:=by
  have:(gM:Int)<2 ^ 63-1:=Ï
  rw[fP] at z D;lia
 refine uh F.slot_list_index (Î _ e À) F.entry_list_index (F.args_list_index_2 _ _) (SeqAt.list_indexAt l a.toArray n Ç #[] _ (He y) j (by simpa using o) c ?_ ?_) ⟨e,λv p=>?_,⟨Ë (j:Nat),H,I.tok _,Æ _ À,q⟩⟩
 .obtain⟨w,b,f,g⟩:=d j a[j] (gF o);rw[E] at f;cases f;have:a.toArray[j]=.str y b:=by simpa using g
  rw[this];simp[He,ow]
 .intro m M O;have B:m<a.length:=by simpa using M
  obtain⟨w,b,f,g⟩:=d m a[m] (gF B);have:a.toArray[m]=.str w b:=by simpa using g
  rw[this];have P:w≠y:=λz=>C m O (by rw[<-z];exact f);simp[He,ow,P]
 .obtain⟨i,k,rfl⟩:=nB.mp (Array.mem_toList_iff.mpr p);obtain⟨w,b,f,g⟩:=d i a[i] (gF (by simpa using k));rw[show a.toArray.toList[i]=.str w b from by simpa using g];exact C6 (y:=Ä w) (x:=Ä y) (Æ _ À) (Æ _ À) À À
def kc9(o:X.calm=true):mS X (.builtin "max") (UO X.K):=by
 intro g s T H xs S Q I r h;obtain⟨p,d,rfl,y,D,q⟩:=h;obtain⟨u,rfl,M⟩:=oU r;cases M;obtain⟨b,L,E,P⟩:=I.list y;have c:∀(d:List Int) (b:List c_),gQ (d.map V.int) b->∃xs:List (Int×Tok),b=xs.map (λp=>c_.int p.1 p.2)/\d=xs.map (·.1):=by
  intro d
  induction d with
  |nil=>intro b r;cases r;exact Ą [] À
  |cons n d B=>
   intro b r;cases r with
   |cons r J=>
    obtain⟨xs,rfl,rfl⟩:=B _ J;obtain⟨t,rfl⟩:=r;exact Ą ((n,t)::xs) À
 obtain⟨xs,rfl,rfl⟩:=c d b L;have f:0<xs.toArray.size:=by
  cases xs with
  |nil=>exact Ì À D
  |cons a r=>simp
 have e:=E.isList;refine max_intList (xs:=xs.toArray) (I.ok.hd o) (by simpa[xa] using e) f λv O R z x=>?_;obtain⟨t,rfl⟩:=intItems_at z;obtain⟨k,l⟩:=argBest_gt (numAt xs.toArray) (xs.toArray.size-1);refine⟨Ë _,H,I.kept x,Æ t À,q _ (λa m=>?_) ?_⟩
 .obtain⟨j,w,rfl⟩:=mem_getD m;rw[fP] at w;have:=l j (by rw[iq];lia);rw[numAt_eq] at this;simpa using this
 .rw[numAt_eq];have G:0<xs.length:=by simpa using f
  have C:v8 (λi j=>æ (numAt xs.toArray i>numAt xs.toArray j)) (xs.toArray.size-1)<(xs.map (·.1)).length:=by rw[fP];rw[iq] at k ⊢;lia
  have:=getD_mem C;simpa using this
structure Du(K:a_)(C C1:d_):Prop where
 cl:mW K C
 er:DD K C1
 sub:rX K C (Â C1)=Á Ü
def kjM{E:gC}
  (J:h.get? C=Á (wV nm q C N G y j sn w D p I W X k2 Y Z s)) (i:h.get? b=Á (wV u q0 b B n c a v l m e r P R S T U k))
  (hY:(c_.ref b::c).contains (.type "BaseException")=true) (H:(c_.ref C::y).contains (Â b)=false) (O:h.get? x=Á o) (K:o.cls=Â C) (L:Q Ü ⟨h,g,d,t,z⟩):gN M A (As (Â x) (Â b)) Q E ⟨h,g,d,t,z⟩:=by
 have f:=tc_notTuple;unfold As
 repeat (first|(with_reducible refine ud O ?_;rw[K])|with_reducible refine ud i ?_|(with_reducible refine wH i ?_;rw[hY])|(with_reducible refine wH J ?_;rw[H])|wp_step)
 exact L
def kkq{K:a_}{C b x:d_}{M:Model}{A:ig}{E:gC}{s:fU}{o:Obj}{Q:Bool->fU->Prop}(c:K.In s.heap)(m:Du K C b)(w:Ć x=Á o)(u:o.cls=Â C)(q:Q Ü s):gN M A (As (Â x) (Â b)) Q E s:=by
 obtain⟨Z,q',N,B,H,sn,sub,G,col,I,S,T,U,X,Y,f⟩:=m.cl.ex;obtain⟨y,q0,D,n,l,v,z,j,k,e,r,J,L,O,P,R,i,a⟩:=m.er.ex;have hY:=CN a À m.er.exc;have p:=CN f À m.sub;obtain⟨h,g,d,t,os⟩:=s;exact kjM (c _ _ f) (c _ _ a) hY p w u q
def Hc(K:a_)(c e:d_)(n i:Nat)(f:f_->e_)(t1 t2:e_):e_:=λD g H=>
 f (sZ λx cls h d=>∃C,cls=Â C/\((wt K C c/\t1 {nx:=λa b=>D.nx (a.set i Ç) b,rt:=D.rt} ((v_ n).set i (Á (Â x))) d)\/(Du K C c/\wt K C e/\t2 {nx:=λa b=>D.nx (a.set i Ç) b,rt:=D.rt} ((v_ n).set i (Á (Â x))) d))) D g H
def kh3{X:fQ}{J d g:List Stmt}{b1 b2:Stmt}{hY c2 n:Str}{ah ai y B pos:Pos}{C1 C2:d_}{i:Nat}{tb:f_->e_}{t1 t2:e_}(hc:X.calm=true)(aw:X.stack=X.env::X.outer)(ao:X.env.frame=Á X.env.locals)(af:ko X hY)(ag:X.mg hY=Á (Â C1))(aq:ko X c2)(ar:X.mg c2=Á (Â C2))
  (hN:X.N.Nodup) (hi:X.N[i]?=Á n) (M:X.env.kindOf n=Á .local) (k:∀pl E' aa,vk (pG ë X.w) (X.tryIn pl E') aa->nq (X.tryIn pl E') J (tb aa)) (au:∀x,nq (X.inSuite x) (b1::d) t1) (av:∀x,nq (X.inSuite x) (b2::g) t2)
  (L:(hY==("__debug__":Str))=false:=by decide) (ae:(c2==("__debug__":Str))=false:=by decide):rS X (.Try J [.ExceptHandler (Á (.Name hY ah)) (Á n) (b1::d) y,.ExceptHandler (Á (.Name c2 ai)) (Á n) (b2::g) B] [] [] pos) (Hc X.K C1 C2 X.N.length i tb t1 t2):=by
 intro a s σ H D I h;refine wpAny_Try_except ?_;have hd:X.A.handled=none:=I.ok.hd hc;have ps:vk (pG ë X.w) (X.tryIn a (λe s1=>ö ë X.w X.A (yo e Û) (λ_ G=>ö ë X.w X.A (setFlight e Ç) (λ_ s3=>ö ë X.w X.A (handleBy e Û [.ExceptHandler (Á (.Name hY ah)) (Á n) (b1::d) y,.ExceptHandler (Á (.Name c2 ai)) (Á n) (b2::g) B]) (tj X a D) X.xe s3) X.xe G) X.xe s1))
   (sZ λx cls od H2=>∃C,cls=Â C/\((wt X.K C C1/\t1 {nx:=λZ H3=>D.nx (Z.set i Ç) H3,rt:=D.rt} ((v_ X.N.length).set i (Á (Â x))) H2)\/(Du X.K C C1/\wt X.K C C2/\t2 {nx:=λZ H3=>D.nx (Z.set i Ç) H3,rt:=D.rt} ((v_ X.N.length).set i (Á (Â x))) H2))):=by
  rintro pl ay H1 s1 e s' I1 ⟨x,C,od,T,H',rfl,os,bare,un,hok,hx,hT,ak,ne,ax,q⟩;have I2:=(I1.call' (ch:=[]) os un hok bare λb z=>Ì z Ò).unTry;refine OI I2 aw ao hx hT ak ne λG c nT nx l aj=>?_;obtain⟨C',ec,qq⟩:=q x C c À hx ax nT nx;cases ec;obtain⟨vs,sl,t,ab⟩:=aj;have O:fJ X a (v_ X.N.length) (upd H' c (kG c)) G:=l.weak (by unfold v_;rw[uQ,l.len]) λj v e=>by
   unfold v_ at e;rw[y9] at e;split at e<;>cases e
  obtain⟨oT,ts,t1,t2,t3⟩:=kG.get l.hok fG;have I5:∀h5:Heap,(∀b,b≠c->h5.get? b=G.heap.get? b)->(∃o us,h5.get? c=Á o/\o.data=.fields us/\us[3]?=Á .none)->fJ X a (v_ X.N.length) (upd H' c (kG c)) {G with heap:=h5}:=λh5 k5 t5=>by
   have p:(upd H' c (kG c)) c=Á (kG c):=fG;obtain⟨W,U⟩:=Dd (P:=ë) (w:=X.w) (fs:=[]) (H':=upd H' c (kG c)) (h':=h5) [c] O.hok (FN p) (λb z=>Ì z Ò)
    (λb u nb _ q=>(k5 b λz=>nb (g_.mpr z)).trans q) (λb u _ z=>Ì z Ò) (let⟨_,_,e,_⟩:=t5;FO e) (λb _ _=>À) (λb k o e=>by
     rcases k with k|k
     .rw[O.hok.fresh k] at e;cases e
     .rw[g_.mp k] at e ⊢;rw[p] at e;cases e;obtain⟨o,us,e1,e2,e3⟩:=t5;exact kG.ok e1 e2 e3)
   exact O.un (t':=G.toks) (W.mono (λb z=>Ì z Ò) λb z=>z) U
  rcases qq with⟨m,q2⟩|⟨mn,m,q2⟩
  .have hs:=au;refine wpAny_handleBy_cons (codeAny_handlers_test (yu (X:=X.inSuite x) (l.inSuite x) af ag ?_ L)) (by intro z;cases z);refine Sf l.kIn m t À (codeAny_handlers_suite_as ?_);refine CM (s:=G) t À ab t1 t2 (tm.mp t3).1 λh5 k5 z5 t5=>?_;refine Cq (X:=X) (v:=Â x) (I5 h5 k5 t5) hN hi (È M) À (λs6 I6=>?_) (Í M);refine og (hs x a s6 _ _ _ (I6.inSuite x) q2) (λf s7 S=>?_) λ_ _ z=>False.elim z;have r:X.calm=true->X.A.handled=none:=λ_=>hd;cases f with
   |next=>
    obtain⟨Y,H7,Q,E⟩:=S;exact EO (X:=X) (Q.unSuite r) hN hi M λs8 R=>⟨_,_,R,E⟩
   |ret u=>
    obtain⟨v,Y,H7,Q,r7,E⟩:=S;exact EO (X:=X) (Q.unSuite r) hN hi M λs8 R=>⟨v,_,_,R,r7,E⟩
   |_=>obtain⟨_,_,_,E⟩:=S;exact False.elim E
  .have hs:=av;refine wpAny_handleBy_cons (codeAny_handlers_test (yu (X:=X.inSuite x) (l.inSuite x) af ag ?_ L)) (by intro z;cases z);refine kkq l.kIn mn t À ?_;refine wpAny_handleBy_cons (codeAny_handlers_test (yu (X:=X.inSuite x) (l.inSuite x) aq ar ?_ ae)) (by intro z;cases z);refine Sf l.kIn m t À (codeAny_handlers_suite_as ?_);refine CM (s:=G) t À ab t1 t2 (tm.mp t3).1 λh5 k5 z5 t5=>?_;refine Cq (X:=X) (v:=Â x) (I5 h5 k5 t5) hN hi (È M) À (λs6 I6=>?_) (Í M);refine og (hs x a s6 _ _ _ (I6.inSuite x) q2) (λf s7 S=>?_) λ_ _ z=>False.elim z;have r:X.calm=true->X.A.handled=none:=λ_=>hd;cases f with
   |next=>
    obtain⟨Y,H7,Q,E⟩:=S;exact EO (X:=X) (Q.unSuite r) hN hi M λs8 R=>⟨_,_,R,E⟩
   |ret u=>
    obtain⟨v,Y,H7,Q,r7,E⟩:=S;exact EO (X:=X) (Q.unSuite r) hN hi M λs8 R=>⟨v,_,_,R,r7,E⟩
   |_=>obtain⟨_,_,_,E⟩:=S;exact False.elim E
 refine og (k a _ _ ps [] s σ H D (I.tryIn _) h) (λf s1 h1=>?_) λ_ _ z=>z;have h2:=tj.unTry h1;cases f with
 |next=>exact gH h2
 |_=>exact h2
def khw{X:fQ}{d a b:List Stmt}{C D:Stmt}{hY k n:Str}{v y e f pos:Pos}{z B:d_}{i:Nat}{E:f_->e_}{t1 t2:e_}(I:X.calm=true)(u:X.stack=X.env::X.outer)(l:X.env.frame=Á X.env.locals)(m:ko X hY)(q:X.mg hY=Á (Â z))(o:ko X k)(r:X.mg k=Á (Â B))
  (G:X.N.Nodup) (J:X.N[i]?=Á n) (L:X.env.kindOf n=Á .local) (H:∀pl j c,vk (pG ë X.w) (X.tryIn pl j) c->sA (X.tryIn pl j) d (E c)) (s:∀x,sA (X.inSuite x) (C::a) t1) (t:∀x,sA (X.inSuite x) (D::b) t2)
  (g:(hY==("__debug__":Str))=false:=by decide) (h:(k==("__debug__":Str))=false:=by decide):oZ X (.Try d [.ExceptHandler (Á (.Name hY v)) (Á n) (C::a) e,.ExceptHandler (Á (.Name k y)) (Á n) (D::b) f] [] [] pos) (Hc X.K z B X.N.length i E t1 t2):=
 ⟨kh3 I u l m q o r G J L (λpl j c p=>(H pl j c p).up) (λx=>(s x).up) (λx=>(t x).up) g h⟩
def DE(K:a_):i6:=λx y H Q=>∃(p q:d_) (c d:List V),x=Â p/\y=Â q/\fR K H p c/\fR K H q d/\c.length=d.length/\(∀(j:Nat) a b,c[j]?=Á a->d[j]?=Á b->mN K H 5 a b true)/\Q (.bl true) H
def kiX(L:X.A.units+9<cLine):iB X (kj .Eq) (DE X.K):=by
 intro d s R H x y v u Q I z B h;obtain⟨p,q,J,P,rfl,rfl,l,m,o,n,r⟩:=h;cases z;cases B;obtain⟨E,f,C,_⟩:=I.tuple l;obtain⟨G,g,D,_⟩:=I.tuple m;have M:=f.length;have O:=g.length;refine SeqAt.eq_tupleAt (show s.heap.IsTuple p E.toArray from C) (show s.heap.IsTuple q G.toArray from D) Ã (yt (A:=X.A.in1) (es:=lq J.length true) f g o Ò λj a b e u v i k c t w=>?_) ⟨.bl true,H,I,?_,r⟩
 .rw[y9] at c;split at c
  .cases c;exact AU I (n j a b i k) (by show X.A.units+1+5<cLine;lia) t w
  .cases c
 .show c_.bool _=c_.bool _;rw[Cu (by simp;lia) (by simp;lia)];simp
end L2
namespace Bg
open PySem L2
inductive yC where
 |line (n:Nat)
 |prog (k n:Nat) (w:Str)
 |read (ps:É gD)
def xw(H:b_)(q:d_):yC->Prop
 |.line n=>H q=ä [Ä "line",Ë (n:Nat)]
 |.prog k n w=>H q=ä [Ä "program",Ë (k:Nat),Ë (n:Nat),Ä w]
 |.read a=>∃p,H q=ä [Ä "read",Â p]/\md H p a
structure mw(P:É (Option ik))(ls:É ik):Prop where
 is:P=ls.map some
 form:∀m,¬m9 P m
 call:∀m,¬oC ls m
def xu(P:É (Option ik)):yC->Prop
 |.line n=>oE (m9 P) n\/((∀m,¬m9 P m)/\∃a,P=a.map some/\oE (oC a) n)
 |.prog k n w=>∃a,mw P a/\vi (ki a) k n w
 |.read b=>∃a,mw P a/\vh (ki a)/\b=ki a
def Ki(_:a_):gO:=λe H Q _=>∃(x:Str) (l:d_) (c:List Str) (r:ik),e=[Ä x,Â l]/\x.length<=9000/\H l=Ð (c.map Ê)/\i8 (ą x) r/\kn r=false/\(∀a f d,r=.call a f d->f∈c)/\∀(v:V) (b:b_),mK b v (nS c r)->Ö b->Q v b
def IT(_:a_):gO:=λd H Q _=>∃(l:d_) (a:List Str) (c:List ik),d=[Â l]/\H l=Ð (a.map Ê)/\a.length<=9000/\(∀x∈a,x.length<=9000)/\mw (readL a) c/\∀(p:d_) (b:b_),md b p (ki c)->Ö b->Q (Â p) b
def Kk(_:a_):gO:=λe H Q _=>∃(l:d_) (b:List Str),e=[Â l]/\H l=Ð (b.map Ê)/\b.length<=9000/\(∀x∈b,x.length<=9000)/\(∀d,mw (readL b) d->tL (ki d))/\∀(q:d_) (a:yC) (c:b_),xw c q a->xu (readL b) a->Ö c->Q (Â q) c
def Gd(_:a_):gO:=λd H Q _=>∃(x:Str),d=[Ä x]/\x.length<=90000/\(∀c,mw (parse x) c->tL (ki c))/\∀(q:d_) (a:yC) (b:b_),xw b q a->xu (parse x) a->Ö b->Q (Â q) b
def Ds(b:Nat)(xs:Ñ):Prop:=∀x∈xs,x.length<=b/\kJ x/\∀w∈Txt.split x " ",w.length<=20
def E8(K:a_):gO:=λh H Q _=>∃(c l:d_) (d:List Str) (k b:Nat),h=[Â c,Â l]/\iR K H c k/\k<=800000/\H l=Ð (d.map Ê)/\l≠c/\0<d.length/\d.length<=9000/\b<=8000/\Ds b d/\
 ∀(f:d_) (a:List Str) (g:Nat) (e:b_),H f=none->e f=Ð (a.map Ê)->a.length=d.length->Ds (b+21) a->iR K e c g->g<=k+4->hI c H e->Q (Â f) e
structure Vf(K:a_):Prop where
 clL:mW K (iI K "NoLine")
 nLl:r8 K (iI K "NoLine") "line"
 mLL:wt K (iI K "NoLine") (iI K "NoLine")
 clP:mW K (iI K "NoProgram")
 nPp:r8 K (iI K "NoProgram") "part"
 nPr:r8 K (iI K "NoProgram") "row"
 nPw:r8 K (iI K "NoProgram") "word"
 mPP:wt K (iI K "NoProgram") (iI K "NoProgram")
 nPL:Du K (iI K "NoProgram") (iI K "NoLine")
abbrev kbR:Nat:=0
abbrev kbs:Nat:=1
abbrev Y5:Nat:=1
abbrev YB:Nat:=2
abbrev kbT:Nat:=5
abbrev kbu:Nat:=6
abbrev kjA:Nat:=6
abbrev kiB:Nat:=7
abbrev kcW:Nat:=1
abbrev kcz:Nat:=2
abbrev U_:Nat:=7
abbrev GX:Nat:=8
end Bg
namespace Bg
open PySem PySem.Spec PyProof.Rows L2
abbrev ka8:Ñ:=["row"]
abbrev NF:Ñ:=["row","word"]
def kaF(K:a_):e_:=fZ (h9 lN)
def kaG(K:a_):e_:=ā (iY (ô (mj K Ü) 1 (h9 (fX vX (ç rC pD))))) (fZ (h9 (Þ (Ó 0 gA)))) gk (kaF K)
def kaH(K:a_):e_:=ā (iY (ô (gS K) 1 mT)) (fZ (iO (rn K) (Þ (Ó 0 k9)))) gk (kaG K)
def kaI(K:a_):e_:=ā (iY (ô (gS K) 1 u9)) (fZ (h9 (ç (Ó 0 k9) (Ó 0 rD)))) gk (kaH K)
def NN(K:a_):e_:=õ (Ó 0 gj) 1 (kaI K)
abbrev kcx:Ñ:=["row"]
abbrev OA:Ñ:=["row"]
def kco(K:a_):e_:=fZ (fY .non)
def O6(K:a_):e_:=ā (ð (mj K Ü) (Ó 0 gj) (h9 (fX u_ (ç u9 mT)))) (fZ (Ó 0 gA)) gk (kco K)
abbrev M7:Ñ:=["row"]
abbrev FE:Ñ:=["row"]
def kcl(K:a_):e_:=fZ (fY .non)
def kcm(K:a_):e_:=ā (ð (gS K) (Ó 0 gj) rC) (fZ (Ó 0 iC)) gk (kcl K)
def F'(K:a_):e_:=ā (ð (gS K) (Ó 0 gj) nV) (fZ (Ó 0 gA)) gk (kcm K)
abbrev ka7:Ñ:=["rows","n"]
abbrev ND:Ñ:=["rows","n","word"]
def kaB(K:a_):e_:=fZ (h9 (Þ (ô (hZ K) 1 gA)))
def kaC(K:a_):e_:=ā (iY (ô (gS K) 2 rC)) (fZ (h9 (ç (ô (hZ K) 1 gA) (å (Cd K) f9 (Þ (Ó 0 (fI 1))))))) gk (kaB K)
def kaD(K:a_):e_:=ā (iY (ô (gS K) 2 nV)) (fZ (h9 (Þ (å (Cd K) f9 (Þ (Ó 0 (fI 1))))))) gk (kaC K)
def kaE(K:a_):e_:=ā (iY (ô (gS K) 2 pD)) (fZ (h9 lN)) gk (kaD K)
def NM(K:a_):e_:=õ (fV ċ (Ó 0 (fI 1)) gj) 2 (kaE K)
abbrev BQ:Ñ:=["rows","unset"]
abbrev Ks:Ñ:=["rows","unset","found","waiting","n","to"]
def YL(K:a_):e_:=fZ (ÿ R1 2)
def YM(K:a_):e_:=lS (iJ K "list" m7 (fI 3) (ý 5))
def La(K:a_):e_:=lI (iY (ô (xO true) 5 (fI 2))) (iA (mB (fY (.bl true)) (oW (fI 2) (fI 5) A6)) (YM K)) gk
def YN(K:a_):e_:=lI (oy (iY (ô Vv 1 (fY .non))) (ð (pV K) (å (Fs K) f9 (Þ (Ó 0 (fI 4)))) (fI 1))) (kD (i_ K (å (EB K) f9 (fX ø (ý 4)))) (gB 5) (La K)) gk
def YO(K:a_):e_:=õ (ET K "list" KC (fI 3)) 4 (YN K)
def YP(K:a_):e_:=iA (xt (ð sr (ÿ (gV K) 3) gj) (YO K)) (YL K)
def YQ(K:a_):e_:=õ (h_ (Þ gj)) 3 (YP K)
def MN(K:a_):e_:=õ (G' [(gj ,fY (.bl true))]) 2 (YQ K)
abbrev Aa:Ñ:=["self","part","row","word"]
abbrev HG:Ñ:=["self","part","row","word"]
def VT(K:a_):e_:=yS K ø (fI 3) "word"
def VU(K:a_):e_:=iA (yS K ø (fI 2) "row") (VT K)
def SR(K:a_):e_:=iA (yS K ø (fI 1) "part") (VU K)
abbrev YF:Ñ:=["part","row","word"]
abbrev L_:Ñ:=["part","row","word"]
def ML(K:a_)(E:f_):e_:=lI (iY (ô UQ 1 (fY .non))) (xr K E (xq (iI K "NoProgram") (Ab K) (fX ø (fX (fI 1) (ý 2))))) gk
abbrev WU:Ñ:=["part"]
abbrev Ip:Ñ:=["part","rows","due","name"]
def WN(K:a_):e_:=fZ (Ha K (ý 2))
def T9(K:a_):e_:=lI (iY (ô (mj K true) 3 (Ó 0 gA))) (lS (iJ K "list" Gj (fI 2) (Þ (i9 [] 1 (i_ K (å (BS K) f9 (fX (fI 1) (ý 3)))) (gB 4) (iY (ô (mj K Ü) 3 (å (EC K) f9 (Þ (Ó 1 (fI 4)))))) (fI 4))))) gk
def T_(K:a_):e_:=iA (kD (i_ K (å (HQ K) f9 (ý 1))) (gB 3) (T9 K)) (WN K)
def Ua(K:a_):e_:=õ (h_ lN) 2 (T_ K)
def Ux(K:a_):e_:=õ (Ó 0 iC) 1 (Ua K)
abbrev Wt:Ñ:=["rows"]
abbrev TU:Ñ:=["rows","names","row","name"]
def V_(K:a_):e_:=fZ (ÿ R0 1)
def SS(K:a_):e_:=mB (fY (.bl true)) (oW (fI 1) (fI 3) A6)
def SU(K:a_):e_:=kD (i_ K (å (EC K) f9 (ý 2))) (gB 3) (SS K)
def SV(K:a_):e_:=iA (kD (i_ K ø) (gB 2) (SU K)) (V_ K)
def Uj(K:a_):e_:=õ A1 1 (SV K)
abbrev kfV:Ñ:=["_law_rows","_law_n"]
abbrev RD:Ñ:=["_law_rows","_law_n"]
def kge(K:a_):e_:=fZ (h_ (Þ (ô (hZ K) 1 gA)))
def kgf(K:a_):e_:=ā (ð (gS K) (fV ċ (Ó 0 (fI 1)) gj) pD) (fZ (h_ lN)) gk (kge K)
def kgg(K:a_):e_:=ā (ð (gS K) (fV ċ (Ó 0 (fI 1)) gj) rC) (fZ (h_ (ç (ô (hZ K) 1 gA) (fV ċ (Ó 0 (fI 1)) iC)))) gk (kgf K)
def Si(K:a_):e_:=ā (ð (gS K) (fV ċ (Ó 0 (fI 1)) gj) nV) (fZ (h_ (Þ (fV ċ (Ó 0 (fI 1)) gA)))) gk (kgg K)
abbrev kbb:Ñ:=["_law_params","_law_rows","_law_x"]
abbrev EF:Ñ:=["_law_params","_law_rows","_law_x","_law_there","_law_left","_law_n","_law_m"]
def Ko(K:a_):e_:=fZ (fI 3)
def kbn(K:a_):e_:=lS (iJ K "list" m7 (fI 4) (ý 6))
def Ei(K:a_):e_:=lI (xQ (mF (Ó 3 (fI 6)))) (iA (mB (fY (.bl true)) (oW (fI 3) (fI 6) sj)) (kbn K)) gk
def LM(K:a_):e_:=lI (oy (ð (mj K true) (fV ċ (Ó 1 (fI 5)) gj) (h9 (fX u_ (ç u9 mT)))) (ð (pV K) (fV ċ (Ó 1 (fI 5)) gA) (fI 2))) (kD (i_ K (å (AL K) f9 (fX (fI 1) (ý 5)))) (gB 6) (Ei K)) gk
def kbo(K:a_):e_:=õ (ET K "list" KC (fI 4)) 5 (LM K)
def LN(K:a_):e_:=iA (xt (iY (ô (pV K) 4 (h_ lN))) (kbo K)) (Ko K)
def LO(K:a_):e_:=õ (i9 [5] 0 (om (Þ (ÿ (gV K) 1))) (gB 5) (mF (Ó 3 (fI 5))) (fI 5)) 4 (LN K)
def NW(K:a_):e_:=õ (i9 [5] 0 (om (Þ (ÿ (gV K) 1))) (gB 5) kT (oS (ô (gS K) 5 gj) (ô (mj K true) 2 ø))) 3 (LO K)
abbrev kfX:Ñ:=["_law_row"]
abbrev RE:Ñ:=["_law_row"]
def kgl(K:a_):e_:=fZ (h_ lN)
def kgm(K:a_):e_:=ā (ð (mj K Ü) (Ó 0 gj) (h9 (fX vX (ç rC pD)))) (fZ (h_ (Þ (Ó 0 gA)))) gk (kgl K)
def kgn(K:a_):e_:=ā (ð (gS K) (Ó 0 gj) mT) (fZ (iO (xg K) (Þ (Ó 0 k9)))) gk (kgm K)
def Sk(K:a_):e_:=ā (ð (gS K) (Ó 0 gj) u9) (fZ (h_ (ç (Ó 0 k9) (Ó 0 rD)))) gk (kgn K)
abbrev keh:Ñ:=["_law_params","_law_rows"]
abbrev PQ:Ñ:=["_law_params","_law_rows","_law_found","_law_n","_law_x"]
def ket(K:a_):e_:=fZ (fI 2)
def NT(K:a_):e_:=lI (mF (fV ċ (å (Fb K) f9 (fX ø (fX (fI 1) (ý 4)))) (fI 3))) (lS (iJ K "list" m7 (fI 2) (ý 3))) gk
def NU(K:a_):e_:=kD (i_ K (å (Gc K) f9 (Þ (Ó 1 (fI 3))))) (gB 4) (NT K)
def NV(K:a_):e_:=iA (kD (om (Þ (ÿ (gV K) 1))) (gB 3) (NU K)) (ket K)
def Ra(K:a_):e_:=õ (h_ lN) 2 (NV K)
end Bg
namespace PySem
open Sem (wp)
open AutoSeq1 (wpAny_loadPart')
def kb6{E:gC}{Q:gC}(c:s.heap.IsTupleIter e d i)(k:s.heap.IsTuple d f)(m:f[i]?=Á x)
  (l:∀h',h'.IsTupleIter e d (i+1)->Heap.SameBut e s.heap h'->Q x (č h')):ö prog w A (Builtin.SmallTypes.nextOf (Â e)) Q E s:=by
 obtain⟨o,b,g,a⟩:=id c;obtain⟨p,j,_,n,h⟩:=k;unfold Builtin.SmallTypes.nextOf;refine fN (y1 (name:=Str.ofString "__next__") c.typeIs F.slot_tuple_iterator_next (x8 F.slot_tuple_iterator_next c.typeIs F.entry_tuple_iterator_next ?_ (F.args_tuple_iterator_next_1 _)));show gN _ _ (field (Â e) 0 >>= _) _ _ s;refine fN (tF b a (x:=Â d) À ?_);show gN _ _ (if(c_.ref d==c_.none)=true then _ else _) _ _ s;rw[ù (show ¬((c_.ref d==c_.none)=true) from Bool.false_ne_true)];show gN _ _ (field (Â e) 1 >>= _) _ _ s;refine fN (tF b a (x:=.int i 0) À ?_);show gN _ _ (Cn (Â d) >>= _) _ _ s;refine fN (BM j h ?_);simp only[sL,m];refine fN (Eh b a Ò (gH (Ą x (gH (l _ ?_ (Heap.SameBut.update ..))))));exact⟨_,uS _ b (Obj.isFreed_of_fields (Obj.data_mapFields a _)),(Obj.cls_mapFields ..).trans g,by rw[Obj.data_mapFields a];simp[uA]⟩
def N8{E:gC}{Q:gC}(n:A.handled=none)(c:s.heap.IsTupleIter g f i)(l:s.heap.IsTuple f h)(r:h[i]?=none)
  (p:∀h' e,Heap.ExtBut g s.heap h'->(∃o,h'.get? e=Á o/\o.cls=.type "StopIteration")->E (Â e) (č h')):ö prog w A (Builtin.SmallTypes.nextOf (Â g)) Q E s:=by
 obtain⟨u,d,q,b⟩:=id c;obtain⟨v,k,_,t,j⟩:=l;unfold Builtin.SmallTypes.nextOf;refine fN (y1 (name:=Str.ofString "__next__") c.typeIs F.slot_tuple_iterator_next (x8 F.slot_tuple_iterator_next c.typeIs F.entry_tuple_iterator_next ?_ (F.args_tuple_iterator_next_1 _)));show gN _ _ (field (Â g) 0 >>= _) _ _ s;refine fN (tF d b (x:=Â f) À ?_);show gN _ _ (if(c_.ref f==c_.none)=true then _ else _) _ _ s;rw[ù (show ¬((c_.ref f==c_.none)=true) from Bool.false_ne_true)];show gN _ _ (field (Â g) 1 >>= _) _ _ s;refine fN (tF d b (x:=.int i 0) À ?_);show gN _ _ (Cn (Â f) >>= _) _ _ s;refine fN (BM k j ?_);simp only[sL,r];refine fN (Av (fN (Eh d b Ò ?_)));show gN _ _ (newExc (.type "StopIteration") [] >>= _) _ _ _;refine fN ?_;simp only[newExc,newTuple];refine fN (uW ?_ (by size_fits));refine fN (m:=firstArgMember _ _) (BX (a:=c_.none) (by first|rfl|(simp only[firstArgMember];rfl)) ?_)
 refine uW ?_ (by size_fits);simp only[raiseNew];refine fN (wpAny_handled ?_)
 first|rw[show A.in1.handled=none from n]|rw[n]
 refine fN (gH (wpAny_throw ?_));exact p _ _ (((Heap.SameBut.update ..).extBut.push _).push _) ⟨_,mr _ À,À⟩
def kjn(t:A.handled=none)(f g:d_)(j:g≠f)(b:Array c_) :
  Draws prog w A f [f,g] b.size (λi v=>b[i]?=Á v) (λi h=>h.IsTupleIter f g i/\h.IsTuple g b) where
 live:=λ_ _ a=>let⟨o,k,_⟩:=a.1;Æ o k
 frame:=λ_ _ _ a m=>⟨a.1.at λo e=>m f Ò o e,let⟨o,k,r⟩:=a.2;Î o (m g Ò o k) r⟩
 item:=λi s Q E l a q=>kb6 a.1 a.2 (x:=b[i]) (by simp[l]) λn c d=>q _ n s.toks (by simp[l]) ⟨c,a.2.extBut d.extBut j⟩ d
 done:=λs Q E a p=>N8 t a.1 a.2 Ò p
def Y9(e:d_)(b:Array c_)(n:Nat)(f:Option d_)(sl:Array (Option c_)) :
  Meets (Builtin.«enumerate.__new__» (Æ [.type "enumerate",Â e] [])) (λ_ R s=>Ć e=Á {cls:=.type "tuple",dict:=f,data:=.seq b n,slots:=sl}/\
   R (.ok (.ret (Â (s.heap.push (ć "tuple_iterator" (.fields #[Â e,.int 0 0]))).objs.size)))
    (č ((s.heap.push (ć "tuple_iterator" (.fields #[Â e,.int 0 0]))).push (ć "enumerate" (.fields #[.none,.bool Ü,Â ó,uA 0,.none,.none]))))):=
 .of_wp λk w A R s h=>by
  obtain⟨l,g,d,o,m⟩:=s;obtain⟨a,h⟩:=h;have j:=sub_enumerate;have i:Heap.IsTuple (fU.heap ⟨l,g,d,o,m⟩) e b:=⟨_,a,À,n,À⟩
  wp_walk using wpAny_loadPart' a
  refine wpAny_stack_any λp=>gH ?_;split
  .rename_i c _ _ _ _ _;cases(c==c_.type "enumerate")
   .wp_walk using wpAny_loadPart' a,Bt i
    exact(Ú h)
   .wp_walk using wpAny_loadPart' a,Bt i
    exact(Ú h)
  .wp_walk using wpAny_loadPart' a,Bt i
   exact Ú h
def kbe{prog:f5}{w:fW}{A:ig}{E:gC}{s:fU}{d:d_}{a:Array c_}{Q:gC}(m:s.heap.IsTuple d a)
  (h:∀h',IsEnum h' (s.heap.objs.size+1) ó 0 .none->h'.IsTupleIter ó d 0->h'.objs.size=s.heap.objs.size+2->(∀b o,Ć b=Á o->h'.get? b=Á o)->Q (Â (s.heap.objs.size+1)) (č h')) :
  ö prog w A (call (.type "enumerate") [Â d]) Q E s:=by
 obtain⟨⟨c,e,l,q⟩,p,f,n,g⟩:=m
 replace f:c=.type "tuple":=f
 replace g:l=.seq a n:=g
 subst f g;refine callType_new F.called_enumerate Ï (F.typeCall_enumerate_1 _) (F.newCall_enumerate_1 _) (λj=>F.args_object_init_2 j _) F.entry_enumerate_new (Y9 d a n e q) (Æ p ?_);have i:(s.heap.push (ć "tuple_iterator" (.fields #[Â d,.int 0 0]))).objs.size=s.heap.objs.size+1:=wQ ..;show _/\_;rw[i];have k:IsEnum ((s.heap.push (ć "tuple_iterator" (.fields #[Â d,.int 0 0]))).push (ć "enumerate" (.fields #[.none,.bool Ü,Â ó,uA 0,.none,.none]))) (s.heap.objs.size+1) ó 0 .none:=by
  have:=mr (s.heap.push (ć "tuple_iterator" (.fields #[Â d,.int 0 0]))) (o:=ć "enumerate" (.fields #[.none,.bool Ü,Â ó,uA 0,.none,.none])) À;rw[i] at this;exact this
 refine Æ (Î _ k À) (h _ k ⟨_,i5 _ (mr _ À),À,À⟩ (by rw[wQ,i]) λb o x=>i5 _ (i5 _ x))
end PySem
namespace L2
open PySem PySem.Spec PyProof.Rows
def Bb(K:a_)(a:d_):su:=
 ⟨λi H=>∃b x,fR K H a b/\b[i]?=Á x,λi H x c=>∃p v,H p=none/\x=Â p/\c=Ā H p [Ë (i:Nat),v]/\∀b,fR K H a b->b[i]?=Á v,λi H=>∃b,fR K H a b/\b.length<=i⟩
def kcq{P:f5}{w:fW}{K:a_}{G:List Expr}{k:Nat}{pos:Pos}(a e it:d_)(t:e≠it) :
  vx P w K (.Tuple G k pos) (Bb K a) [e,it] e (λi h=>(∃j,IsEnum h e it (i:Nat) j)/\h.IsTupleIter it a i) where
 mem:=Ò
 obj:=λi h n b g=>by
  obtain⟨⟨j,l⟩,⟨o,B,c,d⟩⟩:=n;rcases g7.mp g with rfl|g
  .exact Î _ l (λv z=>by have z':Data.fields _=Data.cell v:=z;cases z')
  .rw[g_.mp g];exact Î o B (λv z=>by rw[d] at z;cases z)
 keep:=λi h h' n k=>⟨let⟨j,l⟩:=n.1;Æ j (k e Ò _ l),n.2.at λo q=>k it Ò o q⟩
 item:=by
  intro X J hw Y Z i m s σ H E I Q n hg;subst J hw Y;obtain⟨⟨j,l⟩,hit⟩:=n;obtain⟨xs,x,R,hx⟩:=hg;obtain⟨f,rv,p,hz⟩:=I.tuple R;obtain⟨u,hu,ru⟩:=rv.get hx;have p':s.heap.IsTuple a f.toArray:=p;have ae:i<f.toArray.size:=by have:=(gR.mp hu).1;simpa using this
  have na:a≠it:=by
   intro z;subst z;obtain⟨o,L,hY,_⟩:=p';obtain⟨o',M,c2,_⟩:=hit;rw[L] at M;cases M;rw[hY] at c2;injection c2 with iy;exact Ì iy Ï
  have nb:e≠a:=by
   intro z;subst z;obtain⟨o,L,hY,_⟩:=p';rw[l] at L;cases L;injection hY with iy;exact Ì iy Ï
  have Dw:=kjn (prog:=ë) (w:=X.w) (A:=X.A.in1) (show X.A.in1.handled=none from I.ok.hd Z) it a na f.toArray;refine wpAny_pyNext_enum_itemD Dw l (Æ hit p') ae t (by simp[t,nb]) λy U S J B ag O ah hk=>?_;have ey:y=u:=by
   have U:f.toArray[i]?=Á y:=J;have D:f[i]?=Á y:=by simpa using U
   rw[hu] at D;exact(ď D).symm
  subst ey;refine Ú ?_;have fT:rK X m H ó:=I.fpOk ï (I.hok.fresh ï);refine wpAny_letOwnedTupleGo_enum B λD ab C=>?_;have r:e<s.heap.objs.size:=iD l;have I1:fJ X m σ H (Ď D (S+1)):=I.turnedL (t':=S+1) (ch:=[e,it]) (λb o g q=>by
   have b1:b≠e:=λz=>g (by simp[z]);have b2:b≠it:=λz=>g (by simp[z]);exact(C.2 b b1).trans (hk b o b1 b2 q)) Q
  have gT:D.get? ó=Á (ć "tuple" (.seq #[.int i S,y])):=(C.2 _ (yb r)).trans O;have I2:=I1.adopt (T:=ó) (o:=.tup [Ë (i:Nat),x]) fT (Gy (X:=X) gT (Æ S À) ru);refine⟨Â ó,_,I2,À,⟨ó,x,fT.1,À,À,λys hy=>by rw[I.tuple_inj hy R];exact hx⟩,Æ (Æ y ?_) ?_,λb g=>?_⟩
  .have M:(((i+1:Nat):Nat):Int)=(i:Int)+1:=Ã
   show IsEnum D e it (((i+1:Nat):Nat):Int) y;rw[M];exact ab
  .obtain⟨o,q1,q2⟩:=ag.1;exact Î o ((C.2 it (Ne.symm t)).trans q1) q2
  .have nT:b≠s.heap.objs.size:=by
    rcases g7.mp g with rfl|g
    .exact kP r
    .rw[g_.mp g];obtain⟨o,B,_⟩:=hit;exact kP (iD B)
   rw[fM nT];exact(Q b g).1
 done:=by
  intro X J hw Y Z i m s σ H E I Q n hg;subst J hw Y;obtain⟨⟨j,l⟩,hit⟩:=n;obtain⟨xs,R,hx⟩:=hg;obtain⟨f,rv,p,hz⟩:=I.tuple R;have hl:=rv.length;have O:s.TypeIs (Â e) "enumerate":=Î _ l À;unfold uz;refine fN (wpAny_attempt (y1 (name:=Str.ofString "__next__") O F.slot_enumerate_next
   (x8 F.slot_enumerate_next O F.entry_enumerate_next ?_ (F.args_enumerate_next_1 _))))
  show gN _ _ (field (Â e) 2 >>= _) _ _ _;refine fN (tF l À (x:=Â it) À ?_);refine fN (N8 (show X.A.in1.handled=none from I.ok.hd Z) hit (show s.heap.IsTuple a f.toArray from p) (by simp;lia) λU x1 eb af=>?_);obtain⟨o,B,aa⟩:=af;refine fN (wpAny_isInstance (T:="StopIteration") (b:=true) (Î o B aa) isSubtype_stop ?_);exact gH ⟨À,I.turnedL (t':=s.toks) (ch:=[e,it]) (λb ob g q=>eb b ob (λz=>g (by simp[z])) q) Q⟩
 self:=λ_ _ _ _ _ n h=>let⟨_,l⟩:=n.1;D4 l h
def C8(K:a_)(c:kF):mY:=λf H R=>c f H λd b=>∃a,d=[Â a]/\(∃e,fR K b a e)/\R (Bb K a) b
def kfG{X:fQ}{f:List Expr}{k:Nat}{i:Pos}{a:Expr}{v:kF}{p pos:Pos}(B:ko X "enumerate")(D:X.mg "enumerate"=none)(z:ny X [a] v)(G:gK [a] Û=[(Ü,þ a)]:=by rfl) :
  sy X (.Tuple f k i) (Č "enumerate" p [a] [] pos) (C8 X.K v):=by
 intro c s w H R I h;refine Call_ (uw I B D boot_enumerate (xV (gq (z pos c s w H _ I h) λT d ⟨U,t,j,O,M⟩=>?_) G À));obtain⟨l,e,⟨W,E⟩,q⟩:=M;subst e;cases O with
 |cons r P=>
  cases P;cases r;obtain⟨o,S,L,Q⟩:=j.tuple E;refine kbe (show d.heap.IsTuple l o.toArray from L) λy u n J C=>?_;refine D4 u ?_;have x:fJ X c w t {d with heap:=y}:=j.kept (t':=d.toks) C;refine⟨d.heap.objs.size+1,[d.heap.objs.size+1,d.heap.objs.size],_,_,t,À,x,kcq l _ _ (Nat.succ_ne_self _),Æ (Æ .none u) n,λb m=>?_,q⟩;have g:d.heap.objs.size<=b:=by
   rcases g7.mp m with rfl|m
   .lia
   .rw[g_.mp m];exact ï
  exact j.fpOk g (j.hok.fresh g)
def OJ(f:ko X "enumerate")(g:X.mg "enumerate"=none)(e:mG X [a] d)(h:gK [a] Û=[(Ü,þ a)]:=by rfl):tX X (.Tuple b k c) (Č "enumerate" p [a] [] pos) (C8 X.K d):=
 ⟨kfG f g e.1 h⟩
def Nn{K:a_}{a:d_}{xs:List V}{g:lW}{l:e_}{D:sW}{b:fO}{H:b_}(c:Nat->fO->b_->Prop)(o:c 0 b H)(t:∀i b H,i<=xs.length->c i b H->fR K H a xs)
  (u:∀i x b H p,xs[i]?=Á x->H p=none->c i b H->g (Â p) b (Ā H p [Ë (i:Nat),x]) λf j=>l {D with nx:=c (i+1),ct:=c (i+1),bk:=D.nx} f j) (r:∀b H,c xs.length b H->D.nx b H) :
  ∃W:Nat->Nat->fO->b_->Prop,(∃m,W 0 m b H)/\∀i m b H,W i m b H->
   ((Bb K a).stop i H/\D.nx b H)\/((Bb K a).go i H/\∃N:fO->b_->Prop,(∀d H',N d H'->∃k,k<m/\W (i+1) k d H')/\∀x H',(Bb K a).yld i H x H'->g x b H' λf j=>l {D with nx:=N,ct:=N,bk:=D.nx} f j):=by
 refine Î (λi m b H=>m=xs.length-i/\i<=xs.length/\c i b H) ⟨xs.length,Ò,lu _,o⟩ ?_;rintro i m b H ⟨rfl,s,p⟩;have q:=t i b H s p;by_cases h:i<xs.length
 .refine Í ⟨⟨xs,xs[i],q,by simp[h]⟩,c (i+1),λd H' w=>⟨xs.length-(i+1),Ã,À,h,w⟩,λx H' y=>?_⟩;obtain⟨z,v,n,rfl,rfl,y⟩:=y;exact u i v b H z (y xs q) n p
 .have e:i=xs.length:=Ã
  subst e;exact È ⟨Î xs q ï,r b H p⟩
def kjp(a:ku k A):A.units+9<cLine:=Bx (HU (by decide:9<=64) _) a.units
end L2
namespace Bg
open PySem PySem.Spec PyProof.Rows L2
abbrev x_:Ñ:=["self","line"]
abbrev Il:Ñ:=["self","line"]
def VC(K:a_):e_:=yS K ø (fI 1) "line"
abbrev ka6:Ñ:=["program"]
abbrev NC:Ñ:=["program","k","part"]
def kay(K:a_)(E:f_):e_:=lS (å (Al K) (sZ λ_=>E) (fX (fI 1) (ç (å (Ia K) f9 (ý 2)) (fY (Ä "unset")))))
def kaz(K:a_)(E:f_):e_:=iA (lS (å (Al K) (sZ λ_=>E) (fX (fI 1) (ç (å (Ic K) f9 (Þ (Ó 2 iC))) (fY (Ä "ring")))))) (kay K E)
def kaA(K:a_)(E:f_):e_:=iA (lS (å (Al K) (sZ λ_=>E) (fX (fI 1) (ç (å (IS K) f9 (fX ø (ý 1))) Hx)))) (kaz K E)
def Lz(K:a_)(E:f_):e_:=iA (lS (å (Al K) (sZ λ_=>E) (fX (fI 1) (ç (å (Iv K) f9 (fX ø (ý 1))) Hy)))) (kaA K E)
def NL(K:a_)(E:f_):e_:=kD (C8 K (ý 0)) (rL K 2 (lg (gB 1) (lg (gB 2) pU))) (Lz K E)
abbrev W4:Ñ:=["program","k"]
abbrev IC:Ñ:=["program","k","name","params"]
def W5(K:a_):e_:=fZ (fY .non)
def Ug(K:a_):e_:=ā (ð ni (CG K (ý 3)) (ÿ (gV K) 3)) (fZ gj) gk (W5 K)
def Uh(K:a_):e_:=ā (iY (ô (mj K Ü) 2 (i9 [] 1 (i_ K (kE (lh K) ø kH (kB (fI 1)))) (gB 4) kT (Ó 4 gj)))) (fZ gj) gk (Ug K)
def Ui(K:a_):e_:=õ (fV ċ (Ó 0 (fI 1)) gA) 3 (Uh K)
def K9(K:a_):e_:=õ (fV ċ (Ó 0 (fI 1)) gj) 2 (Ui K)
abbrev X8:Ñ:=["program","k"]
abbrev Li:Ñ:=["program","k","rows","n","row"]
def Xm(K:a_):e_:=fZ (fY .non)
def Ut(K:a_):e_:=ā (ð (mj K true) (fV ċ (Ó 2 (sE tV gA)) gj) (h9 (ç nV pD))) (fZ (fV vu (ÿ (gV K) 2) gA)) gk (Xm K)
def Uu(K:a_):e_:=lI (oy (mF (å (HJ K) f9 (fX (fI 2) (ý 4)))) (mF (å (HH K) f9 (fX ø (ý 4))))) (fZ (fI 3)) gk
def Uv(K:a_):e_:=iA (kD (C8 K (ý 2)) (rL K 2 (lg (gB 3) (lg (gB 4) pU))) (Uu K)) (Ut K)
def Uw(K:a_):e_:=ā (ð (gS K) (ÿ (gV K) 2) gj) (fZ gj) gk (Uv K)
def LD(K:a_):e_:=õ (fV ċ (Ó 0 (fI 1)) iC) 2 (Uw K)
abbrev V3:Ñ:=["rows","row"]
abbrev Tv:Ñ:=["rows","row","to"]
def DO(K:a_):e_:=fZ (oS (ô UQ 2 (fY .non)) (EV (ô ni 2 gj) (ô y0 2 (ÿ (gV K) 0))))
def To(K:a_):e_:=õ (å (Ft K) f9 (ý 1)) 2 (DO K)
abbrev V1:Ñ:=["program","row"]
abbrev HP:Ñ:=["program","row","k"]
def V5(K:a_):e_:=fZ (fV (pV K) (iO (gV K) (Þ (Ó 1 k9))) (iO (gV K) (Þ (fV ċ (Ó 0 (fI 2)) gA))))
def SQ(K:a_):e_:=ā (oy (iY (ô ni 2 gj)) (iY (ô y0 2 (ÿ (gV K) 0)))) (fZ (fY (.bl true))) gk (V5 K)
def V6(K:a_):e_:=õ (Ó 1 iC) 2 (SQ K)
def HS(K:a_):e_:=ā (ð (pV K) (Ó 1 gj) mT) (fZ (fY (.bl Ü))) gk (V6 K)
abbrev Xx:Ñ:=["rows"]
abbrev KL:Ñ:=["rows","n"]
def W7(K:a_):e_:=fZ (fY .non)
def Ul(K:a_):e_:=lI (mF (å (HI K) f9 (fX ø (ý 1)))) (fZ (fI 1)) gk
def K'(K:a_):e_:=iA (kD (om (Þ (ÿ (gV K) 0))) (gB 1) (Ul K)) (W7 K)
abbrev V2:Ñ:=["rows","n"]
abbrev Tu:Ñ:=["rows","n","passed","at"]
def SN(K:a_):e_:=fZ (oS (ô (gS K) 3 (fI 1)) (ô (xO Ü) 1 (fI 2)))
def V7(K:a_):e_:=đ (å (Cd K) f9 (Þ (Ó 0 (fI 3)))) 3
def V8(K:a_):e_:=iA (mB (fY (.bl true)) (oW (fI 2) (fI 3) A6)) (V7 K)
def SO(K:a_):e_:=iA (xt (kZ (ð (gS K) (fV ċ (Ó 0 (fI 3)) gj) nV) (iY (ô (xO true) 3 (fI 2)))) (V8 K)) (SN K)
def V9(K:a_):e_:=õ (fI 1) 3 (SO K)
def TM(K:a_):e_:=õ A1 2 (V9 K)
abbrev ka2:Ñ:=["_law_program_here","_law_rows","_law_n"]
abbrev NA:Ñ:=["_law_program_here","_law_rows","_law_n","_law_row"]
def L6(K:a_):e_:=fZ (oS (ô (gS K) 2 (fV vu (ÿ (gV K) 1) gA)) (fV (mj K true) (Ó 3 gj) (h9 (ç nV pD))))
def Km(K:a_):e_:=ā (kZ (ð (mj K Ü) (Ó 3 gj) (h9 (ç nV rC))) (oy (ð ni (Ó 3 (sE tV gA)) gj) (ð y0 (Ó 3 (sE tV gA)) (ÿ (gV K) 1)))) (fZ (fY (.bl true))) gk (L6 K)
def L7(K:a_):e_:=fZ (EV (fV (pV K) (iO (gV K) (Þ (Ó 3 k9))) (iO (gV K) (Þ (fV ċ (Ó 0 (Ó 3 iC)) gA)))) (ô (gS K) 2 (fV vu (ÿ (gV K) 1) gA)))
def Kn(K:a_):e_:=ā (ð (gS K) (Ó 3 gj) mT) (ā (oy (ð ni (Ó 3 iC) gj) (ð y0 (Ó 3 iC) (ÿ (gV K) 0))) (fZ (fY (.bl true))) gk (L7 K)) gk (Km K)
def Og(K:a_):e_:=õ (Ó 1 (fI 2)) 3 (Kn K)
abbrev keg:Ñ:=["_law_rows","_law_n"]
abbrev PP:Ñ:=["_law_rows","_law_n","_law_m","_law_turn"]
def kes(K:a_):e_:=fZ (ô (gS K) 2 (fI 1))
def NQ(K:a_):e_:=lI (kZ (iY (ô (pV K) 2 (fI 1))) (ð (gS K) (fV ċ (Ó 0 (fI 2)) gj) nV)) (đ (fV ċ (Ó 0 (fI 2)) gA) 2) gk
def NR(K:a_):e_:=iA (kD (i_ K ø) (gB 3) (NQ K)) (kes K)
def NS(K:a_):e_:=õ (fV ċ (Ó 0 (fI 1)) gA) 2 (NR K)
def P'(K:a_):e_:=ā (ð (pV K) (fV ċ (Ó 0 (fI 1)) gj) nV) (fZ (fY (.bl Ü))) gk (NS K)
abbrev YG:Ñ:=["_law_program_here","_law_k"]
abbrev Ew:Ñ:=["_law_program_here","_law_k","_law_name","_law_params","_law_rows","_law_n"]
def Lb(K:a_):e_:=fZ (i9 [5] 0 (i_ K (å (F6 K) f9 (fX (fI 3) (ý 4)))) (gB 5) kT (h9 (ç (fI 5) (fY (Ä "unset")))))
def Lc(K:a_):e_:=lI (mF (å (F5 K) f9 (fX (fI 4) (ý 5)))) (fZ (h_ (Þ (h9 (ç (fI 5) (fY (Ä "ring"))))))) gk
def Ld(K:a_):e_:=iA (kD (om (Þ (ÿ (gV K) 4))) (gB 5) (Lc K)) (Lb K)
def Le(K:a_):e_:=lI (mF (å (E7 K) f9 (fX ø (fX (fI 4) (ý 5))))) (fZ (h_ (Þ (h9 (ç (fI 5) Hx))))) gk
def KN(K:a_):e_:=iA (kD (om (Þ (ÿ (gV K) 4))) (gB 5) (Le K)) (Ld K)
def I0(K:a_):e_:=ā (ð (gS K) (ÿ (gV K) 4) gj) (fZ (h_ (Þ (h9 (ç gj Hx))))) gk (KN K)
def KO(K:a_):e_:=ā (oy (iY (ô (mj K Ü) 2 (i9 [] 1 (i_ K (kE (lh K) ø kH (kB (fI 1)))) (gB 6) kT (Ó 6 gj)))) (ð ni (CG K (ý 3)) (ÿ (gV K) 3))) (fZ (h_ (Þ (h9 (ç gj Hy))))) gk (I0 K)
def MO(K:a_):e_:=iA (mB (Ó 0 (fI 1)) (rL K 3 (lg (gB 2) (lg (gB 3) (lg (gB 4) pU))))) (KO K)
abbrev kit:Ñ:=["_law_program_here"]
abbrev U2:Ñ:=["_law_program_here","_law_k","_law_found"]
def kiD(K:a_):e_:=fZ (h9 (fX (sE tV gA) (ç gj pR)))
def Ru(K:a_):e_:=lI (iY (ô (DH K) 2 (h_ lN))) (fZ (h9 (fX (fI 1) (ç (fV ċ (Ó 2 gj) gj) (fV ċ (Ó 2 gj) gA))))) gk
def Rv(K:a_):e_:=õ (å (Ka K) f9 (fX ø (ý 1))) 2 (Ru K)
def UW(K:a_):e_:=iA (kD (om (Þ (ÿ (gV K) 0))) (gB 1) (Rv K)) (kiD K)
abbrev ka9:Ñ:=["program"]
abbrev Fi:Ñ:=["program","lines","part"]
def kaJ(K:a_):e_:=fZ (iJ K "str" (m_ K) (fY (Ä "\n")) (ý 1))
def LF(K:a_):e_:=lS (iJ K "list" Gj (fI 1) (Þ (i9 [] 1 (i_ K (Ó 2 iC)) (gB 3) kT (å (IQ K) f9 (fX ø (ý 3))))))
def LG(K:a_):e_:=iA (lS (iJ K "list" m7 (fI 1) (Þ (iJ K "str" (m_ K) lF (Þ (fV (hZ K) (h_ (ç rB (Ó 2 gj))) (iO (xg K) (Þ (Ó 2 gA))))))))) (LF K)
def LH(K:a_):e_:=iA (kD (i_ K ø) (gB 2) (LG K)) (kaJ K)
def NO(K:a_):e_:=õ (h_ lN) 1 (LH K)
abbrev X7:Ñ:=["program","row"]
abbrev Lh:Ñ:=["program","row","word"]
def Xg(K:a_):e_:=fZ (iJ K "str" (m_ K) lF (Þ (h_ (ç (fI 2) (Ó 1 gA)))))
def Xh(K:a_):e_:=ā (iY (ô (gS K) 2 rC)) (fZ (iJ K "str" (m_ K) lF (Þ (h_ (fX (fI 2) (ç (Ó 1 gA) (å (BG K) f9 (Þ (Ó 1 iC))))))))) gk (Xg K)
def Xi(K:a_):e_:=ā (iY (ô (gS K) 2 nV)) (fZ (iJ K "str" (m_ K) lF (Þ (h_ (ç (fI 2) (å (BG K) f9 (Þ (Ó 1 gA)))))))) gk (Xh K)
def Xj(K:a_):e_:=ā (iY (ô (gS K) 2 mT)) (fZ (iJ K "str" (m_ K) lF (Þ (fV (hZ K) (h_ (fX (Ó 1 gA) (fX yg (ç mT (fV ċ (Ó 0 (Ó 1 iC)) gj))))) (iO (xg K) (Þ (Ó 1 k9))))))) gk (Xi K)
def Xk(K:a_):e_:=ā (iY (ô (gS K) 2 u9)) (fZ (iJ K "str" (m_ K) lF (Þ (h_ (fX (Ó 1 gA) (fX yg (fX (Ó 1 k9) (ç (Ó 1 iC) (Ó 1 rD))))))))) gk (Xj K)
def Xl(K:a_):e_:=ā (iY (ô (gS K) 2 u_)) (fZ (iJ K "str" (m_ K) lF (Þ (h_ (fX (Ó 1 gA) (ç yg (å (BG K) f9 (Þ (Ó 1 iC))))))))) gk (Xk K)
def LC(K:a_):e_:=õ (Ó 1 gj) 2 (Xl K)
abbrev kcw:Ñ:=["text"]
abbrev FF:Ñ:=["text","lines","numbers","program"]
def kcn(K:a_)(E:f_):e_:=fZ (fI 3)
def MF(K:a_)(E:f_):e_:=iA (lS (å (E9 K) (sZ λ_=>E) (ý 3))) (kcn K E)
def MG(K:a_)(E:f_):e_:=õ (å (HR K) f9 (fX (fI 1) (ý 2))) 3 (MF K E)
def MH(K:a_)(E:f_):e_:=iA (lS (å (Ht K) (sZ λ_=>E) (fX (fI 1) (ý 2)))) (MG K E)
def MI(K:a_)(E:f_):e_:=õ (å (Hk K) f9 (ý 1)) 2 (MH K E)
def MK(K:a_)(E:f_):e_:=iA (lS (å (Hu K) (sZ λ_=>E) (ý 1))) (MI K E)
def O5(K:a_)(E:f_):e_:=õ (i9 [] 1 (i_ K (iJ K "str" rH ø (Þ (fY (Ä "\n"))))) (gB 4) kT (å (H_ K) f9 (ý 4))) 1 (MK K E)
abbrev VQ:Ñ:=["lines"]
abbrev Te:Ñ:=["lines","n","line"]
def SI(K:a_)(E:f_):e_:=lI (oy (iY (ô Vv 2 (fY .non))) (kZ (iY (ô (gS K) 1 gj)) (ð (pV K) (Ó 2 gj) rB))) (xr K E (xq (iI K "NoLine") (uU K) (ý 1))) gk
def S0(K:a_)(E:f_):e_:=kD (yJ K (ý 0)) (rL K 2 (lg (gB 1) (lg (gB 2) pU))) (SI K E)
abbrev VP:Ñ:=["lines","numbers"]
abbrev Td:Ñ:=["lines","numbers","n","line"]
def SH(K:a_)(E:f_):e_:=lI (kZ (ð (gS K) (Ó 3 gj) mT) (ð (xO true) (Ó 3 iC) (fI 1))) (xr K E (xq (iI K "NoLine") (uU K) (ý 2))) gk
def SZ(K:a_)(E:f_):e_:=kD (yJ K (ý 0)) (rL K 2 (lg (gB 2) (lg (gB 3) pU))) (SH K E)
abbrev kir:Ñ:=["lines"]
abbrev Hi:Ñ:=["lines","names","numbers","k","name"]
def kil(K:a_):e_:=fZ (fI 2)
def SD(K:a_):e_:=lI (iY (ô (xO true) 4 (fI 2))) (mB (fI 3) (oW (fI 2) (fI 4) A6)) gk
def SE(K:a_):e_:=iA (kD (yJ K (ý 1)) (rL K 2 (lg (gB 3) (lg (gB 4) pU))) (SD K)) (kil K)
def SF(K:a_):e_:=õ A1 2 (SE K)
def SG(K:a_):e_:=õ (i9 [] 1 (i_ K ø) (gB 5) (ð (gS K) (Ó 5 gj) rB) (Ó 5 gA)) 1 (SF K)
abbrev Wu:Ñ:=["lines","numbers"]
abbrev HW:Ñ:=["lines","numbers","parts","line"]
def SW(K:a_):e_:=fZ (iO (rn K) (Þ (i9 [] 1 (i_ K (fI 2)) (gB 4) kT (h9 (fX (Ó 4 gj) (ç (Ó 4 gA) (iO (rn K) (Þ (Ó 4 iC)))))))))
def SX(K:a_):e_:=lI (ð (gS K) (Ó 3 gj) rB) (lS (iJ K "list" m7 (fI 2) (Þ (h9 (fX (Ó 3 gA) (ç (Ó 3 iC) (h_ lN))))))) (lS (iJ K "list" m7 (fV ċ (Ó 2 (sE tV gA)) iC) (Þ (å (Iw K) f9 (fX (fI 3) (ý 1))))))
def SY(K:a_):e_:=iA (kD (i_ K ø) (gB 3) (SX K)) (SW K)
def Uk(K:a_):e_:=õ (h_ lN) 2 (SY K)
abbrev Xw:Ñ:=["row","numbers"]
abbrev KI:Ñ:=["row","numbers"]
def W6(K:a_):e_:=fZ ø
def K_(K:a_):e_:=ā (ð (gS K) (Ó 0 gj) mT) (fZ (h9 (fX mT (fX (Ó 0 gA) (ç (G_ (fI 1) (Ó 0 iC)) (Ó 0 k9)))))) gk (W6 K)
abbrev Wy:Ñ:=["line"]
abbrev Vw:Ñ:=["line","words"]
def WM(K:a_):e_:=fZ (fY .non)
def TY(K:a_):e_:=ā (kZ (ð (gS K) (Ó 1 gj) rC) (kZ (ð (gS K) (ÿ (gV K) 1) k9) (kZ (mF (å (wN K) f9 (Þ (Ó 1 gA)))) (mF (å (By K) f9 (Þ (Ó 1 iC))))))) (fZ (h9 (fX rC (ç (Ó 1 gA) (iO wj (Þ (Ó 1 iC))))))) gk (WM K)
def TZ(K:a_):e_:=ā (kZ (ð (gS K) (Ó 1 gj) nV) (kZ (ð (gS K) (ÿ (gV K) 1) iC) (mF (å (By K) f9 (Þ (Ó 1 gA)))))) (fZ (h9 (ç nV (iO wj (Þ (Ó 1 gA)))))) gk (TY K)
def T1(K:a_):e_:=ā (kZ (ð (wx K) (Ó 1 gj) (h9 (ç vX pD))) (kZ (ð (gS K) (ÿ (gV K) 1) iC) (mF (å (wN K) f9 (Þ (Ó 1 gA)))))) (fZ (h9 (ç (Ó 1 gj) (Ó 1 gA)))) gk (TZ K)
def T4(K:a_):e_:=ā (kZ (ð (gS K) (Ó 1 gj) rB) (kZ (ð sr (ÿ (gV K) 1) gA) (mF (å (DX K) f9 (Þ (kE (lh K) (fI 1) (kB gA) kH)))))) (fZ (h9 (fX rB (ç (Ó 1 gA) (iO (rn K) (Þ (kE (lh K) (fI 1) (kB iC) kH))))))) gk (T1 K)
def T7(K:a_):e_:=ā (kZ (ð sr (ÿ (gV K) 1) gA) (ð (gS K) (Ó 1 gA) yg)) (fZ (å (Hv K) f9 (ý 1))) gk (T4 K)
def Us(K:a_):e_:=õ (iJ K "str" rH ø (Þ lF)) 1 (T7 K)
abbrev VR:Ñ:=["words"]
abbrev Tf:Ñ:=["words","name"]
def VW(K:a_):e_:=fZ (fY .non)
def SJ(K:a_):e_:=ā (kZ (ð (gS K) (ÿ (gV K) 0) sf) (kZ (ð (wx K) (Ó 0 k9) (EU K [Ä "+",Ä "-",Ä "*",Ä "<",Ä "="])) (kZ (mF (å (wN K) f9 (Þ (Ó 0 iC)))) (mF (å (wN K) f9 (Þ (Ó 0 rD))))))) (fZ (h9 (fX u9 (fX (fI 1) (fX (Ó 0 k9) (ç (Ó 0 iC) (Ó 0 rD))))))) gk (VW K)
def SK(K:a_):e_:=ā (kZ (ð sr (ÿ (gV K) 0) k9) (kZ (ð (gS K) (Ó 0 iC) mT) (mF (å (DX K) f9 (Þ (kE (lh K) ø (kB k9) kH)))))) (fZ (h9 (fX mT (fX (fI 1) (ç (Ó 0 k9) (iO (rn K) (Þ (kE (lh K) ø (kB rD) kH)))))))) gk (SJ K)
def SL(K:a_):e_:=ā (kZ (ð (gS K) (ÿ (gV K) 0) k9) (kZ (mF (å (By K) f9 (Þ (Ó 0 iC)))) (ð ni (iO wj (Þ (Ó 0 iC))) (fV vt iC (fY (Ë 64)))))) (fZ (h9 (fX u_ (ç (fI 1) (iO wj (Þ (Ó 0 iC))))))) gk (SK K)
def SM(K:a_):e_:=ā (xQ (mF (å (wN K) f9 (ý 1)))) (fZ (fY .non)) gk (SL K)
def S_(K:a_):e_:=õ (Ó 0 gj) 1 (SM K)
abbrev Ww:Ñ:=["words"]
abbrev Im:Ñ:=["words"]
def VH(K:a_):e_:=fZ (iO (wu K) (Þ (i9 [] 1 (i_ K ø) (gB 1) kT (å (wN K) f9 (ý 1)))))
abbrev X6:Ñ:=["word"]
abbrev Kd:Ñ:=["word"]
def Xf(K:a_):e_:=fZ (iO (wu K) (Þ (i9 [] 1 (wB ø) (gB 1) kT (ô (wx K) 1 Sw))))
def LB(K:a_):e_:=ā (oy (ð ni (ÿ (gV K) 0) gA) (oy (ð sr (ÿ (gV K) 0) BK) (iY (ô (wx K) 0 (EU K [Ä "part",Ä "call",Ä "say",Ä "jump",Ä "test",Ä "give"]))))) (fZ (fY (.bl Ü))) gk (Xf K)
abbrev Wx:Ñ:=["word"]
abbrev Io:Ñ:=["word"]
def Tq(K:a_):e_:=fZ (iO (wu K) (Þ (i9 [] 1 (wB ø) (gB 1) kT (ô (wx K) 1 (fY (Ä "0123456789"))))))
def TX(K:a_):e_:=ā (kZ (ð (gS K) (Ó 0 gj) Aj) (iY (ô (pV K) 0 Aj))) (fZ (fY (.bl Ü))) gk (Tq K)
def Ur(K:a_):e_:=ā (oy (ð ni (ÿ (gV K) 0) gA) (ð sr (ÿ (gV K) 0) (fY (Ë 20)))) (fZ (fY (.bl Ü))) gk (TX K)
abbrev YI:Ñ:=["_law_program_here","_law_row"]
abbrev Kt:Ñ:=["_law_program_here","_law_row"]
def YT(K:a_):e_:=fZ (iJ K "str" (m_ K) lF (Þ (i9 [] 1 (i_ K (fI 1)) (gB 2) kT (ÿ yG 2))))
def YU(K:a_):e_:=ā (ð (gS K) (Ó 1 gj) mT) (fZ (iJ K "str" (m_ K) lF (Þ (fV (hZ K) (h_ (fX (Ó 1 gA) (fX yg (ç mT (fV ċ (Ó 0 (Ó 1 iC)) gj))))) (iO (xg K) (Þ (Ó 1 k9))))))) gk (YT K)
def YV(K:a_):e_:=ā (ð (gS K) (Ó 1 gj) u9) (fZ (fV (hZ K) (fV (hZ K) (fV (hZ K) (fV (hZ K) (fV (hZ K) (fV (hZ K) (Ó 1 gA) (fY (Ä " = "))) (Ó 1 k9)) lF) (Ó 1 iC)) lF) (Ó 1 rD))) gk (YU K)
def MQ(K:a_):e_:=ā (ð (gS K) (Ó 1 gj) u_) (fZ (fV (hZ K) (fV (hZ K) (Ó 1 gA) (fY (Ä " = "))) (iO yG (Þ (Ó 1 iC))))) gk (YV K)
abbrev kee:Ñ:=["_law_program_here"]
abbrev PN:Ñ:=["_law_program_here","_law_lines_here","_law_name","_law_params","_law_rows","_law_row"]
def kek(K:a_):e_:=fZ (fI 1)
def Ol(K:a_):e_:=lS (iJ K "list" m7 (fI 1) (Þ (å (Kj K) f9 (fX ø (ý 5)))))
def NG(K:a_):e_:=kD (i_ K (fI 4)) (gB 5) (Ol K)
def NH(K:a_):e_:=iA (lS (iJ K "list" m7 (fI 1) (Þ (iJ K "str" (m_ K) lF (Þ (fV (hZ K) (h_ (fX rB (ý 2))) (ÿ (xg K) 3))))))) (NG K)
def NI(K:a_):e_:=iA (kD (i_ K ø) (rL K 3 (lg (gB 2) (lg (gB 3) (lg (gB 4) pU)))) (NH K)) (kek K)
def P9(K:a_):e_:=õ (h_ lN) 1 (NI K)
abbrev ka5:Ñ:=["_law_word"]
abbrev Fh:Ñ:=["_law_word"]
def kax(K:a_):e_:=fZ (oS (wa tU tU gA (ÿ (gV K) 0) BK) (iO (wu K) (Þ (i9 [] 1 (wB ø) (gB 1) kT (wa tU tU (fY (Ä "a")) (fI 1) (fY (Ä "z")))))))
def Oj(K:a_):e_:=ā (iY (ô (mj K Ü) 0 (h9 (fX rB (fX mT (fX vX (fX nV (ç rC pD)))))))) (fZ (fY (.bl Ü))) gk (kax K)
abbrev X4:Ñ:=["_law_words"]
abbrev Kc:Ñ:=["_law_words"]
def Ly(K:a_):e_:=fZ (iO (wu K) (Þ (i9 [] 1 (i_ K ø) (gB 1) kT (å (yi K) f9 (ý 1)))))
abbrev ka4:Ñ:=["_law_word"]
abbrev Fg:Ñ:=["_law_word"]
def Lw(K:a_):e_:=fZ (iO (wu K) (Þ (i9 [] 1 (wB ø) (gB 1) kT (wa tU tU Aj (fI 1) (fY (Ä "9"))))))
def Oi(K:a_):e_:=ā (oy (xQ (iY (wa tU tU gA (ÿ (gV K) 0) (fY (Ë 20))))) (kZ (ð sr (ÿ (gV K) 0) gA) (ð (gS K) (Ó 0 gj) Aj))) (fZ (fY (.bl Ü))) gk (Lw K)
abbrev X3:Ñ:=["_law_words"]
abbrev Lf:Ñ:=["_law_words"]
def Xc(K:a_):e_:=fZ (oS (fV (gS K) (ÿ (gV K) 0) k9) (oS (å (BW K) f9 (Þ (Ó 0 iC))) (fV ni (iO wj (Þ (Ó 0 iC))) (fV vt iC (fY (Ë 64))))))
def Xd(K:a_):e_:=ā (ð (gS K) (ÿ (gV K) 0) sf) (fZ (oS (å (BF K) f9 (Þ (h_ (ç (Ó 0 iC) (Ó 0 rD))))) (fV (mj K Ü) (Ó 0 k9) (h9 (fX (fY (Ä "+")) (fX Hw (fX (fY (Ä "*")) (ç (fY (Ä "<")) yg)))))))) gk (Xc K)
def Xe(K:a_):e_:=ā (ð (gS K) (Ó 0 iC) mT) (fZ (oS (fV sr (ÿ (gV K) 0) k9) (å (BF K) f9 (Þ (kE (lh K) ø (kB k9) kH))))) gk (Xd K)
def VD(K:a_):e_:=ā (oy (ð ni (ÿ (gV K) 0) k9) (oy (xQ (mF (å (yi K) f9 (Þ (Ó 0 gj))))) (ð (pV K) (Ó 0 gA) yg))) (fZ (fY (.bl Ü))) gk (Xe K)
def VE(K:a_):e_:=ā (ð (gS K) (Ó 0 gj) rC) (fZ (oS (fV (gS K) (ÿ (gV K) 0) k9) (oS (å (yi K) f9 (Þ (Ó 0 gA))) (å (BW K) f9 (Þ (Ó 0 iC)))))) gk (VD K)
def Ie(K:a_):e_:=ā (ð (gS K) (Ó 0 gj) nV) (fZ (oS (fV (gS K) (ÿ (gV K) 0) iC) (å (BW K) f9 (Þ (Ó 0 gA))))) gk (VE K)
def VF(K:a_):e_:=ā (ð (mj K Ü) (Ó 0 gj) (h9 (ç vX pD))) (fZ (oS (fV (gS K) (ÿ (gV K) 0) iC) (å (yi K) f9 (Þ (Ó 0 gA))))) gk (Ie K)
def Lx(K:a_):e_:=ā (ð (gS K) (Ó 0 gj) rB) (fZ (oS (fV sr (ÿ (gV K) 0) gA) (å (BF K) f9 (Þ (kE (lh K) ø (kB gA) kH))))) gk (VF K)
abbrev YE:Ñ:=["_law_lines_here"]
abbrev Kr:Ñ:=["_law_lines_here","_law_parts","_law_at","_law_words"]
def YK(K:a_):e_:=fZ (sE tV gA)
def K3(K:a_):e_:=lI (kZ (ð (gS K) (kE (wz K) (fI 3) (kB iC) (kB k9)) (h_ (Þ mT))) (kZ (ð (pV K) (Ó 3 gj) rB) (ð (mj K true) (Ó 3 k9) (fI 1)))) (fZ (fI 2)) gk
def K6(K:a_):e_:=õ (iJ K "str" rH (Ó 0 (fI 2)) (Þ lF)) 3 (K3 K)
def IW(K:a_):e_:=iA (kD (om (Þ (ÿ (gV K) 0))) (gB 2) (K6 K)) (YK K)
def K7(K:a_):e_:=lI (oy (xQ (mF (å (IP K) f9 (ý 3)))) (kZ (iY (ô (gS K) 2 gj)) (ð (pV K) (Ó 3 gj) rB))) (fZ (fI 2)) gk
def K8(K:a_):e_:=õ (iJ K "str" rH (Ó 0 (fI 2)) (Þ lF)) 3 (K7 K)
def IZ(K:a_):e_:=iA (kD (om (Þ (ÿ (gV K) 0))) (gB 2) (K8 K)) (IW K)
def Fc(K:a_):e_:=õ (i9 [] 1 (i_ K ø) (gB 4) (ð (gS K) (kE (wz K) (fI 4) kH (kB sf)) DZ) (fV ċ (iJ K "str" rH (fI 4) (Þ lF)) gA)) 1 (IZ K)
abbrev WV:Ñ:=["_law_state","_law_word"]
abbrev D9:Ñ:=["_law_state","_law_word","_law_some"]
def Ub(K:a_):e_:=fZ (fV ċ (ô (hZ K) 2 (iJ K "str" rH (fY (Ä "part call say + = +- *< ab zz 0")) (Þ lF))) (å (kQ K) f9 (ç ø (fY (Ë 23)))))
def Uc(K:a_):e_:=õ (ô (hZ K) 2 (h_ (fX pR (fX (fY (Ä "aaaaaaaaa")) (fX (fV UP Hz (fY (Ë 21))) (ç (fY (Ä "18446744073709551616")) (fY (Ä "99999999999999999999")))))))) 2 (Ub K)
def Ig(K:a_):e_:=õ (fV (hZ K) (i9 [] 1 (i_ K (h_ (fX (fY (Ä "A")) (fX Hz (ç (fY (Ä "_")) (fY (Ä "_0"))))))) (gB 3) kT (ô (hZ K) 1 (fI 3))) (i9 [] 1 (i_ K (h_ (fX Aj (fX Hw (ç (fY (Ä "+")) (fY (Ä "1_"))))))) (gB 3) kT (ô (hZ K) 3 (fI 1)))) 2 (Uc K)
abbrev Wv:Ñ:=["_law_state","_law_line"]
abbrev Vg:Ñ:=["_law_state","_law_line","_law_words","_law_at","_law_some"]
def TC(K:a_):e_:=fZ (Ó 4 (å (kQ K) f9 (ç ø (fY (Ë 15)))))
def TF(K:a_):e_:=õ (ô (hZ K) 4 (h_ (fX (fY (Ä "zz = call zz")) (fX rB (fX pD (fX (fY (Ä "zz = zz")) (fX (fY (Ä "zz = zz + zz")) (ç (fY (Ä "jump 99999999999999999999")) (fY (Ä "zz = 7")))))))))) 4 (TC K)
def TH(K:a_):e_:=iA (lS (iJ K "list" m7 (fI 4) (Þ (iJ K "str" (m_ K) lF (Þ (fV (hZ K) (fV (hZ K) (kE (lh K) (fI 2) kH (kB (fI 3))) (h_ (Þ (å (Bz K) f9 (ç ø (Ó 2 (fI 3))))))) (kE (lh K) (fI 2) (kB (ô (hZ K) 3 gA)) kH))))))) (TF K)
def TJ(K:a_):e_:=iA (lS (iJ K "list" m7 (fI 4) (Þ (iJ K "str" (m_ K) lF (Þ (fV (hZ K) (fV (hZ K) (kE (lh K) (fI 2) kH (kB (fI 3))) (h_ (Þ (å (Bz K) f9 (ç ø (Ó 2 (fI 3))))))) (kE (lh K) (fI 2) (kB (ô (hZ K) 3 gA)) kH))))))) (TH K)
def TK(K:a_):e_:=õ (h_ (fX (fV A5 lF (fI 1)) (fX (ô A5 1 lF) (fX (Sg (fI 1) " " "  ") (fX pR (ç (ô (hZ K) 1 (fY (Ä " 0"))) (iJ K "str" (m_ K) lF (Þ (kE (lh K) (fI 2) kH (kB (sE tV gA))))))))))) 4 (TJ K)
def TL(K:a_):e_:=õ (å (kQ K) f9 (ç ø (ÿ (gV K) 2))) 3 (TK K)
def VG(K:a_):e_:=õ (iJ K "str" rH (fI 1) (Þ lF)) 2 (TL K)
end Bg
namespace L2
open PySem PySem.Spec PyProof.Rows
def iV(c:gE X a ta)(d:gE X b tb)(h:Gp b:=by exact λ_ _=>rfl):gE X (.Subscript a b pos) (fV (sG X.K) ta tb):=kkL kjt c d h
def gf{X:fQ}{x:Str}(c:iH ë X.w X.K X.mg X.base x ps k sp)(f:mG X (e::es) t)(h:ku k X.A:=by exact ku.mono (by assumption) (by decide))(g:ko X x:=by rfl)(a:(x==("__debug__":Str))=false:=by decide)
  (b:gK (e::es) Û=(Ü,þ e)::gK es Û:=by rfl) (d:(lR pos (gK es Û)).any (·.1)=false:=by rfl):gE X (Č x p (e::es) [] pos) (å sp f9 t):=kkK c h g f a b d
def vG{X:fQ}{x:Str}(c:xb ë X.w X.K X.mg X.base x ps k sp)(i:vk (pG ë X.w) X E)(f:mG X (e::es) t)(h:ku k X.A:=by exact ku.mono (by assumption) (by decide))(g:ko X x:=by rfl)(a:(x==("__debug__":Str))=false:=by decide)
  (b:gK (e::es) Û=(Ü,þ e)::gK es Û:=by rfl) (d:(lR pos (gK es Û)).any (·.1)=false:=by rfl):gE X (Č x p (e::es) [] pos) (å sp E t):=kj4 c h g i f a b d
def hV{X:fQ}(B:ic X.mg)(c:mG X (e::es) t)(d:ko X "len":=by rfl)(a:gK (e::es) Û=(Ü,þ e)::gK es Û:=by rfl)(b:(lR pos (gK es Û)).any (·.1)=false:=by rfl):gE X (Č "len" p (e::es) [] pos) (iO (gV X.K) t):=rj kd6 d B.len_ boot_len c Ï Ï a b
def gy(i:Nat)(b:gE X e te)(d:X.N[i]?=Á x:=by rfl)(a:X.N.Nodup:=by assumption)(g:t4 X.env.scope x:=by first|exact Or.inl rfl|exact Or.inr rfl)(f:u6 e (Á (.Name x pos')) pos.line Û=pure Ü:=by rfl)
  (c:X.fn x=true\/X.env.scope.names.lookup x=Á .local:=by first|exact .inl rfl|exact .inr rfl|assumption):oZ X (.Assign [.Name x pos'] e pos) (đ te i):=kj5 a d g b f c
def gU{X:fQ}(i:Nat){x:Str}(c:X.N[i]?=Á x:=by rfl)(a:X.N.Nodup:=by first|assumption|(dsimp only[lK];decide +kernel))(d:t4 X.env.scope x:=by first|exact Or.inl rfl|exact Or.inr rfl)
  (b:X.fn x=true\/X.env.scope.names.lookup x=Á .local:=by first|exact .inl rfl|exact .inr rfl|assumption):tf X (.Name x pos) (gB i):=kht a c d b
def oi(d:p_ X c tc)(b:oZ X a t):oZ X (.If c [a] [] pos) (lI tc t gk):=uE d (gc b) yq
def f7(a:gE X e te)(b:gK [e] Û=(Ü,þ e)::gK [] Û:=by rfl):mG X [e] (Þ te):=gI a nO b
def oX{X:fQ}(g:gE X o to)(f:gE X e te)(a:tx o "append" Û (þ o)=þ o:=by rfl)
  (c:((lR cpos (gK [e] Û)).all (λx=>!x.1)&&(w_ cpos (wW [] Û)).all (λx=>x.1.isSome)&&æ (Ô ([e]:É Expr)+Ô ([]:É sR)+(if([]:É sR).isEmpty then 0 else 1)<30))=true:=by rfl)
  (b:(apos.endLine==cpos.line)=true:=by rfl) (d:gK [e] Û=(Ü,þ e)::gK [] Û:=by rfl) (h:(lR cpos (gK [] Û)).any (·.1)=false:=by rfl) :
  gE X (.Call (.Attribute o "append" apos) [e] [] cpos) (iJ X.K "list" m7 to (Þ te)):=oH y4 PySem.F.slot_list_append PySem.F.type_list_append N5 g (f7 f d) a c b d h
def oY{X:fQ}(g:gE X o to)(f:gE X e te)(a:tx o "join" Û (þ o)=þ o:=by rfl)
  (c:((lR cpos (gK [e] Û)).all (λx=>!x.1)&&(w_ cpos (wW [] Û)).all (λx=>x.1.isSome)&&æ (Ô ([e]:É Expr)+Ô ([]:É sR)+(if([]:É sR).isEmpty then 0 else 1)<30))=true:=by rfl)
  (b:(apos.endLine==cpos.line)=true:=by rfl) (d:gK [e] Û=(Ü,þ e)::gK [] Û:=by rfl) (h:(lR cpos (gK [] Û)).any (·.1)=false:=by rfl) :
  gE X (.Call (.Attribute o "join" apos) [e] [] cpos) (iJ X.K "str" (m_ X.K) to (Þ te)):=oH pd PySem.F.slot_str_join PySem.F.type_str_join kgS g (f7 f d) a c b d h
def oa(st:Stmt)(N ext:Ñ)(c:É Nat)(it:tX X target iter wi)(j:∀{a C s₀ H₀ b},tf (lK X (N++ext) scope a C s₀ H₀ b) target g)(l:∀{a C s₀ H₀ b},yU (lK X (N++ext) scope a C s₀ H₀ b) ifs tc)(i:∀{a C s₀ H₀ b},gE (lK X (N++ext) scope a C s₀ H₀ b) elt te)
  (n:yB (kf st) N scope (N++ext) c:=by exact⟨rfl,by decide +kernel,by decide +kernel,by decide +kernel,rfl,by decide +kernel⟩) (d:X.env.scope=kf st:=by rfl) (e:X.N=N:=by rfl) (f:Ô (N++ext)=N.length+k:=by rfl) (h:X.calm=true:=by rfl)
  (m:∀x,wK iter Û x=pure x:=by intro _;rfl):gE X (.ListComp elt [⟨target,iter,ifs,0⟩] scope pos) (i9 c k wi g tc te):=khp n d e f h it (λ_ _ _ _ _=>j) (λ_ _ _ _ _=>l) (λ_ _ _ _ _=>i) m
def uP{X:fQ}(st:Stmt)(N ext:Ñ)(c:É Nat)(i:Nat){y:Str}(it:tX X target iter wi)(m:∀{a C s₀ H₀ b},tf (lK X (N++ext) scope a C s₀ H₀ b) target g)(n:∀{a C s₀ H₀ b},yU (lK X (N++ext) scope a C s₀ H₀ b) ifs tc)(j:∀{a C s₀ H₀ b},gE (lK X (N++ext) scope a C s₀ H₀ b) elt te)
  (t:yB (kf st) N scope (N++ext) c:=by exact⟨rfl,by decide +kernel,by decide +kernel,by decide +kernel,rfl,by decide +kernel⟩) (d:X.env.scope=kf st:=by rfl) (e:X.N=N:=by rfl) (f:Ô (N++ext)=N.length+k:=by rfl) (h:X.calm=true:=by rfl)
  (s:X.N.Nodup:=by assumption) (r:X.N[i]?=Á y:=by rfl) (o:t4 X.env.scope y:=by first|exact Or.inl rfl|exact Or.inr rfl) (q:u6 (.ListComp elt [⟨target,iter,ifs,0⟩] scope pos) (Á (.Name y py)) spos.line Û=pure true:=by rfl)
  (p:∀x,wK iter Û x=pure x:=by intro _;rfl) (l:X.fn y=true\/X.env.scope.names.lookup y=Á .local:=by first|exact .inl rfl|exact .inr rfl|assumption):oZ X (.Assign [.Name y py] (.ListComp elt [⟨target,iter,ifs,0⟩] scope pos) spos) (đ (i9 c k wi g tc te) i):=khv t d e f h it (λ_ _ _ _ _=>m) (λ_ _ _ _ _=>n) (λ_ _ _ _ _=>j) s r o q p l
end L2
namespace Bg
open PySem PySem.Spec PyProof.Rows L2
def iu(K:a_)(x:Str)(st:Stmt):Prop:=∃(f:d_) (e:c_) (g:Option d_) (iP b h:c_) (d:Option d_) (a ct:c_) (c:Array (Option c_)),
 ly K i7 x=Á (Á (Â f))/\K.lookup f=Á ⟨e,g,.func (pK x x (rZ st) (nJ st) (kf st) .none iP b h d a ct),c⟩/\u0 K a x=true/\rh K (Â f)=true
def defAt{K:a_}{x:Str}{st:Stmt}{f:d_}{h:c_}{od:Option d_}{iP d i:c_}{g:Option d_}{b ct:c_}{e:Array (Option c_)}(a:ly K i7 x=Á (Á (Â f)))(l:K.lookup f=Á ⟨h,od,.func (pK x x (rZ st) (nJ st) (kf st) .none iP d i g b ct),e⟩)(c:u0 K b x=true)(k:rh K (Â f)=true):iu K x st:=⟨f,h,od,iP,d,i,g,b,ct,e,a,l,c,k⟩
def iG(P:f5)(w:fW)(K:a_)(c:Str->Option c_)(a:Heap)(N:Ñ)(q:Str)(st:Stmt)(k:Nat)(t:e_):Prop:=
 ∀{f:d_} {b:c_} {A:ig} {outer:List Env} {s:fU} {H:b_} {E:f_},ku k (A.deeper (oB q (kf st) ó f b))->nq (pT oK P w K c a N q (kf st) f b A outer s H E).nox (nJ st) t
def xJ(P:f5)(w:fW)(K:a_)(c:Str->Option c_)(a:Heap)(N:Ñ)(q:Str)(st:Stmt)(k:Nat)(t:f_->e_):Prop:=
 ∀{f:d_} {b:c_} {A:ig} {outer:List Env} {s:fU} {H:b_} {E:f_},ku k (A.deeper (oB q (kf st) ó f b))->nq (pT (pG P w) P w K c a N q (kf st) f b A outer s H E) (nJ st) (t E)
def iK{P:f5}{w:fW}{K:a_}{e:Str->Option c_}{b:Heap}{q:Str}{N:List Str}{st:Stmt}{k:Nat}{t:e_}(d:∀{f:d_} {a:c_} {A:ig} {outer:List Env} {s:fU} {H:b_} {E:f_},N.Nodup->(A.deeper (oB q (kf st) ó f a)).units<cLine->(A.deeper (oB q (kf st) ó f a)).units+1<cLine->ku k (A.deeper (oB q (kf st) ó f a))->
  sA (pT oK P w K e b N q (kf st) f a A outer s H E).nox (nJ st) t) (g:N.Nodup:=by decide +kernel):iG P w K e b N q st k t:=λc=>(d g c.units0 (U5 c) c).up
def Bi{P:f5}{w:fW}{K:a_}{e:Str->Option c_}{b:Heap}{q:Str}{N:List Str}{st:Stmt}{k:Nat}{t:f_->e_}(d:∀{f:d_} {a:c_} {A:ig} {outer:List Env} {s:fU} {H:b_} {E:f_},N.Nodup->(A.deeper (oB q (kf st) ó f a)).units<cLine->(A.deeper (oB q (kf st) ó f a)).units+1<cLine->ku k (A.deeper (oB q (kf st) ó f a))->
  sA (pT (pG P w) P w K e b N q (kf st) f a A outer s H E) (nJ st) (t E)) (g:N.Nodup:=by decide +kernel):xJ P w K e b N q st k t:=λc=>(d g c.units0 (U5 c) c).up
structure GT(x:Str)(N ps:Ñ)(st:Stmt)(sp:gO):Prop where
 S:vZ N ps (kf st):=by exact⟨rfl,rfl,rfl,by decide +kernel,rfl,by decide +kernel,by decide +kernel⟩
 len:∀vs H Q E,sp vs H Q E->vs.length=ps.length:=by(intro _ _ _ _ h;(repeat first|exact congrArg tG h.1|obtain⟨_,h⟩:=h))
 bd:∀(iP doc pm:c_) (an:Option d_) (cdv ct:c_) (us:List c_),us.length=ps.length->bindArgs (pK x x (rZ st) (nJ st) (kf st) .none iP doc pm an cdv ct) (Æ us [])=pure (ps.zip us):=by
   (intro _ _ _ _ _ _ us hl;first|(obtain⟨_,rfl⟩:=kia (us:=us) hl;rfl)|(obtain⟨_,_,rfl⟩:=Hf (us:=us) hl;rfl)|(obtain⟨_,_,_,rfl⟩:=kib (us:=us) hl;rfl)|(obtain⟨_,_,_,_,rfl⟩:=Sr (us:=us) hl;rfl)|(obtain⟨_,_,_,_,_,rfl⟩:=le5 (us:=us) hl;rfl)|(obtain⟨_,_,_,_,_,_,rfl⟩:=kic (us:=us) hl;rfl)|(obtain⟨_,_,_,_,_,_,_,rfl⟩:=le7 (us:=us) hl;rfl)|(obtain rfl:=le0 (us:=us) hl;rfl))
def kih{P:f5}{w:fW}{K:a_}{g:Str->Option c_}{b h:Heap}{x:Str}{N ps:List Str}{st:Stmt}{k:Nat}{sp:gO}{t:e_}(X:K.In h)(G:h.Ns i7 g)(l:iu K x st)(d:iG P w K g b N x st k t)(r:∀vs H Q E,sp vs H Q E->t (ì í Q) (gW N vs) H)(z:GT x N ps st sp:=by exact{}):iH P w K g b x ps (k+1) sp:=by
 obtain⟨f,p,q,iP,doc,u,o,e,ct,n,a,m,c,i⟩:=l;have F:=AV m c i;exact⟨⟨f,_,tD X G a,i,F.binds (ps:=ps) z.bd,F.ok z.S z.len λe A outer s H vs Q E j z=>⟨t,d j,r vs H Q E z⟩⟩⟩
def Bf{P:f5}{w:fW}{K:a_}{g:Str->Option c_}{b h:Heap}{x:Str}{N ps:List Str}{st:Stmt}{k:Nat}{sp:gO}{t:f_->e_}(X:K.In h)(G:h.Ns i7 g)(l:iu K x st)(d:xJ P w K g b N x st k t)(r:∀vs H Q E,sp vs H Q E->t E (ì í Q) (gW N vs) H)(z:GT x N ps st sp:=by exact{}):xb P w K g b x ps (k+1) sp:=by
 obtain⟨f,p,q,iP,doc,u,o,e,ct,n,a,m,c,i⟩:=l;have F:=AV m c i;exact⟨⟨f,_,tD X G a,i,F.binds (ps:=ps) z.bd,kgA F z.S z.len λe A outer s H vs Q E j z=>⟨t E,d j,r vs H Q E z⟩⟩⟩
def kkv{P:f5}{w:fW}{K:a_}{i:Str->Option c_}{h:Heap}{N:List Str}{st:Stmt}{k:Nat}{sp:gO}{p:Str}{m:d_}{t:e_}(X:K.In h)(G:h.Ns i7 i)(j:i "law"=Á (Â m))(l:iu K "law" st)(d:∀b,iG P w K i b N "law" st k t)(r:∀vs H Q E,sp vs H Q E->t (ì í Q) (gW N vs) H)(z:GT "law" N [p] st sp:=by exact{}) :
  ∃fd:m6,(∀(s:fU) (v:c_),yy s fd (Æ [v] []) [(p,v)])/\∀b:Heap,K.In b->b.Ns i7 i->oI P w K i b oK (k+1) m fd [p] sp:=by
 obtain⟨f,B,C,iP,doc,y,n,g,ct,x,a,u,c,q⟩:=l;have e:=j.symm.trans (tD X G a);cases e;have F:=AV u c q;exact⟨_,λs v=>.of_eq (z.bd iP doc y n g ct [v] À),λb _ _=>F.ok z.S z.len λg A outer s H vs Q E o z=>⟨t,d b o,r vs H Q E z⟩⟩
end Bg
namespace L2
open PySem PySem.Spec PyProof.Rows
end L2
namespace Bg
open PySem PySem.Spec PyProof.Rows L2
def ix(i:Nat):Stmt:=PySem.Challenge.pw_beltgarth_k23_whole_texts_read.main.body.getD i (.Pass ⟨0,0,0,0⟩)
abbrev xY:Stmt:=U7 (ix 2) 0
def V4:vZ HG Aa (kf xY):=⟨À,À,À,â,À,â,â⟩
abbrev x6:Stmt:=U7 (ix 3) 0
def Xa:vZ Il x_ (kf x6):=⟨À,À,À,â,À,â,â⟩
abbrev Oe:Stmt:=ix 5
abbrev Pa:Stmt:=ix 6
abbrev O':Stmt:=ix 7
abbrev Od:Stmt:=ix 8
abbrev u5:Stmt:=ix 9
def kaS:vZ Ks BQ (kf u5):=⟨À,À,À,â,À,â,â⟩
abbrev Oc:Stmt:=ix 11
abbrev Mm:Stmt:=ix 12
abbrev IB:Stmt:=ix 13
abbrev L4:Stmt:=ix 14
abbrev Tz:Stmt:=ix 15
abbrev Tw:Stmt:=ix 16
abbrev KZ:Stmt:=ix 17
abbrev Tx:Stmt:=ix 18
abbrev Iu:Stmt:=ix 19
abbrev TN:Stmt:=ix 20
abbrev FQ:Stmt:=ix 26
abbrev Ti:Stmt:=ix 27
abbrev Th:Stmt:=ix 28
abbrev Hj:Stmt:=ix 29
abbrev HY:Stmt:=ix 30
abbrev KY:Stmt:=ix 31
abbrev VB:Stmt:=ix 32
abbrev Tj:Stmt:=ix 33
abbrev Iq:Stmt:=ix 34
abbrev I_:Stmt:=ix 35
abbrev Ir:Stmt:=ix 36
abbrev Fm:Stmt:=ix 38
abbrev L3:Stmt:=ix 39
abbrev L1:Stmt:=ix 40
abbrev R5:Stmt:=ix 42
abbrev Gn:Stmt:=ix 43
abbrev Rt:Stmt:=ix 44
abbrev L5:Stmt:=ix 45
abbrev Rn:Stmt:=ix 46
abbrev O_:Stmt:=ix 47
abbrev Es:Stmt:=ix 48
abbrev FP:Stmt:=ix 49
abbrev GG:Stmt:=ix 50
abbrev Fo:Stmt:=ix 51
abbrev R6:Stmt:=ix 52
abbrev Oa:Stmt:=ix 53
abbrev Rq:Stmt:=ix 54
abbrev EN:Stmt:=ix 55
abbrev R7:Stmt:=ix 56
abbrev Rr:Stmt:=ix 57
abbrev Et:Stmt:=ix 58
abbrev UU:Stmt:=ix 59
abbrev E6:Stmt:=ix 60
abbrev Ro:Stmt:=ix 61
abbrev Fl:Stmt:=ix 62
abbrev Kg:Stmt:=ix 63
abbrev Fk:Stmt:=ix 64
abbrev L0:Stmt:=ix 65
abbrev E5:Stmt:=ix 66
abbrev D_:Stmt:=ix 67
abbrev VA:Stmt:=ix 68
abbrev Mn:Stmt:=ix 69
abbrev YH:Ñ:=["_law_line","_law_names_here"]
abbrev Ma:Ñ:=["_law_line","_law_names_here","_law_words"]
def YR(K:a_):e_:=fZ (h9 (fX u_ (ç (Ó 2 gj) (iO wj (Þ (Ó 2 iC))))))
def YS(K:a_):e_:=ā (ð (gS K) (ÿ (gV K) 2) sf) (fZ (h9 (fX u9 (fX (Ó 2 gj) (fX (Ó 2 k9) (ç (Ó 2 iC) (Ó 2 rD))))))) gk (YR K)
def KP(K:a_):e_:=ā (ð (gS K) (Ó 2 iC) mT) (fZ (h9 (fX mT (fX (Ó 2 gj) (ç (iJ K "list" UN (fI 1) (Þ (Ó 2 k9))) (iO (rn K) (Þ (kE (lh K) (fI 2) (kB rD) kH)))))))) gk (YS K)
def KQ(K:a_):e_:=ā (ð (mj K Ü) (Ó 2 gj) (h9 (ç nV rC))) (fZ (fV (hZ K) (iO (rn K) (Þ (kE (lh K) (fI 2) kH (kB (sE tV gA))))) (h9 (Þ (iO wj (Þ (Ó 2 (sE tV gA)))))))) gk (KP K)
def Ah(K:a_):e_:=ā (ð (mj K Ü) (Ó 2 gj) (h9 (ç vX pD))) (fZ (h9 (ç (Ó 2 gj) (Ó 2 gA)))) gk (KQ K)
def MP(K:a_):e_:=õ (iJ K "str" rH ø (Þ lF)) 2 (Ah K)
abbrev Er:Stmt:=ix 70
abbrev X9:Ñ:=["_law_lines_here"]
abbrev En:Ñ:=["_law_lines_here","_law_names_here","_law_found","_law_line","_law_words"]
def Uy(K:a_):e_:=fZ (iO (rn K) (Þ (i9 [] 3 (i_ K (fI 2)) (De K 3 (lg (gB 5) (lg (gB 6) (lg (gB 7) pU)))) kT (h9 (fX (fI 5) (ç (fI 6) (ÿ (rn K) 7)))))))
def Uz(K:a_):e_:=lI (ð (gS K) (Ó 4 gj) rB) (lS (iJ K "list" m7 (fI 2) (Þ (h_ (fX (Ó 4 gA) (ç (iO (rn K) (Þ (kE (lh K) (fI 4) (kB iC) kH))) (h_ lN))))))) (lS (iJ K "list" m7 (fV ċ (Ó 2 (sE tV gA)) iC) (Þ (å (Ki K) f9 (fX (fI 3) (ý 1))))))
def UA(K:a_):e_:=õ (iJ K "str" rH (fI 3) (Þ lF)) 4 (Uz K)
def UB(K:a_):e_:=iA (kD (i_ K ø) (gB 3) (UA K)) (Uy K)
def UC(K:a_):e_:=õ (h_ lN) 2 (UB K)
def LJ(K:a_):e_:=õ (i9 [3] 0 (i_ K ø) (gB 3) (ð (gS K) (fV ċ (iJ K "str" rH (fI 3) (Þ lF)) gj) rB) (fV ċ (iJ K "str" rH (fI 3) (Þ lF)) gA)) 1 (UC K)
abbrev MT:Stmt:=ix 71
abbrev YJ:Ñ:=["_law_lines_here"]
abbrev Mb:Ñ:=["_law_lines_here","_law_at","_law_program_here","_law_due_here"]
def KR(K:a_):e_:=fZ (fV ċ (h_ (ç (fI 3) (h9 (fX HA (ý 2))))) (iO Do (Þ (fV ni (Ó 3 gA) gj))))
def KS(K:a_):e_:=õ (fV (hZ K) (h9 (Þ (fY (Ä "program")))) (å (GO K) f9 (ý 2))) 3 (KR K)
def KU(K:a_):e_:=õ (å (IT K) f9 (ý 0)) 2 (KS K)
def KW(K:a_):e_:=ā (iY (ô y0 1 gj)) (fZ (h9 (fX HB (ý 1)))) gk (KU K)
def MR(K:a_):e_:=õ (å (I' K) f9 (ý 0)) 1 (KW K)
abbrev RX:Stmt:=ix 72
abbrev kfY:Ñ:=["_law_text"]
abbrev RF:Ñ:=["_law_text","_law_said","e"]
def OU(K:a_):e_:=fZ (fI 1)
def OV(K:a_):e_:=iA (Hc K (iI K "NoLine") (iI K "NoProgram") 3 2 (λa=>đ (h9 (ç HA (å (Ar K) a (ý 0)))) 1) (đ (h9 (ç HB (xD K (fI 2) "line"))) 1) (đ (h9 (fX (fY (Ä "program")) (fX (xD K (fI 2) "part") (ç (xD K (fI 2) "row") (xD K (fI 2) "word"))))) 1)) (OU K)
def Sl(K:a_):e_:=õ (h9 (Þ (fY (Ä "none")))) 1 (OV K)
abbrev Ob:Stmt:=ix 73
abbrev ka3:Ñ:=["_law_state","_law_lines_here"]
abbrev NB:Ñ:=["_law_state","_law_lines_here","_law_at","_law_words","_law_other"]
def L8(K:a_):e_:=fZ (fV (hZ K) (fV (hZ K) (kE (lh K) (fI 1) kH (kB (fI 2))) (h_ (Þ (iJ K "str" (m_ K) lF (ý 3))))) (kE (lh K) (fI 1) (kB (ô (hZ K) 2 gA)) kH))
def L9(K:a_):e_:=iA (mB (Ó 4 (å (kQ K) f9 (ç ø (ÿ (gV K) 4)))) (oW (fI 3) (å (kQ K) f9 (ç ø (ÿ (gV K) 3))) sj)) (L8 K)
def Lu(K:a_):e_:=õ (fV (hZ K) (iJ K "str" rH (Ó 1 (å (kQ K) f9 (ç ø (ÿ (gV K) 1)))) (Þ lF)) (h_ (fX (fY (Ä "zz")) (fX Aj (ç Hz (fY (Ä "3"))))))) 4 (L9 K)
def Lv(K:a_):e_:=õ (iJ K "str" rH (Ó 1 (fI 2)) (Þ lF)) 3 (Lu K)
def Oh(K:a_):e_:=õ (å (kQ K) f9 (ç ø (ÿ (gV K) 1))) 2 (Lv K)
abbrev Dp:Stmt:=ix 74
abbrev RG:Ñ:=["_law_script"]
abbrev Df:Ñ:=["_law_script","_law_state","_law_many","_law_more","_law_good","_law_lines_here","_law_turn","_law_old","_law_at","_law_tops","_law_text","_law_found"]
def PY(K:a_):e_:=fZ (oS (ô (DE K) 11 (å (Kk K) f9 (ý 5))) (fV (Bl K) (å (Ar K) f9 (Þ (å (ED K) f9 (ý 4)))) (fI 4)))
def Gv(K:a_):e_:=ā (kZ (ð (Bl K) (Ó 11 gj) HA) (ð (DH K) (å (ED K) f9 (Þ (Ó 11 gA))) (fI 10))) (fZ (fY (.bl Ü))) gk (PY K)
def PZ(K:a_):e_:=õ (å (Gd K) f9 (ý 10)) 11 (Gv K)
def Gw(K:a_):e_:=õ (iJ K "str" (m_ K) (fY (Ä "\n")) (ý 5)) 10 (PZ K)
def P1(K:a_):e_:=ā (oy (ð sr (ÿ (gV K) 9) (fY (Ë 6))) (ð sr (iO (UO K) (Þ (fV (hZ K) (i9 [] 2 (Bj K (ç (fI 9) (kE (wz K) (fI 9) (kB gA) kH))) (rL K 2 (lg (gB 12) (lg (gB 13) pU))) kT (ô vu 13 (fI 12))) (h_ (Þ gj))))) (fY (Ë 25)))) (đ (å (Ce K) f9 (ý 4)) 5) gk (Gw K)
def Gx(K:a_):e_:=õ (fV (hZ K) (i9 [] 1 (om (Þ (ÿ (gV K) 5))) (gB 12) (ð (Bl K) (kE (wz K) (Ó 5 (fI 12)) kH (kB sf)) DZ) (fI 12)) (h_ (Þ (ÿ (gV K) 5)))) 9 (P1 K)
def P2(K:a_):e_:=mB (å (HZ K) f9 (ç (fI 1) (Ó 7 (fI 8)))) (oW (fI 5) (fI 8) sj)
def P6(K:a_):e_:=õ (å (kQ K) f9 (ç (fI 1) (ÿ (gV K) 5))) 8 (P2 K)
def P7(K:a_):e_:=iA (kD (om (ý 3)) (gB 6) (P6 K)) (Gx K)
def OY(K:a_):e_:=õ (ÿ (xg K) 5) 7 (P7 K)
def kgd(K:a_):e_:=đ (å (E8 K) f9 (fX (fI 1) (ý 5))) 5
def OZ(K:a_):e_:=iA (kD (om (ý 2)) (gB 6) (kgd K)) (OY K)
def O0(K:a_):e_:=õ (å (Ce K) f9 (ý 4)) 5 (OZ K)
def O1(K:a_):e_:=õ (å (E_ K) f9 (ç (fI 1) (fY (Ë 7)))) 4 (O0 K)
def O2(K:a_):e_:=õ (å (kQ K) f9 (ç (fI 1) k9)) 3 (O1 K)
def O3(K:a_):e_:=õ (å (kQ K) f9 (ç (fI 1) rD)) 2 (O2 K)
def UX(K:a_):e_:=õ (h_ (fX ø (ç gj gj))) 1 (O3 K)
section
variable(P:f5)(w:fW)(K:a_)(mg:Str->Option c_)(base:Heap)
abbrev FJ:=iH P w K mg base "goal" M7 Oy (Cd K)
abbrev FL:=iH P w K mg base "sets" kcx kec (Fs K)
abbrev Fe:=iH P w K mg base "leads" ka7 kcD (EB K)
abbrev UG:=iH P w K mg base "unset_due" WU W2 (Ia K)
abbrev Md:=xb P w K mg base "refuse" YF kbq (Al K)
abbrev KH:=iH P w K mg base "ring_due" Xx Yc (Ic K)
abbrev Lp:=iH P w K mg base "row_due" X8 YA (IS K)
abbrev KF:=iH P w K mg base "name_due" W4 Ya (Iv K)
abbrev Tr:=iH P w K mg base "calls_amiss" V1 Wq (HH K)
abbrev Tt:=iH P w K mg base "goes_astray" V3 Ws (HJ K)
abbrev Ox:=iH P w K mg base "goal" M7 Oy (Ft K)
abbrev Ts:=iH P w K mg base "comes_round" V2 Wr (HI K)
abbrev TQ:=iH P w K mg base "names_read" Wt Wz (HQ K)
abbrev Me:=iH P w K mg base "walked" BQ Mj (BS K)
abbrev Ff:=iH P w K mg base "reads" ka8 kcE (EC K)
abbrev Nv:=xb P w K mg base "check" ka6 kcC (E9 K)
abbrev TR:=iH P w K mg base "program_of" Wu WA (HR K)
abbrev Ta:=xb P w K mg base "refuse_calls" VP VY (Ht K)
abbrev SA:=iH P w K mg base "numbers_of_parts" kir kim (Hk K)
abbrev Tb:=xb P w K mg base "refuse_forms" VQ VZ (Hu K)
abbrev Ue:=iH P w K mg base "line_read" Wy W1 (H_ K)
abbrev KG:=iH P w K mg base "numbered" Xw Yb (Iw K)
abbrev Ik:=iH P w K mg base "is_number" Wx W0 (By K)
abbrev Em:=iH P w K mg base "is_name" X6 Yy (wN K)
abbrev Ij:=iH P w K mg base "are_names" Ww WZ (DX K)
abbrev Tc:=iH P w K mg base "setting_read" VR V0 (Hv K)
abbrev Lo:=iH P w K mg base "line_of" X7 Yz (IQ K)
abbrev Ln:=iH P w K mg base "figures" X5 Yx (BG K)
abbrev ur:=iH P w K mg base "_law_draw" kfU kix (kQ K)
abbrev PL:=iH P w K mg base "_law_worth" kei kfT (F7 K)
abbrev Pz:=iH P w K mg base "_law_leads" ked kf3 (F4 K)
abbrev OC:=iH P w K mg base "_law_filled" kcu kd9 (Fp K)
abbrev Ls:=iH P w K mg base "_law_set_names" X' YD (IV K)
abbrev Ow:=iH P w K mg base "_law_mended" kcv kea (Fq K)
abbrev Lr:=iH P w K mg base "_law_rough_row" X_ YC (IU K)
abbrev Rz:=iH P w K mg base "_law_part" kfW kiz (Gb K)
abbrev PF:=iH P w K mg base "_law_names" kef kf5 (Cz K)
abbrev RI:=iH P w K mg base "_law_next" kfV kiy (AL K)
abbrev RA:=iH P w K mg base "_law_read" kfX kiA (Gc K)
abbrev Nz:=iH P w K mg base "_law_without" kbb kcH (Fb K)
abbrev PJ:=iH P w K mg base "_law_unset" keh kf7 (F6 K)
abbrev PH:=iH P w K mg base "_law_round" keg kf6 (F5 K)
abbrev Nr:=iH P w K mg base "_law_bad_row" ka2 kcy (E7 K)
abbrev Mf:=iH P w K mg base "_law_part_due" YG kbr (Ka K)
abbrev Mh:=iH P w K mg base "_law_row_text" YI kbt (Kj K)
abbrev Fd:=iH P w K mg base "_law_is_name" ka5 kcB (yi K)
abbrev Nu:=iH P w K mg base "_law_figures" ka4 kcA (BW K)
abbrev Lm:=iH P w K mg base "_law_names_all" X4 Yw (BF K)
abbrev Ll:=iH P w K mg base "_law_line_good" X3 Yv (IP K)
abbrev Va:=iH P w K mg base "_law_word_spoilt" WV W3 (Bz K)
abbrev Mg:=iH P w K mg base "_law_row_read" YH kbs (Ki K)
abbrev UZ:=iH P w K mg base "_law_due" kit kjP (GO K)
abbrev Lq:=iH P w K mg base "_law_read_here" X9 YB (IT K)
abbrev Mc:=iH P w K mg base "_law_bad_line" YE kbp (I' K)
abbrev FK:=xb P w K mg base "read" kcw keb (Ar K)
abbrev Nw:=iH P w K mg base "write" ka9 kcF (ED K)
abbrev Mi:=iH P w K mg base "_law_text_due" YJ kbu (Kk K)
abbrev RB:=iH P w K mg base "_law_told" kfY kiB (Gd K)
abbrev PD:=iH P w K mg base "_law_lines" kee kf4 (Ce K)
abbrev Ud:=iH P w K mg base "_law_line_spoilt" Wv W' (HZ K)
abbrev Nt:=iH P w K mg base "_law_changed" ka3 kcz (E8 K)
abbrev Ny:=iH P w K mg base "_law_program" kba kcG (E_ K)
end
def kah{P:f5}{w:fW}{K:a_}{b:Str->Option c_}{a:Heap}(B:ic b) :iG P w K b a Lg "figures" L1 Y1 (LA K):=iK λf e c d=>by exact
 (ü (gy 1 (kfQ (ã nQ ú fL) fK fK)) (gy 2 (rj kc7 À B.abs_ boot_abs (ê 0))) (ü (gy 3 (iF nO)) (Ck kg.never (ã yR (fH 2) (gg v9 fL fL)) (iM (me (oX (fH 3) (oH pd PySem.F.slot_str_zfill PySem.F.type_str_zfill ke0 (kC Ex À B.str_ boot_str (f7 (gg se (fH 2) (gg v9 fL fL)))) (f7 fL)))) (gc (gy 2 (gg keG (fH 2) (gg v9 fL fL)))))) (iM (me (oX (fH 3) (kC Ex À B.str_ boot_str (ê 2)))) (gc (iE (gg iw ò (kbE À B.reversed_ À fK (ê 3))))))))
def kaj{P:f5}{w:fW}{K:a_}{d:Str->Option c_}{b:Heap}(B:ic d)(a:Ln P w K d b):iG P w K d b Lh "line_of" L3 Y3 (LC K):=iK λg c e f=>by exact
 (ü (gy 2 (à 1)) (Ă (ã (gX c) (fH 2) fK) (oY fK (iF (gI (à 1) (ß fK (gf a (f7 (à 1)))))))) (ü (Ă (ã (gX c) (fH 2) fK) (oY fK (iF (gI (à 1) (gI fK (gI (à 1) (ß (à 1) (à 1)))))))) (Ă (ã (gX c) (fH 2) fK) (oY fK (gg iw (iF (gI (à 1) (gI fK (ß fK (iV (ă 0 (à 1)) fL))))) (kC wL À B.list_ vY (f7 (à 1)))))) (ü (Ă (ã (gX c) (fH 2) fK) (oY fK (iF (ß (fH 2) (gf a (f7 (à 1))))))) (Ă (ã (gX c) (fH 2) fK) (oY fK (iF (gI (fH 2) (ß (à 1) (gf a (f7 (à 1)))))))) (gc (iE (oY fK (iF (ß (fH 2) (à 1)))))))))
def kdl{P:f5}{w:fW}{K:a_}{c:Str->Option c_}{b:Heap}(B:ic c)(a:Lo P w K c b):iG P w K c b Fi "write" Fm kc2 (NO K):=iK λg f d e=>by exact
 (ü (gy 1 (iF nO)) (kX kg.never À (kS ú) (gU 2) (iM (me (oX ò (oY fK (gg iw (iF (ß fK (à 2))) (kC wL À B.list_ vY (f7 (à 2))))))) (gc (me (oH y4 PySem.F.slot_list_extend PySem.F.type_list_extend N6 ò (f7 (oa Fm Fi ["row"] [] (kS (à 2)) (gU 3) mQ (gf a (ß ú (fH 3)))))))))) (gc (iE (oY fK ò))))
def kdk{P:f5}{w:fW}{K:a_}{c:Str->Option c_}{a:Heap}(B:ic c) :iG P w K c a NF "reads" Oe kc1 (NN K):=iK λf b d e=>by exact
 (ü (gy 1 (à 0)) (Ă (ã (gX b) ò fK) (ij (ß (à 0) (à 0)))) (ü (Ă (ã (gX b) ò fK) (kC ri À B.tuple_ pM (f7 (à 0)))) (Ă (ã pO ò (ij (gI fK (ß fK fK)))) (ij (f7 (à 0)))) (gc (iE (ij nO)))))
def WW{P:f5}{w:fW}{K:a_}{d:Str->Option c_}{b:Heap}(B:ic d)(a:Ff P w K d b):iG P w K d b TU "names_read" TN WR (Uj K):=iK λg f c e=>by exact
 (ü (gy 1 FX) (kX kg.never À (kS ú) (gU 2) (gc (kX kg.never À (kS (gf a (ê 2))) (gU 3) (gc (pC oo (rF ò (fH 3) (Cy c))))))) (gc (iE (kC (kbf À) À B.list_ vY (ê 1)))))
def ke6{P:f5}{w:fW}{K:a_}{b:Str->Option c_}{a:Heap}(B:ic b) :iG P w K b a OA "sets" Pa keO (O6 K):=iK λf e c d=>by exact
 (iM (Ă (ã pO (à 0) (ij (gI fK (ß fK fK)))) (à 0)) (gc (iE tN)))
def OL{P:f5}{w:fW}{K:a_}{c:Str->Option c_}{a:Heap}(B:ic c) :iG P w K c a FE "goal" O' keM (F' K):=iK λf b d e=>by exact
 (ü (Ă (ã (gX b) (à 0) fK) (à 0)) (Ă (ã (gX b) (à 0) fK) (à 0)) (gc (iE tN)))
def kdj{P:f5}{w:fW}{K:a_}{d:Str->Option c_}{b:Heap}(B:ic d)(a:FJ P w K d b):iG P w K d b ND "leads" Od kc0 (NM K):=iK λg c e f=>by exact
 (ü (gy 2 (iV (ă 0 ò) fL)) (Ă (ã (gX c) (fH 2) fK) (ij nO)) (ü (Ă (ã (gX c) (fH 2) fK) (ij (f7 (gf a (f7 (ă 0 ò)))))) (Ă (ã (gX c) (fH 2) fK) (ij (ß (gg iw ò fL) (gf a (f7 (ă 0 ò)))))) (gc (iE (ij (f7 (gg iw ò fL)))))))
def kbk{P:f5}{w:fW}{K:a_}{e:Str->Option c_}{c:Heap}(B:ic e)(b:FL P w K e c)(a:Fe P w K e c):iG P w K e c Ks "walked" u5 kbP (MN K):=iK λh f d g=>by exact
 (ü (gy 2 (khr (kfR fL oo khu) À À Ò Ï)) (gy 3 (iF (f7 fL))) (iM (Ck kg.never (ã sY (hV B (ê 3)) fL) (iM (gy 4 (R' y4 PySem.F.slot_list_pop PySem.F.type_list_pop RP (fH 3))) (gc (oi (kc.pt (pE (ã RK ò tN) (rG (ã (rz f) (gf b (f7 (ă 0 (fH 4)))) ò)))) (kX kg.never À (kS (gf a (ß ú (fH 4)))) (gU 5) (gc (uE (ã (EL d) (fH 5) (fH 2)) (iM (pC oo (rF (fH 2) (fH 5) (Cy d))) (gc (me (oX (fH 3) (fH 5))))) yq))))))) (gc (iE (rj (kbg À) À B.sorted_ boot_sorted (ê 2))))))
def XE{P:f5}{w:fW}{K:a_}{e:Str->Option c_}{d:Heap}(B:ic e)(a:TQ P w K e d)(b:Me P w K e d)(c:Ff P w K e d):iG P w K e d Ip "unset_due" Iu XO (Ux K):=iK λi h f g=>by exact
 (ü (gy 1 (à 0)) (gy 2 (iF nO)) (iM (kX kg.never À (kS (gf a (ê 1))) (gU 3) (gc (oi (ã wM (fH 3) (à 0)) (me (oH y4 PySem.F.slot_list_extend PySem.F.type_list_extend N6 (fH 2) (f7 (oa Iu Ip ["n"] [] (kS (gf b (ß ò (fH 3)))) (gU 4) (yp (ã pO (fH 3) (gf c (f7 (ă 1 (fH 4)))))) (fH 4)))))))) (gc (iE (khs À À B.min_ (ê 2))))))
def Wa{P:f5}{w:fW}{K:a_}{b:Str->Option c_}{a:Heap}(B:ic b) :iG P w K b a HG "NoProgram.__init__" xY We (SR K):=iK λf e c d=>by exact
 (ü (CD ú ò À) (CD ú (fH 2) À) (gc (CD ú (fH 3) À)))
def kbj{P:f5}{w:fW}{K:a_}{c:Str->Option c_}{b:Heap}(B:ic c)(a:yN P w K c b "NoProgram" (iI K "NoProgram") Aa HE (Ab K)):xJ P w K c b L_ "refuse" Mm kbO (ML K):=Bi λg f e d=>by exact
 (gc (oi (ã Ri ò tN) (FZ IE d.hd (FY a (d.mono Ï) À Ï (gI ú (ß ò (fH 2)))))))
def Wo{P:f5}{w:fW}{K:a_}{d:Str->Option c_}{b:Heap}(B:ic d)(a:FJ P w K d b):iG P w K d b Tu "comes_round" Tx WD (TM K):=iK λg e c f=>by exact
 (ü (gy 2 FX) (gy 3 ò) (iM (Ck kg.never (kc.pt (lB (ã (gX e) (iV (ă 0 (fH 3)) fL) fK) (nK (ã (EL c) (fH 3) (fH 2))))) (iM (pC oo (rF (fH 2) (fH 3) (Cy c))) (gc (gy 3 (gf a (f7 (ă 0 (fH 3)))))))) (gc (iE (rA (lP (gX e) (fH 3) ò À) (rE (lP (ki1 c) ò (fH 2) À)))))))
def Yt{P:f5}{w:fW}{K:a_}{c:Str->Option c_}{b:Heap}(B:ic c)(a:Ts P w K c b):iG P w K c b KL "ring_due" KZ Yg (K' K):=iK λg f d e=>by exact
 (iM (kX kg.never À (pz À B.range_ (f7 (hV B (ê 0)))) (gU 1) (gc (Ă (mR (gf a (ß ú ò))) ò))) (gc (iE tN)))
def Wn{P:f5}{w:fW}{K:a_}{c:Str->Option c_}{a:Heap}(B:ic c) :iG P w K c a HP "calls_amiss" Tw WC (HS K):=iK λf b d e=>by exact
 (ü (Ă (ã (rz b) (à 1) fK) oo) (gy 2 (à 1)) (iM (Ă (kc.pt (pE (ã nQ (fH 2) fL) (rG (ã yR (fH 2) (hV B (ê 0)))))) oo) (gc (iE (lP (rz b) (hV B (f7 (à 1))) (hV B (f7 (iV (ă 0 (fH 2)) fL))) À)))))
def Wp{P:f5}{w:fW}{K:a_}{c:Str->Option c_}{b:Heap}(B:ic c)(a:Ox P w K c b):iG P w K c b Tv "goes_astray" Tz WE (To K):=iK λg f d e=>by exact
 (iM (gy 2 (gf a (ê 1))) (gc (iE (rA (lP Ri (fH 2) tN À) (rE (UK (lP nQ (fH 2) fL À) (rE (lP yR (fH 2) (hV B (ê 0)) À))))))))
def kak{P:f5}{w:fW}{K:a_}{d:Str->Option c_}{c:Heap}(B:ic d)(a:Tr P w K d c)(b:Tt P w K d c):iG P w K d c Li "row_due" L4 Y4 (LD K):=iK λh e f g=>by exact
 (ü (gy 2 (iV (ă 0 ò) fL)) (Ă (ã (gX e) (hV B (ê 2)) fL) fL) (ü (kX kg.never À (OJ À B.enumerate_ (ê 2)) (ux À (lV (gU 3) (lV (gU 4) sT))) (gc (Ă (kc.pt (pE (mR (gf b (ß (fH 2) (fH 4)))) (rG (mR (gf a (ß ú (fH 4))))))) (fH 3)))) (Ă (ã wM (iV (ă 2 (uD uy fL)) fL) (ij (ß fK fK))) (gg xj (hV B (ê 2)) fL)) (gc (iE tN))))
def Yr{P:f5}{w:fW}{K:a_}{b:Str->Option c_}{a:Heap}(B:ic b) :iG P w K b a IC "name_due" IB Ye (K9 K):=iK λf e c d=>by exact
 (ü (gy 2 (iV (ă 0 ò) fL)) (gy 3 (iV (ă 0 ò) fL)) (ü (Ă (ã pO (fH 2) (oa IB IC ["part"] [] (kS (lJ lX ú lQ (lz ò))) (gU 4) mQ (à 4))) fL) (Ă (ã nQ (N' À À B.len_ B.set_ À (ê 3)) (hV B (ê 3))) fL) (gc (iE tN))))
def kdi{P:f5}{w:fW}{K:a_}{g:Str->Option c_}{e:Heap}(B:ic g)(b:UG P w K g e)(a:Md P w K g e)(d:KH P w K g e)(f:Lp P w K g e)(c:KF P w K g e):xJ P w K g e NC "check" Oc kcZ (NL K):=Bi λk j h i=>by exact
 (gc (kX kg.leaving À (OJ À B.enumerate_ (ê 0)) (ux À (lV (gU 1) (lV (gU 2) sT))) (ü (me (vG a yf (gI ò (ß (gf c (ß ú ò)) fK)))) (me (vG a yf (gI ò (ß (gf f (ß ú ò)) fK)))) (iM (me (vG a yf (gI ò (ß (gf d (f7 (à 2))) fK)))) (gc (me (vG a yf (gI ò (ß (gf b (ê 2)) fK)))))))))
def Ys{P:f5}{w:fW}{K:a_}{c:Str->Option c_}{a:Heap}(B:ic c) :iG P w K c a KI "numbered" KY Yf (K_ K):=iK λf d b e=>by exact
 (iM (Ă (ã (gX d) (à 0) fK) (ij (gI fK (gI (à 0) (ß (khq b ò (à 0) (λ_ _=>À)) (à 0)))))) (gc (iE ú)))
def WX{P:f5}{w:fW}{K:a_}{c:Str->Option c_}{b:Heap}(B:ic c)(a:KG P w K c b):iG P w K c b HW "program_of" HY WS (Uk K):=iK λg d e f=>by exact
 (ü (gy 2 (iF nO)) (kX kg.never À (kS ú) (gU 3) (gc (uE (ã (gX d) (à 3) fK) (gc (me (oX (fH 2) (ij (gI (à 3) (ß (à 3) (iF nO))))))) (gc (me (oX (iV (ă 2 (uD uy fL)) fL) (gf a (ß (fH 3) ò)))))))) (gc (iE (kC ri À B.tuple_ pM (f7 (oa HY HW ["part"] [] (kS (fH 2)) (gU 4) mQ (ij (gI (à 4) (ß (à 4) (kC ri À B.tuple_ pM (f7 (à 4))))))))))))
def Xy{P:f5}{w:fW}{K:a_}{b:Str->Option c_}{a:Heap}(B:ic b) :iG P w K b a Il "NoLine.__init__" x6 XH (VC K):=iK λf e c d=>by exact
 (gc (CD ú ò À))
def Wb{P:f5}{w:fW}{K:a_}{d:Str->Option c_}{b:Heap}(B:ic d)(a:yN P w K d b "NoLine" (iI K "NoLine") x_ D6 (uU K)):xJ P w K d b Td "refuse_calls" Th Wf (SZ K):=Bi λg f c e=>by exact
 (gc (kX kg.leaving À (CC À B.enumerate_ (ê 0)) (ux À (lV (gU 2) (lV (gU 3) sT))) (gc (oi (kc.pt (lB (ã (gX f) (à 3) fK) (nK (ã (EL c) (à 3) ò)))) (FZ IE e.hd (FY a (e.mono Ï) À Ï (ê 2)))))))
def kio{P:f5}{w:fW}{K:a_}{c:Str->Option c_}{a:Heap}(B:ic c) :iG P w K c a Hi "numbers_of_parts" Hj kip (SG K):=iK λf d b e=>by exact
 (ü (uP Hj Hi ["line"] [] 1 (kS ú) (gU 5) (yp (ã (gX d) (à 5) fK)) (à 5)) (gy 2 FX) (iM (kX kg.never À (CC À B.enumerate_ (ê 1)) (ux À (lV (gU 3) (lV (gU 4) sT))) (gc (oi (ã (EL b) (fH 4) (fH 2)) (pC (fH 3) (rF (fH 2) (fH 4) (Cy b)))))) (gc (iE (fH 2)))))
def Wc{P:f5}{w:fW}{K:a_}{c:Str->Option c_}{b:Heap}(B:ic c)(a:yN P w K c b "NoLine" (iI K "NoLine") x_ D6 (uU K)):xJ P w K c b Te "refuse_forms" Ti Wg (S0 K):=Bi λg e f d=>by exact
 (gc (kX kg.leaving À (CC À B.enumerate_ (ê 0)) (ux À (lV (gU 1) (lV (gU 2) sT))) (gc (oi (kc.pt (pE (ã RK (fH 2) tN) (rG (kc.pt (lB (ã (gX e) ò fL) (nK (ã (rz e) (à 2) fK))))))) (FZ IE d.hd (FY a (d.mono Ï) À Ï (ê 1)))))))
def XB{P:f5}{w:fW}{K:a_}{c:Str->Option c_}{b:Heap}(B:ic c)(a:yH c "FIGURES" "0123456789"):iG P w K c b Io "is_number" Ir XM (Ur K):=iK λg d e f=>by exact
 (ü (Ă (kc.pt (pE (ã nQ (hV B (ê 0)) fL) (rG (ã sY (hV B (ê 0)) fL)))) oo) (Ă (kc.pt (lB (ã (gX d) (à 0) fK) (nK (ã (rz d) ú fK)))) oo) (gc (iE (rj (Ak À) À B.all_ Ay (f7 (oa Ir Io ["sign"] [] (CY ú) (gU 1) mQ (lP AN ò (Sa À a) À)))))))
def kai{P:f5}{w:fW}{K:a_}{d:Str->Option c_}{c:Heap}(B:ic d)(a:yH d "LETTERS" "abcdefghijklmnopqrstuvwxyz")(b:yI K d "WORDS" [Ä "part",Ä "call",Ä "say",Ä "jump",Ä "test",Ä "give"]):iG P w K d c Kd "is_name" I_ Y2 (LB K):=iK λh g e f=>by exact
 (iM (Ă (kc.pt (pE (ã nQ (hV B (ê 0)) fL) (pE (ã sY (hV B (ê 0)) fL) (rG (ã AN ú (Sb À b)))))) oo) (gc (iE (rj (Ak À) À B.all_ Ay (f7 (oa I_ Kd ["sign"] [] (CY ú) (gU 1) mQ (lP AN ò (Sa À a) À)))))))
def XA{P:f5}{w:fW}{K:a_}{c:Str->Option c_}{b:Heap}(B:ic c)(a:Em P w K c b):iG P w K c b Im "are_names" Iq XJ (VH K):=iK λg f d e=>by exact
 (gc (iE (rj (Ak À) À B.all_ Ay (f7 (oa Iq Im ["word"] [] (kS ú) (gU 1) mQ (gf a (ê 1)))))))
def Wd{P:f5}{w:fW}{K:a_}{f:Str->Option c_}{d:Heap}(B:ic f)(e:yI K f "SIGNS" [Ä "+",Ä "-",Ä "*",Ä "<",Ä "="])(a:Em P w K f d)(b:Ij P w K f d)(c:Ik P w K f d):iG P w K f d Tf "setting_read" Tj Wh (S_ K):=iK λj g h i=>by exact
 (ü (gy 1 (à 0)) (Ă (AQ (mR (gf a (ê 1)))) tN) (ü (Ă (kc.pt (lB (ã (gX g) (hV B (ê 0)) fL) (lB (mR (gf c (f7 (à 0)))) (nK (ã nQ (kC yk À B.int_ uq (f7 (à 0))) (gg v9 fL fL)))))) (ij (gI fK (ß ò (kC yk À B.int_ uq (f7 (à 0))))))) (Ă (kc.pt (lB (ã sY (hV B (ê 0)) fL) (lB (ã (gX g) (à 0) fK) (nK (mR (gf b (f7 (lJ lX ú (lz fL) lQ)))))))) (ij (gI fK (gI ò (ß (à 0) (kC ri À B.tuple_ pM (f7 (lJ lX ú (lz fL) lQ)))))))) (iM (Ă (kc.pt (lB (ã (gX g) (hV B (ê 0)) fL) (lB (ã AN (à 0) (Sb À e)) (lB (mR (gf a (f7 (à 0)))) (nK (mR (gf a (f7 (à 0))))))))) (ij (gI fK (gI ò (gI (à 0) (ß (à 0) (à 0))))))) (gc (iE tN)))))
def XC{P:f5}{w:fW}{K:a_}{g:Str->Option c_}{e:Heap}(B:ic g)(a:Ik P w K g e)(b:Em P w K g e)(d:Ij P w K g e)(c:Tc P w K g e):iG P w K g e Vw "line_read" VB XN (Us K):=iK λj f h i=>by exact
 (ü (gy 1 (oH pd pI sI sQ ú (f7 fK))) (Ă (kc.pt (lB (ã sY (hV B (ê 1)) fL) (nK (ã (gX f) (à 1) fK)))) (gf c (ê 1))) (ü (Ă (kc.pt (lB (ã (gX f) (à 1) fK) (lB (ã sY (hV B (ê 1)) fL) (nK (mR (gf d (f7 (lJ lX ò (lz fL) lQ)))))))) (ij (gI fK (ß (à 1) (kC ri À B.tuple_ pM (f7 (lJ lX ò (lz fL) lQ))))))) (Ă (kc.pt (lB (ã AN (à 1) (ij (ß fK fK))) (lB (ã (gX f) (hV B (ê 1)) fL) (nK (mR (gf b (f7 (à 1)))))))) (ij (ß (à 1) (à 1)))) (ü (Ă (kc.pt (lB (ã (gX f) (à 1) fK) (lB (ã (gX f) (hV B (ê 1)) fL) (nK (mR (gf a (f7 (à 1)))))))) (ij (ß fK (kC yk À B.int_ uq (f7 (à 1)))))) (Ă (kc.pt (lB (ã (gX f) (à 1) fK) (lB (ã (gX f) (hV B (ê 1)) fL) (lB (mR (gf b (f7 (à 1)))) (nK (mR (gf a (f7 (à 1))))))))) (ij (gI fK (ß (à 1) (kC yk À B.int_ uq (f7 (à 1))))))) (gc (iE tN)))))
def ke5{P:f5}{w:fW}{K:a_}{h:Str->Option c_}{e:Heap}(B:ic h)(g:Nv P w K h e)(d:TR P w K h e)(b:Ta P w K h e)(a:SA P w K h e)(c:Tb P w K h e)(f:Ue P w K h e):xJ P w K h e FF "read" FQ keN (O5 K):=Bi λl k i j=>by exact
 (ü (uP FQ FF ["line"] [] 1 (kS (oH pd pI sI sQ ú (f7 fK))) (gU 4) mQ (gf f (ê 4))) (me (vG c yf (ê 1))) (ü (gy 2 (gf a (ê 1))) (me (vG b yf (ß ò (fH 2)))) (ü (gy 3 (gf d (ß ò (fH 2)))) (me (vG g yf (ê 3))) (gc (iE (fH 3))))))
def kjl{P:f5}{w:fW}{K:a_}{c:Str->Option c_}{a:Heap}(B:ic c) :iG P w K c a RE "_law_read" R7 kjz (Sk K):=iK λf b d e=>by exact
 (ü (Ă (ã (gX b) (à 0) fK) (iF (ß (à 0) (à 0)))) (Ă (ã (gX b) (à 0) fK) (kC wL À B.list_ vY (f7 (à 0)))) (iM (Ă (ã pO (à 0) (ij (gI fK (ß fK fK)))) (iF (f7 (à 0)))) (gc (iE (iF nO)))))
def kjj{P:f5}{w:fW}{K:a_}{c:Str->Option c_}{a:Heap}(B:ic c) :iG P w K c a RD "_law_next" R6 kjx (Si K):=iK λf b d e=>by exact
 (ü (Ă (ã (gX b) (iV (ă 0 ò) fL) fK) (iF (f7 (iV (ă 0 ò) fL)))) (Ă (ã (gX b) (iV (ă 0 ò) fL) fK) (iF (ß (gg iw ò fL) (iV (ă 0 ò) fL)))) (iM (Ă (ã (gX b) (iV (ă 0 ò) fL) fK) (iF nO)) (gc (iE (iF (f7 (gg iw ò fL)))))))
def kdo{P:f5}{w:fW}{K:a_}{d:Str->Option c_}{b:Heap}(B:ic d)(a:RI P w K d b):iG P w K d b EF "_law_without" EN kc4 (NW K):=iK λg c e f=>by exact
 (ü (gy 3 (oa EN EF [] [5] (pz À B.range_ (f7 (hV B (ê 1)))) (gU 5) mQ (rA (lP (gX c) (fH 5) fL À) (rE (lP wM (fH 2) ú À))))) (uP EN EF [] [5] 4 (pz À B.range_ (f7 (hV B (ê 1)))) (gU 5) (yp (mR (ă 3 (fH 5)))) (fH 5)) (iM (Ck kg.never (ã (rz c) (fH 4) (iF nO)) (iM (gy 5 (R' y4 PySem.F.slot_list_pop PySem.F.type_list_pop RP (fH 4))) (gc (oi (kc.pt (pE (ã wM (iV (ă 1 (fH 5)) fL) (ij (gI fK (ß fK fK)))) (rG (ã (rz c) (iV (ă 1 (fH 5)) fL) (fH 2))))) (kX kg.never À (kS (gf a (ß ò (fH 5)))) (gU 6) (gc (uE (AQ (mR (ă 3 (fH 6)))) (iM (pC oo (rF (fH 3) (fH 6) uj)) (gc (me (oX (fH 4) (fH 6))))) yq))))))) (gc (iE (fH 3)))))
def kg9{P:f5}{w:fW}{K:a_}{d:Str->Option c_}{b:Heap}(B:ic d)(c:RA P w K d b)(a:Nz P w K d b):iG P w K d b PQ "_law_unset" Rr kgJ (Ra K):=iK λh g e f=>by exact
 (ü (gy 2 (iF nO)) (kX kg.never À (pz À B.range_ (f7 (hV B (ê 1)))) (gU 3) (gc (kX kg.never À (kS (gf c (f7 (ă 1 (fH 3))))) (gU 4) (gc (oi (mR (iV (gf a (gI ú (ß ò (fH 4)))) (fH 3))) (me (oX (fH 2) (fH 3)))))))) (gc (iE (fH 2))))
def kg8{P:f5}{w:fW}{K:a_}{c:Str->Option c_}{a:Heap}(B:ic c) :iG P w K c a PP "_law_round" Rq kgI (P' K):=iK λf b d e=>by exact
 (ü (Ă (ã (rz b) (iV (ă 0 ò) fL) fK) oo) (gy 2 (iV (ă 0 ò) fL)) (iM (kX kg.never À (kS ú) (gU 3) (gc (oi (kc.pt (lB (ã (rz b) (fH 2) ò) (nK (ã (gX b) (iV (ă 0 (fH 2)) fL) fK)))) (gy 2 (iV (ă 0 (fH 2)) fL))))) (gc (iE (lP (gX b) (fH 2) ò À)))))
def kdd{P:f5}{w:fW}{K:a_}{c:Str->Option c_}{a:Heap}(B:ic c) :iG P w K c a NA "_law_bad_row" Oa kcV (Og K):=iK λf b d e=>by exact
 (ü (gy 3 (ă 1 (fH 2))) (uE (ã (gX b) (à 3) fK) (iM (Ă (kc.pt (pE (ã nQ (à 3) fL) (rG (ã yR (à 3) (hV B (ê 0)))))) oo) (gc (iE (UK (lP (rz b) (hV B (f7 (à 3))) (hV B (f7 (iV (ă 0 (à 3)) fL))) À) (rE (lP (gX b) (fH 2) (gg xj (hV B (ê 1)) fL) À)))))) yq) (iM (Ă (kc.pt (lB (ã pO (à 3) (ij (ß fK fK))) (nK (kc.pt (pE (ã nQ (ă 3 (uD uy fL)) fL) (rG (ã yR (ă 3 (uD uy fL)) (hV B (ê 1))))))))) oo) (gc (iE (rA (lP (gX b) (fH 2) (gg xj (hV B (ê 1)) fL) À) (rE (lP wM (à 3) (ij (ß fK fK)) À)))))))
def kbl{P:f5}{w:fW}{K:a_}{e:Str->Option c_}{b:Heap}(B:ic e)(d:PJ P w K e b)(c:PH P w K e b)(a:Nr P w K e b):iG P w K e b Ew "_law_part_due" Et kbQ (MO K):=iK λi f g h=>by exact
 (ü (pC (ă 0 ò) (ux À (lV (gU 2) (lV (gU 3) (lV (gU 4) sT))))) (Ă (kc.pt (pE (ã pO (fH 2) (oa Et Ew ["_law_one"] [] (kS (lJ lX ú lQ (lz ò))) (gU 6) mQ (à 6))) (rG (ã nQ (N' À À B.len_ B.set_ À (ê 3)) (hV B (ê 3)))))) (iF (f7 (ij (ß fL fK))))) (ü (Ă (ã (gX f) (hV B (ê 4)) fL) (iF (f7 (ij (ß fL fK))))) (kX kg.never À (pz À B.range_ (f7 (hV B (ê 4)))) (gU 5) (gc (Ă (mR (gf a (gI ú (ß (fH 4) (fH 5))))) (iF (f7 (ij (ß (fH 5) fK))))))) (iM (kX kg.never À (pz À B.range_ (f7 (hV B (ê 4)))) (gU 5) (gc (Ă (mR (gf c (ß (fH 4) (fH 5)))) (iF (f7 (ij (ß (fH 5) fK))))))) (gc (iE (oa Et Ew [] [5] (kS (gf d (ß (fH 3) (fH 4)))) (gU 5) mQ (ij (ß (fH 5) fK))))))))
def kjE{P:f5}{w:fW}{K:a_}{c:Str->Option c_}{b:Heap}(B:ic c)(a:Mf P w K c b):iG P w K c b U2 "_law_due" UU kkt (UW K):=iK λg f e d=>by exact
 (iM (kX kg.never À (pz À B.range_ (f7 (hV B (ê 0)))) (gU 1) (iM (gy 2 (gf a (ß ú ò))) (gc (Ă (ã (RL (AW d)) (fH 2) (iF nO)) (ij (gI ò (ß (iV (à 2) fL) (iV (à 2) fL)))))))) (gc (iE (ij (gI (uD uy fL) (ß fL fK))))))
def kbm{P:f5}{w:fW}{K:a_}{c:Str->Option c_}{a:Heap}(B:ic c) :iG P w K c a Ma "_law_row_read" Mn kbR (MP K):=iK λf b d e=>by exact
 (ü (gy 2 (oH pd pI sI sQ ú (f7 fK))) (Ă (ã pO (à 2) (ij (ß fK fK))) (ij (ß (à 2) (à 2)))) (ü (Ă (ã pO (à 2) (ij (ß fK fK))) (gg iw (kC ri À B.tuple_ pM (f7 (lJ lX (fH 2) lQ (lz (uD uy fL))))) (ij (f7 (kC yk À B.int_ uq (f7 (ă 2 (uD uy fL)))))))) (Ă (ã (gX b) (à 2) fK) (ij (gI fK (gI (à 2) (ß (oH y4 PySem.F.slot_list_index PySem.F.type_list_index kgR ò (f7 (à 2))) (kC ri À B.tuple_ pM (f7 (lJ lX (fH 2) (lz fL) lQ)))))))) (iM (Ă (ã (gX b) (hV B (ê 2)) fL) (ij (gI fK (gI (à 2) (gI (à 2) (ß (à 2) (à 2))))))) (gc (iE (ij (gI fK (ß (à 2) (kC yk À B.int_ uq (f7 (à 2)))))))))))
def kal{P:f5}{w:fW}{K:a_}{c:Str->Option c_}{b:Heap}(B:ic c)(a:Mg P w K c b):iG P w K c b En "_law_read_here" Er Y5 (LJ K):=iK λg d e f=>by exact
 (ü (uP Er En [] [3] 1 (kS ú) (gU 3) (yp (ã (gX d) (iV (oH pd pI sI sQ (fH 3) (f7 fK)) fL) fK)) (iV (oH pd pI sI sQ (fH 3) (f7 fK)) fL)) (gy 2 (iF nO)) (iM (kX kg.never À (kS ú) (gU 3) (iM (gy 4 (oH pd pI sI sQ (fH 3) (f7 fK))) (gc (uE (ã (gX d) (à 4) fK) (gc (me (oX (fH 2) (iF (gI (à 4) (ß (kC ri À B.tuple_ pM (f7 (lJ lX (fH 4) (lz fL) lQ))) (iF nO))))))) (gc (me (oX (iV (ă 2 (uD uy fL)) fL) (gf a (ß (fH 3) ò))))))))) (gc (iE (kC ri À B.tuple_ pM (f7 (oa Er En ["_law_name","_law_params","_law_rows"] [] (kS (fH 2)) (Rl À (lV (gU 5) (lV (gU 6) (lV (gU 7) sT)))) mQ (ij (gI (fH 5) (ß (fH 6) (kC ri À B.tuple_ pM (ê 7))))))))))))
def kdf{P:f5}{w:fW}{K:a_}{b:Str->Option c_}{a:Heap}(B:ic b) :iG P w K b a Fg "_law_figures" Fk kcX (Oi K):=iK λf c d e=>by exact
 (iM (Ă (kc.pt (pE (AQ (kfS xi xi fL (hV B (ê 0)) fL)) (rG (kc.pt (lB (ã sY (hV B (ê 0)) fL) (nK (ã (gX c) (à 0) fK))))))) oo) (gc (iE (rj (Ak À) À B.all_ Ay (f7 (oa Fk Fg ["_law_sign"] [] (CY ú) (gU 1) mQ (FW xi xi fK ò fK)))))))
def kdh{P:f5}{w:fW}{K:a_}{b:Str->Option c_}{a:Heap}(B:ic b) :iG P w K b a Fh "_law_is_name" Fl kcY (Oj K):=iK λf e c d=>by exact
 (iM (Ă (ã pO ú (ij (gI fK (gI fK (gI fK (gI fK (ß fK fK))))))) oo) (gc (iE (rA (FW xi xi fL (hV B (ê 0)) fL) (rE (rj (Ak À) À B.all_ Ay (f7 (oa Fl Fh ["_law_sign"] [] (CY ú) (gU 1) mQ (FW xi xi fK ò fK)))))))))
def kag{P:f5}{w:fW}{K:a_}{c:Str->Option c_}{b:Heap}(B:ic c)(a:Fd P w K c b):iG P w K c b Kc "_law_names_all" Kg Y0 (Ly K):=iK λg f d e=>by exact
 (gc (iE (rj (Ak À) À B.all_ Ay (f7 (oa Kg Kc ["_law_word"] [] (kS ú) (gU 1) mQ (gf a (ê 1)))))))
def kaf{P:f5}{w:fW}{K:a_}{f:Str->Option c_}{d:Heap}(B:ic f)(b:Nu P w K f d)(a:Lm P w K f d)(c:Fd P w K f d):iG P w K f d Lf "_law_line_good" L0 YZ (Lx K):=iK λi e g h=>by exact
 (ü (Ă (ã (gX e) (à 0) fK) (rA (lP sY (hV B (ê 0)) fL À) (rE (gf a (f7 (lJ lX ú (lz fL) lQ)))))) (Ă (ã pO (à 0) (ij (ß fK fK))) (rA (lP (gX e) (hV B (ê 0)) fL À) (rE (gf c (f7 (à 0)))))) (ü (Ă (ã (gX e) (à 0) fK) (rA (lP (gX e) (hV B (ê 0)) fL À) (rE (gf b (f7 (à 0)))))) (Ă (ã (gX e) (à 0) fK) (rA (lP (gX e) (hV B (ê 0)) fL À) (rA (gf c (f7 (à 0))) (rE (gf b (f7 (à 0))))))) (ü (Ă (kc.pt (pE (ã nQ (hV B (ê 0)) fL) (pE (AQ (mR (gf c (f7 (à 0))))) (rG (ã (rz e) (à 0) fK))))) oo) (Ă (ã (gX e) (à 0) fK) (rA (lP sY (hV B (ê 0)) fL À) (rE (gf a (f7 (lJ lX ú (lz fL) lQ)))))) (iM (Ă (ã (gX e) (hV B (ê 0)) fL) (rA (gf a (f7 (iF (ß (à 0) (à 0))))) (rE (lP pO (à 0) (ij (gI fK (gI fK (gI fK (ß fK fK))))) À)))) (gc (iE (rA (lP (gX e) (hV B (ê 0)) fL À) (rA (gf b (f7 (à 0))) (rE (lP nQ (kC yk À B.int_ uq (f7 (à 0))) (gg v9 fL fL) À))))))))))
def kbi{P:f5}{w:fW}{K:a_}{d:Str->Option c_}{b:Heap}(B:ic d)(a:Ll P w K d b):iG P w K d b Kr "_law_bad_line" E5 kbN (Fc K):=iK λg c e f=>by exact
 (ü (uP E5 Kr ["_law_line"] [] 1 (kS ú) (gU 4) (yp (ã (gX c) (lJ CF (fH 4) lQ (lz fL)) fK)) (iV (oH pd pI sI sQ (fH 4) (f7 fK)) fL)) (kX kg.never À (pz À B.range_ (f7 (hV B (ê 0)))) (gU 2) (iM (gy 3 (oH pd pI sI sQ (ă 0 (fH 2)) (f7 fK))) (gc (Ă (kc.pt (pE (AQ (mR (gf a (ê 3)))) (rG (kc.pt (lB (ã (gX c) (fH 2) fL) (nK (ã (rz c) (à 3) fK))))))) (fH 2))))) (iM (kX kg.never À (pz À B.range_ (f7 (hV B (ê 0)))) (gU 2) (iM (gy 3 (oH pd pI sI sQ (ă 0 (fH 2)) (f7 fK))) (gc (Ă (kc.pt (lB (ã (gX c) (lJ CF (fH 3) (lz fL) (lz fL)) (iF (f7 fK))) (lB (ã (rz c) (à 3) fK) (nK (ã wM (à 3) ò))))) (fH 2))))) (gc (iE (uD uy fL)))))
def kaU{P:f5}{w:fW}{K:a_}{e:Str->Option c_}{c:Heap}(B:ic e)(d:UZ P w K e c)(a:Lq P w K e c)(b:Mc P w K e c):iG P w K e c Mb "_law_text_due" MT kbT (MR K):=iK λi h f g=>by exact
 (ü (gy 1 (gf b (ê 0))) (Ă (ã yR ò fL) (ij (ß fK ò))) (ü (gy 2 (gf a (ê 0))) (gy 3 (gg iw (ij (f7 fK)) (gf d (ê 2)))) (gc (iE (iV (iF (ß (fH 3) (ij (ß fK (fH 2))))) (kC EG À B.int_ uq (f7 (lP nQ (à 3) fL À))))))))
def kjm{P:f5}{w:fW}{K:a_}{e:Str->Option c_}{d:Heap}(B:ic e)(c:e "NoLine"=Á (Â (iI K "NoLine")))(a:e "NoProgram"=Á (Â (iI K "NoProgram")))(b:FK P w K e d):iG P w K e d RF "_law_told" RX kjA (Sl K):=iK λj m h l=>by exact
 (ü (gy 1 (ij (f7 fK))) (khw (i:=2) À À À À c À a j À À (λn k f g=>gc (gy 1 (ij (ß fK (vG b g (ê 0)))))) (λx=>gc (gy 1 (ij (ß fK (CS (fH 2) À))))) (λx=>gc (gy 1 (ij (gI fK (gI (CS (fH 2) À) (ß (CS (fH 2) À) (CS (fH 2) À)))))))) (gc (iE ò)))
def kaT{P:f5}{w:fW}{K:a_}{c:Str->Option c_}{a:Heap}(B:ic c) :iG P w K c a Kt "_law_row_text" E6 kbS (MQ K):=iK λf b d e=>by exact
 (ü (Ă (ã (gX b) (à 1) fK) (gg iw (gg iw (à 1) fK) (kC Ex À B.str_ boot_str (f7 (à 1))))) (Ă (ã (gX b) (à 1) fK) (gg iw (gg iw (gg iw (gg iw (gg iw (gg iw (à 1) fK) (à 1)) fK) (à 1)) fK) (à 1))) (iM (Ă (ã (gX b) (à 1) fK) (oY fK (gg iw (iF (gI (à 1) (gI fK (ß fK (iV (ă 0 (à 1)) fL))))) (kC wL À B.list_ vY (f7 (à 1)))))) (gc (iE (oY fK (oa E6 Kt ["_law_thing"] [] (kS ò) (gU 2) mQ (kC Ex À B.str_ boot_str (ê 2))))))))
def kg5{P:f5}{w:fW}{K:a_}{c:Str->Option c_}{b:Heap}(B:ic c)(a:Mh P w K c b):iG P w K c b PN "_law_lines" Ro kgG (P9 K):=iK λg f d e=>by exact
 (ü (gy 1 (iF nO)) (kX kg.never À (kS ú) (ux À (lV (gU 2) (lV (gU 3) (lV (gU 4) sT)))) (iM (me (oX ò (oY fK (gg iw (iF (ß fK (fH 2))) (kC wL À B.list_ vY (ê 3)))))) (gc (kX kg.never À (kS (fH 4)) (gU 5) (gc (me (oX ò (gf a (ß ú (fH 5)))))))))) (gc (iE ò)))
def kji{P:f5}{w:fW}{K:a_}{c:Str->Option c_}{a:Heap}(B:ic c) :iG P w K c a RC "_law_draw" R5 kjw (Sh K):=iK λf b d e=>by exact
 (ü (pC (lJ lX ú lQ (lz fL)) (Rl À (lV (gU 2) (lV (gU 3) sT)))) (pC (gg iw (fH 3) fL) (rF ú fL uj)) (ü (uE (kc.pt (lB (ã nQ (gg iw (gg Gh (fH 3) fL) fL) (hV B (ê 2))) (nK (ã (gX b) (gg se (à 2) fL) fL)))) (iM (oi (ã (gX b) (gg se (fH 3) fL) fL) (pC (ă 2 (gg iw (gg Gh (fH 3) fL) fL)) (rF ú fL uj))) (gc (uE (ã wM (à 0) (ij (ß fL (uD uy fL)))) (iM (pC (rj Yn À B.divmod_ boot_divmod (ß (à 0) ò)) (ux À (lV (rF ú fL uj) (lV (gU 4) sT)))) (gc (iE (fH 4)))) yq))) (gc (Ă (ã nQ (fH 3) (hV B (ê 2))) (gg se (ă 2 (fH 3)) ò)))) (gy 5 (gg iw (gg ui (fH 3) fL) fL)) (ü (oi (ã sY (hV B (ê 2)) fL) (gy 5 (gg iw (fH 5) (gg ui (ă 2 (gg se (gg ui (fH 3) fL) (hV B (ê 2)))) (gg iw fL (fH 3)))))) (gy 5 (gg se (gg ui (gg se (fH 5) fL) (gg iw (fH 3) fL)) fL)) (iM (gy 5 (gg se (gg ui (fH 5) (fH 5)) fL)) (gc (iE (gg se (gg se (gg ui (fH 5) (fH 5)) fL) ò)))))))
def XG{P:f5}{w:fW}{K:a_}{c:Str->Option c_}{b:Heap}(B:ic c)(a:ur P w K c b):iG P w K c b D9 "_law_word_spoilt" D_ XP (Ig K):=iK λg f d e=>by exact
 (ü (gy 2 (gg iw (oa D_ D9 ["_law_sign"] [] (kS (iF (gI fK (gI fK (ß fK fK))))) (gU 3) mQ (gg iw ò (fH 3))) (oa D_ D9 ["_law_sign"] [] (kS (iF (gI fK (gI fK (ß fK fK))))) (gU 3) mQ (gg iw (fH 3) ò)))) (gy 2 (gg iw (fH 2) (iF (gI fK (gI fK (gI (gg kgr fK fL) (ß fK fK))))))) (gc (iE (iV (gg iw (fH 2) (oH pd pI sI sQ fK (f7 fK))) (gf a (ß ú fL))))))
def Xz{P:f5}{w:fW}{K:a_}{d:Str->Option c_}{c:Heap}(B:ic d)(b:ur P w K d c)(a:Va P w K d c):iG P w K d c Vg "_law_line_spoilt" VA XI (VG K):=iK λh g e f=>by exact
 (ü (gy 2 (oH pd pI sI sQ ò (f7 fK))) (gy 3 (gf b (ß ú (hV B (ê 2))))) (ü (gy 4 (iF (kfP (khS R_ (GJ 1)) (kjU (GJ 1) R_.le) (khX (GJ 1)) (gI fK (ß (gg iw ò fK) (oY fK (lJ lX (fH 2) lQ (lz (uD uy fL))))))))) (me (oX (fH 4) (oY fK (gg iw (gg iw (lJ lX (fH 2) lQ (lz (fH 3))) (iF (f7 (gf a (ß ú (ă 2 (fH 3))))))) (lJ lX (fH 2) (lz (gg iw (fH 3) fL)) lQ))))) (ü (me (oX (fH 4) (oY fK (gg iw (gg iw (lJ lX (fH 2) lQ (lz (fH 3))) (iF (f7 (gf a (ß ú (ă 2 (fH 3))))))) (lJ lX (fH 2) (lz (gg iw (fH 3) fL)) lQ))))) (gy 4 (gg iw (fH 4) (iF (gI fK (gI fK (gI fK (gI fK (gI fK (ß fK fK))))))))) (gc (iE (ă 4 (gf b (ß ú fL))))))))
def kde{P:f5}{w:fW}{K:a_}{c:Str->Option c_}{b:Heap}(B:ic c)(a:ur P w K c b):iG P w K c b NB "_law_changed" Ob kcW (Oh K):=iK λg f d e=>by exact
 (ü (gy 2 (gf a (ß ú (hV B (ê 1))))) (gy 3 (oH pd pI sI sQ (ă 1 (fH 2)) (f7 fK))) (ü (gy 4 (gg iw (oH pd pI sI sQ (ă 1 (gf a (ß ú (hV B (ê 1))))) (f7 fK)) (iF (gI fK (gI fK (ß fK fK)))))) (pC (ă 4 (gf a (ß ú (hV B (ê 4))))) (rF (fH 3) (gf a (ß ú (hV B (ê 3)))) uj)) (gc (iE (gg iw (gg iw (lJ lX ò lQ (lz (fH 2))) (iF (f7 (oY fK (fH 3))))) (lJ lX ò (lz (gg iw (fH 2) fL)) lQ))))))
def ke3{P:f5}{w:fW}{K:a_}{c:Str->Option c_}{b:Heap}(B:ic c)(a:ur P w K c b):iG P w K c b FM "_law_filled" FP keK (OX K):=iK λg d e f=>by exact
 (ü (gy 3 (iF nO)) (kX kg.never À (CC À B.enumerate_ (ê 1)) (ux À (lV (gU 4) (lV (gU 5) sT))) (ü (gy 6 (iF nO)) (kX kg.never À (kS (lJ lX (fH 5) (lz fL) lQ)) (gU 7) (iM (uE (ã (gX d) (fH 7) fK) (gc (gy 7 (iV (ă 2 (fH 4)) (gf a (ß ú (hV B (f7 (ă 2 (fH 4))))))))) (gc (oi (mR (rj kd5 À B.isinstance_ boot_isinstance (ß (fH 7) (kh8 À B.tuple_ pM (v:=.ty "tuple") À)))) (gy 7 (kC ri À B.tuple_ pM (f7 (oa FP FM ["_law_one"] [] (kS (fH 7)) (gU 8) mQ (iV (ă 2 (fH 4)) (gf a (ß ú (hV B (f7 (ă 2 (fH 4)))))))))))))) (gc (me (oX (fH 6) (fH 7)))))) (gc (me (oX (fH 3) (gg iw (ij (f7 (à 5))) (kC ri À B.tuple_ pM (ê 6)))))))) (gc (iE (kC ri À B.tuple_ pM (ê 3)))))
def kg4{P:f5}{w:fW}{K:a_}{c:Str->Option c_}{a:Heap}(B:ic c) :iG P w K c a PM "_law_leads" Rn kgF (P8 K):=iK λf b d e=>by exact
 (ü (Ă (ã (gX b) (iV (ă 0 ò) fL) fK) (iF (f7 (iV (ă 0 ò) fL)))) (Ă (ã (gX b) (iV (ă 0 ò) fL) fK) (iF (ß (gg iw ò fL) (iV (ă 0 ò) fL)))) (iM (Ă (ã (gX b) (iV (ă 0 ò) fL) fK) (iF nO)) (gc (iE (iF (f7 (gg iw ò fL)))))))
def kan{P:f5}{w:fW}{K:a_}{c:Str->Option c_}{b:Heap}(B:ic c)(a:Pz P w K c b):iG P w K c b Eo "_law_set_names" Es Y7 (LL K):=iK λg f d e=>by exact
 (ü (uP Es Eo ["_law_row"] [] 3 (kS ú) (gU 9) mQ (kC wL À B.list_ vY (ê 1))) (pC (kC wL À B.list_ vY (ê 2)) (rF (fH 3) fL uj)) (ü (gy 4 oo) (Ck kg.never (mR (fH 4)) (iM (gy 4 oo) (gc (kX kg.never À (pz À B.range_ (f7 (hV B (ê 0)))) (gU 5) (ü (gy 6 (ă 3 (fH 5))) (oi (ã pO (iV (ă 0 (fH 5)) fL) (ij (gI fK (ß fK fK)))) (gy 6 (gg iw (fH 6) (iF (f7 (iV (ă 0 (fH 5)) fL)))))) (gc (kX kg.never À (kS (gf a (ß ú (fH 5)))) (gU 7) (iM (uP Es Eo ["_law_name"] [] 8 (kS (ă 3 (fH 7))) (gU 9) (yp (ã pO (fH 9) (fH 6))) (fH 9)) (gc (uE (ã nQ (hV B (ê 8)) (hV B (f7 (ă 3 (fH 7))))) (iM (pC (fH 8) (rF (fH 3) (fH 7) uj)) (gc (gy 4 oo))) yq)))))))))) (gc (iE (fH 3)))))
def ke4{P:f5}{w:fW}{K:a_}{c:Str->Option c_}{a:Heap}(B:ic c) :iG P w K c a Oz "_law_mended" O_ keL (O4 K):=iK λf b d e=>by exact
 (ü (gy 3 (gg xj (hV B (ê 0)) fL)) (oi (ã wM (iV (ă 0 (fH 3)) fL) (ij (ß fK fK))) (pC (ij (ß fK fK)) (rF ú (fH 3) uj))) (ü (oi (kc.pt (lB (mR (fH 2)) (lB (ã (rz b) (iV (à 0) fL) fK) (nK (ã sY (fH 3) fL))))) (pC (ij (gI fK (ß (à 1) fL))) (rF ú fL uj))) (kX kg.never À (pz À B.range_ (f7 (hV B (ê 0)))) (gU 4) (ü (gy 5 (fH 4)) (kX kg.never À (kS ú) (gU 6) (gc (oi (ã (gX b) (iV (ă 0 (fH 5)) fL) fK) (gy 5 (iV (ă 0 (fH 5)) fL))))) (gc (oi (ã (gX b) (iV (ă 0 (fH 5)) fL) fK) (pC (iV (iF (ß (ij (ß fK fK)) (ij (ß fK fK)))) (kC EG À B.int_ uq (f7 (lP (gX b) (fH 4) (fH 3) À)))) (rF ú (fH 4) uj)))))) (gc (iE ú))))
def kha{P:f5}{w:fW}{K:a_}{c:Str->Option c_}{b:Heap}(B:ic c)(a:ur P w K c b):iG P w K c b PR "_law_worth" Rt kgK (Rb K):=iK λg d e f=>by exact
 (iM (Ă (ã (gX d) (gf a (ß ú fL)) fL) (gg iw (gg ui (gf a (ß ú (gg v9 fL fL))) (gg v9 fL fL)) (gf a (ß ú (gg v9 fL fL))))) (gc (iE (iV (iF (gI fL (gI fL (ß (gg xj (gg xj (gg v9 fL fL) fL) (gf a (ß ú fL))) (gf a (ß ú fL)))))) (gf a (ß ú fL))))))
def kam{P:f5}{w:fW}{K:a_}{d:Str->Option c_}{b:Heap}(B:ic d)(a:ur P w K d b)(c:PL P w K d b):iG P w K d b Lj "_law_rough_row" L5 Y6 (LK K):=iK λh e f g=>by exact
 (ü (gy 4 (ă 1 (gf a (ß ú (hV B (ê 1)))))) (gy 5 (gf a (ß ú fL))) (ü (Ă (ã nQ (fH 5) fL) (ij (gI fK (ß (fH 4) (gf c (ê 0)))))) (Ă (ã nQ (fH 5) fL) (ij (gI fK (gI (fH 4) (gI (iV fK (gf a (ß ú fL))) (ß fK fK)))))) (ü (uE (ã (gX e) (fH 5) fL) (iM (gy 6 (gf a (ß ú (hV B (ê 3))))) (gc (iE (ij (gI fK (gI (fH 4) (ß (fH 6) (gg ui (ij (f7 fK)) (ă 3 (fH 6)))))))))) yq) (Ă (ã nQ (fH 5) fL) (ij (ß fK fK))) (iM (Ă (ã nQ (fH 5) fL) (ij (gI fK (ß fK (gf a (ß ú (fH 2))))))) (gc (iE (iV (iF (ß (ij (ß fK (gf a (ß ú (fH 2))))) (ij (ß fK fK)))) (gg xj (fH 5) fL))))))))
def kjk{P:f5}{w:fW}{K:a_}{g:Str->Option c_}{a:Heap}(B:ic g)(d:OC P w K g a)(c:Ls P w K g a)(e:Ow P w K g a)(b:Lr P w K g a)(f:ur P w K g a):iG P w K g a GF "_law_part" GG kjy (Sj K):=iK λk h i j=>by exact
 (ü (gy 6 (rj (kc8 À) À B.max_ boot_max (ß (gg iw fL (kC EG À B.int_ uq (f7 (lP (gX h) (hV B (ê 3)) fL À)))) (gg iw fL (gf f (ß ú (fH 5))))))) (uP GG GF ["_law_n"] [] 7 (pz À B.range_ (ê 6)) (gU 9) mQ (gf b (gI ú (gI (fH 2) (ß (fH 6) (fH 4)))))) (ü (gy 7 (gf e (gI (fH 7) (ß (fH 2) (lP (gX h) (hV B (ê 3)) fL À))))) (gy 8 (gf c (gI (fH 7) (ß (fH 2) (fH 3))))) (gc (iE (ij (gI ò (ß (kC ri À B.tuple_ pM (ê 3)) (gf d (gI ú (ß (fH 7) (fH 8)))))))))))
def kg6{P:f5}{w:fW}{K:a_}{c:Str->Option c_}{b:Heap}(B:ic c)(a:ur P w K c b):iG P w K c b Ga "_law_names" Gn kgH (P_ K):=iK λg d e f=>by exact
 (ü (gy 2 fK) (gy 3 (gg iw fL (gf a (ß ú fL)))) (ü (gy 4 (gf a (ß ú (fH 3)))) (gy 5 (gf a (ß ú fL))) (ü (uP Gn Ga ["_law_j"] [] 6 (pz À B.range_ (ê 3)) (gU 11) mQ (ă 2 (gg se (gg iw (fH 5) (gg ui (gg ui fL (fH 11)) (gf a (ß ú fL)))) fL))) (gy 7 (iF nO)) (iM (kX kg.never À (pz À B.range_ (ê 1)) (gU 8) (ü (gy 9 (gg iw (gg iw (lJ lX (fH 6) lQ (lz (fH 4))) (iF (f7 (ă 2 (gg se (gg iw (fH 5) (gg ui fL (fH 8))) fL))))) (lJ lX (fH 6) (lz (gg iw (fH 4) fL)) lQ))) (gy 10 (oY fK (fH 9))) (iM (oi (kc.pt (pE (ã pO (fH 10) (ij (gI fK (gI fK (gI fK (gI fK (ß fK fK))))))) (rG (kc.pt (lB (ã nQ (fH 3) fL) (nK (ã (gX d) (gg se (gg iw (fH 3) (fH 8)) fL) fL))))))) (gy 10 (gg iw (fH 10) fK))) (gc (me (oX (fH 7) (fH 10))))))) (gc (iE (fH 7)))))))
def kdm{P:f5}{w:fW}{K:a_}{d:Str->Option c_}{c:Heap}(B:ic d)(c_part:Rz P w K d c)(a:ur P w K d c)(b:PF P w K d c):iG P w K d c Fj "_law_program" Fo kc3 (NP K):=iK λh e f g=>by exact
 (ü (gy 2 (kC EG À B.int_ uq (f7 (lP (gX e) (gg se (gg Gh (rj (Yp À) À B.sum_ boot_sum (f7 (lJ lX (à 0) lQ (lz fL)))) fL) fL) fL À)))) (gy 3 (lJ lX (gf b (ß ú fL)) lQ (lz (iV (iF (ß (gg iw fL (gf a (ß ú fL))) fL)) (fH 2))))) (ü (gy 4 (gf b (ß ú (gg iw fL (gf a (ß ú fL)))))) (uP Fo Fj [] [7] 5 (kS (fH 3)) (gU 7) mQ (gf a (ß ú (gg iw (rj (kda À) À B.min_ boot_min (ß fL (hV B (ê 4)))) fL)))) (ü (gy 6 (iF nO)) (kX kg.never À (Sd À B.zip_ (ß (fH 3) (fH 5))) (ux À (lV (gU 7) (lV (gU 8) sT))) (ü (gy 9 (gf a (ß ú (hV B (ê 4))))) (gy 10 (lJ lX (gg iw (lJ lX (fH 4) (lz (fH 9)) lQ) (lJ lX (fH 4) lQ (lz (fH 9)))) lQ (lz (fH 8)))) (gc (me (oX (fH 6) (gf c_part (gI ú (gI (fH 7) (gI (fH 4) (gI (fH 10) (ß (fH 5) ò))))))))))) (gc (iE (kC ri À B.tuple_ pM (ê 6)))))))
def kjF{P:f5}{w:fW}{K:a_}{j:Str->Option c_}{a:Heap}(B:ic j)(c:Nw P w K j a)(i:FK P w K j a)(f:Mi P w K j a)(k:RB P w K j a)(e:PD P w K j a)(b:Ud P w K j a)(d:ur P w K j a)(g:Nt P w K j a)(h:Ny P w K j a):iG P w K j a Df "law" Dp U_ (UX K):=iK λo n m l=>by exact
 (ü (gy 1 (iF (gI ú (ß fL fL)))) (gy 2 (gf d (ß ò fL))) (ü (gy 3 (gf d (ß ò fL))) (gy 4 (gf h (ß ò fL))) (ü (gy 5 (gf e (ê 4))) (kX kg.never À (pz À B.range_ (ê 2)) (gU 6) (gc (gy 5 (gf g (ß ò (fH 5)))))) (ü (gy 7 (kC wL À B.list_ vY (ê 5))) (kX kg.never À (pz À B.range_ (ê 3)) (gU 6) (iM (gy 8 (gf d (ß ò (hV B (ê 5))))) (gc (pC (gf b (ß ò (ă 7 (fH 8)))) (rF (fH 5) (fH 8) uj))))) (ü (gy 9 (gg iw (oa Dp Df ["_law_k"] [] (pz À B.range_ (f7 (hV B (ê 5)))) (gU 12) (yp (ã (GN (AW l)) (lJ CF (ă 5 (fH 12)) lQ (lz fL)) fK)) (fH 12)) (iF (f7 (hV B (ê 5)))))) (oi (kc.pt (pE (ã sY (hV B (ê 9)) fL) (rG (ã sY (rj (kc9 À) À B.max_ boot_max (f7 (gg iw (oa Dp Df ["_law_a","_law_b"] [] (Sd À B.zip_ (ß (fH 9) (lJ CF (fH 9) (lz fL) lQ))) (ux À (lV (gU 12) (lV (gU 13) sT))) mQ (gg xj (fH 13) (fH 12))) (iF (f7 fL))))) fL)))) (gy 5 (gf e (ê 4)))) (ü (gy 10 (oY fK (fH 5))) (gy 11 (gf k (ê 10))) (iM (Ă (kc.pt (lB (ã (GN (AW l)) (à 11) fK) (nK (ã (RL (AW l)) (gf c (f7 (à 11))) (fH 10))))) oo) (gc (iE (rA (lP (kiX (kjp l)) (fH 11) (gf f (ê 5)) À) (rE (lP (GN (AW l)) (vG i ki9 (f7 (gf c (ê 4)))) (fH 4) À))))))))))))
end Bg
namespace Bg
open PySem L2
def LZ{K:a_}{st e:d_}{m:Int}{k:Nat}{b:List Int}{c:Int}{H f:b_}{Q:fS}{n C:Option V}{nx:fO->b_->Prop}(L:k<=1000000)(l:0<m)
  (q:∀(d:Int) (H':b_),0<=d->d<m->iR K H' st (k+1)->hI st H H'->Q (Ë d) H') (s:f st=Ð [Â e,Ë ((k:Int)+1),Ë c]) (a:sg K f e b) (g:b.length<=63) (r:hI st H f) :
  CB K {nx:=nx,rt:=Q} [Å st,iX m,Å e,gm k,n,C] f:=by
 have p:(((k+1:Nat):Nat):Int)=(k:Int)+1:=Ã
 have o:iR K f st (k+1):=⟨e,b,c,by rw[p];exact s,a,g⟩;refine Ú (È ⟨_,_,À,À,Í (Æ Ï Ï),È (Õ _ _ À ?_)⟩);have rest:∀z:Int,Pe K {nx:=nx,rt:=Q} [Å st,iX m,Å e,gm k,n,iX z] f:=λz=>by
  have D:0<=z % 2147483629:=ug _ Ï;have E:z % 2147483629<2147483629:=vM _ Ï;refine⟨_,À,_,_,À,À,(by show(0:Int)<2147483629;decide),_,À,È (Õ _ _ À (È ⟨_,_,À,À,È (Æ Ã Ã),_,_,À,À,(by show(0:Int)<2147483629;decide),?_⟩))⟩;generalize i:z % 2147483629*((k:Int)+3) % 2147483629=y;have hY:0<=y:=by rw[<-i];exact ug _ Ï
  have G:y<2147483629:=by rw[<-i];exact vM _ Ï
  refine Õ _ À _ (È ⟨_,_,À,À,È (Æ Ã Ã),_,_,À,À,(by show(0:Int)<2147483587;decide),?_⟩);generalize h:y*y % 2147483587=x;have I:0<=x:=by rw[<-h];exact ug _ Ï
  have J:x<2147483587:=by rw[<-h];exact vM _ Ï
  refine Õ _ À _ (È ⟨_,_,À,À,È (Æ Ã Ã),_,_,À,À,(by show(0:Int)<1999999973;decide),_,À,_,_,À,À,l,?_⟩);exact q _ f (ug _ Ã) (vM _ l) o r
 refine⟨_,À,_,_,À,È (Î _ a.sq À),_,_,À,À,_,À,gz (λt=>?_) (λ_=>rest _)⟩;rw[fP] at t;have u:0<b.length:=Ã
 refine⟨_,À,_,À,_,À,È ⟨_,_,À,À,Í (Æ Ï Ï),_,À,_,_,À,È (Î _ a.sq À),_,_,À,À,(by rw[fP];lia),?_⟩⟩;have j:0<=(k:Int)*7 % (Ô (b.map V.int):Nat):=ug _ (by rw[fP];lia);have w:(k:Int)*7 % (Ô (b.map V.int):Nat)<(Ô (b.map V.int):Nat):=vM _ (by rw[fP];lia);rw[fP] at j w;have B:((k:Int)*7 % (b.length:Nat)).toNat<b.length:=Ã
 refine ke a.sq (by rw[fP];exact j) (v:=Ë b[((k:Int)*7 % (b.length:Nat)).toNat]) (by simp only[fP];rw[i3,gF B];rfl) ?_;exact Ú (È (Õ _ _ À (È ⟨_,_,À,À,Í (Æ Ã Ã),È (Õ _ _ À (rest _))⟩)))
def kj6{K:a_}{vs:List V}{H:b_}{Q:fS}{E:f_}(h:kQ K vs H Q E):Sh K {nx:=λ_ H'=>Q .non H',rt:=Q} (gW RC vs) H:=by
 obtain⟨b,m,k,rfl,S,U,u,m1,q⟩:=h;obtain⟨a,d,c,j,B,i⟩:=S;refine⟨_,rfl,_,rfl,.inl ⟨b,_,rfl,hH.of j,λp X=>?_⟩⟩;refine⟨p,_,rfl,hH.of fG,rfl,_,_,rfl,_,_,rfl,rfl,?_⟩;have np:b≠p:=f6 j X;have I:hI b H (upd H p (.lst (nX [V.ref a,V.int (k:Nat),V.int c] none (some 2)))):=(hI.refl b H).new X;have L:(upd H p (.lst (nX [V.ref a,V.int (k:Nat),V.int c] none (some 2)))) b=some (.lst [.ref a,.int (k:Nat),.int c]):=by rw[fM np];exact j
 have Z:sg K (upd H p (.lst (nX [V.ref a,V.int (k:Nat),V.int c] none (some 2)))) a d:=B.mono (.of_but I j);generalize upd H p (.lst (nX [V.ref a,V.int (k:Nat),V.int c] none (some 2)))=x at I L Z ⊢;refine⟨_,rfl,.inl ⟨_,_,rfl,rfl,_,rfl,uH L (by decide) (by show 1<3;decide) ?_⟩⟩;have w:hI b H (upd x b (.lst [.ref a,.int ((k:Int)+1),.int c])):=I.trans .upd_at;have s:(upd x b (.lst [.ref a,.int ((k:Int)+1),.int c])) b=some (.lst [.ref a,.int ((k:Int)+1),.int c]):=fG;have g:sg K (upd x b (.lst [.ref a,.int ((k:Int)+1),.int c])) a d:=Z.mono (.of_but .upd_at L);show OW K _ [kO b,iX m,kO a,gm k,none,none] (upd x b (.lst [.ref a,.int ((k:Int)+1),.int c]));generalize upd x b (.lst [.ref a,.int ((k:Int)+1),.int c])=D at w s g ⊢;have C:=@LZ K b a m k d c H D Q none none (λ_ H'=>Q .non H') U u q s g i w;have y:∀(f:Int) (e:b_),e b=some (.lst [.ref a,.int ((k:Int)+1),.int f])->sg K e a d->hI b H e->
   Pf K {nx:=CB K {nx:=λ_ H'=>Q .non H',rt:=Q},rt:=Q} [kO b,iX m,kO a,gm k,none,none] e:=λf e M s3 B3=>by
  refine⟨_,rfl,ke (hH.of M) (by decide) rfl ?_⟩;refine⟨_,rfl,ka,λt P=>⟨t,_,rfl,.inr (fR.of fG),rfl,rfl,_,rfl,?_⟩⟩;have n3:b≠t:=f6 M P;have T:hI b H (upd e t (.tup [.int 0,.int (-1)])):=B3.new P;have z:(upd e t (.tup [.int 0,.int (-1)])) b=some (.lst [.ref a,.int ((k:Int)+1),.int f]):=by rw[fM n3];exact M
  have s4:sg K (upd e t (.tup [.int 0,.int (-1)])) a d:=s3.mono (.of_same ((gJ.refl e).new P));refine mD (λ_=>?_) (λ_=>?_)
  .-- _law_state[2],_law_digit=divmod(_law_state[2],_law_many)
   refine⟨_,rfl,.inl ⟨b,_,_,_,rfl,rfl,hH.of z,C5 (by decide) rfl,_,rfl,_,_,rfl,⟨u,m1⟩,λG r=>?_⟩⟩;have Y:b≠G:=f6 z r;refine⟨G,_,rfl,fR.of fG,rfl,_,_,rfl,_,rfl,uH (by rw[fM Y];exact z) (by decide) (by show 2<3;decide) ?_⟩;refine⟨_,_,rfl,rfl,_,rfl,?_⟩;have B5:=(T.new (o:=.tup [.int (f / m),.int (f % m)]) r);have s5:sg K (upd (upd e t (.tup [.int 0,.int (-1)])) G (.tup [.int (f / m),.int (f % m)])) a d:=s4.mono (.of_same ((gJ.refl _).new r));have h5:(upd (upd e t (.tup [.int 0,.int (-1)])) G (.tup [.int (f / m),.int (f % m)])) b=some (.lst [.ref a,.int ((k:Int)+1),.int f]):=by rw[fM Y];exact z
   refine q _ _ (ug _ (by lia)) (vM _ u) ⟨a,d,f / m,?_,s5.mono (.of_but .upd_at h5),i⟩ (B5.trans .upd_at);have J:(((k+1:Nat):Nat):Int)=(k:Int)+1:=by lia
   rw[fG,J];rfl
  .exact LZ U u q z s4 i T
 have J:(((k+1:Nat):Nat):Int)=(k:Int)+1:=by lia
 have l:lI (iY (fV ni (fI 3) (iO (gV K) (fX (fI 2) lN)))) (fZ (fV rJ (fV (sG K) (fI 2) (fI 3)) (fI 1))) gk
   {nx:=CB K {nx:=λ_ H'=>Q V.non H',rt:=Q},rt:=Q} [some (V.ref b),some (V.int m),some (V.ref a),some (V.int (k:Nat)),none,none] D:=by
  refine⟨_,rfl,_,rfl,_,_,rfl,.inl ⟨_,g.sq,rfl⟩,_,_,rfl,rfl,_,rfl,gz (λn=>?_) (λ_=>C)⟩;rw[fP] at n;have R:((k:Nat):Int).toNat<d.length:=by lia
  refine⟨_,rfl,_,rfl,ke g.sq (by lia) (v:=.int d[((k:Nat):Int).toNat]) (by rw[i3,gF R];rfl) ?_⟩;refine⟨_,rfl,_,_,rfl,rfl,u,?_⟩;exact q _ D (ug _ (by lia)) (vM _ u) ⟨a,d,c,by rw[J];exact s,g,i⟩ w
 refine⟨_,rfl,_,_,rfl,rfl,⟨by decide,by decide⟩,.inl ⟨_,_,rfl,rfl,_,rfl,_,_,rfl,.inl ⟨_,g.sq,rfl⟩,_,_,rfl,rfl,_,rfl,gz (λn=>?_) (λ_=>?_)⟩⟩
 .rw[fP] at n;have O:0<d.length:=by lia
  have i0:(d.map V.int)[(0:Int).toNat]?=some (.int d[0]):=by
   show(d.map V.int)[0]?=_;rw[i3,gF O];rfl
  refine⟨_,rfl,ke g.sq (by decide) i0 ⟨_,_,rfl,rfl,(by show(0:Int)<2;decide),.inl ⟨rfl,_,rfl,gz (λ_=>?_) (λ_=>?_)⟩⟩⟩
  .-- if _law_k % 12==0
   refine⟨_,rfl,_,_,rfl,rfl,(by show(0:Int)<12;decide),.inl ⟨rfl,_,rfl,gz (λ_=>?_) (λ_=>y c D s g w)⟩⟩;have R:((k:Int) / 12+1).toNat<d.length:=by lia
   refine⟨_,rfl,_,rfl,_,_,rfl,rfl,⟨by decide,by decide⟩,.inl ⟨_,_,rfl,rfl,ke g.sq (by lia) (v:=.int d[((k:Int) / 12+1).toNat]) (by rw[i3,gF R];rfl) ?_⟩⟩;refine⟨_,rfl,uH s (by decide) (by show 2<3;decide) ?_⟩;exact y _ _ fG (g.mono (.of_but .upd_at s)) (w.trans .upd_at)
  .exact l
 .exact i4 l
def khD{K:a_}{vs:List V}{H:b_}{Q:fS}{E:f_}(h:F7 K vs H Q E):Rb K (ì í Q) (gW PR vs) H:=by
 obtain⟨c,k,rfl,S,Z,q⟩:=h;have a:(2:Int) ^ pA 31=2147483648:=Ï
 have f:(2:Int) ^ pA 33=8589934592:=Ï
 have g:(2:Int) ^ pA 64=18446744073709551616:=Ï
 have i:(2:Int) ^ 64=18446744073709551616:=Ï
 refine⟨_,À,c,2,k,À,S,Ã,Ï,Ï,λd T X Y B w=>?_⟩;refine ñ À _ À (gz (λ_=>?_) (λ_=>?_))
 .refine⟨_,À,_,_,À,À,Î Ï Ï Ï,c,_,k+1,À,B,Ã,by rw[a];decide,by rw[a];decide,λe I L C t p=>?_⟩;rw[a] at C;refine⟨_,_,À,À,Î Ï Ï Ï,È ⟨_,_,À,À,È (Æ Ã Ã),?_⟩⟩;refine⟨_,À,_,_,À,À,Î Ï Ï Ï,c,_,k+2,À,t,Ã,by rw[a];decide,by rw[a];decide,λu y M D j r=>?_⟩;rw[a] at D;refine È (Õ _ _ À (q _ _ y ?_ ?_ j Ã ((w.trans p).trans r)))
  .show 0<=e*(2:Int) ^ pA 33+u;rw[f];lia
  .show e*(2:Int) ^ pA 33+u<2 ^ 64;rw[f,i];lia
 .refine⟨_,_,À,À,Î Ï Ï Ï,_,_,À,À,_,À,c,3,k+1,À,B,Ã,Ï,Ï,λe I L C t p=>?_⟩;refine⟨_,_,À,À,_,À,c,12,k+2,À,t,Ã,Ï,Ï,λu y M D j r=>?_⟩;refine Æ va (λl o=>?_);refine⟨_,À,c,4,k+3,À,j.new o,Ã,Ï,Ï,λm s U hY J x=>?_⟩;obtain⟨ys,v⟩:=j.lst;have O:l≠c:=λz=>by rw[z,v] at o;cases o
  have n:=x l _ O fG;have G:hI c H s:=(((w.trans p).trans r).new o).trans x;have b:∀z:Int,0<=z->z<2 ^ 64->Q (Ë z) s:=λz P R=>q z _ s P R J Ã G;rcases(by lia:m=0\/m=1\/m=2\/m=3) with rfl|rfl|rfl|rfl
  .exact ke (Ù n) Ï À (b _ Ï Ï)
  .exact ke (Ù n) Ï À (b _ Ï Ï)
  .refine ke (Ù n) Ï À (b _ ?_ ?_)
   .show 0<=(2:Int) ^ pA 64-1-e;rw[g];lia
   .show(2:Int) ^ pA 64-1-e<2 ^ 64;rw[g,i];lia
  .exact ke (Ù n) Ï À (b _ Ã Ã)
def ot(h:H p=Ð xs\/H p=ä xs)(a:0<=i)(e:xs[i.toNat]?=Á v)(q:Q v H):sG K (Â p) (Ë i) H Q:=by
 rcases h with h|h
 .exact ke (Ù h) a e q
 .exact iU h a e q
def khy{K:a_}{vs:List V}{H:b_}{Q:fS}{E:f_}(h:F4 K vs H Q E):P8 K (ì í Q) (gW PM vs) H:=by
 obtain⟨rt,n,rvs,v,r,rfl,c,j,i,q⟩:=h;have d:rvs[((n:Nat):Int).toNat]?=Á v:=by simpa using j
 have e:(0:Int)<=((n:Nat):Int):=Ã
 have g:(((n+1:Nat):Nat):Int)=(n:Int)+1:=Ã
 cases r with
 |num x z=>
  obtain⟨p,rfl,h⟩:=i;refine Õ _ À _ (ot c e d (û h (é À _ À ?_)));refine Õ _ À _ (ot c e d (û h (é À _ À ?_)));refine Õ _ À _ (ot c e d (û h (é À _ À ?_)));exact Ú (È (Õ _ _ À (Æ kK (λt f=>(Ē (q t f))))))
 |op x s a b=>
  obtain⟨p,rfl,h⟩:=i;refine Õ _ À _ (ot c e d (û h (é À _ À ?_)));refine Õ _ À _ (ot c e d (û h (é À _ À ?_)));refine Õ _ À _ (ot c e d (û h (é À _ À ?_)));exact Ú (È (Õ _ _ À (Æ kK (λt f=>(Ē (q t f))))))
 |call x k m=>
  obtain⟨p,u,rfl,h,o⟩:=i;refine Õ _ À _ (ot c e d (û h (é À _ À ?_)));refine Õ _ À _ (ot c e d (û h (é À _ À ?_)));refine Õ _ À _ (ot c e d (û h (é À _ À ?_)));exact Ú (È (Õ _ _ À (Æ kK (λt f=>(Ē (q t f))))))
 |say a=>
  obtain⟨p,rfl,h⟩:=i;refine Õ _ À _ (ot c e d (û h (é À _ À ?_)));refine Õ _ À _ (ot c e d (û h (é À _ À ?_)));refine Õ _ À _ (ot c e d (û h (é À _ À ?_)));exact Ú (È (Õ _ _ À (Æ kK (λt f=>(Ē (q t f))))))
 |jump l=>
  obtain⟨p,rfl,h⟩:=i;refine Õ _ À _ (ot c e d (û h (ñ À _ À (mi ?_))));exact Õ _ À _ (ot c e d (û h ⟨kK,λt f=>(Ē (q t f))⟩))
 |test a l=>
  obtain⟨p,rfl,h⟩:=i;refine Õ _ À _ (ot c e d (û h (é À _ À ?_)));refine Õ _ À _ (ot c e d (û h (ñ À _ À (mi ?_))));exact Ú (È (Õ _ _ À (Õ _ À _ (ot c e d (û h ⟨ka,λt f=>(Ē (q t f))⟩)))))
 |give a=>
  obtain⟨p,rfl,h⟩:=i;refine Õ _ À _ (ot c e d (û h (é À _ À ?_)));refine Õ _ À _ (ot c e d (û h (é À _ À ?_)));refine Õ _ À _ (ot c e d (û h (ñ À _ À (mi ?_))));exact Æ mU (λt f=>(Ē (q t f)))
def kdw{K:a_}{vs:List V}{H:b_}{Q:fS}{E:f_}(h:EC K vs H Q E):NN K (ì í Q) (gW NF vs) H:=by
 obtain⟨v,r,rfl,f,q⟩:=h;cases r with
 |num x z=>
  obtain⟨p,rfl,h⟩:=f;refine á h ?_;refine Ú (é À _ À ?_);refine Ú (é À _ À ?_);refine⟨_,À,kM,λt d=>⟨t,_,À,Í (fR.of fG),À,À,_,À,s_ â ?_⟩⟩;have g:p≠t:=f6 h d;exact Æ mU (λe c=>q e _ fG (((Ø H).new d).new c))
 |op x s a b=>
  obtain⟨p,rfl,h⟩:=f;refine á h ?_;refine Ú (ñ À _ À (mi ?_));exact á h (á h ⟨ka,λt d=>q t _ fG ((Ø H).new d)⟩)
 |call x k l=>
  obtain⟨p,m,rfl,h,i⟩:=f;refine á h ?_;refine Ú (é À _ À ?_);refine Ú (ñ À _ À (mi ?_));exact á h ⟨_,_,À,Í ⟨fR.of i,q _ _ i (Ø H)⟩⟩
 |say a=>
  obtain⟨p,rfl,h⟩:=f;refine á h ?_;refine Ú (é À _ À ?_);refine Ú (é À _ À ?_);refine⟨_,À,kM,λt d=>⟨t,_,À,Í (fR.of fG),À,À,_,À,rM â ?_⟩⟩;have g:p≠t:=f6 h d;exact á (by rw[fM g];exact h) ⟨kK,λe c=>q e _ fG (((Ø H).new d).new c)⟩
 |jump j=>
  obtain⟨p,rfl,h⟩:=f;refine á h ?_;refine Ú (é À _ À ?_);refine Ú (é À _ À ?_);refine⟨_,À,kM,λt d=>⟨t,_,À,Í (fR.of fG),À,À,_,À,s_ â ?_⟩⟩;have g:p≠t:=f6 h d;exact Æ mU (λe c=>q e _ fG (((Ø H).new d).new c))
 |test a j=>
  obtain⟨p,rfl,h⟩:=f;refine á h ?_;refine Ú (é À _ À ?_);refine Ú (é À _ À ?_);refine⟨_,À,kM,λt d=>⟨t,_,À,Í (fR.of fG),À,À,_,À,rM â ?_⟩⟩;have g:p≠t:=f6 h d;exact á (by rw[fM g];exact h) ⟨kK,λe c=>q e _ fG (((Ø H).new d).new c)⟩
 |give a=>
  obtain⟨p,rfl,h⟩:=f;refine á h ?_;refine Ú (é À _ À ?_);refine Ú (é À _ À ?_);refine⟨_,À,kM,λt d=>⟨t,_,À,Í (fR.of fG),À,À,_,À,rM â ?_⟩⟩;have g:p≠t:=f6 h d;exact á (by rw[fM g];exact h) ⟨kK,λe c=>q e _ fG (((Ø H).new d).new c)⟩
def kfp{K:a_}{vs:List V}{H:b_}{Q:fS}{E:f_}(h:Fs K vs H Q E):O6 K (ì í Q) (gW OA vs) H:=by
 obtain⟨v,r,rfl,e,q⟩:=h;cases r with
 |num x z=>
  obtain⟨p,rfl,h⟩:=e;refine á h ?_;refine Æ kM (λt c=>⟨t,_,À,Í (fR.of fG),À,À,_,À,rM â ?_⟩);have d:p≠t:=f6 h c;exact á (by rw[fM d];exact h) (q _ ((Ø H).new c))
 |op x s a b=>
  obtain⟨p,rfl,h⟩:=e;refine á h ?_;refine Æ kM (λt c=>⟨t,_,À,Í (fR.of fG),À,À,_,À,rM â ?_⟩);have d:p≠t:=f6 h c;exact á (by rw[fM d];exact h) (q _ ((Ø H).new c))
 |call x k g=>
  obtain⟨p,j,rfl,h,i⟩:=e;refine á h ?_;refine Æ kM (λt c=>⟨t,_,À,Í (fR.of fG),À,À,_,À,rM â ?_⟩);have d:p≠t:=f6 h c;exact á (by rw[fM d];exact h) (q _ ((Ø H).new c))
 |say a=>
  obtain⟨p,rfl,h⟩:=e;refine á h ?_;refine Æ kM (λt c=>⟨t,_,À,Í (fR.of fG),À,À,_,À,s_ â ?_⟩);have d:p≠t:=f6 h c;exact q _ ((Ø H).new c)
 |jump f=>
  obtain⟨p,rfl,h⟩:=e;refine á h ?_;refine Æ kM (λt c=>⟨t,_,À,Í (fR.of fG),À,À,_,À,s_ â ?_⟩);have d:p≠t:=f6 h c;exact q _ ((Ø H).new c)
 |test a f=>
  obtain⟨p,rfl,h⟩:=e;refine á h ?_;refine Æ kM (λt c=>⟨t,_,À,Í (fR.of fG),À,À,_,À,s_ â ?_⟩);have d:p≠t:=f6 h c;exact q _ ((Ø H).new c)
 |give a=>
  obtain⟨p,rfl,h⟩:=e;refine á h ?_;refine Æ kM (λt c=>⟨t,_,À,Í (fR.of fG),À,À,_,À,s_ â ?_⟩);have d:p≠t:=f6 h c;exact q _ ((Ø H).new c)
def kfn{K:a_}{vs:List V}{H:b_}{Q:fS}{E:f_}(h:Cd K vs H Q E):F' K (ì í Q) (gW FE vs) H:=by
 obtain⟨v,r,rfl,c,q⟩:=h;cases r with
 |num x z=>
  obtain⟨p,rfl,h⟩:=c;refine á h (é À _ À ?_);exact á h (é À _ À q)
 |op x s a b=>
  obtain⟨p,rfl,h⟩:=c;refine á h (é À _ À ?_);exact á h (é À _ À q)
 |call x k e=>
  obtain⟨p,g,rfl,h,f⟩:=c;refine á h (é À _ À ?_);exact á h (é À _ À q)
 |say a=>
  obtain⟨p,rfl,h⟩:=c;refine á h (é À _ À ?_);exact á h (é À _ À q)
 |jump d=>
  obtain⟨p,rfl,h⟩:=c;exact á h (ñ À _ À (mi (á h q)))
 |test a d=>
  obtain⟨p,rfl,h⟩:=c;refine á h (é À _ À ?_);exact á h (ñ À _ À (mi (á h q)))
 |give a=>
  obtain⟨p,rfl,h⟩:=c;refine á h (é À _ À ?_);exact á h (é À _ À q)
def kdv{K:a_}{vs:List V}{H:b_}{Q:fS}{E:f_}(h:EB K vs H Q E):NM K (ì í Q) (gW ND vs) H:=by
 obtain⟨rt,n,rvs,v,r,rfl,c,l,e,q⟩:=h;have g:rvs[((n:Nat):Int).toNat]?=Á v:=by simpa using l
 have i:(0:Int)<=((n:Nat):Int):=Ã
 have j:(((n+1:Nat):Nat):Int)=(n:Int)+1:=Ã
 cases r with
 |num x z=>
  have d:=e;obtain⟨p,rfl,h⟩:=e;refine Õ _ À _ (iU c i g (û h ?_));refine Ú (é À _ À ?_);refine Ú (é À _ À ?_);refine Ú (é À _ À ?_);exact Ú (È (Õ _ _ À (Æ kK (λt f=>q t _ (by rw[fG];first|rfl|(unfold gu ma;simp only[kL,ub,j])) ((Ø H).new f)))))
 |op x s a b=>
  have d:=e;obtain⟨p,rfl,h⟩:=e;refine Õ _ À _ (iU c i g (û h ?_));refine Ú (é À _ À ?_);refine Ú (é À _ À ?_);refine Ú (é À _ À ?_);exact Ú (È (Õ _ _ À (Æ kK (λt f=>q t _ (by rw[fG];first|rfl|(unfold gu ma;simp only[kL,ub,j])) ((Ø H).new f)))))
 |call x k o=>
  have d:=e;obtain⟨p,w,rfl,h,u⟩:=e;refine Õ _ À _ (iU c i g (û h ?_));refine Ú (é À _ À ?_);refine Ú (é À _ À ?_);refine Ú (é À _ À ?_);exact Ú (È (Õ _ _ À (Æ kK (λt f=>q t _ (by rw[fG];first|rfl|(unfold gu ma;simp only[kL,ub,j])) ((Ø H).new f)))))
 |say a=>
  have d:=e;obtain⟨p,rfl,h⟩:=e;refine Õ _ À _ (iU c i g (û h ?_));refine Ú (é À _ À ?_);refine Ú (é À _ À ?_);refine Ú (é À _ À ?_);exact Ú (È (Õ _ _ À (Æ kK (λt f=>q t _ (by rw[fG];first|rfl|(unfold gu ma;simp only[kL,ub,j])) ((Ø H).new f)))))
 |jump m=>
  have d:=e;obtain⟨p,rfl,h⟩:=e;refine Õ _ À _ (iU c i g (û h ?_));refine Ú (é À _ À ?_);refine Ú (ñ À _ À (mi ?_));exact Õ _ À _ (iU c i g ⟨_,_,À,d,Æ kK (λt f=>q t _ (by rw[fG];first|rfl|(unfold gu ma;simp only[kL,ub,j])) ((Ø H).new f))⟩)
 |test a m=>
  have d:=e;obtain⟨p,rfl,h⟩:=e;refine Õ _ À _ (iU c i g (û h ?_));refine Ú (é À _ À ?_);refine Ú (é À _ À ?_);refine Ú (ñ À _ À (mi ?_));exact Ú (È (Õ _ _ À (Õ _ À _ (iU c i g ⟨_,_,À,d,Æ ka (λt f=>q t _ (by rw[fG];first|rfl|(unfold gu ma;simp only[kL,ub,j])) ((Ø H).new f))⟩))))
 |give a=>
  have d:=e;obtain⟨p,rfl,h⟩:=e;refine Õ _ À _ (iU c i g (û h ?_));refine Ú (ñ À _ À (mi ?_));exact Æ mU (λt f=>q t _ (by rw[fG];first|rfl|(unfold gu ma;simp only[kL,ub,j])) ((Ø H).new f))
def kkU
  (aa:H p=none) (ah:q≠p) (nl:l≠p) (hw:w∈b) (hm:h<rs.length) (ab:Q[O]?=Á h) (hz:vy ps kss) (hc:d=false->kss=c/\AR rs i c/\∀M,M<O->∀m a,Q[M]?=Á m->c[m]?=Á a->∀y∈a,y∈b) (k:oJ p H ys ps w rs.length H' g kss) (hB:2*so kss+d.toNat<=B) (I:H' q=Ð (b.map Ê)) (hl:H' l=Ð (gu Q)) :
  UD K {nx:=GU rl nm pr p H ys ps w rs B i q l b Q c (O+1),rt:=rt,ct:=GU rl nm pr p H ys ps w rs B i q l b Q c (O+1),bk:=bk} [Å rl,Å nm,Å pr,Å p,Á (.bl d),gm i,Å q,gm h,o8] H':=by
 obtain⟨Y,a,e1,Z,aj,n⟩:=k.get hm;obtain⟨k1,k2,k3⟩:=k.wit h a Z;have R:g[((h:Nat):Int).toNat]?=Á (Â Y):=by simpa using e1
 refine È (Õ _ À _ (ke (Ù k.at_) Ã R ⟨Y,À,Æ _ (Ù n),λD S=>?_⟩));have nD:p≠D:=f6 k.at_ S;have U:Y≠D:=f6 n S;have u:q≠D:=f6 I S;have ag:l≠D:=f6 hl S;refine sO (xs:=a.map Ê) (λj r X=>∃o,r=[Å rl,Å nm,Å pr,Å p,Á (.bl d),gm i,Å q,gm h,o8,o]/\X=Ý H' D (((a.take j).filter λy=>æ (y∈b)).map Ê)) ?_ ?_ ?_ ?_
 .exact Ą Ç À
 .rintro j r X _ ⟨o,_,rfl⟩;exact Ù (by rw[fM U];exact n)
 .rintro j x r X T ⟨o,rfl,rfl⟩;rw[i3] at T;obtain⟨y,t,rfl⟩:∃y,a[j]?=some y/\V.str y=x:=by
   cases e:a[j]? with
   |none=>rw[e] at T;cases T
   |some y=>rw[e] at T;exact Ą y (ď T)
  have jl:j<a.length:=(gR.mp t).1;have fl:Ô ((a.take j).filter λy=>æ (y∈b))<=100:=mC (wF _ _) (by rw[kz];lia);have ft:=LP (λy=>æ (y∈b)) a j y t;refine⟨_,À,_,À,q,_,À,È (Ù (by rw[fM u];exact I)),À,Aq _,_,À,?_⟩;show if hU (Ä y) (b.map Ê)=true then _ else _;rw[rq];refine gz (λC=>?_) (λC=>?_)
  .refine⟨_,À,_,fG,gY (by rw[fP];lia),_,À,?_⟩;rw[AE,ft,if_pos (by simpa using C),g8];rfl
  .refine Ú ?_;rw[ft,ù (by simpa using C),oe]
 .rintro r X ⟨o,_,rfl⟩;have et:a.take (Ô (a.map Ê))=a:=m5 (by rw[fP];exact ï);rw[et];have fl:Ô (a.filter λy=>æ (y∈b))<=a.length:=wF _ _;have fm:∀y∈a.filter (λy=>decide (y∈b)),y∈ys:=λy t=>k2 y (wJ.mp t).1;have fw:w∈a.filter (λy=>æ (y∈b))\/(h=0/\ps=[]):=k3.imp (λz=>wJ.mpr ⟨z,by simpa using hw⟩) id;have fs:∀y∈a.filter (λy=>decide (y∈b)),y∈a:=λy t=>(wJ.mp t).1;have fe:¬Ô (a.filter (λy=>æ (y∈b)))<a.length->∀y∈a,y∈b:=λhn y t=>by
   have:=List.length_filter_eq_length_iff.mp (IM (wF (λy=>æ (y∈b)) a) (FH.mp hn)) y t;simpa using this
  generalize a.filter (λy=>decide (y∈b))=kp at fl fm fw fs fe;have P:=k.grown ((Ø H').new (o:=.lst (kp.map Ê)) S);have f:(Ý H' D (kp.map Ê)) q=Ð (b.map Ê):=by rw[fM u];exact I
  have G:(Ý H' D (kp.map Ê)) l=Ð (gu Q):=by rw[fM ag];exact hl
  have s:(Ý H' D (kp.map Ê)) Y=Ð (a.map Ê):=by rw[fM U];exact n
  have v:(Ý H' D (kp.map Ê)) D=Ð (kp.map Ê):=fG;generalize upd H' D (.lst (kp.map V.str))=H3 at P f G s v;refine⟨_,À,_,_,À,È ⟨_,Ù v,À⟩,_,À,_,À,ke (Ù P.at_) Ã R ⟨_,_,À,È ⟨_,Ù s,À⟩,_,_,À,À,_,À,gz (λJ=>?_) (λJ=>?_)⟩⟩
  .rw[fP,fP] at J;refine⟨_,À,_,À,_,À,uH P.at_ Ã (by rw[P.vlen];simpa using hm) ?_⟩;have ei:((h:Nat):Int).toNat=h:=Ò
   rw[ei];have ss:=Pd (kp:=kp) Z;refine⟨_,kss.set h kp,true,_,_,À,P.set aa (Ne.symm nD) v (Î Ã fm fw),?_,by rw[fM ah];exact f,by rw[fM nl];exact G,hz.set Z fs,λz=>by cases z⟩;have:(true:Bool).toNat=1:=rfl;lia
  .rw[fP,fP] at J;refine⟨g,kss,d,_,_,À,P,hB,f,G,hz,λae=>?_⟩;obtain⟨hY,c2,iy⟩:=hc ae;refine Î hY c2 (λM ai m af L E=>?_);by_cases cj:M<O
   .exact iy M cj m af L E
   .have:M=O:=Ã
    subst this;rw[ab] at L;cases L;rw[<-hY,Z] at E;cases E;exact fe Ã
def Cg{a:List Nat}{j:Nat}{x:V}(h:(gu a)[j]?=Á x):∃m,a[j]?=Á m/\x=Ë (m:Nat):=by
 unfold gu at h;rw[i3] at h;cases e:a[j]? with
 |none=>rw[e] at h;cases h
 |some m=>rw[e] at h;exact Ą m (ď h).symm
def kkT{K:a_}{h nm T c:d_}{H H':b_}{ys ps:List Str}{cs:List Nat}{w:Str}{B i:Nat}{C:List V}{rs:List gG}{d:List V}{kss:List (List Str)}{b:Bool}{o6 o7 o8:Option V}{rt:fS}{bk:fO->b_->Prop}
  (ab:H c=none) (u:H h=Ð C) (hA:ia (kh H) C rs) (au:AS ys cs rs) (hE:rs.getLast?.map oG=Á true) (ak:ps=[]->∃z,rs[0]?=Á (.num w z)) (hi:i<rs.length) (k:oJ c H ys ps w rs.length H' d kss) (hB:2*so kss+b.toNat<=B) (hz:vy ps kss) (hP:b=false->AR rs i kss) :
  UF K {nx:=yY h nm T c H ys ps w rs B (i+1),rt:=rt,ct:=yY h nm T c H ys ps w rs B (i+1),bk:=bk} [Å h,Å nm,Å T,Å c,Á (.bl b),gm i,o6,o7,o8] H':=by
 obtain⟨a,X,e1,e2,na,ha⟩:=k.get hi;obtain⟨k1,k2,k3⟩:=k.wit i X e2;obtain⟨v,r,f1,f2,Q⟩:=hA.get (i:=i) hi;obtain⟨p,xs,rfl,hp⟩:=Q.ref;have ar:d[((i:Nat):Int).toNat]?=Á (Â a):=by simpa using e1
 have aa:C[((i:Nat):Int).toNat]?=Á (Â p):=by simpa using f1
 have aG:h≠c:=f6 u ab;have G:∀(Z:d_) (ls:List Str) (H2:b_),Z≠c->w∈ls->(∀y∈ls,y∈X\/pQ r=Ä y)->oJ c H ys ps w rs.length H2 d kss->H2 Z=Ð (ls.map Ê)->
   UE K {nx:=yY h nm T c H ys ps w rs B (i+1),rt:=rt,ct:=yY h nm T c H ys ps w rs B (i+1),bk:=bk} [Å h,Å nm,Å T,Å c,Á (.bl b),gm i,Å Z,o7,o8] H2:=λZ ls H2 aC az aw k2 ag=>by
  refine È ⟨_,À,_,À,h,i,C,Â p,r,À,È (k2.same _ _ u),f1,Q.mono (.of_same k2.same),λl hl=>?_⟩;have nl:l≠c:=λz=>by rw[z,k2.at_] at hl;cases hl
  have ao:Z≠l:=f6 ag hl;refine⟨l,À,Æ _ (Ù fG),wZ (xs:=gu (ma i r)) (λj=>GU h nm T c H ys ps w rs B i Z l ls (ma i r) kss j) ?_ ?_ ?_ ?_⟩
  .exact⟨d,kss,b,_,_,À,k2.grown ((Ø H2).new hl),hB,by rw[fM ao];exact ag,fG,hz,λL=>⟨À,hP L,λj' s=>Ì s (mH _)⟩⟩
  .rintro j aq H3 _ ⟨_,_,_,_,_,_,_,_,_,h3,_,_⟩;exact Ù h3
  .rintro j x aq H3 hx ⟨g,E,f,aE,aF,rfl,S,I,D,af,R,J⟩;obtain⟨mm,aj,rfl⟩:=Cg hx;exact kkU ab aC nl az (keS f2 (au.rough r (iS f2)) hE aj) aj R J S I D af
  .rintro aq H3 ⟨g,E,f,aE,aF,rfl,S,I,D,af,R,J⟩;refine⟨g,E,f,_,_,_,_,À,S,I,R,λL=>?_⟩;obtain⟨hY,c2,iy⟩:=J L;subst hY;intro n m r' aA km hn P ah e ae y U;by_cases cn:n<i
   .exact c2 n m r' aA km cn P ah e ae y U
   .have:n=i:=Ã
    subst this;rw[f2] at P;cases P;rw[e2] at e;cases e;obtain⟨j',s,ax⟩:=nB.mp ah;have ai:(ma n r)[j']?=Á m:=by rw[gF s,ax]
    exact aw y (iy j' (by rw[mI];exact s) m km ai ae y U)
 refine Õ _ À _ (ke (Ù k.at_) Ã ar ?_);refine Õ _ À _ (ke (Ù (k.same _ _ u)) Ã aa (û (k.same _ _ hp) ⟨kM,λt ht=>⟨t,_,À,Í (fR.of fG),À,À,_,À,?_⟩⟩));have sm:=(Ø H').new (o:=.tup [è "num",è "op",è "call"]) ht;have Y:=k.grown sm;have q:=sm _ _ ha;generalize upd H' t (.tup [V.str "num",V.str "op",V.str "call"])=H1 at sm Y q ⊢;refine mD (λhb=>?_) (λhb=>?_)
 .have av:hU (Ä (pX r)) [è "num",è "op",è "call"]=true:=hb;obtain⟨x,hx⟩:=kgC av;obtain⟨aH,ay⟩:=khI Q hx;refine⟨_,À,_,À,_,À,ke (Ù (Y.same _ _ u)) Ã aa (û (Y.same _ _ ay) ⟨kK,λp1 M=>?_⟩)⟩;have aB:a≠p1:=f6 q M;refine Í (Í (È ⟨a,p1,_,_,À,À,by rw[fM aB];exact q,fG,?_,λp2 O=>?_⟩))
  .have:=gY (n:=101) Ï;rw[fP];show X.length+1<=gM;lia
  have k5:=(Y.grown ((Ø H1).new (o:=.lst [è x]) M)).grown ((Ø _).new (o:=.lst (X.map Ê++[è x])) O);have aD:p2≠c:=λz=>by
   have:=(Y.grown ((Ø H1).new (o:=.lst [è x]) M)).at_;rw[z,this] at O;cases O
  refine G p2 (X++[x]) _ aD ?_ (λy U=>(iT.mp U).imp id λz=>by rw[g_.mp z];exact hx) k5 (by rw[fG,g8];rfl);rcases k3 with z|⟨z1,z2⟩
  .exact mP _ z
  .obtain⟨zz,hz⟩:=ak z2;subst z1;rw[f2] at hz;cases hz;cases hx;exact mO _ (g_.mpr À)
 .refine G a X _ na ?_ (λy U=>È U) Y q;rcases k3 with z|⟨z1,z2⟩
  .exact z
  .obtain⟨zz,hz⟩:=ak z2;subst z1;rw[f2] at hz;cases hz;exact Ì (show hU (Ä "num") [è "num",è "op",è "call"]=false from hb) â
def kdB{b:Type}(n:Nat)(a:b):lq (n+1) a=lq n a++[a]:=by
 exact List.replicate_succ'
def kaR{K:a_}{vs:List V}{H:b_}{Q:fS}{E:f_}(h:IV K vs H Q E):LL K {nx:=λ_ H'=>Q .non H',rt:=Q} (gW Eo vs) H:=by
 obtain⟨R,O,P,rvs,t,L,g,cs,rfl,G,hA,D,hE,aa,au,ae,ah,pin,ab,q⟩:=h;have n1:1<=t.length:=sJ.mpr D.pos;obtain⟨w,wy,wp,w0⟩:∃w:Str,w∈L/\(g≠[]->w∈g)/\(g=[]->∃z,t[0]?=some (.num w z)):=by
  cases g with
  |cons p r=>exact⟨p,pin p pH,λ_=>pH,λz=>by cases z⟩
  |nil=>
   have h0:=ab rfl;rw[Hr] at h0;cases e:t[0]? with
   |none=>rw[e] at h0;cases h0
   |some r=>
    rw[e,pL] at h0;cases r with
    |num x z=>exact⟨x,(D.rough _ (iS e)).1,λz=>absurd rfl z,λ_=>⟨z,rfl⟩⟩
    |_=>cases h0
 refine .inl ⟨_,rfl,R,rfl,⟨_,hH.of G⟩,λf k=>?_⟩;have az:R≠f:=f6 G k;have ax:O≠f:=f6 aa k;have ay:P≠f:=f6 ae k;refine sO (xs:=rvs) (λj v H'=>∃(d:List V) (o:Option V),v=[kO R,kO O,kO P,none,none,none,none,none,none,o]/\H' f=some (.lst d)/\ia (wC f H') d (lq j L)/\gJ H H') ?_ ?_ ?_ ?_
 .exact⟨[],none,rfl,fG,.nil,(gJ.refl H).new k⟩
 .rintro j v H' _ ⟨_,_,_,_,_,s⟩;exact hH.of (s _ _ G)
 .rintro j x v H' hx ⟨d,o,rfl,hk,ha,s⟩;refine oO ?_;have jl:j<rvs.length:=(gR.mp hx).1;have ar:rvs.length<=100:=by rw[hA.len];exact D.few
  have S:d.length=j:=by rw[ha.len,uQ]
  refine⟨_,rfl,O,_,rfl,.inl (hH.of (s _ _ aa)),λa C=>?_⟩;have I:f≠a:=f6 hk C;refine⟨d,by rw[fM I];exact hk,gY (by lia),d++[.ref a],_,rfl,fG,?_,λb o h=>?_⟩
  .rw[kdB];refine ia.snoc (ha.imp λ_ _ z=>(z.same ((gJ.refl H').new C)).upd) ⟨a,rfl,Ne.symm I,?_⟩;rw[fM (Ne.symm I),fG]
  .have h1:=s b o h;rw[fM (f6 h k),fM (f6 h1 C)];exact h1
 .rintro v H1 ⟨d,o,_,hk,ha,s⟩;rw[hA.len] at ha;have S:d.length=t.length:=by rw[ha.len,uQ]
  refine⟨_,rfl,P,_,rfl,.inl (hH.of (s _ _ ae)),λa C=>?_⟩;have I:f≠a:=f6 hk C;have K0:oJ f H L [] w t.length H1 d (lq t.length L):=⟨hk,ha,by rw[uQ],λi U e=>by
   have hm:=iS e;rw[List.mem_replicate] at hm;rw[hm.2];exact⟨au,λy hy=>hy,.inl wy⟩,s⟩
  have K1:=K0.grown ((gJ.refl H1).new (o:=.lst (g.map V.str)) C);refine⟨_,rfl,uH K1.at_ (by decide) (by rw[S];exact n1) ?_⟩;have K2:oJ f H L g w t.length (upd (upd H1 a (.lst (g.map V.str))) f (.lst (d.set 0 (.ref a)))) (d.set 0 (.ref a)) ((lq t.length L).set 0 g):=by
   have z:=K1.set (m:=0) (kp:=g) (a:=a) k (Ne.symm I) fG ⟨ah,pin,.inr ⟨rfl,rfl⟩⟩;refine⟨z.at_,z.all,z.len,λi U e=>?_,z.same⟩;by_cases c:0=i
   .subst c;rw[ph (by rw[uQ];exact n1)] at e;cases e;refine⟨ah,pin,?_⟩;by_cases e:g=[]
    .exact .inr ⟨rfl,e⟩
    .exact .inl (wp e)
   .obtain⟨z1,z2,z3⟩:=z.wit i U e;refine⟨z1,z2,?_⟩;rcases z3 with z3|z3
    .exact .inl z3
    .exact absurd z3.1.symm c
  show Uo K _ [kO R,kO O,kO P,kO f,none,none,none,none,none] (upd (upd H1 a (.lst (g.map V.str))) f (.lst (d.set 0 (.ref a))));generalize upd (upd H1 a (.lst (g.map V.str))) f (.lst (d.set 0 (.ref a)))=H2 at K2 ⊢;generalize d.set 0 (.ref a)=Y at K2;have Z2:vy g ((lq t.length L).set 0 g):=λU e y hy=>by
   rw[ph (by rw[uQ];exact n1)] at e;cases e;exact hy
  generalize (lq t.length L).set 0 g=af at K2 Z2;show Um K _ [kO R,kO O,kO P,kO f,some (.bl true),none,none,none,none] H2;refine⟨λm v H'=>∃(d:List V) (M:List (List Str)) (l:Bool) (o5 o6 o7 o8:Option V),v=[kO R,kO O,kO P,kO f,some (.bl l),o5,o6,o7,o8]/\oJ f H L g w t.length H' d M/\vy g M/\(l=false->AR t t.length M)/\2*so M+l.toNat=m,⟨_,Y,af,true,_,_,_,_,rfl,K2,Z2,(λz=>by cases z),rfl⟩,?_⟩;rintro m v H' ⟨J,B,l,o5,o6,o7,o8,rfl,T,Z3,P3,hm⟩;refine⟨_,rfl,l,rfl,mD (λu=>?_) (λu=>?_)⟩
  .subst u;refine⟨yY R O P f H L g w t (2*so B) t.length,?_,?_⟩
   .rintro aA H4 ⟨Z,ag,X,p5,p6,p7,p8,rfl,K4,hB,Z4,P4⟩;refine⟨_,?_,Z,ag,X,_,_,_,_,rfl,K4,Z4,P4,rfl⟩;have:(true:Bool).toNat=1:=rfl;lia
   .-- more=False;for n in range(len(rows))
    have ak:=T.same _ _ G;refine⟨_,rfl,_,_,rfl,.inl ⟨_,hH.of ak,rfl⟩,_,rfl,by lia,by rw[hA.len];have:=D.few;lia,sP (λi=>yY R O P f H L g w t (2*so B) i) ⟨J,B,false,_,_,_,_,rfl,T,by simp,Z3,λ_ n _ _ _ _ hn=>absurd hn (mH _)⟩ ?_ ?_⟩
    .rintro i av H5 hi ⟨aq,aw,ao,p5,p6,p7,p8,rfl,K5,hB,Z5,P5⟩;have hi:i<t.length:=by rw[hA.len] at hi;simpa using hi
     have e0:(0:Int)+(i:Int)=((i:Nat):Int):=by lia
     rw[e0];exact kkT k G hA D hE w0 hi K5 hB Z5 P5
    .rintro av H5 h5;rw[hA.len,sL] at h5;exact h5
  .refine⟨_,rfl,q f J B H' k T.at_ (T.all.imp λ_ _ ⟨a,e,_,h⟩=>⟨a,e,h⟩) T.len (λi U e=>?_) ⟨Z3,λn m r U km hr hm aj ai=>P3 u n m r U km (gR.mp hr).1 hr hm aj ai⟩ T.same⟩;obtain⟨z1,z2,z3⟩:=T.wit i U e;refine⟨z1,z2,z3.imp (λz e=>?_) id⟩;rw[e] at z;cases z
def kb0(st nm j fd p:d_)(m:Nat)(f:Int)(ws ys:Ñ)(cs:É Nat)(H:b_)(K:a_)(k i:Nat):fO->b_->Prop:=λg d=>∃(c:List V) (a:List kI) (h:Nat) (l n o e:Option V),g=[Å st,gm m,iX f,Å p,Å nm,Å j,Å fd,l,n,o,e]/\
 d fd=Ð c/\ia (uu d) c a/\a.length=i/\(∀b∈a,xh ys cs b/\b.rows.length<=m+1)/\a.map (·.name)=ws.take i/\a.map (·.params.length)=cs.take i/\iR K d st h/\h<=k+1001*i/\mV st fd H d
def kdy{K:a_}{vs:List V}{H:b_}{Q:fS}{E:f_}(h:E_ K vs H Q E):NP K (ì í Q) (gW Fj vs) H:=by
 obtain⟨r,m,k,rfl,S,hk,m1,bh,q⟩:=h;obtain⟨bu,ns,c,bc,aL,bD⟩:=id S;refine Ú (ke (Ù bc) Ï À (Ú (È ⟨bu,_,À,aL.sq,λp hp=>?_⟩)));rw[show(1:Int)=((1:Nat):Int) from À,vW,<-uY];refine⟨p,ns.take 1,À,Ù fG,λz=>⟨_,_,À,À,Æ Ï Ï,_,_,À,À,(by show(0:Int)<16;decide),È ⟨À,Í (Ú ?_)⟩⟩⟩;have S1:=S.new (o:=.lst ((ns.take 1).map V.int)) hp;have B1:=(hI.refl r H).new (o:=.lst ((ns.take 1).map V.int)) hp;generalize upd H p (.lst ((ns.take 1).map V.int))=H1 at S1 B1 ⊢;obtain⟨f,hf,a5⟩:∃f:Int,(if decide (V.int (z / 4 % 16)=V.int 5)=true then(1:Int) else 0)=f/\(f=0\/f=1):=by
  cases decide (V.int (z / 4 % 16)=V.int 5) with
  |true=>exact Ą 1 (Í À)
  |false=>exact Ą 0 (È À)
 rw[hf];refine⟨_,À,r,5,k,À,S1,Ã,Ï,λl ws k1 H2 hl wl bx bz h2 S2 l2 B2=>?_⟩;have nl:l≠r:=λz=>by obtain⟨_,e⟩:=S1.lst;rw[z,e] at hl;cases hl
 refine⟨_,À,r,3,k1,À,S2,Ã,Ï,Ï,λd H3 d0 d1 S3 B3=>È ⟨_,_,À,À,ka,λl4 az=>?_⟩⟩;have h3:=B3 l _ nl h2;have S4:=S3.new (o:=.lst [V.int (1+d),V.int 5]) az;have B4:=((B1.trans B2).trans B3).new (o:=.lst [V.int (1+d),V.int 5]) az;have h4:(Ý H3 l4 [V.int (1+d),V.int 5]) l=Ð (ws.map Ê):=by rw[fM (f6 h3 az)];exact h3
 have g4:(Ý H3 l4 [V.int (1+d),V.int 5]) l4=Ð [V.int (1+d),V.int 5]:=fG;have ag:∀s:Nat,1<=s->s<=5->lh K (V.ref l) Ç (Á (s:Int)) (Ý H3 l4 [V.int (1+d),V.int 5]) λx H1=>LI K (ì í Q) [Å r,gm m,iX f,Á x,Ç,Ç,Ç,Ç,Ç,Ç,Ç] H1:=λs hY c2=>by
  generalize upd H3 l4 (.lst [V.int (1+d),V.int 5])=H4 at S4 B4 h4;refine È ⟨l,_,À,Ù h4,λC aj=>?_⟩;rw[vW,<-uY];have aS:Ô (ws.take s)=s:=by rw[kz];lia
  have S5:=S4.new (o:=.lst ((ws.take s).map Ê)) aj;have B5:=B4.new (o:=.lst ((ws.take s).map Ê)) aj;have h5:(Ý H4 C ((ws.take s).map Ê)) C=Ð ((ws.take s).map Ê):=fG;have X:C≠r:=λz=>by obtain⟨_,e⟩:=S4.lst;rw[z,e] at aj;cases aj
  have au:(ws.take s).Nodup:=(DU s ws).nodup bx;have av:∀y∈ws.take s,gP y:=λy hy=>bz y (vJ hy);generalize ws.take s=ww at aS S5 B5 h5 au av ⊢;generalize upd H4 C (.lst (ww.map V.str))=H5 at S5 B5 h5 ⊢;refine⟨_,À,_,À,r,5,k1+1,À,S5,Ã,Ï,Ï,λe H6 e0 e1 S6 B6=>È (Õ _ _ À ?_)⟩;obtain⟨n,hn,n2,n6⟩:∃n:Nat,(2:Int)+e=(n:Int)/\2<=n/\n<=6:=⟨(2+e).toNat,Ã,Ã,Ã⟩;refine⟨r,n,k1+2,by show[V.ref r,V.int (2+e)]=_;rw[hn],S6,Ã,Ã,λO ys k7 H7 aA yl aT aU h7 S7 l7 B7=>?_⟩;have af:O≠r:=λz=>by obtain⟨_,e⟩:=S6.lst;rw[z,e] at aA;cases aA
  have bH:C≠O:=f6 (B6 C _ X h5) aA;have w7:=B7 C _ X (B6 C _ X h5);have aW:=(B5.trans B6).trans B7;have bA:∀y∈ys,y≠"":=λy hy=>(aU y hy).ne;have aV:ys≠[]:=λz=>by rw[z] at yl;simp at yl;lia
  refine È ⟨_,À,C,À,Æ _ (Ù w7),λY G=>?_⟩;have U:Y≠r:=λz=>by obtain⟨_,e⟩:=S7.lst;rw[z,e] at G;cases G
  have bG:C≠Y:=f6 w7 G;have bF:O≠Y:=f6 h7 G;refine sO (xs:=ww.map Ê) (λi L H'=>∃(Z:List Nat) (k':Nat) (o:Option V),L=[Å r,gm m,iX f,Å C,Å O,Ç,Ç,o,Ç,Ç,Ç]/\H' Y=Ð (gu Z)/\Z.length=i/\(∀x∈Z,x<=4/\x<=ys.length)/\iR K H' r k'/\k'<=k7+i/\hI r H7 H') ?_ ?_ ?_ ?_
  .exact⟨[],k7,Ç,À,fG,À,Ò,S7.new G,Ã,(hI.refl r H7).new G⟩
  .rintro i L H' _ ⟨_,_,_,_,_,_,_,_,_,B⟩;exact Ù (B C _ X w7)
  .rintro i x L H' hx ⟨Z,k',o,rfl,hc,cl,c4,S',ay,B'⟩;have il:i<ww.length:=by have:=(gR.mp hx).1;rw[fP] at this;exact this
   refine oO ⟨_,À,_,À,_,_,À,È ⟨_,Ù (B' O _ af h7),À⟩,_,_,À,È (Õ _ _ À ?_)⟩;rw[fP];refine⟨r,_,k',À,S',Ã,?_,?_,λg H8 g0 g1 S8 B8=>?_⟩
   .by_cases z:((ys.length:Nat):Int)<4
    .rw[if_pos z];lia
    .rw[ù z];lia
   .by_cases z:((ys.length:Nat):Int)<4
    .rw[if_pos z];lia
    .rw[ù z];lia
   obtain⟨gn,rfl⟩:∃j:Nat,g=(j:Int):=Æ g.toNat Ã;have g4:gn<=4/\gn<=ys.length:=by
    by_cases z:((ys.length:Nat):Int)<4
    .rw[if_pos z] at g1;lia
    .rw[ù z] at g1;lia
   have h8:=B8 Y _ U hc;refine⟨_,h8,gY (by rw[mI];lia),Z++[gn],k'+1,_,À,?_,by simp[cl],λx hx=>?_,S8.mono .upd_at h8 (Ne.symm U),Ã,?_⟩
   .rw[fG];unfold gu;rw[g8];rfl
   .rcases iT.mp hx with z|z
    .exact c4 x z
    .rw[g_.mp z];exact g4
   .exact hI.past (B'.trans B8) G .upd_at
  .rintro L H8 ⟨Z,k8,o,_,hc,cl,c4,S8,ba,B8⟩;rw[fP] at cl ba;have aF:Z≠[]:=λz=>by rw[z] at cl;simp at cl;lia
   have w8:=B8 C _ X w7;have n8:=B8 O _ af h7;have aC:=aW.trans B8;refine Æ mU (λD I=>?_);have ak:D≠r:=λz=>by obtain⟨_,e⟩:=S8.lst;rw[z,e] at I;cases I
   have s9:gJ H8 (Ý H8 D []):=(Ø H8).new I;have g9:(Ý H8 D []) D=Ð []:=fG;have HF:H D=none:=aC.free ak I;have bq:C≠D:=f6 w8 I;have bo:O≠D:=f6 n8 I;have aM:Y≠D:=f6 hc I;generalize upd H8 D (.lst [])=H9 at s9 g9 ⊢;refine⟨_,À,_,À,C,Y,À,Æ _ (Ù (s9 _ _ w8)),Æ _ (Ù (s9 _ _ hc)),khh (xs:=ww.map Ê) (ys:=gu Z) (by rw[fP,mI,cl]) (kb0 r O Y D C m f ww ys Z H9 K k8) ?_ ?_ ?_ ?_⟩
   .exact⟨[],[],k8,Ç,Ç,Ç,Ç,À,g9,.nil,À,Ò,À,À,S8.same s9,Ã,.refl _ _ _⟩
   .rintro i L H' _ ⟨_,_,_,_,_,_,_,_,_,_,_,_,_,_,_,_,B⟩;exact⟨Ù (B C _ X bq (s9 _ _ w8)),Ù (B Y _ U aM (s9 _ _ hc))⟩
   .rintro i x y L H' tp hx hy bf ⟨ao,bs,k',o7,o8,o9,bt,rfl,aB,hA,bl,M,T,ab,S',ay,B'⟩;have il:i<ww.length:=by have:=(gR.mp hx).1;rw[fP] at this;exact this
    obtain⟨c,aK,rfl⟩:=Cg hy;rw[i3,gF il] at hx;obtain⟨w,hw,rfl⟩:∃w:Str,ww[i]?=some w/\x=.str w:=Î ww[i] (gF il) (ď hx).symm;have s2:gJ H' (Ā H' tp [Ä w,Ë (c:Nat)]):=(Ø H').new bf;have g2:(Ā H' tp [Ä w,Ë (c:Nat)]) tp=ä [Ä w,Ë (c:Nat)]:=fG;generalize upd H' tp (.tup [.str w,.int (c:Nat)])=bB at s2 g2 ⊢;refine⟨tp,_,À,fR.of g2,À,_,_,À,_,_,À,À,?_⟩;have ar:=s2 _ _ (B' O _ af bo (s9 _ _ n8));have aD:=s2 _ _ (B' Y _ U aM (s9 _ _ hc));have aG:=s2 _ _ aB;refine⟨_,À,_,À,_,_,À,È ⟨_,Ù ar,À⟩,r,_,k',À,S'.same s2,Ã,by rw[fP];lia,by rw[fP];lia,λt R t0 t1 aX aa=>?_⟩;obtain⟨a,rfl⟩:∃j:Nat,t=(j:Int):=Æ t.toNat Ã;have P:=aa O _ af ar;have aE:=aa Y _ U aD;have aH:=aa D _ ak aG;refine⟨_,À,_,À,_,À,È ⟨O,_,À,Ù P,λa1 aI=>?_⟩⟩;rw[Ct,<-BP];have aN:(Ý R a1 ((ys.drop a).map Ê)) O=Ð (ys.map Ê):=by rw[fM (f6 P aI)];exact P
    refine⟨_,À,_,À,_,À,È ⟨O,_,À,Ù aN,λa2 aJ=>?_⟩⟩;rw[vW,<-uY];have bj:a1≠a2:=f6 fG aJ;refine Í (Í (È ⟨a1,a2,_,_,À,À,by rw[fM bj,fG],fG,?_,λa3 a6=>?_⟩))
    .have:=gY (n:=100) Ï;rw[fP,fP,tu,kz];lia
    rw[<-g8];refine Õ _ À _ (È ⟨a3,_,À,Ù fG,λpr bb=>?_⟩);rw[vW,<-uY];have aO:∀y∈(ys.drop a++ys.take a).take c,y∈ys:=λy hy=>by
     rcases iT.mp (vJ hy) with z|z
     .exact Bs z
     .exact vJ z
    have aQ:((ys.drop a++ys.take a).take c).Nodup:=by
     refine(DU c _).nodup ?_;have z:(ys.take a++ys.drop a).Nodup:=by rw[xW];exact aT
     exact(List.perm_append_comm.nodup_iff).mp z
    have aP:Ô ((ys.drop a++ys.take a).take c)=c:=by
     have:=(c4 c (iS aK)).2;rw[kz,ie,tu,kz];lia
    have pl:Ô ((ys.drop a++ys.take a).take c)<=100:=by
     rw[kz,ie,tu,kz];lia
    have J:gJ R (Ý (Ý (Ý (Ý R a1 ((ys.drop a).map Ê)) a2 ((ys.take a).map Ê)) a3 ((ys.drop a++ys.take a).map Ê)) pr (((ys.drop a++ys.take a).take c).map Ê)):=((((Ø R).new aI).new aJ).new a6).new bb;have ai:(Ý (Ý (Ý (Ý R a1 ((ys.drop a).map Ê)) a2 ((ys.take a).map Ê)) a3 ((ys.drop a++ys.take a).map Ê)) pr (((ys.drop a++ys.take a).take c).map Ê)) pr=Ð (((ys.drop a++ys.take a).take c).map Ê):=fG;generalize upd (upd (upd (upd R a1 (.lst ((ys.drop a).map V.str))) a2 (.lst ((ys.take a).map V.str))) a3 (.lst ((ys.drop a++ys.take a).map V.str))) pr (.lst (((ys.drop a++ys.take a).take c).map V.str))=bC at J ai ⊢;generalize (ys.drop a++ys.take a).take c=ps at aO pl aQ aP ai;have ax:=aX.same J;have bp:pr≠r:=λz=>by
     have:=Rc ax (v:=Â pr) (Ą pr ai);exact this (by rw[z])
    have aq:=J _ _ aH;refine⟨_,À,È ⟨À,_,Ù aq⟩,_,À,_,À,_,À,_,À,_,À,_,À,r,O,pr,Y,w,m,k'+1,ys,ps,Z,À,ax,Ã,J _ _ P,aV,Ã,bA,ai,pl,aQ,aO,J _ _ aE,aF,Ã,λx hx=>(c4 x hx).1,m1,bh,af,bp,U,λv b bg ah hv a8 a9 aZ br aY bE aw=>?_⟩;have ae:=aw D _ ak aq;obtain⟨_,a0⟩:=(S'.same s2).lst;obtain⟨_,a4⟩:=ax.lst;have bw:gZ H' ah:=(((gZ.of_same s2).trans (.of_but aa a0)).trans (.of_same J)).trans (.of_but aw a4);have aR:gZ ah (Ý ah D (ao++[v])):=(gZ.refl ah).lst ae;refine⟨D,_,_,À,À,ae,gY (by rw[hA.len];lia),?_⟩;refine⟨ao++[v],bs++[b],bg,_,_,_,_,À,fG,(hA.imp λ_ _ z=>(z.mono bw).mono aR).snoc (hv.mono aR),by simp[bl],λb' a7=>(iT.mp a7).elim (M b') (λz=>by rw[g_.mp z];exact Æ aZ br),by rw[g8,T,mq,hw,List.map_singleton,a8];rfl,by rw[g8,ab,mq,aK,List.map_singleton,a9,aP];rfl,aY.mono .upd_at ae (Ne.symm ak),Ã,?_⟩;exact λe u n1 n2 h=>by rw[fM n2];exact aw e u n1 (J _ _ (aa e u n1 (s2 _ _ (B' e u n1 n2 h))))
   .rintro L H' ⟨ao,bs,k',o7,o8,o9,bt,rfl,aB,hA,bl,M,T,ab,S',ay,B'⟩;rw[fP] at bl ay;refine⟨_,À,D,_,À,È ⟨Ù aB,λl hl=>?_⟩⟩;rw[fP,<-cl] at ab;rw[fP] at T;rw[vL] at T ab;have ok:yD ys Z bs:=⟨aT,aU,Ã,Ã,Ã,Ã,by rw[T];exact au,λb hb=>av _ (by rw[<-T];exact List.mem_map_of_mem hb),ab,λx hx=>(c4 x hx).1,λb hb=>(M b hb).1⟩;refine q l ao bs ys Z k' _ fG (hA.imp λ_ _ z=>z.mono ((gZ.refl H').new hl)) ok (λb hb=>(M b hb).2) (S'.new hl) Ã (hI.new ?_ hl);exact λe u n1 h=>B' e u n1 (f6 h HF) (s9 _ _ (aC e u n1 h))
 rcases a5 with rfl|rfl
 .refine Ú (ke (Ù g4) Ï À (Ú ?_));obtain⟨s,h5,hY,c2⟩:∃s:Nat,(1:Int)+d=(s:Int)/\1<=s/\s<=5:=⟨(1+d).toNat,Ã,Ã,Ã⟩;have z:=ag s hY c2;rw[<-h5] at z;exact z
 .refine Ú (ke (Ù g4) Ï À (Ú ?_));exact ag 5 Ï Ï
def kR(s:Ö c)(h:H a=none):Ö (upd c a o):=λb u e=>by
 rw[fM (f6 e h)];exact s b u e
def mL(F:É Nat):É (iQ×V):=F.map λ(n:Nat)=>(Sum.inl ((n:Nat):Int),V.bl true)
theorem Bn:∀(F:List Nat) (m:Nat),(lD (mL F) (Sum.inl (m:Int))).isSome=æ (m∈F)
 |[],m=>rfl
 |a::r,m=>by
  unfold lD mL;rw[kL,x5];by_cases c:m=a
  .subst c;rw[decide_eq_true (by rfl:((Sum.inl (m:Int),V.bl true):iQ×V).1=Sum.inl (m:Int))];rw[decide_eq_true pH];rfl
  .have e:æ (((Sum.inl (a:Int),V.bl true):iQ×V).1=Sum.inl (m:Int))=false:=decide_eq_false λz=>c (by injection z with z;lia);rw[e];have b:=Bn r m;unfold lD mL at b;refine Eq.trans b ?_;rw[Bool.eq_iff_iff,decide_eq_true_eq,decide_eq_true_eq,g7];exact Æ .inr (λz=>z.resolve_left c)
def nY{F:List Nat}{m:Nat}(h:m∉F):mM (mL F) (Sum.inl (m:Int)) (V.bl true)=mL (F++[m]):=by
 have e:lD (mL F) (Sum.inl (m:Int))=none:=by
  have:=Bn F m;rw[decide_eq_false h] at this;cases q:lD (mL F) (Sum.inl (m:Int)) with
  |none=>rfl
  |some v=>rw[q] at this;cases this
 rw[FV _ e];unfold mL;rw[g8];rfl
def OE(F:É Nat):Ô (mL F)=F.length:=by unfold mL;rw[fP]
def Dx(rs:É gG)(a:Option Str)(F:É Nat)(n:Nat):Prop:=∀r,rs[n]?=Á r->(∀y,a=Á y->pQ r≠Ä y)->∀m∈ma n r,m∈F
def Dx.mono(h:Dx rs b F n)(s:∀x∈F,x∈a):Dx rs b a n:=λr e d m c=>s m (h r e d m c)
structure rb(rs:É gG)(un:Option Str)(F W:É Nat)(now:Nat->Prop):Prop where
 nd:F.Nodup
 way:∀x∈F,ou rs un x
 zero:0∈F
 sub:∀x∈W,x∈F
 cl:∀x∈F,x∈W\/now x\/Dx rs un F x
def rb.add(i:rb rs d F W c)(h:m∉F)(w:ou rs d m):rb rs d (F++[m]) (W++[m]) c:=by
 refine⟨AF i.nd h,λx b=>?_,mP _ i.zero,λx b=>?_,λx b=>?_⟩
 .rcases iT.mp b with z|z
  .exact i.way x z
  .rw[g_.mp z];exact w
 .rcases iT.mp b with z|z
  .exact mP _ (i.sub x z)
  .exact mO _ z
 .rcases iT.mp b with z|z
  .rcases i.cl x z with a|a|a
   .exact È (mP _ a)
   .exact Í (È a)
   .exact Í (Í (a.mono λy e=>mP _ e))
  .exact È (mO _ z)
def Hb(rt fd d:d_)(H:b_)(rs:É gG)(c:Option Str)(m:Nat):fO->b_->Prop:=λb a=>∃(F W:List Nat) (e f:Option V),b=[Å rt,Á (El c),Å fd,Å d,e,f]/\a fd=Á (.dK (mL F))/\a d=Ð (gu W)/\rb rs c F W (λ_=>False)/\Ö a/\2*(rs.length-F.length)+W.length<=m
def kfI(rt fd e g:d_)(H:b_)(rs:É gG)(d:Option Str)(c:É Nat)(n m j:Nat):fO->b_->Prop:=λb a=>∃(F W:List Nat) (f:Option V),b=[Å rt,Á (El d),Å fd,Å e,gm n,f]/\a fd=Á (.dK (mL F))/\a e=Ð (gu W)/\a g=ä (gu c)/\rb rs d F W (λx=>x=n)/\Ö a/\2*(rs.length-F.length)+W.length<=m/\∀i,i<j->∀x,c[i]?=Á x->x∈F
def BV(a:É Nat)(n:Nat):gu (a++[n])=gu a++[V.int (n:Nat)]:=by unfold gu;rw[g8];rfl
def rb.done{rs:List gG}{a:Option Str}{F:List Nat}(i:rb rs a F [] (λ_=>False))(m:Nat):m∈F↔ou rs a m:=by
 refine⟨i.way m,λh=>?_⟩
 induction h with
 |zero=>exact i.zero
 |step _ e c b d=>
  rcases i.cl _ d with z|z|z
  .cases z
  .exact z.elim
  .exact z _ e c _ b
def rb.len(g:wY rs)(i:rb rs c F W a):F.length<=rs.length:=w4 i.nd λx b=>(i.way x b).lt g
def UY{K:a_}{rt fd l:d_}{H O:b_}{u:List V}{rs:List gG}{B:Option Str}{F W:List Nat}{n m:Nat}{r:gG}{v:V}{o5:Option V}{D:sW}(U:H rt=ä u)(S:H fd=none)(X:H l=none)(M:fd≠l)(g:wY rs)
  (e1:u[n]?=Á v) (e2:rs[n]?=Á r) (T:kh H v r) (hy:∀y,B=Á y->pQ r≠Ä y) (hn:ou rs B n) (h1:O fd=Á (.dK (mL F))) (h2:O l=Ð (gu W)) (i:rb rs B F W (λx=>x=n)) (s:Ö O) (hm:2*(rs.length-F.length)+W.length<=m) (ah:m<=1000)
  (q:∀(h:fO) (H':b_),Hb rt fd l H rs B m h H'->D.nx h H') :
  kD (i_ K (å (EB K) f9 (fX ø (ý 4)))) (gB 5) (La K) D [Å rt,Á (El B),Å fd,Å l,gm n,o5] O:=by
 refine Í ⟨_,À,_,À,rt,n,u,v,r,À,s _ _ U,e1,T.mono (.of_same s),λR H2 L s2=>⟨R,À,Æ _ (fR.of L),v7 (xs:=gu (ma n r)) (kfI rt fd l R H rs B (ma n r) n m) ?_ ?_ ?_ ?_⟩⟩
 .exact⟨F,W,_,À,s2 _ _ h1,s2 _ _ h2,L,i,s.trans s2,hm,λi hi=>Ì hi (mH _)⟩
 .rintro j h H' _ ⟨_,_,_,_,_,_,o,_⟩;exact fR.of o
 .rintro j x h H' Y ⟨C,E,p5,rfl,o,G,p,f,Q,d,J⟩;obtain⟨w,t,rfl⟩:=Cg Y;have hw:ou rs B w:=.step hn e2 hy (iS t);have fl:=f.len g;have ag:=g.few;refine⟨_,À,_,À,fd,_,À,rO.k (k:=Sum.inl (w:Int)) o,_,À,?_⟩;show if(!(lD (mL C) (Sum.inl (w:Int))).isSome)=true then _ else _;rw[Bn];refine nN (λb=>?_) (λb=>?_)
  .have aa:=w4 (AF f.nd b) (n:=rs.length) λy Z=>by
    rcases iT.mp Z with z|z
    .exact(f.way y z).lt g
    .rw[g_.mp z];exact hw.lt g
   rw[ie,pk] at aa;refine⟨_,À,_,À,fd,_,À,wq.k (k:=Sum.inl (w:Int)) o (gY (by rw[OE];lia)),?_⟩;rw[nY b];have I:(upd H' fd (.dK (mL (C++[w])))) l=Ð (gu E):=by rw[fM (Ne.symm M)];exact G
   have af:E.length<=100000:=Ã
   refine⟨_,À,È ⟨À,_,Ù I⟩,_,À,l,_,_,À,À,I,gY (by rw[mI];exact af),?_⟩;have ab:R≠fd:=λz=>by rw[z,o] at p;cases p
   have ae:R≠l:=λz=>by rw[z,G] at p;cases p
   refine⟨C++[w],E++[w],_,À,by rw[fM M,fG],by rw[fG,BV],by rw[fM ae,fM ab];exact p,f.add b hw,kR (kR Q S) X,?_,λk P x a=>?_⟩
   .simp only[ie,pk];lia
   .by_cases c:k<j
    .exact mP _ (J k c x a)
    .have:k=j:=Ã
     subst this;rw[t] at a;cases a;exact mO _ (g_.mpr À)
  .refine⟨C,E,_,À,o,G,p,f,Q,d,λk P x a=>?_⟩;by_cases c:k<j
   .exact J k c x a
   .have:k=j:=Ã
    subst this;rw[t] at a;cases a;exact b
 .rintro h H' ⟨C,E,p5,rfl,o,G,p,f,Q,d,J⟩;rw[mI] at J;refine q _ _ ⟨C,E,_,_,À,o,G,⟨f.nd,f.way,f.zero,f.sub,λx Y=>?_⟩,Q,d⟩;rcases f.cl x Y with z|z|z
  .exact È z
  .subst z;refine Í (.inr λr' e _ m' d=>?_);rw[e2] at e;cases e;obtain⟨k,P,ek⟩:=nB.mp d;exact J k P m' (by rw[gF P,ek])
  .exact Í (Í z)
def kbH{K:a_}{vs:List V}{H:b_}{Q:fS}{E:f_}(h:BS K vs H Q E):MN K (ì í Q) (gW Ks vs) H:=by
 obtain⟨rt,R,rvs,I,rfl,w,hA,g,q⟩:=h;refine λd p=>⟨fG,[(Sum.inl 0,V.bl true)],À,Ï,?_⟩;have e0:upd (upd H d (.dK [])) d (.dK (xn [] [(Sum.inl 0,V.bl true)]))=upd H d (.dK (mL [0])):=by
  rw[AE];have:xn [] [((Sum.inl 0:iQ),V.bl true)]=mL [0]:=by
   show mM [] (Sum.inl 0) (V.bl true)=_;rw[FV _ Pl];rfl
  rw[this]
 rw[e0];refine Æ kK (λa o=>?_);have c:d≠a:=f6 fG o;have k:H a=none:=by
  have:(upd H d (.dK (mL [0]))) a=H a:=fM (Ne.symm c);rw[<-this];exact o
 have aa:=g.few;refine Î (λm J H'=>m<=1000/\Hb rt d a H I R m J H') ⟨2*(I.length-1)+1,Ã,[0],[0],Ç,Ç,À,by rw[fM c,fG],fG,⟨Ò,λx b=>by rw[g_.mp b];exact .zero,Ò,λx b=>b,λx b=>È b⟩,kR (kR (Ø H) p) k,Ò⟩ ?_;rintro m J M ⟨ae,F,W,o4,o5,rfl,h1,O,i,s,hm⟩;refine⟨_,À,_,_,À,È ⟨_,Ù O,À⟩,_,_,À,À,_,À,gz (λP=>?_) (λP=>?_)⟩
 .rw[mI] at P;obtain⟨L,n,rfl⟩:∃L n,W=L++[n]:=by
   rcases List.eq_nil_or_concat W with z|⟨L,n,z⟩
   .subst z;simp at P
   .exact Î L n (by rw[z,List.concat_eq_append])
  have Y:=i.sub n (mO _ (g_.mpr À));have X:=i.way n Y;have nl:=X.lt g;obtain⟨v,r,S,U,u⟩:=hA.get nl;have t:2*(I.length-F.length)+L.length<=m-1:=by rw[ie,pk] at hm;lia
  have m0:0<m:=by rw[ie,pk] at hm;lia
  refine⟨Hb rt d a H I R (m-1),λag H4 h4=>⟨m-1,Ã,Ã,h4⟩,?_⟩;rw[BV] at O;refine⟨_,À,È ⟨À,_,Ù O⟩,a,_,V.int (n:Nat),À,À,O,?_,?_⟩
  .rw[ie,pk,Bw,tr ï,yc];rfl
  rw[HK];have f:(Ý M a (gu L)) d=Á (.dK (mL F)):=by rw[fM c];exact h1
  have j:(Ý M a (gu L)) a=Ð (gu L):=fG;have C:Ö (Ý M a (gu L)):=kR s k;generalize upd M a (.lst (gu L))=H2 at f j C;have B:rb I R F L (λx=>x=n):=⟨i.nd,i.way,i.zero,λx b=>i.sub x (mP _ b),λx b=>by
   rcases i.cl x b with z|z|z
   .rcases iT.mp z with z|z
    .exact È z
    .exact Í (È (g_.mp z))
   .exact z.elim
   .exact Í (Í z)⟩
  have T:rvs[((n:Nat):Int).toNat]?=Á v:=by simpa using S
  cases R with
  |none=>
   refine⟨_,À,À,_,À,lC (lC ?_)⟩;exact UY w p k c g S U u (λy z=>by cases z) X f j B C t Ã λ_ _ z=>z
  |some y=>
   refine⟨_,À,À,_,À,i4 ?_⟩;refine Õ _ À _ (iU (C _ _ w) Ã T ⟨v,r,À,u.mono (.of_same C),λH3 D=>Ú (ñ ?_ _ À ?_)⟩)
   .cases r<;>rfl
   .refine nN (λZ=>?_) (λhe=>?_)
    .exact UY w p k c g S U u (λy' z=>by cases z;exact Z) X (D _ _ f) (D _ _ j) B (C.trans D) t Ã λ_ _ z=>z
    .refine⟨F,L,_,_,À,D _ _ f,D _ _ j,⟨B.nd,B.way,B.zero,B.sub,λx b=>?_⟩,C.trans D,t⟩;rcases B.cl x b with z|z|z
     .exact È z
     .subst z;refine Í (.inr λr' e hy=>?_);rw[U] at e;cases e;exact Ì he (hy y À)
     .exact Í (Í z)
 .rw[mI] at P;have:W=[]:=sH.mp Ã;subst this;have fl:=i.len g;have ab:=g.few;refine⟨_,À,d,_,F.map (λn=>((n:Nat):Int)),À,h1,?_,by rw[fP];lia,λl af G hp hs=>?_⟩
  .unfold mL;rw[pJ,pJ];rfl
  .obtain⟨ks,rfl,hk,hr⟩:=kdW hp hs i.nd;have e:(ks.map λn=>((n:Nat):Int)).map V.int=gu ks:=by unfold gu;rw[pJ];rfl
   rw[e];refine q l ks _ (λm=>(hk m).trans (i.done m)) hr fG (s.free G) (s.new G)
def KD(a b:É Nat):gu (a++b)=gu a++gu b:=by unfold gu;rw[g8]
def kj7{K:a_}{vs:List V}{H:b_}{Q:fS}{E:f_}(h:AL K vs H Q E):Si K (ì í Q) (gW RD vs) H:=by
 obtain⟨rt,n,rvs,v,r,rfl,c,j,i,q⟩:=h;have d:rvs[((n:Nat):Int).toNat]?=Á v:=by simpa using j
 have e:(0:Int)<=((n:Nat):Int):=by omega
 have g:(((n+1:Nat):Nat):Int)=(n:Int)+1:=by omega
 cases r with
 |num x z=>
  obtain⟨p,rfl,h⟩:=i;refine Õ _ À _ (iU c e d (û h (é À _ À ?_)));refine Õ _ À _ (iU c e d (û h (é À _ À ?_)));refine Õ _ À _ (iU c e d (û h (é À _ À ?_)));exact Ú (È (Õ _ _ À (Æ kK (λt f=>(Ē (q t f))))))
 |op x s a b=>
  obtain⟨p,rfl,h⟩:=i;refine Õ _ À _ (iU c e d (û h (é À _ À ?_)));refine Õ _ À _ (iU c e d (û h (é À _ À ?_)));refine Õ _ À _ (iU c e d (û h (é À _ À ?_)));exact Ú (È (Õ _ _ À (Æ kK (λt f=>(Ē (q t f))))))
 |call x k m=>
  obtain⟨p,u,rfl,h,o⟩:=i;refine Õ _ À _ (iU c e d (û h (é À _ À ?_)));refine Õ _ À _ (iU c e d (û h (é À _ À ?_)));refine Õ _ À _ (iU c e d (û h (é À _ À ?_)));exact Ú (È (Õ _ _ À (Æ kK (λt f=>(Ē (q t f))))))
 |say a=>
  obtain⟨p,rfl,h⟩:=i;refine Õ _ À _ (iU c e d (û h (é À _ À ?_)));refine Õ _ À _ (iU c e d (û h (é À _ À ?_)));refine Õ _ À _ (iU c e d (û h (é À _ À ?_)));exact Ú (È (Õ _ _ À (Æ kK (λt f=>(Ē (q t f))))))
 |jump l=>
  obtain⟨p,rfl,h⟩:=i;refine Õ _ À _ (iU c e d (û h (ñ À _ À (mi ?_))));exact Õ _ À _ (iU c e d (û h ⟨kK,λt f=>(Ē (q t f))⟩))
 |test a l=>
  obtain⟨p,rfl,h⟩:=i;refine Õ _ À _ (iU c e d (û h (é À _ À ?_)));refine Õ _ À _ (iU c e d (û h (ñ À _ À (mi ?_))));exact Ú (È (Õ _ _ À (Õ _ À _ (iU c e d (û h ⟨ka,λt f=>(Ē (q t f))⟩)))))
 |give a=>
  obtain⟨p,rfl,h⟩:=i;refine Õ _ À _ (iU c e d (û h (é À _ À ?_)));refine Õ _ À _ (iU c e d (û h (é À _ À ?_)));refine Õ _ À _ (iU c e d (û h (ñ À _ À (mi ?_))));exact Æ mU (λt f=>(Ē (q t f)))
def kj9{K:a_}{vs:List V}{H:b_}{Q:fS}{E:f_}(h:Gc K vs H Q E):Sk K (ì í Q) (gW RE vs) H:=by
 obtain⟨v,r,rfl,f,q⟩:=h;cases r with
 |num x z=>
  obtain⟨p,rfl,h⟩:=f;refine á h (é À _ À ?_);refine á h (é À _ À ?_);refine á h ?_;refine Æ kM (λt d=>⟨t,_,À,Í (fR.of fG),À,À,_,À,s_ â ?_⟩);have g:p≠t:=f6 h d;exact Æ mU (λe c=>q e _ fG (((Ø H).new d).free c) (((Ø H).new d).new c))
 |op x s a b=>
  obtain⟨p,rfl,h⟩:=f;refine á h (ñ À _ À (mi ?_));exact á h (á h ⟨ka,λt d=>q t _ fG d ((Ø H).new d)⟩)
 |call x k o=>
  obtain⟨p,m,rfl,h,j⟩:=f;refine á h (é À _ À ?_);refine á h (ñ À _ À (mi ?_));exact á h ⟨m,_,À,Í (fR.of j),λl i=>q l _ fG i ((Ø H).new i)⟩
 |say a=>
  obtain⟨p,rfl,h⟩:=f;refine á h (é À _ À ?_);refine á h (é À _ À ?_);refine á h ?_;refine Æ kM (λt d=>⟨t,_,À,Í (fR.of fG),À,À,_,À,rM â ?_⟩);have g:p≠t:=f6 h d;exact á (by rw[fM g];exact h) ⟨kK,λe c=>q e _ fG (((Ø H).new d).free c) (((Ø H).new d).new c)⟩
 |jump n=>
  obtain⟨p,rfl,h⟩:=f;refine á h (é À _ À ?_);refine á h (é À _ À ?_);refine á h ?_;refine Æ kM (λt d=>⟨t,_,À,Í (fR.of fG),À,À,_,À,s_ â ?_⟩);have g:p≠t:=f6 h d;exact Æ mU (λe c=>q e _ fG (((Ø H).new d).free c) (((Ø H).new d).new c))
 |test a n=>
  obtain⟨p,rfl,h⟩:=f;refine á h (é À _ À ?_);refine á h (é À _ À ?_);refine á h ?_;refine Æ kM (λt d=>⟨t,_,À,Í (fR.of fG),À,À,_,À,rM â ?_⟩);have g:p≠t:=f6 h d;exact á (by rw[fM g];exact h) ⟨kK,λe c=>q e _ fG (((Ø H).new d).free c) (((Ø H).new d).new c)⟩
 |give a=>
  obtain⟨p,rfl,h⟩:=f;refine á h (é À _ À ?_);refine á h (é À _ À ?_);refine á h ?_;refine Æ kM (λt d=>⟨t,_,À,Í (fR.of fG),À,À,_,À,rM â ?_⟩);have g:p≠t:=f6 h d;exact á (by rw[fM g];exact h) ⟨kK,λe c=>q e _ fG (((Ø H).new d).free c) (((Ø H).new d).new c)⟩
def Wj{K:a_}(T:DC K){vs:List V}{H:b_}{Q:fS}{E:f_}(h:Ab K vs H Q E):SR K (ì í Q) (gW HG vs) H:=by
 obtain⟨x,a,b,c,rfl,l,q⟩:=h;refine⟨_,À,_,À,x,_,À,T.clN,T.nNp,È ⟨l,λd j f=>?_⟩⟩;have k:∀{i},(upd (upd (upd H d (kv d [("part",a)])) x (kW x (iI K "NoProgram") (Á d))) d (kv d i)) x=Á (kW x (iI K "NoProgram") (Á d)):=λ{i}=>by rw[fM (Ne.symm f),fG]
 refine⟨_,À,_,À,x,_,À,T.clN,T.nNr,Í ⟨d,[("part",a)],fG,f,by rw[fM f,fG],by show 1<1000;decide,?_⟩⟩;refine⟨_,À,_,À,x,_,À,T.clN,T.nNw,Í ⟨d,_,k,f,fG,by show 2<1000;decide,?_⟩⟩;refine q d _ j f (by rw[fM (Ne.symm f),fM (Ne.symm f),fG]) ?_ λp o n e=>?_
 .rw[fG];rfl
 .have g:p≠d:=f6 e j;rw[fM g,fM g,fM n,fM g];exact e
def kbG{K:a_}(T:DC K){vs:List V}{H:b_}{Q:fS}{E:f_}(h:Al K vs H Q E):ML K E (ì í Q) (gW L_ vs) H:=by
 obtain⟨k,r,u,rfl,h⟩:=h;rcases h with⟨rfl,q⟩|⟨n,rfl,q⟩
 .exact⟨_,À,À,_,À,U8 À q⟩
 .refine⟨_,À,À,_,À,?_⟩;rw[show(! æ (V.int n=V.non))=true from Ò];refine lC ?_;refine⟨_,À,_,À,_,À,λx l=>⟨x,_,_,_,À,fG,λi H' s f j c g=>⟨À,x,_,_,À,T.clN,j,(λz=>f (ď z)),λm d t=>?_⟩⟩⟩;refine q i _ (λp o e=>?_) ?_
  .have a:p≠x:=f6 e l;have b:H' p=Á o:=g p o a (by rw[fM a];exact e);rw[fM a,fM (f6 b d)];exact b
  .rw[fM f,fM (f6 c d)];exact c
def td(a:Ñ):É (iQ×V):=a.map λy=>(Sum.inr y,V.bl true)
def xH(a:Ñ)(y:Str):Ñ:=if y∈a then a else a++[y]
def keP(b:Ñ)(y:Str):((td b).any λd=>æ (d.1=(Sum.inr y:iQ)))=æ (y∈b):=by
 unfold td;rw[List.any_map,Bool.eq_iff_iff,List.any_eq_true,decide_eq_true_eq];constructor
 .rintro⟨z,c,e⟩;have a:(Sum.inr z:iQ)=Sum.inr y:=of_decide_eq_true e;injection a with a;rw[<-a];exact c
 .intro h;exact Î y h (by show æ ((Sum.inr y:iQ)=Sum.inr y)=true;simp)
def kkP(a:Ñ)(y:Str):mM (td a) (Sum.inr y) (V.bl true)=td (xH a y):=by
 unfold mM xH;rw[keP];by_cases c:y∈a
 .rw[if_pos (decide_eq_true c),if_pos c];unfold td;rw[pJ];refine DQ λz _=>?_;show(if(Sum.inr z:iQ)=Sum.inr y then((Sum.inr z:iQ),V.bl true) else(Sum.inr z,V.bl true))=_;split<;>rfl
 .rw[ù (by rw[decide_eq_false c];decide),ù c];unfold td;rw[g8];rfl
def keY:z∈xH a y↔z∈a\/z=y:=by
 unfold xH;split
 .rename_i h;exact Æ .inl (λq=>q.elim id λe=>by rw[e];exact h)
 .rw[iT,g_]
def keT(a:Ñ)(y:Str):Ô (xH a y)<=a.length+1:=by
 unfold xH;split
 .lia
 .rw[ie,pk];lia
def keQ(a:Ñ):Ô (td a)=a.length:=by unfold td;rw[fP]
def kdI(a:Ñ):(td a).map (λb=>iP b.1)=a.map Ê:=by unfold td;rw[pJ];rfl
def vd{ys:List Str}{i:Nat}{x:V}(h:(ys.map Ê)[i]?=Á x):∃y,ys[i]?=Á y/\x=Ä y:=by
 rw[i3] at h;obtain⟨y,e,rfl⟩:=pj.mp h;exact Î y e À
def WO{K:a_}{vs:List V}{H:b_}{Q:fS}{E:f_}(h:HQ K vs H Q E):Uj K (ì í Q) (gW TU vs) H:=by
 obtain⟨rt,rvs,Z,rfl,t,P,few,rd,q⟩:=h;refine λc p=>?_;show SV K _ [Å rt,Å c,Ç,Ç] (upd H c (.dK []));have s0:Ö (upd H c (.dK [])):=(Ø H).new p;refine Í ⟨_,À,rt,À,Æ _ (fR.of (s0 _ _ t)),v7 (xs:=rvs) (λi a H'=>∃(m:List Str) (I o:Option V),a=[Å rt,Å c,I,o]/\H' c=Á (.dK (td m))/\(∀y,y∈m↔∃j r,j<i/\Z[j]?=Á r/\y∈mJ r)/\m.length<=100*i/\Ö H')
  ⟨[],_,_,À,fG,λy=>⟨λz=>(by cases z),λ⟨j,_,z,_⟩=>Ì z (mH _)⟩,lu _,s0⟩ ?_ ?_ ?_⟩
 .rintro i a H' _ ⟨_,_,_,_,_,_,_,s⟩;exact fR.of (s _ _ t)
 .rintro i x a O hx ⟨m,I,o,rfl,D,C,U,B⟩;obtain⟨r,n,ra⟩:=P.of_v hx;have ir:i<Z.length:=(gR.mp n).1;have Y:=rd r (iS n);show SU K _ [Å rt,Å c,Á x,o] O;refine Í ⟨_,À,x,r,À,ra.mono (.of_same B),λM H2 u s2=>⟨M,À,Æ _ (fR.of u),v7 (xs:=(mJ r).map Ê) (λj a H'=>∃(b:List Str) (o:Option V),a=[Å rt,Å c,Á x,o]/\H' c=Á (.dK (td b))/\H' M=ä ((mJ r).map Ê)/\
   (∀y,y∈b↔y∈m\/y∈(mJ r).take j)/\b.length<=100*i+j/\Ö H') ⟨m,_,À,s2 _ _ D,u,λy=>Ò,Ã,B.trans s2⟩ ?_ ?_ ?_⟩⟩
  .rintro j a H' _ ⟨_,_,_,_,h3,_⟩;exact fR.of h3
  .rintro j z a H' hz ⟨b,p3,rfl,f,g,d,v,L⟩;obtain⟨y,T,rfl⟩:=vd hz;have jl:j<Ô (mJ r):=(gR.mp T).1;show SS K _ [Å rt,Å c,Á x,î y] H';refine⟨_,À,_,À,c,_,À,wq.k (k:=Sum.inr y) f (gY (by rw[keQ];lia)),?_⟩;rw[kkP];have G:M≠c:=λz=>by rw[z,f] at g;cases g
   refine⟨xH b y,_,À,fG,by rw[fM G];exact g,λw=>?_,by have:=keT b y;lia,kR L p⟩;rw[keY,d,mq,T];simp only[Option.toList_some,iT,g_,or_assoc]
  .rintro a H' ⟨b,p3,rfl,f,g,d,v,L⟩;rw[fP] at d v;rw[m5 ï] at d;refine⟨b,_,_,À,f,λy=>?_,Ã,L⟩;rw[d,C];constructor
   .rintro(⟨j,J,X,e,h⟩|h)
    .exact⟨j,J,Ã,e,h⟩
    .exact⟨i,r,Ã,n,h⟩
   .rintro⟨j,J,X,e,h⟩;rcases ua.mp X with z|z
    .exact È ⟨j,J,z,e,h⟩
    .subst z;rw[n] at e;cases e;exact Í h
 .rintro a O ⟨m,I,o,rfl,D,C,U,B⟩;rw[P.len] at C U;refine⟨_,À,c,_,À,È D,λl S=>?_⟩;rw[kdI];refine q l m _ (λy=>?_) Ã (B.free S) fG (B.new S);rw[C];constructor
  .rintro⟨j,r,_,e,h⟩;exact Î r (iS e) h
  .rintro⟨r,n,h⟩;obtain⟨j,R,e⟩:=nB.mp n;exact⟨j,r,R,by rw[gF R,e],h⟩
def uI(rs:É gG)(y:Str)(m:Nat):Bool:=match rs[m]? with
 |some r=>æ (y∈mJ r)
 |none=>Ü
def O7:uI rs y m=true↔∃r,rs[m]?=Á r/\y∈mJ r:=by
 unfold uI;cases e:rs[m]? with
 |none=>exact Æ (λz=>by cases z) (λ⟨r,z,_⟩=>by cases z)
 |some r=>exact Æ (λz=>Ą r (of_decide_eq_true z)) (λ⟨a,z,q⟩=>by cases z;exact decide_eq_true q)
def kbL(a:É Nat):gu a=(a.map λ(n:Nat)=>(n:Int)).map V.int:=by unfold gu;rw[pJ];rfl
def XU{K:a_}{vs:List V}{H:b_}{Q:fS}{E:f_}(h:Ia K vs H Q E):Ux K (ì í Q) (gW Ip vs) H:=by
 obtain⟨v,b,cs,rfl,⟨pt,pa,rt,rvs,rfl,U,aj,G,hR⟩,sh,q1,q2⟩:=h;have g:=sh.good;have af:=g.few;refine á U ?_;show Ua K _ [Å pt,Å rt,Ç,Ç] H;refine Æ mU (λd P=>?_);show T_ K _ [Å pt,Å rt,Å d,Ç] (Ý H d []);have s0:Ö (Ý H d []):=(Ø H).new P;refine È ⟨_,À,rt,rvs,b.rows,À,s0 _ _ G,hR.imp λ_ _ z=>z.mono (.of_same s0),af,sh.rd,λl M H1 ar av R hl s1=>⟨l,À,Æ _ (Ù hl),wZ (xs:=M.map Ê) (λi a H'=>∃(f:List Nat) (o:Option V),a=[Å pt,Å rt,Å d,o]/\H' d=Ð (gu f)/\H' l=Ð (M.map Ê)/\
  (∀m,m∈f↔∃y,y∈M.take i/\y∉b.params/\ou b.rows (Á y) m/\uI b.rows y m=true)/\f.length<=64*i/\Ö H') ⟨[],_,À,s1 _ _ fG,hl,λm=>Ò,lu _,s0.trans s1⟩ ?_ ?_ ?_⟩⟩
 .rintro i a H' _ ⟨_,_,_,_,h3,_⟩;exact Ù h3
 .rintro i x a H2 hx ⟨f,o,rfl,O,B,X,ln,t⟩;obtain⟨y,hy,rfl⟩:=vd hx;have il:i<M.length:=(gR.mp hy).1;have tk:∀z,z∈M.take (i+1)↔z∈M.take i\/z=y:=λz=>by rw[mq,hy];simp
  show T9 K _ [Å pt,Å rt,Å d,î y] H2;refine Õ _ À _ (û (t _ _ U) ⟨pa,_,À,Í (fR.of (t _ _ aj)),À,Aq _,_,À,?_⟩);rw[rq];refine nN (λai=>?_) (λah=>?_)
  .refine⟨_,À,È ⟨À,_,Ù O⟩,?_⟩;refine È ⟨_,À,_,À,rt,Á y,rvs,b.rows,À,t _ _ G,hR.imp λ_ _ z=>z.mono (.of_same t),g,λlw p H3 T hr C au s3=>⟨lw,À,Æ _ (Ù C),λD hD=>?_⟩⟩;have aa:=t.trans s3;have nD:lw≠D:=f6 C hD;have Y:∀m∈p,m<b.rows.length:=λm S=>((T m).mp S).lt g;have aw:p.length<=b.rows.length:=w4 (hr.imp λh=>kP h) Y;refine sO (xs:=gu p) (λj a H'=>∃o,a=[Å pt,Å rt,Å d,î y,o]/\H' D=Ð (gu ((p.take j).filter (uI b.rows y)))/\gJ H3 H') ?_ ?_ ?_ ?_
   .exact⟨Ç,À,fG,(Ø H3).new hD⟩
   .rintro j a H' _ ⟨o,_,_,s⟩;exact Ù (s _ _ C)
   .rintro j x a H4 aq ⟨o4,rfl,c,J⟩;obtain⟨m,S,rfl⟩:=Cg aq;have ml:=Y m (iS S);have ab:=aa.trans J;obtain⟨w,r,e1,e2,ak⟩:=(hR.imp λ_ _ z=>z.mono (gZ.of_same ab)).get ml;have ae:rvs[((m:Nat):Int).toNat]?=Á w:=by simpa using e1
    have ft:=LP (uI b.rows y) p j m S;have jl:j<p.length:=(gR.mp S).1;have fl:Ô ((p.take j).filter (uI b.rows y))<=100:=mC (wF _ _) (by rw[kz];lia);refine⟨_,À,_,À,_,À,iU (ab _ _ G) Ã ae ⟨w,r,À,ak,λtp H5 ao s5=>⟨tp,_,À,Í (fR.of ao),À,Aq _,_,À,?_⟩⟩⟩;rw[rq];have rv:uI b.rows y m=æ (y∈mJ r):=by unfold uI;rw[e2]
    show if æ (y∈mJ r)=true then _ else _;rw[<-rv];refine mD (λhb=>?_) (λhb=>?_)
    .refine⟨_,À,_,s5 _ _ c,gY (by rw[mI];lia),_,À,?_,kR (J.trans s5) hD⟩;rw[fG,ft,if_pos hb,KD];rfl
    .refine⟨_,À,?_,J.trans s5⟩;rw[ft,ù (by rw[hb];decide),oe];exact s5 _ _ c
   .rintro a H4 ⟨o4,_,c,J⟩;rw[mI,m5 ï] at c;have dl:Ô (p.filter (uI b.rows y))<=64:=mC (wF _ _) Ã;have ag:=J _ _ (s3 _ _ O);refine⟨d,D,_,_,À,À,ag,c,?_,?_⟩
    .rw[mI,mI];have:(7000:Nat)*64+64<=gM:=Ï
     lia
    .have n1:l≠d:=λz=>by rw[z,fG] at R;cases R
     refine⟨f++p.filter (uI b.rows y),_,À,by rw[fG,KD],by rw[fM n1];exact J _ _ (s3 _ _ B),λm=>?_,by rw[ie];lia,kR (aa.trans J) P⟩;rw[iT,X,wJ,T];constructor
     .rintro(⟨z,k,q⟩|⟨wy,I⟩)
      .exact Î z ((tk z).mpr (È k)) q
      .exact⟨y,(tk y).mpr (Í À),ai,wy,I⟩
     .rintro⟨z,k,Z,q⟩;rcases(tk z).mp k with L|L
      .exact ñ z L Z q
      .subst L;exact Í q
  .refine⟨f,_,À,O,B,λm=>?_,Ã,t⟩;rw[X];constructor
   .rintro⟨z,k,q⟩;exact Î z ((tk z).mpr (È k)) q
   .rintro⟨z,k,q⟩;rcases(tk z).mp k with L|L
    .exact Î z L q
    .subst L;exact Ì ah q.1
 .rintro a H2 ⟨f,o,rfl,O,B,X,ln,t⟩;rw[fP,m5 ï] at X;have mu:∀m,m∈f↔vF b m:=λm=>by
   rw[X];constructor
   .rintro⟨y,hy,Z,wy,I⟩;obtain⟨r,er,yr⟩:=O7.mp I;exact⟨r,y,er,yr,Z,wy⟩
   .rintro⟨r,y,er,yr,Z,wy⟩;exact⟨y,(ar y).mpr ⟨r,iS er,yr⟩,Z,wy,O7.mpr (Î r er yr)⟩
  refine⟨_,À,d,f.map λ(n:Nat)=>(n:Int),À,Ù (by rw[<-kbL];exact O),λe=>?_,λz k mn=>?_⟩
  .refine q1 (λn u=>?_) H2 t;have:=(mu n).mpr u;rw[List.map_eq_nil_iff.mp e] at this;cases this
  .obtain⟨n,hn,rfl⟩:=kA.mp k;refine q2 n ((mu n).mp hn) (λm lt u=>?_) H2 t;have:=mn (m:Int) (kA.mpr ⟨m,(mu m).mpr u,À⟩);lia
def lT(N:Nat)(F:É Nat):É V:=(lH N).map λm=>V.bl (æ (m∈F))
def AJ(N:Nat)(F:É Nat):Ô (lT N F)=N:=by unfold lT;rw[fP,uX]
def CI(F:É Nat)(h:m<N):(lT N F)[m]?=Á (.bl (æ (m∈F))):=by
 unfold lT;rw[i3,Bq h];rfl
def kg1(h:m<N):(lT N F).set m (.bl true)=lT N (F++[m]):=by
 apply DT;intro j;by_cases a:j<N
 .rw[CI _ a];by_cases c:m=j
  .subst c;rw[ph (by rw[AJ];exact h)];simp
  .rw[rW c,CI _ a];have:(j∈F++[m])↔j∈F:=by rw[iT,g_];exact Æ (λz=>z.resolve_right (Ne.symm c)) .inl
   simp only[this]
 .rw[ue (by rw[uV,AJ];lia),ue (by rw[AJ];lia)]
def Bm(g rt c d:d_)(y:Str)(H:b_)(rs:É gG)(m:Nat):fO->b_->Prop:=λb a=>∃(F W:List Nat) (e f:Option V),b=[Å g,Å rt,î y,Å c,Å d,e,f]/\a c=Ð (lT rs.length F)/\a d=Ð (gu W)/\rb rs (Á y) F W (λ_=>False)/\Ö a/\2*(rs.length-F.length)+W.length<=m
def kfz(h rt d e f:d_)(y:Str)(H:b_)(rs:É gG)(c:É Nat)(n m j:Nat):fO->b_->Prop:=λb a=>∃(F W:List Nat) (g:Option V),b=[Å h,Å rt,î y,Å d,Å e,gm n,g]/\a d=Ð (lT rs.length F)/\a e=Ð (gu W)/\a f=Ð (gu c)/\
 rb rs (Á y) F W (λx=>x=n)/\Ö a/\2*(rs.length-F.length)+W.length<=m/\∀k,k<j->∀x,c[k]?=Á x->x∈F
def kkp(Z:H rt=ä C)(aa:H u=none)(ab:H p=none)(J:u≠p)(g:wY rs)
  (e1:C[n]?=Á v) (e2:rs[n]?=Á r) (Y:kh H v r) (hy:pQ r≠Ä y) (hn:ou rs (Á y) n) (T:L u=Ð (lT rs.length F)) (U:L p=Ð (gu W)) (i:rb rs (Á y) F W (λx=>x=n)) (s:Ö L) (hm:2*(rs.length-F.length)+W.length<=m) (aj:m<=1000)
  (q:∀(l:fO) (H':b_),Bm Q rt u p y H rs m l H'->D.nx l H') :
  kD (i_ K (å (AL K) f9 (fX (fI 1) (ý 5)))) (gB 6) (Ei K) D [Å Q,Å rt,î y,Å u,Å p,gm n,o6] L:=by
 refine È ⟨_,À,_,À,rt,n,C,v,r,À,s _ _ Z,e1,Y.mono (.of_same s),λP b=>⟨P,À,Æ _ (Ù fG),wZ (xs:=gu (ma n r)) (kfz Q rt u p P y H rs (ma n r) n m) ?_ ?_ ?_ ?_⟩⟩
 .exact⟨F,W,_,À,by rw[fM (f6 T b)];exact T,by rw[fM (f6 U b)];exact U,fG,i,s.new b,hm,λi hi=>Ì hi (mH _)⟩
 .rintro j l H' _ ⟨_,_,_,_,_,_,w,_⟩;exact Ù w
 .rintro j x l H' hx ⟨o,E,p6,rfl,w,M,X,f,R,d,I⟩;obtain⟨h,B,rfl⟩:=Cg hx;have hw:ou rs (Á y) h:=.step hn e2 (λy' z=>by cases z;exact hy) (iS B);have S:=hw.lt g;have fl:=f.len g;have ai:=g.few;show Ei K _ [Å Q,Å rt,î y,Å u,Å p,gm n,gm h] H';have gt:(lT rs.length o)[((h:Nat):Int).toNat]?=Á (.bl (æ (h∈o))):=by simpa using CI o S
  refine Õ _ À _ (ke (Ù w) Ã gt (Ú (nN (λt=>?_) (λt=>?_))))
  .have af:=w4 (AF f.nd t) (n:=rs.length) λy ae=>by
    rcases iT.mp ae with z|z
    .exact(f.way y z).lt g
    .rw[g_.mp z];exact S
   rw[ie,pk] at af;refine Õ _ À _ (uH w Ã (by rw[AJ];simpa using S) ?_);have e:(lT rs.length o).set ((h:Nat):Int).toNat (.bl true)=lT rs.length (o++[h]):=by
    rw[show((h:Nat):Int).toNat=h from Ò];exact kg1 S
   rw[e];have G:(Ý H' u (lT rs.length (o++[h]))) p=Ð (gu E):=by rw[fM (Ne.symm J)];exact M
   refine⟨_,À,È ⟨À,_,Ù G⟩,_,À,p,_,_,À,À,G,gY (by rw[mI];lia),?_⟩;have ag:P≠u:=Ne.symm (f6 T b);have ah:P≠p:=Ne.symm (f6 U b);refine⟨o++[h],E++[h],_,À,by rw[fM J,fG],by rw[fG,BV],by rw[fM ah,fM ag];exact X,f.add t hw,kR (kR R aa) ab,?_,λk O x a=>?_⟩
   .simp only[ie,pk];lia
   .by_cases c:k<j
    .exact mP _ (I k c x a)
    .have:k=j:=Ã
     subst this;rw[B] at a;cases a;exact mO _ (g_.mpr À)
  .refine⟨o,E,_,À,w,M,X,f,R,d,λk O x a=>?_⟩;by_cases c:k<j
   .exact I k c x a
   .have:k=j:=Ã
    subst this;rw[B] at a;cases a;exact t
 .rintro l H' ⟨o,E,p6,rfl,w,M,X,f,R,d,I⟩;rw[mI] at I;refine q _ _ ⟨o,E,_,_,À,w,M,⟨f.nd,f.way,f.zero,f.sub,λx hx=>?_⟩,R,d⟩;rcases f.cl x hx with z|z|z
  .exact È z
  .subst z;refine Í (.inr λr' e _ m' d=>?_);rw[e2] at e;cases e;obtain⟨k,O,ek⟩:=nB.mp d;exact I k O m' (by rw[gF O,ek])
  .exact Í (Í z)
def OO(W:É Nat):mE (gu W) []=æ (W=[]):=by
 cases W with
 |nil=>decide
 |cons a r=>rw[Gu (by simp[gu])];simp
def Nk(W:É Nat):(gu W).all oF=true:=by
 unfold gu;rw[uT];intro v a;obtain⟨y,_,rfl⟩:=kA.mp a;rfl
def khj(h:kh H v r):(∃p x xs,v=Â p/\pQ r=Ä x/\H p=ä (Ä (pX r)::Ä x::xs)/\hU (Ä (pX r)) [Ä "num",Ä "op",Ä "call"]=true)\/
  (∃p xs,v=Â p/\pQ r=.non/\H p=ä (Ä (pX r)::xs)/\hU (Ä (pX r)) [Ä "num",Ä "op",Ä "call"]=false):=by
 cases r with
 |num x z=>obtain⟨p,e,h⟩:=h;exact È ⟨p,x,_,e,À,h,by show hU (Ä "num") _=true;decide +kernel⟩
 |op x s a b=>obtain⟨p,e,h⟩:=h;exact È ⟨p,x,_,e,À,h,by show hU (Ä "op") _=true;decide +kernel⟩
 |call x k c=>obtain⟨p,q,e,h,_⟩:=h;exact È ⟨p,x,_,e,À,h,by show hU (Ä "call") _=true;decide +kernel⟩
 |say a=>obtain⟨p,e,h⟩:=h;exact Í ⟨p,_,e,À,h,by show hU (Ä "say") _=false;decide +kernel⟩
 |jump t=>obtain⟨p,e,h⟩:=h;exact Í ⟨p,_,e,À,h,by show hU (Ä "jump") _=false;decide +kernel⟩
 |test a t=>obtain⟨p,e,h⟩:=h;exact Í ⟨p,_,e,À,h,by show hU (Ä "test") _=false;decide +kernel⟩
 |give a=>obtain⟨p,e,h⟩:=h;exact Í ⟨p,_,e,À,h,by show hU (Ä "give") _=false;decide +kernel⟩
def kdz{K:a_}{vs:List V}{H:b_}{Q:fS}{E:f_}(h:Fb K vs H Q E):NW K (ì í Q) (gW EF vs) H:=by
 obtain⟨t,rt,y,D,rvs,j,rfl,ai,au,u,hA,g,q⟩:=h;have rl:=hA.len;have av:=g.few;have ax:=g.pos;obtain⟨k,X,Y⟩:∃k:List Nat,(y∈D->k=[])/\(y∉D->k=[0]):=by
  by_cases c:y∈D
  .exact⟨[],λ_=>À,λz=>Ì c z⟩
  .exact⟨[0],λz=>Ì z c,λ_=>À⟩
 have ae:∀i,i∈k↔i=0/\y∉D:=λi=>by
  by_cases c:y∈D
  .rw[X c];exact⟨λz=>(by cases z),λz=>Ì c z.2⟩
  .rw[Y c,g_];exact⟨λz=>Æ z c,λz=>z.1⟩
 refine⟨_,À,_,_,À,Í ⟨_,fR.of u,À⟩,_,À,Ã,Ã,λd J=>?_⟩;refine BU (λi l H'=>∃o,l=[Å t,Å rt,î y,Ç,Ç,o,Ç]/\H'=Ý H d (lT i k)) (Ą Ç À) ?_ ?_
 .rintro i l H' hi ⟨o,rfl,rfl⟩;have ar:t≠d:=f6 ai J;have il:i<j.length:=Ã
  show n_ d kT _ _ [Å t,Å rt,î y,Ç,Ç,Á (Ë (0+(i:Int))),Ç] _;rw[ya];have nx:∀c,c=æ (i∈k)->∃ys,Ĉ H d (lT i k) d=Ð ys/\ys.length<gM/\∃o,[Á (V.ref t),Å rt,î y,Ç,Ç,Á (Ë (i:Int)),Ç]=[Å t,Å rt,î y,Ç,Ç,o,Ç]/\Ý (Ý H d (lT i k)) d (ys++[.bl c])=Ý H d (lT (i+1) k):=λc ec=>by
   refine⟨_,fG,gY (by rw[AJ];lia),_,À,?_⟩;rw[AE,ec];unfold lT;rw[vO,g8];rfl
  refine oO (Ú (ñ À _ À (gz (λz=>?_) λz=>nx Ü ?_)))
  .have i0:i=0:=by injection z with z;lia
   refine⟨_,À,_,À,t,_,À,Í (fR.of (by rw[fM ar];exact ai)),À,Aq _,?_⟩;have:=nx (! hU (Ä y) (D.map Ê)) (by rw[rq,Bool.eq_iff_iff,Bool.not_eq_true',decide_eq_false_iff_not,decide_eq_true_eq,ae];exact⟨λz=>Æ i0 z,λz=>z.2⟩);exact this
  .have i0:i≠0:=λe=>z (by rw[e];rfl);exact(decide_eq_false λz=>i0 ((ae i).mp z).1).symm
 rintro l S ⟨o,_,rfl⟩;rw[show((rvs.length:Nat):Int).toNat=j.length from by simp[rl]];have s1:Ö (Ý H d (lT j.length k)):=(Ø H).new J;have h1:Ĉ H d (lT j.length k) d=Ð (lT j.length k):=fG;generalize upd H d (.lst (lT j.length k))=S at s1 h1 ⊢;show LO K _ [Å t,Å rt,î y,Å d,Ç,Ç,Ç] S;refine⟨_,À,_,_,À,Í ⟨_,fR.of (s1 _ _ u),À⟩,_,À,Ã,Ã,λf ab=>?_⟩;have M:d≠f:=f6 h1 ab;refine BU (λi l H'=>∃o,l=[Å t,Å rt,î y,Å d,Ç,o,Ç]/\H'=Ý S f (gu ((lH i).filter λm=>æ (m∈k)))) (Ą Ç À) ?_ ?_
 .rintro i l H' hi ⟨o,rfl,rfl⟩;have il:i<j.length:=Ã
  show n_ f _ _ _ [Å t,Å rt,î y,Å d,Ç,Á (Ë (0+(i:Int))),Ç] _;rw[ya];have gt:(lT j.length k)[((i:Nat):Int).toNat]?=Á (.bl (æ (i∈k))):=by simpa using CI _ il
  refine Õ _ À _ (ke (Ù (by rw[fM M];exact h1)) Ã gt (Ú (mD (λhb=>?_) λhb=>?_)))
  .refine⟨_,À,_,fG,gY (by rw[mI];exact mC (wF _ _) (by rw[uX];lia)),_,À,?_⟩;rw[AE,vO,Bv,BA,if_pos hb,List.filter_nil];unfold gu;rw[g8];rfl
  .refine Ú ?_;rw[vO,Bv,BA,ù (by rw[hb];decide),List.filter_nil,oe]
 rintro l H2 ⟨o,_,rfl⟩;rw[show((rvs.length:Nat):Int).toNat=j.length from by simp[rl]];have s2:Ö (Ý S f (gu ((lH j.length).filter λm=>æ (m∈k)))):=s1.new ab;have ak:((lH j.length).filter λm=>æ (m∈k))=k:=by
  by_cases c:y∈D
  .rw[X c];simp
  .rw[Y c];obtain⟨N,eN⟩:∃N,j.length=N+1:=Æ (j.length-1) Ã;rw[eN,List.range_succ_eq_map,BA,if_pos Ò];congr 1;rw[List.filter_eq_nil_iff];intro a ha;obtain⟨b,_,rfl⟩:=kA.mp ha;simp
 rw[ak] at s2 ⊢;have h2:Ĉ S f (gu k) f=Ð (gu k):=fG;have Z:Ĉ S f (gu k) d=Ð (lT j.length k):=by rw[fM M];exact h1
 generalize upd S f (.lst (gu k))=H2 at s2 h2 Z ⊢;show LN K _ [Å t,Å rt,î y,Å d,Å f,Ç,Ç] H2;have P:H f=none:=s1.free ab;have O:∀(F:List Nat) (H':b_) (R I:Option V),H' d=Ð (lT j.length F)->(∀m,m∈F↔y∉D/\ou j (Á y) m)->Ö H'->Ko K (ì í Q) [Å t,Å rt,î y,Å d,Å f,R,I] H':=λF H' R I ht mf s=>by
  refine Ú (q d ((lH j.length).map λm=>æ (m∈F)) H' (by rw[fP,uX]) (λm b e=>?_) J (by rw[ht];unfold lT;rw[pJ];rfl) s);have lt:m<j.length:=by have:=(gR.mp e).1;rw[fP,uX] at this;exact this
  rw[i3,Bq lt] at e;cases e;rw[decide_eq_true_eq,mf]
 refine Î (λm l H'=>m<=1000/\((y∉D/\Bm t rt d f y H j m l H')\/(y∈D/\∃R I,l=[Å t,Å rt,î y,Å d,Å f,R,I]/\H' d=Ð (lT j.length [])/\H' f=Ð (gu [])/\Ö H'))) ⟨2*j.length+1,Ã,?_⟩ ?_
 .by_cases c:y∈D
  .have:=X c;subst this;exact Í ⟨c,_,_,À,Z,h2,s2⟩
  .have:=Y c;subst this;exact È ⟨c,[0],[0],_,_,À,Z,h2,⟨Ò,λx C=>by rw[g_.mp C];exact .zero,Ò,λx C=>C,λx C=>È C⟩,s2,by simp;lia⟩
 rintro m l H3 ⟨aw,⟨c,F,W,R,I,rfl,h3,h4,i,s,hm⟩|⟨c,R,I,rfl,h3,h4,s⟩⟩
 .refine⟨_,À,mU,λe he=>?_⟩;have s':Ö (Ý H3 e []):=s.new he;have aa:Ĉ H3 e [] d=Ð (lT j.length F):=by rw[fM (f6 h3 he)];exact h3
  have B:Ĉ H3 e [] f=Ð (gu W):=by rw[fM (f6 h4 he)];exact h4
  have af:Ĉ H3 e [] e=Ð []:=fG;generalize upd H3 e (.lst [])=H4 at s' aa B af ⊢;refine Í (Í ⟨f,e,_,_,À,À,Ù B,Ù af,Nk _,À,_,À,?_⟩);show if(! mE (gu W) [])=true then _ else _;rw[OO];refine nN (λaq=>?_) (λah=>?_)
  .obtain⟨L,n,rfl⟩:∃L n,W=L++[n]:=by
    rcases List.eq_nil_or_concat W with z|⟨L,n,z⟩
    .exact Ì z aq
    .exact Î L n (by rw[z,List.concat_eq_append])
   have ao:=i.sub n (mO _ (g_.mpr À));have hn:=i.way n ao;have nl:=hn.lt g;obtain⟨v,r,e1,e2,aj⟩:=hA.get nl;have ag:2*(j.length-F.length)+L.length<=m-1:=by rw[ie,pk] at hm;lia
   have m0:0<m:=by rw[ie,pk] at hm;lia
   refine⟨Bm t rt d f y H j (m-1),λay T h5=>⟨m-1,Ã,Ã,È (Æ c h5)⟩,?_⟩;rw[BV] at B;refine⟨_,À,È ⟨À,_,Ù B⟩,f,_,V.int (n:Nat),À,À,B,?_,?_⟩
   .rw[ie,pk,Bw,tr ï,yc];rfl
   rw[HK];show LM K _ [Å t,Å rt,î y,Å d,Å f,gm n,I] (Ý H4 f (gu L));have h5:(Ý H4 f (gu L)) d=Ð (lT j.length F):=by rw[fM M];exact aa
   have h6:(Ý H4 f (gu L)) f=Ð (gu L):=fG;have s5:Ö (Ý H4 f (gu L)):=kR s' P;generalize upd H4 f (.lst (gu L))=T at h5 h6 s5 ⊢;have i':rb j (Á y) F L (λx=>x=n):=⟨i.nd,i.way,i.zero,λx C=>i.sub x (mP _ C),λx C=>by
    rcases i.cl x C with z|z|z
    .rcases iT.mp z with z|z
     .exact È z
     .exact Í (È (g_.mp z))
    .exact z.elim
    .exact Í (Í z)⟩
   have U:rvs[((n:Nat):Int).toNat]?=Á v:=by simpa using e1
   have go:∀H6,gJ T H6->pQ r≠Ä y->kD (i_ K (å (AL K) f9 (fX (fI 1) (ý 5)))) (gB 6) (Ei K) {nx:=Bm t rt d f y H j (m-1),rt:=Q,bk:=Ko K (ì í Q),ct:=Bm t rt d f y H j (m-1)} [Å t,Å rt,î y,Å d,Å f,gm n,I] H6:=λH6 G hy=>
    kkp u J P M g e1 e2 aj hy hn (G _ _ h5) (G _ _ h6) i' (s5.trans G) ag Ã λ_ _ z=>z
   rcases khj (aj.mono (.of_same s5)) with⟨p,x,xs,rfl,es,hp,iv⟩|⟨p,xs,rfl,es,hp,iv⟩
   .refine Õ _ À _ (iU (s5 _ _ u) Ã U (û hp ⟨kM,λa ha=>⟨a,_,À,Í (fR.of fG),À,À,_,À,s_ (by show(! hU _ _)=false;rw[iv];rfl) ?_⟩⟩));have G:gJ T (Ā T a [Ä "num",Ä "op",Ä "call"]):=(Ø T).new ha;generalize upd T a (.tup [.str "num",.str "op",.str "call"])=H6 at G ⊢;refine Õ _ À _ (iU (G _ _ (s5 _ _ u)) Ã U (û (G _ _ hp) (Ú (ñ À _ À (nN (λz=>?_) λz=>?_)))))
    .exact go H6 G (by rw[es];exact z)
    .have ez:pQ r=Ä y:=by rw[es];exact z
     refine⟨F,L,_,_,À,G _ _ h5,G _ _ h6,⟨i'.nd,i'.way,i'.zero,i'.sub,λx C=>?_⟩,s5.trans G,ag⟩;rcases i'.cl x C with w|w|w
     .exact È w
     .subst w;refine Í (.inr λr' e hy=>?_);rw[e2] at e;cases e;exact Ì ez (hy y À)
     .exact Í (Í w)
   .refine Õ _ À _ (iU (s5 _ _ u) Ã U (û hp ⟨kM,λa ha=>⟨a,_,À,Í (fR.of fG),À,À,_,À,rM (by show(! hU _ _)=true;rw[iv];rfl) (lC ?_)⟩⟩));exact go _ ((Ø T).new ha) (by rw[es];intro z;cases z)
  .subst ah;exact O F H4 R I aa (λm'=>(i.done m').trans ⟨λz=>Æ c z,λz=>z.2⟩) s'
 .refine⟨_,À,mU,λe he=>?_⟩;have s':Ö (Ý H3 e []):=s.new he;refine Í (Í ⟨f,e,_,_,À,À,Ù (by rw[fM (f6 h4 he)];exact h4),Ù fG,Nk _,À,_,À,?_⟩);show if(! mE (gu []) [])=true then _ else _;rw[OO];refine i4 ?_;exact O [] _ R I (by rw[fM (f6 h3 he)];exact h3) (λm'=>⟨λz=>(by cases z),λz=>Ì c z.1⟩) s'
def kgN{d:List Nat}{n:Nat}(h:d.Pairwise (·<=·))(b:∀m∈d,m<=n):(d++[n]).Pairwise (·<=·):=by
 rw[HM];exact⟨h,List.pairwise_singleton _ _,λa e c f=>by rw[g_.mp f];exact b a e⟩
def khC{K:a_}{vs:List V}{H:b_}{Q:fS}{E:f_}(h:F6 K vs H Q E):Ra K (ì í Q) (gW PQ vs) H:=by
 obtain⟨L,rt,rvs,b,cs,rfl,ag,D,hR,sh,q⟩:=h;have rl:=hR.len;have g:=sh.good;have ak:=g.few;refine Æ mU (λf B=>?_);show NV K _ [Å L,Å rt,Å f,Ç,Ç] (Ý H f []);have s0:Ö (Ý H f []):=(Ø H).new B;refine⟨_,À,_,_,À,Í ⟨_,fR.of (s0 _ _ D),À⟩,_,À,Ã,Ã,sP (λi c H'=>∃(o:List Nat) (o3 J:Option V),c=[kO L,kO rt,kO f,o3,J]/\H' f=some (.lst (gu o))/\(∀m,m∈o↔m<i/\vF b m)/\o.Pairwise (·<=·)/\o.length<=100*i/\gJ H H')
  ⟨[],_,_,À,fG,λm=>⟨λz=>(by cases z),λz=>Ì z.1 (mH _)⟩,.nil,lu _,s0⟩ ?_ ?_⟩
 .rintro i c Z hi ⟨o,o3,J,rfl,X,S,pw,ln,T⟩;have il:i<b.rows.length:=Ã
  obtain⟨v,r,e1,e2,ra⟩:=hR.get il;have ae:rvs[((i:Nat):Int).toNat]?=Á v:=by simpa using e1
  have rm:=iS e2;have aj:=sh.rd r rm;show NU K _ [Å L,Å rt,Å f,Á (Ë (0+(i:Int))),J] Z;rw[ya];refine È (Õ _ À _ (iU (T _ _ D) Ã ae ⟨v,r,À,ra.mono (.of_same T),λlr H2 P s s2=>⟨lr,À,Æ _ (Ù P),wZ (xs:=(mJ r).map Ê) (λj c H'=>∃(a:List Nat) (J:Option V),c=[kO L,kO rt,kO f,gm i,J]/\H' f=some (.lst (gu a))/\H' lr=some (.lst ((mJ r).map V.str))/\
   (∀m,m∈a↔m∈o\/(m=i/\∃y,y∈(mJ r).take j/\y∉b.params/\ou b.rows (some y) i))/\a.Pairwise (·<=·)/\a.length<=100*i+j/\gJ H H') ⟨o,_,À,s2 _ _ X,P,λm=>Ò,pw,Ã,T.trans s2⟩ ?_ ?_ ?_⟩⟩))
  .rintro j c H' _ ⟨_,_,_,_,h3,_⟩;exact Ù h3
  .rintro j x c H3 hx ⟨a,p4,rfl,n,C,d,p,R,G⟩;obtain⟨y,I,rfl⟩:=vd hx;have jl:j<Ô (mJ r):=(gR.mp I).1;have Y:∀z,z∈(mJ r).take (j+1)↔z∈(mJ r).take j\/z=y:=λz=>by rw[mq,I];simp
   show NT K _ [Å L,Å rt,Å f,gm i,î y] H3;refine⟨_,À,_,À,_,À,L,rt,y,b.params,rvs,b.rows,À,G _ _ ag,sh.p9,G _ _ D,hR.imp λ_ _ z=>z.mono (.of_same G),g,λlb U H4 aa ab ai af M=>?_⟩;have ib:i<U.length:=by rw[aa];exact il
   have gb:(U.map V.bl)[((i:Nat):Int).toNat]?=Á (.bl U[i]):=by
    rw[show((i:Nat):Int).toNat=i from Ò,i3,gF ib];rfl
   have bm:=ab i U[i] (gF ib);refine Ú (ke (Ù af) Ã gb (Ú (mD (λhb=>?_) λhb=>?_)))
   .have O:=M _ _ n;refine⟨_,À,È ⟨À,_,Ù O⟩,_,À,f,_,_,À,À,O,gY (by rw[mI];lia),?_⟩;have ah:lr≠f:=λz=>by
     rw[z,X] at s;cases s
    refine⟨a++[i],_,À,by rw[fG,BV],by rw[fM ah];exact M _ _ C,λm=>?_,kgN p λm hm=>?_,by rw[ie,pk];lia,kR (G.trans M) B⟩
    .rw[iT,d,g_];constructor
     .rintro((z|⟨z,t,l,w⟩)|z)
      .exact È z
      .exact Í ⟨z,t,(Y t).mpr (È l),w⟩
      .exact Í ⟨z,y,(Y y).mpr (Í À),bm.mp hb⟩
     .rintro(z|⟨z,_⟩)
      .exact È (È z)
      .exact Í z
    .rcases(d m).mp hm with z|⟨z,_⟩
     .exact mv ((S m).mp z).1
     .exact EW z
   .refine⟨a,_,À,M _ _ n,M _ _ C,λm=>?_,p,Ã,G.trans M⟩;rw[d];constructor
    .rintro(z|⟨z,t,l,w⟩)
     .exact È z
     .exact Í ⟨z,t,(Y t).mpr (È l),w⟩
    .rintro(z|⟨z,t,l,w⟩)
     .exact È z
     .rcases(Y t).mp l with k|k
      .exact Í ⟨z,t,k,w⟩
      .subst k;have:=bm.mpr w;rw[hb] at this;cases this
  .rintro c H3 ⟨a,p4,rfl,n,C,d,p,R,G⟩;rw[fP] at d R;rw[m5 ï] at d;refine⟨a,_,_,À,n,λm=>?_,p,Ã,G⟩;rw[d,S];constructor
   .rintro(⟨z,u⟩|⟨rfl,y,I,np,wy⟩)
    .exact Æ Ã u
    .exact⟨Ã,r,y,e2,I,np,wy⟩
   .rintro⟨lt,u⟩;rcases ua.mp lt with z|z
    .exact È (Æ z u)
    .subst z;obtain⟨r',y,e,I,np,wy⟩:=u;rw[e2] at e;cases e;exact Í ⟨À,y,I,np,wy⟩
 .rintro c Z ⟨o,o3,J,rfl,X,S,pw,ln,T⟩;rw[show((rvs.length:Nat):Int).toNat=b.rows.length from by simp[rl]] at S ln;refine Ú (q f o Z (λm=>?_) pw Ã B X T);rw[S];exact⟨λz=>z.2,λu=>Æ (by obtain⟨r,y,e,_⟩:=u;exact(gR.mp e).1) u⟩
def kfq{K:a_}{vs:List V}{H:b_}{Q:fS}{E:f_}(h:Ft K vs H Q E):F' K (ì í Q) (gW FE vs) H:=by
 obtain⟨v,r,rfl,c,q⟩:=h;cases r with
 |num x z=>
  obtain⟨p,rfl,h⟩:=c;refine á h (é À _ À ?_);exact á h (é À _ À q)
 |op x s a b=>
  obtain⟨p,rfl,h⟩:=c;refine á h (é À _ À ?_);exact á h (é À _ À q)
 |call x k e=>
  obtain⟨p,g,rfl,h,f⟩:=c;refine á h (é À _ À ?_);exact á h (é À _ À q)
 |say a=>
  obtain⟨p,rfl,h⟩:=c;refine á h (é À _ À ?_);exact á h (é À _ À q)
 |give a=>
  obtain⟨p,rfl,h⟩:=c;refine á h (é À _ À ?_);exact á h (é À _ À q)
 |jump d=>
  obtain⟨p,rfl,h⟩:=c;refine á h (ñ À _ À (gz (λ_=>?_) λz=>Ì À z));exact á h q
 |test a d=>
  obtain⟨p,rfl,h⟩:=c;refine á h (é À _ À ?_);refine á h (ñ À _ À (gz (λ_=>?_) λz=>Ì À z));exact á h q
def XQ{K:a_}(T:yX K){vs:List V}{H:b_}{Q:fS}{E:f_}(h:uU K vs H Q E):VC K (ì í Q) (gW Il vs) H:=by
 obtain⟨x,a,rfl,f,q⟩:=h;refine⟨_,À,_,À,x,_,À,T.clL,T.nLl,È ⟨f,λd b c=>?_⟩⟩;refine q d _ b c fG (by rw[fM c,fG]) λp o n e=>?_;rw[fM n,fM (f6 e b)];exact e
def WK{K:a_}{vs:List V}{H:b_}{Q:fS}{E:f_}(h:HJ K vs H Q E):To K (ì í Q) (gW Tv vs) H:=by
 obtain⟨rt,v,rvs,r,rfl,c,j,q⟩:=h;refine⟨_,À,v,r,À,j,?_⟩;show DO K _ [Å rt,Á v,Á (yM r)] H;have f:yM r=.non->¬CT rvs.length r->DO K (ì í Q) [Å rt,Á v,Á (yM r)] H:=λe g=>by
  rw[e];exact⟨_,À,À,_,À,U8 À (q Ü ⟨λz=>(by cases z),λz=>Ì z g⟩)⟩
 have b:∀t:Int,yM r=Ë t->(CT rvs.length r↔t<0\/(rvs.length:Int)<=t)->DO K (ì í Q) [Å rt,Á v,Á (yM r)] H:=λt e d=>by
  rw[e];refine⟨_,À,À,_,À,?_⟩;rw[show(! æ (V.int t=V.non))=true from Ò];refine lC ⟨_,À,_,_,À,À,_,À,gz (λz=>q true ⟨λ_=>d.mpr (È z),λ_=>À⟩) λi=>⟨_,À,_,À,_,_,À,Í ⟨_,fR.of c,À⟩,_,_,À,À,?_⟩⟩;refine q _ ⟨λz=>d.mpr (Í (of_decide_eq_true z)),λz=>decide_eq_true ?_⟩;rcases d.mp z with y|y
  .exact Ì y i
  .exact y
 cases r with
 |jump t=>exact b t À Iff.rfl
 |test a t=>exact b t À Iff.rfl
 |_=>exact f À id
def WH{K:a_}{vs:List V}{H:b_}{Q:fS}{E:f_}(h:HH K vs H Q E):HS K (ì í Q) (gW HP vs) H:=by
 obtain⟨p,v,i,r,rfl,⟨T,l,n⟩,g,q⟩:=h;have c:(∀d C,v=Â d->H d=ä (Ä (vo r)::C)->vo r≠"call"->¬GZ (lL i) r->HS K (ì í Q) (gW HP [Â p,v]) H):=λd C J f S R=>by
  subst J;refine á f (ñ À _ À ?_);exact nN (λ_=>q Ü ⟨λz=>(by cases z),λz=>Ì z R⟩) λz=>Ì (by injection z) S
 cases r with
 |call x k D=>
  obtain⟨d,q1,rfl,f,o⟩:=g;refine á f (ñ À _ À (nN (λz=>Ì À z) λ_=>?_));refine á f ?_;show SQ K _ [Å p,Å d,iX k] H;refine⟨_,À,_,_,À,À,_,À,gz (λz=>q true ⟨λ_=>È z,λ_=>À⟩) λO=>⟨_,À,_,À,_,_,À,Í ⟨_,fR.of l,À⟩,_,_,À,À,_,À,gz (λz=>q true ⟨λ_=>Í ?_,λ_=>À⟩) λX=>?_⟩⟩
  .rw[ue (by show Ô (i.map _)<=_;rw[fP,<-n.len];lia)];intro y;cases y
  .have P:k.toNat<i.length:=by rw[<-n.len];lia
   obtain⟨w,b,G,I,L⟩:=n.get P;obtain⟨Z,Y,rt,rvs,rfl,m,j,B,M⟩:=L;have u:(lL i)[k.toNat]?=Á b.params.length:=by show(i.map _)[k.toNat]?=_;rw[i3,I];rfl
   refine á f ⟨_,_,À,Í ⟨_,fR.of o,À⟩,_,À,_,À,iU l Ã G (û m ⟨_,_,À,Í ⟨_,fR.of j,À⟩,È (Æ À ?_)⟩)⟩;rw[fP,fP];refine q _ ⟨λz=>.inr λy=>?_,λz=>?_⟩
   .rw[u] at y;have U:=ď y;rw[U] at z;simp at z
   .rcases z with z|z
    .exact Ì z O
    .rw[u] at z;rw[Bool.not_eq_true',decide_eq_false_iff_not];intro y;injection y with y;exact z (by rw[show b.params.length=D.length from Ã])
 |num x z=>obtain⟨d,e,h⟩:=g;exact c d _ e h (show("num":Str)≠"call" by decide +kernel) id
 |op x s a b=>obtain⟨d,e,h⟩:=g;exact c d _ e h (show("op":Str)≠"call" by decide +kernel) id
 |say a=>obtain⟨d,e,h⟩:=g;exact c d _ e h (show("say":Str)≠"call" by decide +kernel) id
 |jump t=>obtain⟨d,e,h⟩:=g;exact c d _ e h (show("jump":Str)≠"call" by decide +kernel) id
 |test a t=>obtain⟨d,e,h⟩:=g;exact c d _ e h (show("test":Str)≠"call" by decide +kernel) id
 |give a=>obtain⟨d,e,h⟩:=g;exact c d _ e h (show("give":Str)≠"call" by decide +kernel) id
def WJ{K:a_}{vs:List V}{H:b_}{Q:fS}{E:f_}(h:HI K vs H Q E):TM K (ì í Q) (gW Tu vs) H:=by
 obtain⟨rt,n,rvs,c,rfl,O,hA,few,G,I,q⟩:=h;refine λf w=>Ú ?_;show SO K _ [Å rt,gm n,Å f,gm n] (upd H f (.dK []));refine Î (λm l H'=>∃k,m=c.length-k/\l=[Å rt,gm n,Å f,Á (Ë (runJ c k n:Nat))]/\H' f=Á (.dK (mL ((lH k).map λj=>runJ c j n)))/\((lH k).map λj=>runJ c j n).Nodup/\
  (∀i,i<k->tK c (runJ c i n))/\Ö H') ⟨_,0,À,À,fG,Kb,(λi z=>Ì z (mH _)),(Ø H).new w⟩ ?_
 rintro m l o ⟨k,rfl,rfl,u,T,Z,D⟩;have kl:k<=c.length:=by
  have:=w4 T (n:=c.length) λx R=>by
   obtain⟨j,_,rfl⟩:=kA.mp R;exact AC G j I
  rw[fP,uX] at this;exact this
 have lt:=AC G k I;obtain⟨v,r,e1,J,y⟩:=hA.get lt;have B:=y.mono (.of_same D);obtain⟨p,xs,rfl,M⟩:=B.ref;have d:=D _ _ O;have s:rvs[((runJ c k n:Nat):Int).toNat]?=Á (Â p):=by simpa using e1
 have df:∀a b,a<b->b<k->runJ c a n≠runJ c b n:=λa b ab bk z=>by
  have la:a<Ô ((lH k).map λj=>runJ c j n):=by rw[fP,uX];lia
  have:=(List.getElem?_inj la T (j:=b)).mp (by
   rw[i3,i3,Bq Ã,Bq bk];exact congrArg some z)
  lia
 have n0:n∈((lH k).map λj=>runJ c j n)↔0<k/\n∈((lH k).map λj=>runJ c j n):=⟨λz=>Æ (by
   obtain⟨j,L,_⟩:=kA.mp z;have:=tE.mp L;lia) z,λz=>z.2⟩
 have t:(¬tK c (runJ c k n)\/∃j,j<k/\runJ c k n=runJ c j n)->SN K (ì í Q) [Å rt,gm n,Å f,Á (Ë (runJ c k n:Nat))] o:=λen=>by
  have S:=kfu G I df Z en;refine Õ _ À _ (ñ À _ À (gz (λz=>?_) λnz=>q Ü o ⟨λz=>(by cases z),λX=>Ì (by rw[(S.mpr X).1]) nz⟩ D));have ez:runJ c k n=n:=by injection z with z;lia
  refine⟨_,À,_,À,f,_,À,rO.k (k:=Sum.inl (n:Int)) u,?_⟩;show Q (.bl (lD (mL ((lH k).map λj=>runJ c j n)) (Sum.inl (n:Int))).isSome) o;rw[Bn];refine q _ o ⟨λb=>S.mp (Æ ez (n0.mp (of_decide_eq_true b)).1),λX=>decide_eq_true ?_⟩ D;exact kA.mpr ⟨0,tE.mpr (S.mpr X).2,À⟩
 refine Õ _ À _ (iU d Ã s (û M (ñ À _ À (gz (λP=>?_) (λP=>?_)))))
 .refine⟨_,À,_,À,f,_,À,rO.k (k:=Sum.inl (runJ c k n:Int)) u,_,À,?_⟩;show if(!(lD (mL ((lH k).map λj=>runJ c j n)) (Sum.inl (runJ c k n:Int))).isSome)=true then _ else _;rw[Bn];obtain⟨t',rfl⟩:=BY (AD P);refine nN (λg=>?_) (λg=>?_)
  .have C:((lH (k+1)).map λj=>runJ c j n).Nodup:=by
    rw[vO,g8];exact AF T g
   have ae:k+1<=c.length:=by
    have:=w4 C (n:=c.length) λx R=>by
     obtain⟨j,_,rfl⟩:=kA.mp R;exact AC G j I
    rw[fP,uX] at this;exact this
   refine⟨λl aa=>∃m',m'<c.length-k/\_,λag H4 z=>z,?_⟩;refine⟨_,À,_,À,f,_,À,wq.k (k:=Sum.inl (runJ c k n:Int)) u (gY (by rw[OE,fP,uX];lia)),?_⟩;rw[nY g];have U:rt≠f:=λz=>by rw[z,u] at d;cases d
   have af:p≠f:=λz=>by rw[z,u] at M;cases M
   have s2:Ö (upd o f (.dK (mL (((lH k).map λj=>runJ c j n)++[runJ c k n])))):=kR D w;refine Õ _ À _ (iU (by rw[fM U];exact d) Ã s ⟨_,.jump t',À,y.mono (.of_same s2),?_⟩);have e:runJ c (k+1) n=t':=by rw[Cc];unfold stp;rw[J]
   refine⟨c.length-(k+1),Ã,k+1,À,by rw[e];rfl,?_,C,λi hi=>?_,s2⟩
   .rw[fG,vO,g8];rfl
   .rcases ua.mp hi with z|z
    .exact Z i z
    .subst z;exact Î _ J À
  .obtain⟨j,L,ej⟩:=kA.mp g;exact t (Í ⟨j,tE.mp L,ej.symm⟩)
 .refine i4 ?_;refine t (È ?_);rintro⟨r',Y,jr⟩;rw[J] at Y;cases Y;rw[Cj λz=>P (by rw[z])] at jr;cases jr
def Yl{K:a_}{vs:List V}{H:b_}{Q:fS}{E:f_}(h:Ic K vs H Q E):K' K (ì í Q) (gW KL vs) H:=by
 obtain⟨rt,rvs,p,rfl,d,q,o,v,x,y⟩:=h;have C:=q.len;refine⟨_,À,_,_,À,Í ⟨_,fR.of d,À⟩,_,À,Ã,Ã,sP (λi a H'=>∃n,a=[Å rt,n]/\Ö H'/\∀m,m<i->¬oV p m) ⟨_,À,Ø H,λm z=>Ì z (mH _)⟩ ?_ ?_⟩
 .rintro i a k B ⟨n,rfl,c,f⟩;have l:i<p.length:=Ã
  show Ul K _ [Å rt,Á (Ë (0+(i:Int)))] k;rw[ya];refine⟨_,À,_,À,rt,i,rvs,p,À,c _ _ d,q.imp λ_ _ z=>z.mono (.of_same c),o,v,l,λb u s t=>Ú (mD (λg=>?_) λg=>?_)⟩
  .exact Ú (x i ⟨s.mp g,f⟩ u (c.trans t))
  .refine⟨_,À,c.trans t,λm w=>?_⟩;rcases ua.mp w with z|z
   .exact f m z
   .subst z;intro j;rw[s.mpr j] at g;cases g
 .rintro a k ⟨n,rfl,c,f⟩;refine y (λm j=>f m ?_ j) k c;obtain⟨⟨r,e,_⟩,_⟩:=j;have:=(gR.mp e).1;lia
theorem Gm(a:CH rs):∀(k:Nat) {m:Nat},m<rs.length->sk rs n k m<rs.length
 |0,_,h=>h
 |k+1,m,h=>by
  show tT rs n (sk rs n k m)<rs.length;unfold tT;split
  .exact Gm a k h
  .exact GP a (Gm a k h)
def khB{K:a_}{vs:List V}{H:b_}{Q:fS}{E:f_}(h:F5 K vs H Q E):P' K (ì í Q) (gW PP vs) H:=by
 obtain⟨rt,n,rvs,a,rfl,b,s,u,w,q⟩:=h;obtain⟨v,r,P,l,O⟩:=s.get w;have f:rvs[((n:Nat):Int).toNat]?=Á v:=by simpa using P
 obtain⟨p,xs,rfl,U⟩:=O.ref;refine Õ _ À _ (iU b Ã f (û U (ñ À _ À (nN (λG=>q Ü H ⟨λz=>(by cases z),λrg=>?_⟩ (Ø H)) λG=>?_))))
 .obtain⟨⟨Z,e,L⟩,_⟩:=rg;rw[l] at e;cases e;rw[Cj λz=>G (by rw[z])] at L;cases L
 obtain⟨t,rfl⟩:=BY (AD G);obtain⟨p',e,B⟩:=O;cases e;have R:stp a n=t:=by unfold stp;rw[l]
 have X:tK a n:=Î _ l À;show NS K _ [Å rt,gm n,Ç,Ç] H;refine Õ _ À _ (iU b Ã f (û B ?_));show NR K _ [Å rt,gm n,gm t,Ç] H;refine Í ⟨_,À,rt,À,Æ _ (fR.of b),v7 (xs:=rvs) (λi c H'=>∃o,c=[Å rt,gm n,Á (Ë (sk a n i (stp a n):Nat)),o]/\H'=H)
  ⟨_,by rw[R];rfl,À⟩ ?_ ?_ ?_⟩
 .rintro i c H' _ ⟨_,_,rfl⟩;exact fR.of b
 .rintro i x c H' hx ⟨o,rfl,rfl⟩;have M:=Gm u (n:=n) i (GP u w);have nx:sk a n (i+1) (stp a n)=tT a n (sk a n i (stp a n)):=rfl;generalize sk a n i (stp a n)=m at M nx ⊢;obtain⟨v2,r2,T,J,j⟩:=s.get M;have g:rvs[((m:Nat):Int).toNat]?=Á v2:=by simpa using T
  obtain⟨p2,aa,rfl,C⟩:=j.ref;show NQ K _ [Å rt,gm n,gm m,Á x] H';refine Õ _ À _ (ñ À _ À (nN (λz=>?_) λz=>i4 ⟨Á x,?_,À⟩))
  .have Y:m≠n:=λy=>z (by rw[y]);have k:tT a n m=stp a m:=by unfold tT;rw[ù Y]
   refine Õ _ À _ (iU b Ã g (û C (ñ À _ À (gz (λd=>?_) λd=>Î (Á x) ?_ À))))
   .obtain⟨t2,rfl⟩:=BY (AD d);obtain⟨p3,e,D⟩:=j;cases e;refine Õ _ À _ (iU b Ã g (û D ⟨Á x,?_,À⟩));have:stp a m=t2:=by unfold stp;rw[J]
    rw[nx,k,this];rfl
   .have:stp a m=m:=F9 λZ I=>by
     rw[J] at I;cases I;exact Cj λy=>d (by rw[y])
    rw[nx,k,this]
  .have S:m=n:=by injection z with z;lia
   have k:tT a n m=m:=by unfold tT;rw[if_pos S]
   rw[nx,k]
 .rintro c H' ⟨o,rfl,rfl⟩;rw[s.len];refine Õ _ À _ (È ⟨À,q _ H' ?_ (Ø H')⟩);rw[<-kdD u w X];constructor
  .intro z;have:=of_decide_eq_true z;injection this with this;lia
  .intro z;exact decide_eq_true (by rw[z])
def Mu{d a:List Str}(e:d.Nodup)(c:a.Nodup)(h:∀x,x∈a↔x∈d):a.length=d.length:=
 IM (RN c λy b=>(h y).mp b) (RN e λy b=>(h y).mpr b)
theorem U3:∀(l:List Str),∃d:List Str,d.Nodup/\(∀x,x∈d↔x∈l)/\d.length<=l.length/\(¬l.Nodup->d.length<l.length)
 |[]=>⟨[],.nil,λx=>Iff.rfl,ï,λh=>Ì .nil h⟩
 |a::l=>by
  obtain⟨d,f,b,i,g⟩:=U3 l;by_cases c:a∈l
  .refine⟨d,f,λx=>?_,by rw[iN];lia,λ_=>by rw[iN];lia⟩;rw[b,g7];exact⟨λz=>Í z,λz=>z.elim (λe=>by rw[e];exact c) id⟩
  .refine⟨a::d,tv.mpr ⟨λz=>c ((b a).mp z),f⟩,λx=>by rw[g7,g7,b],by rw[iN,iN];lia,λh=>?_⟩;rw[iN,iN];have:=g λz=>h (tv.mpr (Æ c z));lia
def Vy{l c:List Str}(h:c.Nodup)(g:∀x,x∈c↔x∈l):c.length<l.length↔¬l.Nodup:=by
 constructor
 .intro f z;have:=Mu z h g;lia
 .intro z;obtain⟨d,b,a,_,f⟩:=U3 l;have:=f z;have e:=Mu b h λx=>(g x).trans (a x).symm;lia
def Mv{xs:List V}{k:Nat}(h:k<xs.length):¬(HT.sIx xs.length 0 Ç=0/\HT.sIx xs.length xs.length (Á (k:Int))=xs.length):=λz=>by
 have:=z.2;rw[HT.sIx_nat] at this;lia
def kd2{a:Type}{xs:List a}{v:a}(e:xs.getLast?=Á v):uN xs (-1)=Á v:=by
 have b:xs≠[]:=λz=>by rw[z] at e;cases e
 have c:0<xs.length:=sJ.mpr b;rw[wG] at e;unfold uN uO;rw[ù Ï,if_pos Ã];have:(-1+(xs.length:Int)).toNat=xs.length-1:=Ã
 rw[this];exact e
def GM{K:a_}{p:d_}{xs:List V}{v:V}{H:b_}{Q:fS}(h:H p=ä xs)(e:xs.getLast?=Á v)(q:Q v H):sG K (Â p) (Ë (-1)) H Q:=
 Í (È ⟨p,xs,-1,v,À,À,fR.of h,kd2 e,q⟩)
def Vb(r:iW):hU (Ä (vo r)) [è "jump",è "give"]=xk r:=by
 cases r with
 |num x z=>show hU (Ä "num") _=false;decide +kernel
 |op x s a b=>show hU (Ä "op") _=false;decide +kernel
 |call x k c=>show hU (Ä "call") _=false;decide +kernel
 |say a=>show hU (Ä "say") _=false;decide +kernel
 |jump t=>show hU (Ä "jump") _=true;decide +kernel
 |test a t=>show hU (Ä "test") _=false;decide +kernel
 |give a=>show hU (Ä "give") _=true;decide +kernel
def Yj{K:a_}{vs:List V}{H:b_}{Q:fS}{E:f_}(h:Iv K vs H Q E):K9 K (ì í Q) (gW IC vs) H:=by
 obtain⟨p,k,i,b,rfl,⟨a,f,t⟩,U,C,S,q2⟩:=h;have R:k<i.length:=(gR.mp C).1;obtain⟨w,b0,X,m,Z⟩:=t.get R;rw[C] at m;cases m;obtain⟨pt,u,rt,rvs,rfl,n,q,aa,ab⟩:=id Z;have l:a[((k:Nat):Int).toNat]?=Á (Â pt):=by simpa using X
 have ps:=U.part b (iS C);have Y:=U.few;refine Õ _ À _ (iU f Ã l (û n ?_));show Ui K _ [Å p,gm k,î b.name,Ç] H;refine Õ _ À _ (iU f Ã l (û n ?_));show Uh K _ [Å p,gm k,î b.name,Å u] H;refine Ú (Í ⟨_,À,_,À,_,À,Í ⟨p,a,À,fR.of f,Mv (by rw[t.len];exact R),λr L=>?_⟩⟩);rw[vW];have v:Ö (Ā H r (a.take k)):=(Ø H).new L;have c:upd H r (.tup (a.take k)) r=ä (a.take k):=fG;generalize upd H r (.tup (a.take k))=B at v c ⊢;refine⟨r,À,Æ _ (fR.of c),λD G=>?_⟩;refine Cf (xs:=a.take k) (λj d H'=>∃o,d=[kO p,gm k,some (.str b.name),kO u,o]/\H'=upd B D (.lst (((i.take j).map (·.name)).map V.str))) (Ą Ç À) ?_ ?_ ?_
 .rintro j d H' _ ⟨o,_,rfl⟩;exact fR.of (by rw[fM (f6 c G)];exact c)
 .rintro j x d H' M ⟨o,rfl,rfl⟩;have jk:j<k:=by have:=(gR.mp M).1;rw[kz] at this;lia
  rw[DK jk] at M;obtain⟨b',J,I⟩:=t.of_v M;obtain⟨af,ae,ag,T,rfl,e,_⟩:=I;refine oO (á (by rw[fM (f6 (v _ _ e) G)];exact v _ _ e) ⟨_,fG,gY (by rw[fP,fP,kz];lia),_,À,?_⟩);rw[AE,mq,J];simp
 .rintro d H' ⟨o,_,rfl⟩;have tl:Ô (a.take k)=k:=by rw[kz,t.len];lia
  rw[tl];refine⟨D,_,À,È (Ù fG),À,Aq _,_,À,?_⟩;have g:Ö (upd B D (.lst (((i.take k).map (·.name)).map V.str))):=v.new G;show if(hU (.str b.name) (((i.take k).map (·.name)).map V.str))=true then _ else _;rw[rq];generalize upd B D (.lst (((i.take k).map (·.name)).map V.str))=s at g ⊢;refine gz (λz=>S (È z) s g) λnz=>?_;show Ug K _ [Å p,gm k,î b.name,Å u] s;refine⟨_,À,u,b.params,À,fR.of (g _ _ q),by have:=ps.p9;lia,λss O mm=>⟨_,À,_,_,À,Í ⟨_,fR.of (g _ _ q),À⟩,_,_,À,À,_,À,?_⟩⟩;have P:=Vy O mm;refine gz (λz=>S (Í (P.mp (by rw[fP] at z;lia))) s g) λz=>q2 (λnf=>?_) s g;rcases nf with y|y
  .exact nz y
  .exact z (by rw[fP];have:=P.mpr y;lia)
def kaO{K:a_}{vs:List V}{H:b_}{Q:fS}{E:f_}(h:IS K vs H Q E):LD K (ì í Q) (gW Li vs) H:=by
 obtain⟨p,k,u,b,rfl,hp,wd,e2,P,q2⟩:=h;obtain⟨ab,aa,hA⟩:=id hp;have kb:k<u.length:=(gR.mp e2).1;obtain⟨w,b0,e1,B,hP⟩:=hA.get kb;rw[e2] at B;cases B;obtain⟨pt,pa,rt,rvs,rfl,Z,ae,e,X⟩:=id hP;have T:ab[((k:Nat):Int).toNat]?=Á (Â pt):=by simpa using e1
 have q:=X.len;refine Õ _ À _ (iU aa Ã T (û Z ?_));show Uw K _ [Å p,gm k,Å rt,Ç,Ç] H;refine⟨_,À,_,_,À,Í ⟨_,fR.of e,À⟩,ñ À _ À (gz (λz=>?_) λnz=>?_)⟩
 .have e0:b.rows=[]:=sH.mp (by injection z with z;lia);exact P 0 ⟨È (Æ e0 À),λm z=>Ì z (mH _)⟩ H (Ø H)
 have L:b.rows≠[]:=λz=>nz (by rw[q,z];rfl);have ag:0<b.rows.length:=sJ.mpr L;show Uv K _ [Å p,gm k,Å rt,Ç,Ç] H;refine⟨_,À,rt,À,Æ _ (fR.of e),Nn (xs:=rvs) (λi g H'=>∃M O,g=[Å p,gm k,Å rt,M,O]/\Ö H'/\∀(m:Nat) r,m<i->b.rows[m]?=Á r->¬rT (lL u) b.rows.length r) ⟨_,_,À,Ø H,λm r z=>Ì z (mH _)⟩ ?_ ?_ ?_⟩
 .rintro i g H' _ ⟨_,_,_,s,_⟩;exact fR.of (s _ _ e)
 .rintro i x g l a hx na ⟨M,O,rfl,G,o⟩;obtain⟨r,hr,R⟩:=X.of_v hx;have il:i<b.rows.length:=(gR.mp hr).1;refine⟨a,_,À,fR.of fG,À,_,_,À,_,_,À,À,?_⟩;have f:Ö (Ā l a [Ë (i:Nat),x]):=G.new na;show Uu K _ [Å p,gm k,Å rt,gm i,Á x] _;generalize upd l a (.tup [.int (i:Nat),x])=n at f ⊢;have C:rT (lL u) b.rows.length r->oE (rP (lL u) b) i:=λS=>⟨Í ⟨r,hr,È S⟩,λm D=>by
   rintro(⟨z,_⟩|⟨j,d,z|⟨z,_⟩⟩)
   .exact L z
   .exact o m j D d z
   .lia⟩
  refine⟨_,À,_,À,rt,x,rvs,r,À,f _ _ e,R.mono (.of_same f),λb1 i1=>Ú (mD (λI=>lC (Ú (P i (C (Gr.mpr (È (by rw[<-q];exact i1.mp I)))) n f))) λI=>?_)⟩;refine⟨_,À,_,À,p,x,u,r,À,hp.mono (.of_same f),R.mono (.of_same f),λb2 i2=>Ú (mD (λJ=>Ú (P i (C (Gr.mpr (Í (i2.mp J)))) n f)) λJ=>⟨_,_,À,f,λm j D d=>?_⟩)⟩;rcases ua.mp D with z|z
  .exact o m j z d
  .subst z;rw[hr] at d;cases d;intro S;rcases Gr.mp S with y|y
   .rw[i1.mpr (by rw[q];exact y)] at I;cases I
   .rw[i2.mpr y] at J;cases J
 .rintro g l ⟨M,O,rfl,G,o⟩;rw[q] at o;have D:b.rows.length-1<b.rows.length:=Ã
  obtain⟨v,r,ev,er,R⟩:=X.get D;obtain⟨p',xs,rfl,Y⟩:=R.ref;have U:rvs.getLast?=Á (Â p'):=by rw[wG,q];exact ev
  show Ut K _ [Å p,gm k,Å rt,M,O] l;refine Õ _ À 1 (GM (G _ _ e) U (û (G _ _ Y) ⟨ka,λt ht=>⟨t,_,À,Í (fR.of fG),À,À,_,À,?_⟩⟩));have f:Ö (Ā l t [Ä "jump",Ä "give"]):=G.new ht;show if(! hU (Ä (vo r)) [è "jump",è "give"])=true then _ else _;rw[Vb];generalize upd l t (.tup [.str "jump",.str "give"])=n at f ⊢;cases c:xk r with
  |true=>
   refine i4 (q2 (λm=>?_) n f);rintro(⟨z,_⟩|⟨j,d,z|⟨z,y⟩⟩)
   .exact L z
   .exact o m j (gR.mp d).1 d z
   .rw[show m=b.rows.length-1 from Ã,er] at d;cases d;rw[c] at y;cases y
  |false=>
   refine lC ⟨_,À,_,_,À,Í ⟨_,fR.of (f _ _ e),À⟩,_,_,À,À,?_⟩;show Q (Ë ((rvs.length:Int)-1)) n;rw[q,show((b.rows.length:Nat):Int)-1=((b.rows.length-1:Nat):Int) from Ã];refine P _ ⟨Í ⟨r,er,Í (Æ Ã c)⟩,λm af=>?_⟩ n f;rintro(⟨z,_⟩|⟨j,d,z|⟨z,y⟩⟩)
   .exact L z
   .exact o m j (gR.mp d).1 d z
   .lia
def kdZ{K:a_}{vs:List V}{H:b_}{Q:fS}{E:f_}(h:E7 K vs H Q E):Og K (ì í Q) (gW NA vs) H:=by
 obtain⟨p,rt,n,rvs,j,m,rfl,hp,B,hR,hn,q⟩:=h;obtain⟨ag,I,T⟩:=id hp;obtain⟨v,r,e1,e2,O⟩:=hR.get hn;have S:rvs[((n:Nat):Int).toNat]?=Á v:=by simpa using e1
 have P:=hR.len;obtain⟨M,xs,rfl,c⟩:=O.ref;have g:∀{X:Prop},(X↔rT (lL j) m.length r\/(n+1=m.length/\xk r=false))->(X↔Kv (lL j) m n):=λ{X} i=>by
  rw[i];constructor
  .intro z;exact Î r e2 z
  .rintro⟨r',e',z⟩;rw[e2] at e';cases e';exact z
 refine Õ _ À _ (iU B Ã S ?_);show Kn K _ [Å p,Å rt,gm n,Å M] H;have f1:¬rT (lL j) m.length r->∀H',Ö H'->L6 K (ì í Q) [Å p,Å rt,gm n,Å M] H':=λL H1 o=>by
  refine⟨_,À,_,À,_,_,À,Í ⟨_,fR.of (o _ _ B),À⟩,_,_,À,À,ñ À _ À (gz (λz=>?_) λnz=>q Ü H1 (g ⟨λz=>(by cases z),λz=>?_⟩) o)⟩
  .have en:n+1=m.length:=by injection z with z;lia
   refine á (o _ _ c) ⟨ka,λt ht=>⟨t,_,À,Í (fR.of fG),À,À,?_⟩⟩;show Q (.bl (! hU (Ä (vo r)) [è "jump",è "give"])) _;rw[Vb];refine q _ _ (g ⟨λz=>Í ⟨en,by simpa using z⟩,λz=>?_⟩) (o.new ht);rcases z with z|z
   .exact Ì z L
   .rw[z.2];rfl
  .rcases z with z|z
   .exact Ì z L
   .refine Ì ?_ nz;show V.int (n:Nat)=V.int ((rvs.length:Int)-1);rw[P,show((m.length:Nat):Int)-1=((n:Nat):Int) from Ã]
 have l:∀(t:Int),(rT (lL j) m.length r↔t<0\/(m.length:Int)<=t)->(è (vo r)::xs).getLast?=Á (Ë t)->hU (Ä (vo r)) [Ä "jump",Ä "test"]=true->Km K (ì í Q) [Å p,Å rt,gm n,Å M] H:=λt ib el iv=>by
  refine á c ⟨ka,λa U=>⟨a,_,À,Í (fR.of fG),À,À,_,À,rM iv ?_⟩⟩;have o:Ö (Ā H a [Ä "jump",Ä "test"]):=(Ø H).new U;have e:rT (lL j) m.length r->Q (.bl true) (Ā H a [Ä "jump",Ä "test"]):=λD=>q true _ (g ⟨λ_=>È D,λ_=>À⟩) o;refine Õ _ À 1 (GM (o _ _ c) el ⟨_,_,À,À,_,À,gz (λz=>lC (e (ib.mpr (È z)))) λz=>?_⟩);refine Õ _ À 1 (GM (o _ _ c) el ⟨_,À,_,_,À,Í ⟨_,fR.of (o _ _ B),À⟩,_,_,À,À,_,À,gz (λy=>e (ib.mpr (Í (by rw[P] at y;exact y)))) λy=>f1 (λD=>?_) _ o⟩);rcases ib.mp D with w|w
  .exact z w
  .exact y (by rw[P];exact w)
 have f:vo r≠"call"->hU (Ä (vo r)) [Ä "jump",Ä "test"]=false->¬rT (lL j) m.length r->Kn K (ì í Q) [Å p,Å rt,gm n,Å M] H:=λnc iv L=>by
  refine á c (ñ À _ À (no (λz=>nc (by injection z)) ?_));show Km K _ _ H;refine á c ⟨ka,λa U=>⟨a,_,À,Í (fR.of fG),À,À,_,À,s_ iv (i4 (f1 L _ ((Ø H).new U)))⟩⟩
 cases r with
 |call x k R=>
  obtain⟨J,qa,G,d,aa⟩:=O;cases G;rw[c] at d;cases d;have e:(k<0\/(lL j)[k.toNat]?≠Á R.length)->Q (.bl true) H:=λD=>q true _ (g ⟨λ_=>È D,λ_=>À⟩) (Ø H);refine á c (ñ À _ À (mi ?_));refine á c ⟨_,_,À,À,_,À,gz (λz=>lC (e (È z))) λk0=>?_⟩;refine á c ⟨_,À,_,_,À,Í ⟨_,fR.of I,À⟩,_,_,À,À,_,À,gz (λz=>e (Í ?_)) λkl=>?_⟩
  .rw[ue (by show Ô (j.map _)<=_;rw[fP,<-T.len];lia)];intro y;cases y
  have kb:k.toNat<j.length:=by rw[<-T.len];lia
  obtain⟨w,C,k1,k2,hP⟩:=T.get kb;obtain⟨af,ae,ah,ab,rfl,Y,Z,_⟩:=hP;have ec:(lL j)[k.toNat]?=Á C.params.length:=by show(j.map _)[k.toNat]?=_;rw[i3,k2];rfl
  show L7 K _ _ H;refine á c ⟨_,_,À,Í ⟨_,fR.of aa,À⟩,_,À,_,À,û c (iU I Ã k1 (û Y ⟨_,_,À,Í ⟨_,fR.of Z,À⟩,ñ À _ À (nN (λz=>e (.inr λy=>?_)) λz=>?_)⟩))⟩
  .rw[ec] at y;exact z (by rw[fP,fP,ď y])
  refine⟨_,À,_,À,_,_,À,Í ⟨_,fR.of B,À⟩,_,_,À,À,È (Æ À ?_)⟩;have eq:C.params.length=R.length:=by
   rw[fP,fP] at z;injection z with z;lia
  refine q _ H (g ⟨λy=>Í (Æ ?_ À),λy=>decide_eq_true ?_⟩) (Ø H)
  .have:=of_decide_eq_true y;injection this with this;lia
  .rcases y with y|y
   .rcases(show k<0\/(lL j)[k.toNat]?≠some R.length from y) with u|u
    .exact Ì u k0
    .exact Ì (by rw[ec,eq]) u
   .show V.int (n:Nat)=V.int ((rvs.length:Int)-1);rw[P,show((m.length:Nat):Int)-1=((n:Nat):Int) from Ã]
 |jump t=>
  obtain⟨J,G,d⟩:=O;cases G;rw[c] at d;cases d;refine á c (ñ À _ À (no (show ¬è "jump"=è "call" by decide +kernel) ?_));exact l t Iff.rfl À (by show hU (Ä "jump") _=true;decide +kernel)
 |test a t=>
  obtain⟨J,G,d⟩:=O;cases G;rw[c] at d;cases d;refine á c (ñ À _ À (no (show ¬è "test"=è "call" by decide +kernel) ?_));exact l t Iff.rfl À (by show hU (Ä "test") _=true;decide +kernel)
 |num x z=>exact f (show("num":Str)≠"call" by decide +kernel) (by show hU (Ä "num") _=false;decide +kernel) id
 |op x s a b=>exact f (show("op":Str)≠"call" by decide +kernel) (by show hU (Ä "op") _=false;decide +kernel) id
 |say a=>exact f (show("say":Str)≠"call" by decide +kernel) (by show hU (Ä "say") _=false;decide +kernel) id
 |give a=>exact f (show("give":Str)≠"call" by decide +kernel) (by show hU (Ä "give") _=false;decide +kernel) id
def R8{E:f_}{k n:Int}{c:Str}{C:d_}{H:b_}(h:∀(a:d_) (H':b_),Ö H'->H' a=Á (kv a (we k n c))->E (Â C) (Á a) H') :
  ∀(a:d_) (H':b_),Ö H'->H' a=Á (kv a (we k n c))->(sZ λ_=>E) (Â C) (Á a) H':=λa H' s g x d e f i j b nx=>
 h a _ (s.new b) (by rw[fM (f6 g b)];exact g)
def Gk(e:ia (mK H) a b.rows)(h:∀m,¬rP cs b m):ia (kh H) a b.low.rows:=by
 refine⟨by rw[e.len];exact(fP ..).symm,λi v j g c=>?_⟩;have c:(b.rows.map iW.low)[i]?=Á j:=c;rw[i3] at c;obtain⟨f,d,rfl⟩:=pj.mp c;exact(e.at_ i v f g d).low (rT.ok0 (AH h f (iS d)))
def kdu{K:a_}{vs:List V}{H:b_}{Q:fS}{E:f_}(h:E9 K vs H Q E):NL K E (ì í Q) (gW NC vs) H:=by
 obtain⟨p,r,rfl,M,X,q1,q2⟩:=h;obtain⟨R,v,hA⟩:=id M;refine⟨_,À,p,À,Æ _ (fR.of v),Nn (xs:=R) (λi d H'=>∃o1 o2,d=[Å p,o1,o2]/\Ö H'/\∀(j:Nat) b,j<i->r[j]?=Á b->yK r j b) ⟨_,_,À,Ø H,λj b z=>Ì z (mH _)⟩ ?_ ?_ ?_⟩
 .rintro i d H' _ ⟨_,_,_,s,_⟩;exact fR.of (s _ _ v)
 .rintro i x d Y a hx na ⟨o1,o2,rfl,s1,G⟩;obtain⟨b,u,hP⟩:=hA.of_v hx;have ps:=X.part b (iS u);refine⟨a,_,À,fR.of fG,À,_,_,À,_,_,À,À,?_⟩;have I:Ö (Ā Y a [Ë (i:Nat),x]):=s1.new na;show Lz K E _ [Å p,gm i,Á x] _;generalize upd Y a (.tup [.int (i:Nat),x])=H2 at I ⊢;have c:∀(n:Nat) (w:Str),sX r i b n w->∀q,Ö q->∀(t:d_) (H':b_),gJ q H'->H' t=Á (kv t (we (i:Nat) (n:Nat) w))->(sZ λ_=>E) (Â (iI K "NoProgram")) (Á t) H':=λn w pf q D=>
   R8 λt H' s g=>q2 i n w (Æ (Î b u pf) G) t H' (D.trans s) g
  refine⟨_,À,_,À,_,À,p,i,r,b,À,M.mono (.of_same I),X,u,λnf q D=>Õ i _ "name" (Í (Ą 0 (c 0 _ (.name nf) q (I.trans D)))),λC q D=>Õ i .non "name" (È (Æ À ?_))⟩;have l:=I.trans D;refine⟨_,À,_,À,_,À,p,i,r,b,À,M.mono (.of_same l),X,u,λn O Z S=>Õ i _ "row" (Í (Ą (n:Nat) (c n _ (.row C O) Z (l.trans S)))),λf Z S=>Õ i .non "row" (È (Æ À ?_))⟩;have m:=l.trans S;obtain⟨pt,pa,rt,rvs,rfl,y,aa,B,L⟩:=hP.mono (.of_same m);have R4:=Gk L f;have J:b.low.rows.length<64:=by show Ô (b.rows.map iW.low)<64;rw[fP];exact ps.few
  refine Õ _ À _ (û y ⟨rt,rvs,b.low.rows,À,B,R4,J,F1 f,λn O H5 T=>Õ i _ "ring" (Í (Ą (n:Nat) (c n _ (.ring C f O) H5 (m.trans T)))),λP H5 T=>Õ i .non "ring" (È (Æ À ?_))⟩);have o:=m.trans T;refine⟨_,À,_,À,_,b.low,_,À,(hP.mono (.of_same o)).low f,Pb ps C f P,λcl H6 U=>Õ i .non "unset" (È (Æ À ?_)),λn un mn H6 U=>Õ i _ "unset" (Í (Ą (n:Nat) (c n _ (.unset C f P (Æ un mn)) H6 (o.trans U))))⟩;refine⟨_,_,À,o.trans U,λj b' lt e=>?_⟩;rcases ua.mp lt with z|z
  .exact G j b' z e
  .subst z;rw[u] at e;cases e;exact⟨C,f,P,cl⟩
 .rintro d H' ⟨_,_,_,s,G⟩;refine q1 (λk b e=>G k b ?_ e) H' s;have:=(gR.mp e).1;rw[hA.len];exact this
def keI{a:List Nat}{i:Nat}{x:V}(h:(gu a)[i]?=Á x):∃n,a[i]?=Á n/\x=Ë (n:Nat):=by
 unfold gu at h;rw[i3] at h;obtain⟨n,e,rfl⟩:=pj.mp h;exact Î n e À
def CU(H:b_)(v:V)(n:Nat):Prop:=∃q,v=Â q/\H q=ä [Ë (n:Nat),Ä "unset"]
def CU.mono(h:CU H v n)(s:gZ H H'):CU H' v n:=by
 obtain⟨q,e,z⟩:=h;exact Î q e (s _ _ z)
def kbI{K:a_}{vs:List V}{H:b_}{Q:fS}{E:f_}(h:Ka K vs H Q E):MO K (ì í Q) (gW Ew vs) H:=by
 obtain⟨p,k,L,b,rfl,hp,wd,hb,q⟩:=h;obtain⟨g,ae,hA⟩:=id hp;have kb:k<L.length:=(gR.mp hb).1;obtain⟨w,b',e1,e2,hP⟩:=hA.get kb;rw[hb] at e2;cases e2;obtain⟨pt,C,rt,rvs,rfl,ak,ab,I,hR⟩:=id hP;have ag:g[((k:Nat):Int).toNat]?=Á (Â pt):=by simpa using e1
 have ps:=wd.part b (iS hb);have av:=ps.few;have rl:=hR.len;have bf:=wd.few;have one:∀(n:Nat) (w:Str) (O:b_),Ö O->sX L k b n w->∀t,O t=none->∀l,(Ā O t [Ë (n:Nat),Ä w]) l=none->Q (Â l) (Ý (Ā O t [Ë (n:Nat),Ä w]) l [Â t]):=λn w O s1 pf t f l G=>by
  refine q l [Â t] _ fG (Í ⟨t,n,w,[],À,?_,pf⟩) ((s1.new f).new G);rw[fM (f6 fG G)];exact fG
 refine Õ _ À _ (iU ae Ã ag ⟨pt,_,À,fR.of ak,À,_,_,À,_,_,À,_,_,À,À,?_⟩);show KO K _ [Å p,gm k,î b.name,Å C,Å rt,Ç] H;refine Ú (Í ⟨_,À,_,À,_,À,Í ⟨p,g,À,fR.of ae,Mv (by rw[hA.len];exact kb),λtp ao=>?_⟩⟩);rw[vW];have s1:Ö (Ā H tp (g.take k)):=(Ø H).new ao;have S:upd H tp (.tup (g.take k)) tp=ä (g.take k):=fG;generalize upd H tp (.tup (g.take k))=O at s1 S ⊢;refine⟨tp,À,Æ _ (fR.of S),λD hD=>?_⟩;refine Cf (xs:=g.take k) (λj a H'=>∃o,a=[kO p,gm k,some (.str b.name),kO C,kO rt,none,o]/\H'=upd O D (.lst (((L.take j).map (·.name)).map V.str))) (Ą Ç À) ?_ ?_ ?_
 .rintro j a H' _ ⟨o,_,rfl⟩;exact fR.of (by rw[fM (f6 S hD)];exact S)
 .rintro j x a H' hx ⟨o,rfl,rfl⟩;have jk:j<k:=by have:=(gR.mp hx).1;rw[kz] at this;lia
  rw[DK jk] at hx;obtain⟨b',aj,ai⟩:=hA.of_v hx;obtain⟨ay,ax,az,au,rfl,T,_⟩:=ai;refine oO (á (by rw[fM (f6 (s1 _ _ T) hD)];exact s1 _ _ T) ⟨_,fG,gY (by rw[fP,fP,kz];lia),_,À,?_⟩);rw[AE,mq,aj];simp
 rintro a H' ⟨o,_,rfl⟩;have tl:Ô (g.take k)=k:=by rw[kz,hA.len];lia
 rw[tl];refine⟨D,_,À,È (Ù fG),À,Aq _,_,À,?_⟩;have U:Ö (upd O D (.lst (((L.take k).map (·.name)).map V.str))):=s1.new hD;show if(hU (.str b.name) (((L.take k).map (·.name)).map V.str))=true then _ else _;rw[rq];generalize upd O D (.lst (((L.take k).map (·.name)).map V.str))=Y at U ⊢;have M:vq L k b->fZ (h_ (Þ (h9 (ç gj Hy)))) {nx:=λar Y=>I0 K (ì í Q) ar Y,rt:=Q} [Å p,gm k,î b.name,Å C,Å rt,Ç] Y:=λnf=>
  Æ ka (λt f=>Æ kK (λl G=>one 0 "name" Y U (.name nf) t f l G))
 refine gz (λz=>lC (M (È z))) λnz=>?_;refine⟨_,À,C,b.params,À,fR.of (U _ _ ab),by have:=ps.p9;lia,λss aq mm=>⟨_,À,_,_,À,Í ⟨_,fR.of (U _ _ ab),À⟩,_,_,À,À,_,À,?_⟩⟩;have il:=Vy aq mm;refine gz (λz=>M (Í (il.mp (by rw[fP] at z;lia)))) λz=>?_;have nn:¬vq L k b:=λnf=>by
  rcases nf with y|y
  .exact nz y
  .exact z (by rw[fP];have:=il.mpr y;lia)
 show I0 K _ [Å p,gm k,î b.name,Å C,Å rt,Ç] Y;refine⟨_,À,_,_,À,Í ⟨_,fR.of (U _ _ I),À⟩,ñ À _ À (gz (λz=>?_) λnz=>?_)⟩
 .have e0:b.rows=[]:=sH.mp (by injection z with z;lia);exact Æ ka (λt f=>Æ kK (λl G=>one 0 "row" Y U (.row nn ⟨È (Æ e0 À),λm z=>Ì z (mH _)⟩) t f l G))
 have ne:b.rows≠[]:=λz=>nz (by rw[rl,z];rfl);show KN K _ [Å p,gm k,î b.name,Å C,Å rt,Ç] Y;refine⟨_,À,_,_,À,Í ⟨_,fR.of (U _ _ I),À⟩,_,À,Ã,Ã,sP (λi a H'=>∃o,a=[Å p,gm k,î b.name,Å C,Å rt,o]/\Ö H'/\∀m,m<i->¬rP (lL L) b m) ⟨_,À,U,λm z=>Ì z (mH _)⟩ ?_ ?_⟩
 .rintro i a H3 hi ⟨o,rfl,X,P⟩;show Le K _ [Å p,gm k,î b.name,Å C,Å rt,Á (Ë (0+(i:Int)))] H3;rw[ya];refine⟨_,À,_,À,_,À,p,rt,i,rvs,L,b.rows,À,hp.mono (.of_same X),X _ _ I,hR.imp (λ_ _ z=>z.mono (.of_same X)),Ã,λb1 H4 i1 J=>Ú (mD (λR=>?_) λR=>?_)⟩
  .exact⟨_,À,ka,λt f=>Æ kK (λl G=>one i "row" H4 (X.trans J) (.row nn ⟨Í (i1.mp R),P⟩) t f l G)⟩
  .refine⟨_,À,X.trans J,λm lt=>?_⟩;rcases ua.mp lt with z|z
   .exact P m z
   .subst z;rintro(⟨y,_⟩|y)
    .exact ne y
    .rw[i1.mpr y] at R;cases R
 rintro a H3 ⟨o,rfl,X,P⟩;have nr:∀m,¬rP (lL L) b m:=λm z=>by
  refine P m ?_ z;rcases z with⟨y,_⟩|⟨r,e,_⟩
  .exact Ì y ne
  .have:=(gR.mp e).1;lia
 have ll:b.low.rows.length=b.rows.length:=fP ..;show Ld K _ [Å p,gm k,î b.name,Å C,Å rt,o] H3;refine⟨_,À,_,_,À,Í ⟨_,fR.of (X _ _ I),À⟩,_,À,Ã,Ã,sP (λi a H'=>∃o,a=[Å p,gm k,î b.name,Å C,Å rt,o]/\Ö H'/\∀m,m<i->¬oV b.low.rows m) ⟨_,À,X,λm z=>Ì z (mH _)⟩ ?_ ?_⟩
 .rintro i a H4 hi ⟨o,rfl,J,P⟩;show Lc K _ [Å p,gm k,î b.name,Å C,Å rt,Á (Ë (0+(i:Int)))] H4;rw[ya];refine⟨_,À,_,À,rt,i,rvs,b.low.rows,À,J _ _ I,Gk (hR.imp (λ_ _ z=>z.mono (.of_same J))) nr,F1 nr,Ã,λb1 H5 i1 s5=>Ú (mD (λR=>?_) λR=>?_)⟩
  .exact⟨_,À,ka,λt f=>Æ kK (λl G=>one i "ring" H5 (J.trans s5) (.ring nn nr ⟨i1.mp R,P⟩) t f l G)⟩
  .refine⟨_,À,J.trans s5,λm lt=>?_⟩;rcases ua.mp lt with z|z
   .exact P m z
   .subst z;intro y;rw[i1.mpr y] at R;cases R
 rintro a H4 ⟨o,rfl,J,P⟩;have ng:∀m,¬oV b.low.rows m:=λm z=>by
  refine P m ?_ z;obtain⟨⟨r,e,_⟩,_⟩:=z;have:=(gR.mp e).1;lia
 show Lb K _ [Å p,gm k,î b.name,Å C,Å rt,o] H4;refine È ⟨_,À,_,À,C,rt,rvs,b.low,_,À,J _ _ ab,J _ _ I,Gk (hR.imp (λ_ _ z=>z.mono (.of_same J))) nr,Pb ps nn nr ng,λl ns H5 mm pw nl aw G s5=>⟨l,À,Æ _ (Ù G),λD hD=>?_⟩⟩;refine sO (xs:=gu ns) (λj a H'=>∃(d:List V) (o:Option V),a=[Å p,gm k,î b.name,Å C,Å rt,o]/\H' D=Ð d/\ia (CU H') d (ns.take j)/\gJ H5 H') ⟨[],Ç,À,fG,ia.nil,(Ø H5).new hD⟩ ?_ ?_ ?_
 .rintro j a H' _ ⟨_,_,_,_,_,s⟩;exact Ù (s _ _ G)
 .rintro j x a H6 hx ⟨d,o,rfl,B,Z,s6⟩;obtain⟨m,hm,rfl⟩:=keI hx;have jl:j<ns.length:=(gR.mp hm).1;have af:=Z.len;rw[kz] at af;refine oO ⟨_,À,ka,λt f=>⟨_,by rw[fM (f6 B f)];exact B,gY Ã,d++[Â t],_,À,fG,?_,?_⟩⟩
  .have sx:gZ H6 (Ý (Ā H6 t [Ë (m:Nat),Ä "unset"]) D (d++[Â t])):=((gZ.refl H6).new f).lst (ys:=d) (by rw[fM (f6 B f)];exact B);rw[mq,hm];exact(Z.imp λ_ _ z=>z.mono sx).snoc (Ą t (by rw[fM (by intro z;rw[z,B] at f;cases f),fG]))
  .exact kR (s6.new f) hD
 rintro a H6 ⟨d,o,_,B,Z,s6⟩;rw[mI,m5 ï] at Z;refine q D d H6 B ?_ ((J.trans s5).trans s6);by_cases c:d=[]
 .refine È (Æ ⟨nn,nr,ng,λm u=>?_⟩ c);have:=(mm m).mpr u;have l0:ns=[]:=sH.mp (by rw[<-Z.len,c];rfl);rw[l0] at this;cases this
 .have l0:0<ns.length:=by rw[<-Z.len];exact sJ.mpr c
  obtain⟨v,n,f1,f2,dv⟩:=Z.get l0;obtain⟨t,rfl,f⟩:=dv;have un:=(mm n).mp (iS f2);obtain⟨v0,rest,rfl⟩:=List.exists_cons_of_ne_nil c;have e0:v0=Â t:=by simpa using f1
  subst e0;refine Í ⟨t,n,"unset",rest,À,f,.unset nn nr ng ⟨un,λm lt um=>?_⟩⟩;obtain⟨j,hj,ej⟩:=nB.mp ((mm m).mpr um);have e0:ns[0]=n:=by rw[gF l0] at f2;exact ď f2
  by_cases cj:j=0
  .subst cj;lia
  .have:=DJ.mp pw 0 j l0 hj Ã;lia
def kgV(g:H l=Ð d)(f:H e=Ð [])(i:d≠[]->Q (.bl true) H)(k:d=[]->Q (.bl Ü) H):DH K (Â l) (Â e) H Q:=by
 by_cases c:d=[]
 .subst c;exact È ⟨l,e,_,_,À,À,È ⟨Ù g,Ù f⟩,Í ⟨[],À,À,(λj a b e h=>by cases h),k À⟩⟩
 .exact È ⟨l,e,_,_,À,À,È ⟨Ù g,Ù f⟩,È ⟨(λz=>c (sH.mp z)),i c⟩⟩
def kkm{K:a_}{vs:List V}{H:b_}{Q:fS}{E:f_}(h:GO K vs H Q E):UW K (ì í Q) (gW U2 vs) H:=by
 obtain⟨p,d,rfl,I,O,q⟩:=h;obtain⟨aa,B,S⟩:=id I;have R:=O.few;have al:=S.len;refine⟨_,À,_,_,À,Í ⟨_,fR.of B,À⟩,_,À,Ã,Ã,sP (λi g H'=>∃C s,g=[Å p,C,s]/\Ö H'/\∀(j:Nat) b,j<i->d[j]?=Á b->yK d j b) ⟨_,_,À,Ø H,λj b z=>Ì z (mH _)⟩ ?_ ?_⟩
 .rintro i g D hi ⟨C,s,rfl,u,r⟩;have U:i<d.length:=Ã
  have x:d[i]?=Á d[i]:=gF U;show Rv K _ [Å p,Á (Ë (0+(i:Int))),s] D;rw[ya];refine⟨_,À,_,À,p,i,d,d[i],À,I.mono (.of_same u),O,x,λl M m y L s2=>?_⟩;show Ru K _ [Å p,gm i,Å l] m;refine⟨_,À,mU,λe T=>?_⟩;have f:gJ m (Ý m e []):=(Ø m).new T;have o:Ĉ m e [] e=Ð []:=fG;generalize upd m e (.lst [])=H3 at f o ⊢;have G:=(u.trans s2).trans f;refine kgV (f _ _ y) o (λY=>Ú (lC ?_)) λP=>Ú (i4 ⟨_,_,À,G,λj b X e=>?_⟩)
  .rcases L with⟨_,z⟩|⟨t,n,w,rest,rfl,J,Z⟩
   .exact Ì z Y
   refine Õ _ À _ (ke (Ù (f _ _ y)) Ï À (û (f _ _ J) (Ú (ke (Ù (f _ _ y)) Ï À (û (f _ _ J) ⟨kM,λa v=>?_⟩)))));exact q a _ ⟨_,_,_,Í (Õ i n (Æ (Î _ x Z) r) À),fG⟩ (G.new v)
  .rcases ua.mp X with z|z
   .exact r j b z e
   .subst z;rw[x] at e;cases e;rcases L with⟨c,_⟩|⟨t,n,w,rest,z,_⟩
    .exact c
    .rw[P] at z;cases z
 .rintro g D ⟨C,s,rfl,u,r⟩;refine⟨1,À,kM,λa v=>q a _ ⟨_,_,_,ñ (λk b e=>r k b ?_ e) À À À,fG⟩ (u.new v)⟩;have:=(gR.mp e).1;lia
def Ry{b:List Bool}:b.all id=true↔∀x∈b,x=true:=by
 rw[uT];exact⟨λh x a=>h x a,λh x a=>h x a⟩
def xP(hz:z.length<=99000):Dr K (Ä z) H z.length:=Æ (mv (gY Ã)) À
def Mp(c:Nat):c∈("abcdefghijklmnopqrstuvwxyz":Str).cps.toList↔97<=c/\c<=122:=by
 have e:("abcdefghijklmnopqrstuvwxyz":Str).cps.toList=(lH 26).map (·+97):=â
 rw[e,kA];constructor
 .rintro⟨i,a,rfl⟩;have:=tE.mp a;exact Æ Ã Ã
 .rintro⟨b,d⟩;exact⟨c-97,tE.mpr Ã,Ã⟩
def MB(c:Nat):c∈("0123456789":Str).cps.toList↔48<=c/\c<=57:=by
 have e:("0123456789":Str).cps.toList=(lH 10).map (·+48):=â
 rw[e,kA];constructor
 .rintro⟨i,a,rfl⟩;have:=tE.mp a;exact Æ Ã Ã
 .rintro⟨b,d⟩;exact⟨c-48,tE.mpr Ã,Ã⟩
def kjf{y:Str}{i c:Nat}(h:y.cps[i]?=Á c):y.cps.toList[i]?=Á c:=by rw[uR];exact h
def GC{K:a_}{y:Str}{v:gp}{P:Nat->Bool}{H:b_}{Q:fS}(r:∀(c:Nat) (H:b_) (Q:fS),Q (.bl (P c)) H->v [î y,î ⟨#[c]⟩] H Q)(I:y.length<=99000)(q:∀(b:Bool) (H':b_),(b=true↔∀c∈y.cps.toList,P c=true)->Ö H'->Q (.bl b) H') :
  iO (wu K) (Þ (i9 [] 1 (wB ø) (gB 1) kT v)) [î y] H Q:=by
 refine Õ _ À y (λD u=>?_);refine kd8 (λi d H'=>∃(a:List Bool) (o:Option V),d=[î y,o]/\H' D=Ð (a.map V.bl)/\a.length=i/\(∀(j:Nat) b,a[j]?=Á b->∃c,y.cps.toList[j]?=Á c/\b=P c)/\Ö H') ?_ ?_ ?_
 .exact⟨[],Ç,À,fG,À,λj b z=>by simp at z,(Ø H).new u⟩
 .rintro i c d H' m ⟨a,o,rfl,n,p,l,s⟩;have G:i<y.length:=(tm.mp m).1;refine oO (r c _ _ ⟨_,n,gY (by rw[fP];lia),a++[P c],_,À,by rw[fG,g8];rfl,by simp[p],λj b z=>?_,kR s u⟩);by_cases f:j<a.length
  .rw[uc f] at z;exact l j b z
  .rw[tr Ã] at z;have w:j-a.length=0:=by
    have:=(gR.mp z).1;simp at this;lia
   rw[w] at z;have B:j=i:=Ã
   subst B;exact⟨c,kjf m,by simpa using z.symm⟩
 .rintro d H' ⟨a,o,_,n,p,l,s⟩;refine⟨D,a,À,Ù n,q _ H' ?_ s⟩;rw[Ry];constructor
  .intro h c m;obtain⟨j,f,e⟩:=nB.mp m;have t:j<a.length:=by rw[p,<-lO];exact f
   obtain⟨E,g,k⟩:=l j a[j] (gF t);rw[gF f,e] at g;cases g;have:=h a[j] (nE t);rw[this] at k;exact k.symm
  .intro h x C;obtain⟨j,f,e⟩:=nB.mp C;obtain⟨c,g,k⟩:=l j x (by rw[gF f,e]);rw[k];exact h c (iS g)
def M8(e:y.length<=99000)(q:∀(b:Bool) (H':b_),(b=true↔∀c∈y.cps.toList,c∈Z.cps.toList)->Ö H'->Q (.bl b) H') :
  iO (wu K) (Þ (i9 [] 1 (wB ø) (gB 1) kT (ô (wx K) 1 (fY (Ä Z))))) [î y] H Q:=
 GC (P:=λc=>æ (c∈Z.cps.toList)) (λc _ _ q=>Ú (Í (Õ c Z À q))) e λb H' d s=>q b H' (d.trans ⟨λh c a=>of_decide_eq_true (h c a),λh c a=>decide_eq_true (h c a)⟩) s
def kaM{K:a_}{vs:List V}{H:b_}{Q:fS}{E:f_}(h:wN K vs H Q E):LB K (ì í Q) (gW Kd vs) H:=by
 obtain⟨y,rfl,d,q⟩:=h;refine⟨_,À,_,_,À,xP d,_,_,À,À,_,À,gz (λc=>?_) (λc=>?_)⟩
 .exact lC (q Ü H ⟨λz=>(by cases z),λn=>Ì n.l1 Ã⟩ (Ø H))
 refine⟨_,À,_,_,À,xP d,_,_,À,À,_,À,gz (λf=>?_) (λf=>?_)⟩
 .exact lC (q Ü H ⟨λz=>(by cases z),λn=>Ì n.l8 Ã⟩ (Ø H))
 refine Ú (λp i=>È ⟨p,_,À,Í (i H),À,À,_,À,?_⟩);have e:hU (Ä y) [Ä "part",Ä "call",Ä "say",Ä "jump",Ä "test",Ä "give"]=æ (y∈pW):=rq y pW;rw[show(if false=true then ! hU (è y) [Ä "part",Ä "call",Ä "say",Ä "jump",Ä "test",Ä "give"] else hU (Ä y) [Ä "part",Ä "call",Ä "say",Ä "jump",Ä "test",Ä "give"])=æ (y∈pW) from e];refine gz (λiy=>q Ü H ⟨λz=>(by cases z),λn=>Ì iy n.no⟩ (Ø H)) λiy=>?_;refine M8 d λb H' g s=>q b H' ?_ s;rw[g];exact⟨λh=>⟨Ã,Ã,λc a=>(Mp c).mp (h c a),iy⟩,λn c a=>(Mp c).mpr (n.abc c a)⟩
def XS{K:a_}{vs:List V}{H:b_}{Q:fS}{E:f_}(h:By K vs H Q E):Ur K (ì í Q) (gW Io vs) H:=by
 obtain⟨y,rfl,j,q⟩:=h;refine⟨_,À,_,_,À,xP j,_,_,À,À,_,À,gz (λc=>?_) (λc=>?_)⟩
 .exact lC (q Ü H ⟨λz=>(by cases z),λn=>Ì n.l1 Ã⟩ (Ø H))
 refine⟨_,À,_,_,À,xP j,_,_,À,À,_,À,gz (λk=>?_) (λk=>?_)⟩
 .exact q Ü H ⟨λz=>(by cases z),λn=>Ì n.l20 Ã⟩ (Ø H)
 have d:0<y.cps.toList.length:=by
  rw[lO];show 0<y.length;lia
 obtain⟨e,o,g⟩:∃c r,y.cps.toList=c::r:=by
  cases h:y.cps.toList with
  |nil=>rw[h] at d;cases d
  |cons c r=>exact Î c r À
 have a:(y.cps.toList.head?=Á 48->y="0")->Tq K (ì í Q) [î y] H:=λm=>
  M8 j λb H' l s=>q b H' (by
   rw[l];exact⟨λh=>⟨Ã,Ã,λc i=>(MB c).mp (h c i),m⟩,λn c i=>(MB c).mpr (n.dig c i)⟩) s
 show TX K _ [î y] H;refine Ú (Bp (mv (gY Ã)) Ï (by rw[g];rfl) (ñ À _ À (gz (λiy=>?_) (λiy=>?_))))
 .refine Ú (ñ À _ À (nN (λf=>?_) (λf=>?_)))
  .refine q Ü H ⟨λz=>(by cases z),λn=>?_⟩ (Ø H);have:e=48:=by
    have iy:(è ⟨#[e]⟩)=è "0":=iy;injection iy with iy;have:(⟨#[e]⟩:Str).cps.toList=("0":Str).cps.toList:=by rw[iy]
    rw[show("0":Str).cps.toList=[48] from â] at this;injection this
   exact Ì (by rw[n.lead (by rw[g,this];rfl)]) f
  .exact a λ_=>by injection f
 .refine i4 (a λz=>?_);rw[g] at z;have:e=48:=by simpa using z
  subst this;exact Ì (by rw[show("0":Str)=⟨#[48]⟩ from â]) iy
def Vz{K:a_}{vs:List V}{H:b_}{Q:fS}{E:f_}(h:DX K vs H Q E):VH K (ì í Q) (gW Im vs) H:=by
 obtain⟨l,v,rfl,r,few,L,q⟩:=h;refine È ⟨_,À,l,À,Æ _ (Ù r),λD u=>?_⟩;have P:l≠D:=f6 r u;refine sO (xs:=v.map Ê) (λi c H'=>∃(a:List Bool) (o:Option V),c=[Å l,o]/\H' D=Ð (a.map V.bl)/\a.length=i/\(∀(j:Nat) b,a[j]?=Á b->∃y,v[j]?=Á y/\(b=true↔gP y))/\Ö H') ?_ ?_ ?_ ?_
 .exact⟨[],Ç,À,fG,À,λj b z=>by simp at z,(Ø H).new u⟩
 .rintro i c H' _ ⟨a,o,rfl,_,_,_,s⟩;exact Ù (s _ _ r)
 .rintro i x c H' t ⟨a,o,rfl,p,d,m,s⟩;obtain⟨y,g,rfl⟩:=vd t;have O:i<v.length:=(gR.mp g).1;refine oO ⟨_,À,y,À,L y (iS g),λb M I C=>⟨_,C _ _ p,gY (by rw[fP];lia),a++[b],_,À,by rw[fG,g8];rfl,by simp[d],λj w z=>?_,kR (s.trans C) u⟩⟩;by_cases f:j<a.length
  .rw[uc f] at z;exact m j w z
  .rw[tr Ã] at z;have G:j-a.length=0:=by
    have:=(gR.mp z).1;simp at this;lia
   rw[G] at z;have J:j=i:=Ã
   subst J;have:b=w:=by simpa using z
   subst this;exact Î y g I
 .rintro c H' ⟨a,o,_,p,d,m,s⟩;rw[fP] at d;refine⟨D,a,À,Ù p,q _ H' ?_ s⟩;rw[Ry];constructor
  .intro h y g;obtain⟨j,f,e⟩:=nB.mp g;have B:j<a.length:=Ã
   obtain⟨R,k,n⟩:=m j a[j] (gF B);rw[gF f,e] at k;cases k;exact n.mp (h _ (nE B))
  .intro h x t;obtain⟨j,f,e⟩:=nB.mp t;obtain⟨y,k,n⟩:=m j x (by rw[gF f,e]);exact n.mpr (h y (iS k))
def m8{K:a_}{l:d_}{ws:List Str}{i:Nat}{w:Str}{H:b_}{Q:fS}(a:H l=Ð (ws.map Ê))(e:ws[i]?=Á w)(q:Q (Ä w) H):sG K (Â l) (Ë (i:Nat)) H Q:=
 ke (Ù a) (Int.natCast_nonneg _) (by rw[sL];exact Cr e) q
def lY{K:a_}{l:d_}{ws:List Str}{H:b_}(a:H l=Ð (ws.map Ê)):Dr K (Â l) H ws.length:=È ⟨_,Ù a,by rw[fP]⟩
def v5(ws:Ñ)(c:Nat):nX (ws.map Ê) (Á (c:Int)) Ç=(ws.drop c).map Ê:=by rw[Ct,BP]
def xo(h:mX y):PySem.intText? y=Á ((nj y:Nat):Int):=by
 refine PySem.intText_digits h.dig ?_ (by have:=h.l20;lia);intro z;have:=h.l1;rw[show y.length=y.cps.toList.length from(lO ..).symm,z] at this;cases this
def Kx{b:Type}{l:List b}(h:l.length=1):∃a,l=[a]:=Hs.mp h
def Sm{c:Type}{l:List c}(h:2<=l.length):∃a b r,l=a::b::r:=by
 match l,h with
 |a::b::r,_=>exact⟨a,b,r,À⟩
def Ky{c:Type}{l:List c}(h:l.length=2):∃a b,l=[a,b]:=by
 match l,h with
 |[a,b],_=>exact Î a b À
def Kz{d:Type}{l:List d}(h:l.length=3):∃a b c,l=[a,b,c]:=by
 match l,h with
 |[a,b,c],_=>exact⟨a,b,c,À⟩
def xB(ws:Ñ):Prop:=(∃y,ws=[y]/\mX y/\nj y<2 ^ 64)\/(∃f c,ws=(("call":Str)::f::c)/\gP f/\∀y∈c,gP y)\/∃a s b,ws=[a,s,b]/\s∈oq/\gP a/\gP b
def RY(h:i8 (x::"="::ws) r):gP x/\xB ws:=by
 rcases h.key with⟨t,e,m⟩|⟨e,p,t,ex,nx⟩
 .cases r with
  |part y o=>obtain⟨e,n,_⟩:=h;injection e with _ e;injection e with e _;exact Ì n (by rw[<-e];exact Dn)
  |say a=>obtain⟨e,n⟩:=h;injection e with _ e;injection e with e _;exact Ì n (by rw[<-e];exact Dn)
  |jump l=>obtain⟨y,e,n,_⟩:=h;injection e with _ e;injection e with e _;exact Ì n (by rw[<-e];exact kkw)
  |test a l=>obtain⟨y,e,n,_⟩:=h;injection e with _ e;injection e with e _;exact Ì n (by rw[<-e];exact Dn)
  |give a=>obtain⟨e,n⟩:=h;injection e with _ e;injection e with e _;exact Ì n (by rw[<-e];exact Dn)
  |_=>exact Ì m Đ
 .cases r with
  |num y z=>obtain⟨w,e,n,d,_,i⟩:=h;injection e with e1 e;injection e with _ e;exact⟨by rw[e1];exact n,ñ w e d i⟩
  |op y s a b=>obtain⟨e,n,k,c,d⟩:=h;injection e with e1 e;injection e with _ e;exact⟨by rw[e1];exact n,Í (Í ⟨a,s,b,e,k,c,d⟩)⟩
  |call y f g=>obtain⟨e,n,j,c⟩:=h;injection e with e1 e;injection e with _ e;exact⟨by rw[e1];exact n,Í (È ⟨f,g,e,j,c⟩)⟩
  |_=>exact Ì e Đ
def G0:(2:Nat) ^ 64=18446744073709551616:=Ï
def UJ:(2:Int) ^ pA 64=18446744073709551616:=Ï
def Wm{K:a_}{vs:List V}{H:b_}{Q:fS}{E:f_}(h:Hv K vs H Q E):S_ K (ì í Q) (gW Tf vs) H:=by
 obtain⟨l,ws,rfl,X,l2,e1,few,sh,q⟩:=h;obtain⟨x,d,rfl⟩:∃x r,ws=x::r:=by
  cases ws with
  |nil=>cases l2
  |cons x r=>exact Î x r À
 obtain⟨d,rfl⟩:∃r,d=(("=":Str)::r):=by
  cases d with
  |nil=>simp at e1
  |cons y r=>
   have:y=("=":Str):=by simpa using e1
   exact Æ r (by rw[this])
 have C:∀{H':b_},Ö H'->¬(gP x/\xB d)->í:=λs n=>q .non _ (by rw[Ep λr z=>n (RY z)];rfl) s;have j:∀{H':b_} {v:V} {r:ik},Ö H'->i8 (x::"="::d) r->oj H' v r->Q v H':=λs lr la=>q _ _ (by rw[BR lr];exact la) s;have aq:=sh x Ò;have k2:∀k,Ö k->gP x->(¬∃y,d=[y]/\mX y/\nj y<2 ^ 64)->(¬∃f B,d=(("call":Str)::f::B)/\gP f/\∀y∈B,gP y)->SJ K (ì í Q) [Å l,î x] k:=λk o nx n1 n2=>by
  have g:=o _ _ X;have P:∀{H':b_},Ö H'->(¬∃a s b,d=[a,s,b]/\s∈oq/\gP a/\gP b)->í:=λs n3=>C s λ⟨_,z⟩=>z.elim n1 λz=>z.elim n2 n3;refine⟨_,À,_,_,À,lY g,ñ À _ À (gz (λc=>?_) (λc=>i4 (P o ?_)))⟩
  .obtain⟨a,s,b,rfl⟩:∃a s b,d=[a,s,b]:=by
    have c:V.int ((Ô (x::"="::d):Nat):Int)=V.int 5:=c;injection c with c;have:Ô (d)=3:=by rw[iN,iN] at c;lia
    exact Kz this
   have ak:=sh a Ò;have ao:=sh b Ò;refine Ú (m8 (i:=3) g À λp hp=>È ⟨p,_,À,Í (hp k),À,À,_,À,?_⟩);have e:hU (Ä s) [Ä "+",Ä "-",Ä "*",Ä "<",Ä "="]=æ (s∈oq):=rq s oq;rw[show(if false=true then ! hU (è s) [Ä "+",Ä "-",Ä "*",Ä "<",Ä "="] else hU (Ä s) [Ä "+",Ä "-",Ä "*",Ä "<",Ä "="])=æ (s∈oq) from e];refine gz (λiy=>?_) λiy=>i4 (P o λO=>?_);rotate_left
   .obtain⟨a',s',b',e,m,_⟩:=O;injection e with _ e;injection e with e _;exact iy (by rw[e];exact m)
   refine Ċ 2 g À ⟨a,À,ak,λba H2 af L=>Ú (mD (λea=>?_) (λea=>i4 (P (o.trans L) λO=>?_)))⟩;rotate_left
   .obtain⟨a',s',b',e,_,m,_⟩:=O;injection e with e _;rw[<-e] at m;rw[af.mpr m] at ea;cases ea
   have J:=L _ _ g;refine Ċ 4 J À ⟨b,À,ao,λbb T ag s3=>Ú (mD (λG=>?_) (λG=>P ((o.trans L).trans s3) λO=>?_))⟩;rotate_left
   .obtain⟨a',s',b',e,_,_,m⟩:=O;injection e with _ e;injection e with _ e;injection e with e _;rw[<-e] at m;rw[ag.mpr m] at G;cases G
   have I:=s3 _ _ J;refine Õ _ À _ (m8 (i:=3) I À (Ċ 2 I À (Ċ 4 I À ⟨yh,λt ht=>?_⟩)));exact j (((o.trans L).trans s3).new ht) (r:=.op x s a b) ⟨À,nx,iy,af.mp ea,ag.mp G⟩ (Ą t fG)
  .rintro⟨a,s,b,rfl,_⟩;exact c À
 have k3:∀k,Ö k->gP x->(¬∃y,d=[y]/\mX y/\nj y<2 ^ 64)->SK K (ì í Q) [Å l,î x] k:=λk o nx n1=>by
  have g:=o _ _ X;refine⟨_,À,_,_,À,lY g,_,_,À,À,_,À,gz (λc=>?_) (λc=>i4 (k2 k o nx n1 ?_))⟩
  .obtain⟨w,f,B,rfl⟩:∃w f B,d=w::f::B:=Sm (by simp only[iN] at c;lia);refine Ċ 2 g À (ñ À _ À (gz (λc2=>?_) (λc2=>i4 (k2 k o nx n1 λO=>?_))));rotate_left
   .obtain⟨f',ai,e,_⟩:=O;injection e with e _;exact c2 (by rw[e])
   have:w="call":=by injection c2
   subst this;refine Õ _ À 3 (È ⟨l,_,À,Ù g,λD nD=>?_⟩);rw[show(3:Int)=((3:Nat):Int) from À,v5];have L:gJ k (Ý k D (((x::"="::"call"::f::B).drop 3).map Ê)):=(Ø k).new nD;have hD:Ĉ k D (((x::"="::"call"::f::B).drop 3).map Ê) D=Ð ((f::B).map Ê):=fG;generalize upd k D (.lst (((x::"="::"call"::f::B).drop 3).map V.str))=H2 at L hD ⊢;have aa:Ô (f::B)<=99000:=by simp only[iN] at few ⊢;lia
   refine⟨D,f::B,À,hD,aa,λy Y=>sh y (by simp only[g7] at Y ⊢;rcases Y with z|z<;>simp[z]),λb T R s3=>Ú (mD (λG=>?_) (λG=>k2 T ((o.trans L).trans s3) nx n1 λO=>?_))⟩;rotate_left
   .obtain⟨f',ai,e,nf,na⟩:=O;injection e with _ e;injection e with e1 e2;subst e1;subst e2;rw[R.mpr λy Y=>(g7.mp Y).elim (λe=>by rw[e];exact nf) (na y)] at G;cases G
   have nm:=R.mp G;have ah:=(o.trans L).trans s3;have I:=ah _ _ X;refine Õ _ À _ (m8 (i:=3) I À (Õ _ À 4 (È ⟨l,_,À,Ù I,λD2 aj=>?_⟩)));rw[show(4:Int)=((4:Nat):Int) from À,v5];have s4:gJ T (Ý T D2 (((x::"="::"call"::f::B).drop 4).map Ê)):=(Ø T).new aj;have ab:Ĉ T D2 (((x::"="::"call"::f::B).drop 4).map Ê) D2=Ð (B.map Ê):=fG;generalize upd T D2 (.lst (((x::"="::"call"::f::B).drop 4).map V.str))=H4 at s4 ab ⊢;refine⟨D2,_,À,È ⟨Ù ab,λt nt=>Æ va (λu nu=>?_)⟩⟩;exact j (((ah.trans s4).new nt).new nu) (r:=.call x f B) ⟨À,nx,nm f Ò,λy Y=>nm y (by simp[Y])⟩ ⟨u,t,À,fG,(Ø _).new nu _ _ fG⟩
  .rintro⟨f,B,rfl,_⟩;exact c (by simp only[iN];lia)
 refine Ċ 0 X À ?_;show SM K _ [Å l,î x] H;refine⟨_,À,x,À,aq,λb k R o=>Ú ?_⟩;cases b with
 |false=>exact lC (C o λz=>by cases R.mpr z.1)
 |true=>
  refine i4 ?_;have nx:=R.mp À;have g:=o _ _ X;show SL K _ [Å l,î x] k;refine⟨_,À,_,_,À,lY g,ñ À _ À (gz (λc=>?_) (λc=>i4 (k3 k o nx ?_)))⟩
  .obtain⟨y,rfl⟩:∃y,d=[y]:=by
    have c:V.int ((Ô (x::"="::d):Nat):Int)=V.int 3:=c;injection c with c;have:d.length=1:=by rw[iN,iN] at c;lia
    exact Kx this
   have ar:=sh y Ò;refine Ċ 2 g À ⟨y,À,ar,λb H2 R L=>Ú (mD (λG=>?_) (λG=>i4 (k3 H2 (o.trans L) nx λO=>?_)))⟩;rotate_left
   .obtain⟨y',e,Z,_⟩:=O;injection e with e _;subst e;rw[R.mpr Z] at G;cases G
   have Z:=R.mp G;have U:=o.trans L;have J:=U _ _ X;have S:y.length<=640:=by have:=Z.l20;lia
   obtain⟨M,hM,ae⟩:∃M:Int,(2:Int) ^ pA 64=M/\M=18446744073709551616:=Ú UJ;refine Ċ 2 J À ⟨y,_,À,xo Z,S,_,_,À,À,Î Ï Ï Ï,_,_,À,À,_,À,?_⟩;rw[hM];refine gz (λiy=>?_) (λiy=>k3 H2 U nx λ⟨y',e,_,lt⟩=>?_)
   .rw[ae] at iy;refine Õ _ À _ (m8 (i:=2) J À ⟨y,_,À,xo Z,S,kM,λt ht=>?_⟩);exact j (U.new ht) (r:=.num x (nj y)) ⟨y,À,nx,Z,À,by rw[G0];lia⟩ (Ą t fG)
   .injection e with e _;subst e;rw[G0] at lt;rw[ae] at iy;lia
  .rintro⟨y,rfl,_⟩;exact c À
def Fu(z y:Str):Ô (Txt.split z y)<=z.length+2:=by
 unfold Txt.split;split
 .show 1<=_;lia
 .split
  .show 1<=_;lia
  .have a:=StrLaws.occ_length_le z y 0 z.length (z.length+1);rw[PySem.length_partsBetween];lia
def Kl(h:w∈Txt.split z y):w.length<=z.length:=PyProof.Rows.part_short h
def kjr(c:H t=ä [Ä a,Ä b])(q:Q (.bl (æ (w∈[a,b]))) H):wx K (Ä w) (Â t) H Q:=by
 refine È ⟨t,_,À,Í (fR.of c),À,À,?_⟩;have e:hU (Ä w) [Ä a,Ä b]=æ (w∈[a,b]):=rq w [a,b];show Q (.bl (hU (Ä w) [Ä a,Ä b])) H;rw[e];exact q
def XT{K:a_}{vs:List V}{H:b_}{Q:fS}{E:f_}(h:H_ K vs H Q E):Us K (ì í Q) (gW Vw vs) H:=by
 obtain⟨x,rfl,hx,q⟩:=h;have aa:Ô (ą x)<=99000:=by have:=Fu x " ";lia
 have Y:∀y∈Txt.split x " ",y.length<=99000:=λy hy=>by have:=Kl hy;lia
 have ne:=w9 x " ";refine⟨_,À,À,x," ",À,À,â,(by have:=gY (n:=x.length+3) Ã;lia),λl nl=>?_⟩;show T7 K _ [î x,Å l] _;have s0:Ö (Ý H l ((ą x).map Ê)):=(Ø H).new nl;have j:Ĉ H l ((ą x).map Ê) l=Ð ((ą x).map Ê):=fG;generalize upd H l (.lst ((Txt.split x " ").map V.str))=M at s0 j ⊢;generalize Txt.split x " "=ws at aa Y ne q j;obtain⟨k,rest,rfl⟩:∃w r,ws=w::r:=by
  cases ws with
  |nil=>exact Ì À ne
  |cons w r=>exact Î w r À
 have ak:=Y k Ò;have f:∀{H':b_} {v:V} {r:ik},gJ M H'->i8 (k::rest) r->oj H' v r->Q v H':=λs lr la=>q _ _ (by rw[BR lr];exact la) (s0.trans s);have k1:∀B,gJ M B->(¬∃t,rest=(("=":Str)::t))->(¬∃y d,k="part"/\rest=y::d/\gP y/\∀z∈d,gP z)->(¬∃a,(k="say"\/k="give")/\rest=[a]/\gP a)->(¬∃y,k="jump"/\rest=[y]/\mX y)->(¬∃a y,k="test"/\rest=[a,y]/\gP a/\mX y)->ē B:=λB L G P R n3 n2=>by
  refine q .non B ?_ (s0.trans L);rw[Ep λr h=>?_]
  .rfl
  rcases h.key with⟨t,e,m⟩|⟨e,x',t,ex,nx⟩
  .cases r with
   |part y d=>obtain⟨e,n,np⟩:=h;injection e with e1 e;exact P ⟨y,d,e1,e,n,np⟩
   |say a=>obtain⟨e,n⟩:=h;injection e with e1 e;exact R ⟨a,È e1,e,n⟩
   |jump to=>obtain⟨y,e,n,_⟩:=h;injection e with e1 e;exact n3 ⟨y,e1,e,n⟩
   |test a to=>obtain⟨y,e,n,X,_⟩:=h;injection e with e1 e;exact n2 ⟨a,y,e1,e,n,X⟩
   |give a=>obtain⟨e,n⟩:=h;injection e with e1 e;exact R ⟨a,Í e1,e,n⟩
   |_=>exact Ì m Đ
  .injection ex with _ ex;exact G (Æ t ex)
 have k2:∀B,gJ M B->(¬∃t,rest=(("=":Str)::t))->(¬∃y d,k="part"/\rest=y::d/\gP y/\∀z∈d,gP z)->(¬∃a,(k="say"\/k="give")/\rest=[a]/\gP a)->(¬∃y,k="jump"/\rest=[y]/\mX y)->TY K (ì í Q) [î x,Å l] B:=λB L G P R n3=>by
  have p:=L _ _ j;refine Ċ 0 p À (ñ À _ À (gz (λc=>?_) (λc=>i4 (k1 B L G P R n3 λo=>c (by obtain⟨a,y,e,_⟩:=o;rw[e])))));have ew:k="test":=by injection c
  refine⟨_,À,_,_,À,lY p,ñ À _ À (gz (λg=>?_) (λg=>i4 (k1 B L G P R n3 λo=>g (by obtain⟨a,y,_,e,_⟩:=o;rw[e];rfl))))⟩;obtain⟨a,y,rfl⟩:∃a y,rest=[a,y]:=by
   have g:V.int ((Ô (k::rest):Nat):Int)=V.int 3:=g;injection g with g;exact Ky (by rw[iN] at g;lia)
  refine Ċ 1 p À ⟨a,À,Y a Ò,λba Z ae C=>Ú (mD (λea=>?_) (λea=>i4 (k1 Z (L.trans C) G P R n3 λo=>?_)))⟩;rotate_left
  .obtain⟨a',y',_,e,n,_⟩:=o;injection e with e _;subst e;rw[ae.mpr n] at ea;cases ea
  have I:=C _ _ p;refine Ċ 2 I À ⟨y,À,Y y Ò,λai T af S=>Ú (mD (λey=>?_) (λey=>k1 T ((L.trans C).trans S) G P R n3 λo=>?_))⟩;rotate_left
  .obtain⟨a',y',_,e,_,n⟩:=o;injection e with _ e;injection e with e _;subst e;rw[af.mpr n] at ey;cases ey
  have J:=S _ _ I;have X:=af.mp ey;refine Ċ 1 J À (Ċ 2 J À ⟨y,_,À,xo X,(by have:=X.l20;lia),kM,λt ht=>?_⟩);exact f (((L.trans C).trans S).new ht) (r:=.test a (nj y)) ⟨y,by rw[ew],ae.mp ea,X,À⟩ (Ą t fG)
 have k3:∀B,gJ M B->(¬∃t,rest=(("=":Str)::t))->(¬∃y d,k="part"/\rest=y::d/\gP y/\∀z∈d,gP z)->(¬∃a,(k="say"\/k="give")/\rest=[a]/\gP a)->TZ K (ì í Q) [î x,Å l] B:=λB L G P R=>by
  have p:=L _ _ j;refine Ċ 0 p À (ñ À _ À (gz (λc=>?_) (λc=>i4 (k2 B L G P R λo=>c (by obtain⟨y,e,_⟩:=o;rw[e])))));have ew:k="jump":=by injection c
  refine⟨_,À,_,_,À,lY p,ñ À _ À (gz (λg=>?_) (λg=>i4 (k2 B L G P R λo=>g (by obtain⟨y,_,e,_⟩:=o;rw[e];rfl))))⟩;obtain⟨y,rfl⟩:∃y,rest=[y]:=by
   have g:V.int ((Ô (k::rest):Nat):Int)=V.int 2:=g;injection g with g;have:rest.length=1:=by rw[iN] at g;lia
   exact Kx this
  refine Ċ 1 p À ⟨y,À,Y y Ò,λb Z U C=>Ú (mD (λO=>?_) (λO=>k2 Z (L.trans C) G P R λo=>?_))⟩;rotate_left
  .obtain⟨y',_,e,n⟩:=o;injection e with e _;subst e;rw[U.mpr n] at O;cases O
  have I:=C _ _ p;have X:=U.mp O;refine Ċ 1 I À ⟨y,_,À,xo X,(by have:=X.l20;lia),ka,λt ht=>?_⟩;exact f ((L.trans C).new ht) (r:=.jump (nj y)) ⟨y,by rw[ew],X,À⟩ (Ą t fG)
 have k4:∀B,gJ M B->(¬∃t,rest=(("=":Str)::t))->(¬∃y d,k="part"/\rest=y::d/\gP y/\∀z∈d,gP z)->T1 K (ì í Q) [î x,Å l] B:=λB L G P=>by
  have p:=L _ _ j;refine Ċ 0 p À ⟨ka,λt nt=>kjr fG (Ú ?_)⟩;have C:gJ M (Ā B t [Ä "say",Ä "give"]):=L.new nt;generalize upd B t (.tup [.str "say",.str "give"])=Z at C ⊢;have I:=C _ _ j;refine gz (λc=>?_) (λc=>i4 (k3 Z C G P λo=>c (by obtain⟨a,e,_⟩:=o;rcases e with e|e<;>rw[e]<;>decide +kernel)));refine⟨_,À,_,_,À,lY I,ñ À _ À (gz (λg=>?_) (λg=>i4 (k3 Z C G P λo=>g (by obtain⟨a,_,e,_⟩:=o;rw[e];rfl))))⟩;obtain⟨a,rfl⟩:∃y,rest=[y]:=by
   have g:V.int ((Ô (k::rest):Nat):Int)=V.int 2:=g;injection g with g;have:rest.length=1:=by rw[iN] at g;lia
   exact Kx this
  refine Ċ 1 I À ⟨a,À,Y a Ò,λb T U S=>Ú (mD (λO=>?_) (λO=>k3 T (C.trans S) G P λo=>?_))⟩;rotate_left
  .obtain⟨a',_,e,n⟩:=o;injection e with e _;subst e;rw[U.mpr n] at O;cases O
  have J:=S _ _ I;refine Ċ 0 J À (Ċ 1 J À ⟨ka,λu nu=>?_⟩);simp only[g7,mz,or_false] at c;rcases c with rfl|rfl
  .exact f ((C.trans S).new nu) (r:=.say a) ⟨À,U.mp O⟩ (Ą u fG)
  .exact f ((C.trans S).new nu) (r:=.give a) ⟨À,U.mp O⟩ (Ą u fG)
 have k5:(¬∃t,rest=(("=":Str)::t))->T4 K (ì í Q) [î x,Å l] M:=λG=>by
  refine Ċ 0 j À (ñ À _ À (gz (λc=>?_) (λc=>i4 (k4 M (Ø M) G λo=>c (by obtain⟨y,d,e,_⟩:=o;rw[e])))));have ew:k="part":=by injection c
  refine⟨_,À,_,_,À,lY j,_,_,À,À,_,À,gz (λg=>?_) (λg=>i4 (k4 M (Ø M) G λo=>g (by obtain⟨y,d,_,e,_⟩:=o;rw[e];simp only[iN];lia)))⟩;obtain⟨y,d,rfl⟩:∃y d,rest=y::d:=by
   cases rest with
   |nil=>exact Ì g Ò
   |cons y d=>exact Î y d À
  refine Õ _ À 1 (È ⟨l,_,À,Ù j,λD nD=>?_⟩);rw[show(1:Int)=((1:Nat):Int) from À,v5];have C:gJ M (Ý M D (((k::y::d).drop 1).map Ê)):=(Ø M).new nD;have hD:Ĉ M D (((k::y::d).drop 1).map Ê) D=Ð ((y::d).map Ê):=fG;generalize upd M D (.lst (((k::y::d).drop 1).map V.str))=Z at C hD ⊢;refine⟨D,y::d,À,hD,by simp only[iN] at aa ⊢;lia,λz hz=>Y z (my _ hz),λb T U S=>Ú (mD (λO=>?_) (λO=>k4 T (C.trans S) G λo=>?_))⟩;rotate_left
  .obtain⟨y',aj,_,e,n,np⟩:=o;injection e with e1 e2;subst e1;subst e2;rw[U.mpr λz hz=>(g7.mp hz).elim (λe=>by rw[e];exact n) (np z)] at O;cases O
  have nm:=U.mp O;have ag:=C.trans S;have J:=ag _ _ j;refine Ċ 1 J À (Õ _ À 2 (È ⟨l,_,À,Ù J,λD2 ah=>?_⟩));rw[show(2:Int)=((2:Nat):Int) from À,v5];have s4:gJ T (Ý T D2 (((k::y::d).drop 2).map Ê)):=(Ø T).new ah;have ab:Ĉ T D2 (((k::y::d).drop 2).map Ê) D2=Ð (d.map Ê):=fG;generalize upd T D2 (.lst (((k::y::d).drop 2).map V.str))=H4 at s4 ab ⊢;refine⟨D2,_,À,È ⟨Ù ab,λt nt=>Æ kM (λu nu=>?_)⟩⟩;exact f (((ag.trans s4).new nt).new nu) (r:=.part y d) ⟨by rw[ew],nm y Ò,λz hz=>nm z (by simp[hz])⟩ ⟨u,t,À,fG,(Ø _).new nu _ _ fG⟩
 refine⟨_,À,_,_,À,lY j,_,_,À,À,_,À,gz (λc=>?_) (λc=>i4 (k5 λo=>c (by obtain⟨t,e⟩:=o;rw[e];simp only[iN];lia)))⟩;obtain⟨y,d,rfl⟩:∃y d,rest=y::d:=by
  cases rest with
  |nil=>exact Ì c Ò
  |cons y d=>exact Î y d À
 refine Ċ 1 j À (ñ À _ À (gz (λg=>?_) (λg=>k5 λ⟨t,e⟩=>?_)))
 .have ey:y="=":=by injection g
  subst ey;exact⟨_,À,l,_,À,j,by simp only[iN];lia,À,aa,Y,λv H' la s=>q v H' la (s0.trans s)⟩
 .injection e with e _;exact g (by rw[e])
def Cb:xC r="part"↔kn r=true:=by
 cases r<;>first|exact⟨λ_=>À,λ_=>À⟩|exact⟨λz=>Ì z (by simp only[xC];decide +kernel),λz=>by cases z⟩
def Ml(T:yX K)(r:k[i]?=Á (Á (Ë (n:Nat))))(s:Ö c)
  (q:∀(a:d_) (H':b_),Ö H'->H' a=Á (kv a (vv (n:Nat)))->E (Â (iI K "NoLine")) (Á a) H'):xr K E (xq (iI K "NoLine") (uU K) (ý i)) D k c:=by
 refine Î _ r (λx t=>⟨x,_,À,fG,λa H' v j m g l=>⟨À,x,_,_,À,T.clL,m,(λz=>j (ď z)),λu h w=>?_⟩⟩);refine q a _ (λp o e=>?_) ?_
 .have d:=s p o e;have b:p≠x:=f6 d t;have f:H' p=Á o:=l p o b (by rw[fM b];exact d);rw[fM b,fM (f6 f h)];exact f
 .rw[fM j,fM (f6 g h)];exact g
def Wl{K:a_}(T:yX K){vs:List V}{H:b_}{Q:fS}{E:f_}(h:Hu K vs H Q E):S0 K E (ì í Q) (gW Te vs) H:=by
 obtain⟨l,k,rfl,⟨B,I,G⟩,X,Y⟩:=h;refine⟨_,À,l,À,Æ _ (Ù I),Cv (xs:=B) (λi b H'=>∃d g,b=[Å l,d,g]/\Ö H'/\∀j,j<i->¬m9 k j) ⟨_,_,À,Ø H,λj z=>Ì z (mH _)⟩ ?_ ?_ ?_⟩
 .rintro i b H' _ ⟨_,_,_,s,_⟩;exact Ù (s _ _ I)
 .rintro i v b C a P R ⟨d,g,rfl,Z,u⟩;obtain⟨L,o,x⟩:=G.of_v P;refine⟨a,_,À,fR.of fG,À,_,_,À,_,_,À,À,?_⟩;have w:Ö (Ā C a [Ë (i:Nat),v]):=Z.new R;show SI K E _ [Å l,gm i,Á v] _;generalize upd C a (.tup [.int (i:Nat),v])=D at w ⊢;have t:m9 k i->xr K E (xq (iI K "NoLine") (uU K) (ý 1)) {nx:=λb H'=>∃d g,b=[Å l,d,g]/\Ö H'/\∀j,j<i+1->¬m9 k j,rt:=Q,bk:=λ_ H'=>í,ct:=λb H'=>∃d g,b=[Å l,d,g]/\Ö H'/\∀j,j<i+1->¬m9 k j} [Å l,gm i,Á v] D:=λf=>
   Ml T (i:=1) (n:=i) À w (Y i (Æ f u))
  have J:¬m9 k i->∃d g,[Á (V.ref l),gm i,Á v]=[Å l,d,g]/\Ö D/\∀j,j<i+1->¬m9 k j:=λU=>⟨_,_,À,w,λj y=>by
   rcases ua.mp y with z|z
   .exact u j z
   .rw[z];exact U⟩
  refine⟨_,À,À,_,À,gz (λc=>lC (t ?_)) (λc=>?_)⟩
  .cases L with
   |none=>exact È o
   |some r=>obtain⟨p,_,e,_⟩:=oj.ref x;rw[e] at c;cases c
  cases L with
  |none=>exact Ì x c
  |some r=>
   obtain⟨p,xs,rfl,O⟩:=oj.ref x;refine Ú (ñ À _ À (gz (λm=>?_) (λm=>i4 (J ?_))))
   .have q:i=0:=by
     have m:V.int ((i:Nat):Int)=V.int 0:=m;injection m with m;lia
    refine á (w _ _ O) (ñ À _ À (nN (λS=>t ?_) (λM=>J ?_)))
    .refine Í ⟨q,r,by rw[<-q];exact o,?_⟩;cases hY:kn r with
     |false=>rfl
     |true=>exact Ì (by rw[Cb.mpr hY]) S
    .rintro(z|⟨_,r',e,z⟩)
     .rw[o] at z;cases z
     .rw[<-q,o] at e;cases e;have:xC r="part":=by injection M
      rw[Cb.mp this] at z;cases z
   .rintro(z|⟨q,_⟩)
    .rw[o] at z;cases z
    .exact m (by rw[q];rfl)
 .rintro b H' ⟨_,_,_,s,u⟩;refine X (λn f=>?_) H' s;have y:n<k.length:=by
   rcases f with z|⟨rfl,r,e,_⟩
   .exact(gR.mp z).1
   .exact(gR.mp e).1
  exact u n (by rw[G.len];exact y) f
theorem Nj:∀{xs:List Str} {i:Nat} {y:Str},xs[i]?=Á y->y∉xs.take i->rr xs y=i
 |[],i,y,h,_=>by simp at h
 |x::xs,0,y,h,_=>by
  have:x=y:=by simpa using h
  unfold rr;rw[if_pos this]
 |x::xs,i+1,y,h,a=>by
  have h:xs[i]?=Á y:=by simpa using h
  rw[List.take_succ_cons] at a;have b:x≠y:=λz=>a (by rw[z];exact pH);unfold rr;rw[ù b,Nj h λz=>a (my _ z)]
def kb5(a:É ik)(i:Nat)(h:a[i]?=Á r):iZ (a.take (i+1))=iZ (a.take i)++(sd r).toList:=by
 unfold iZ;rw[mq,h,wD];cases e:sd r<;>simp[e]
def N7(a:É ik):Ô (iZ a)<=a.length:=Hn _ _
def xG.mono(h:xG H d nm)(s:Ö H'):xG H' d nm:=by
 obtain⟨a,e,q⟩:=h;exact Î a (s _ _ e) q
def v3.mono(h:v3 H l a)(s:Ö H'):v3 H' l a:=by
 obtain⟨b,e,q⟩:=h;exact⟨b,s _ _ e,q.imp λ_ _ z=>z.mono (.of_same s)⟩
def E3{H:b_}{a:List V}{c:List ik}(h:ia (vw H) a (c.map some)){i:Nat}{v:V}(e:a[i]?=Á v):∃r,c[i]?=Á r/\oj H v r:=by
 obtain⟨g,b,f⟩:=h.of_v e;rw[i3] at b;obtain⟨r,d,rfl⟩:=pj.mp b;exact Î r d f
def kiq{K:a_}{vs:List V}{H:b_}{Q:fS}{E:f_}(h:Hk K vs H Q E):SG K (ì í Q) (gW Hi vs) H:=by
 obtain⟨l,u,rfl,⟨M,hl,hA⟩,few,q⟩:=h;have al:M.length=u.length:=by rw[hA.len,fP]
 refine È ⟨_,À,l,À,Æ _ (Ù hl),λD nD=>?_⟩;refine sO (xs:=M) (λi f H'=>∃(o:Option V),f=[Å l,Ç,Ç,Ç,Ç,o]/\H' D=Ð ((iZ (u.take i)).map Ê)/\Ö H') ?_ ?_ ?_ ?_
 .exact⟨Ç,À,fG,(Ø H).new nD⟩
 .rintro i f H' _ ⟨o,rfl,_,s⟩;exact Ù (s _ _ hl)
 .rintro i v f H' U ⟨o,rfl,w,s⟩;obtain⟨r,hr,la⟩:=E3 hA U;have L:=oj.mono la (.of_same s);obtain⟨p,xs,rfl,hp⟩:=oj.ref L;have nt:=kb5 u i hr;refine á hp (ñ À _ À (gz (λc=>?_) (λc=>?_)))
  .have c:xC r="part":=by injection c
   have ip:=Cb.mp c;cases r with
   |part x ps=>
    obtain⟨p',q',e,T,_⟩:=L;cases e;refine á T ⟨_,w,gY ?_,_,À,?_,kR s nD⟩
    .rw[fP];have:=N7 (u.take i);have:Ô (u.take i)<=u.length:=by rw[kz];lia
     lia
    .rw[fG,nt,g8];rfl
   |_=>cases ip
  .refine⟨_,À,?_,s⟩;have np:sd r=none:=by
    cases r with
    |part x ps=>exact Ì À c
    |_=>rfl
   rw[w,nt,np];show _=Á (lj.lst ((iZ (u.take i)++[]).map Ê));rw[oe]
 .rintro f I ⟨o,_,w,s1⟩;rw[al,m5 ï] at w;have nf:=N7 u;generalize iZ u=g at w nf q;show SF K _ [Å l,Å D,Ç,Ç,Ç] I;refine λd Z=>?_;show SE K _ [Å l,Å D,Å d,Ç,Ç] _;have s2:Ö (upd I d (.dK [])):=s1.new Z;have J:upd I d (.dK []) d=Á (.dK []):=fG;have B:upd I d (.dK []) D=Ð (g.map Ê):=by rw[fM (f6 w Z)];exact w
  generalize upd I d (.dK [])=H2 at s2 J B ⊢;have dH:H d=none:=s1.free Z;refine⟨_,À,D,À,Æ _ (Ù B),Cv (xs:=g.map Ê) (λi f H'=>∃(o3 o4:Option V) (b:List (iQ×V)),f=[Å l,Å D,Å d,o3,o4]/\H' d=Á (.dK b)/\b.length<=i/\(∀y,lD b (Sum.inr y)=if y∈g.take i then Á (V.int ((rr g y:Nat):Int)) else none)/\H' D=Ð (g.map Ê)/\Ö H')
   ⟨_,_,[],À,J,lu _,λy=>by simp[Pl],B,s2⟩ ?_ ?_ ?_⟩
  .rintro i f H' _ ⟨_,_,_,_,_,_,_,h3,_⟩;exact Ù h3
  .rintro i v f G a U na ⟨o3,o4,b,rfl,S,kl,C,R,P⟩;obtain⟨y,X,rfl⟩:=vd U;have hi:i<g.length:=(gR.mp X).1;refine⟨a,_,À,fR.of fG,À,_,_,À,_,_,À,À,?_⟩;have O:gJ G (Ā G a [Ë (i:Nat),Ä y]):=(Ø G).new na;show SD K _ [Å l,Å D,Å d,gm i,î y] _;generalize upd G a (.tup [.int (i:Nat),.str y])=H4 at O ⊢;have t:=O _ _ S;have n:=O _ _ R;have tk:g.take (i+1)=g.take i++[y]:=by rw[mq,X];rfl
   refine⟨_,À,_,À,d,_,À,rO.k (k:=Sum.inr y) t,_,À,?_⟩;rw[C y];by_cases c:y∈g.take i
   .rw[if_pos c];refine i4 ⟨_,_,b,À,t,Ã,λz=>?_,n,P.trans O⟩;rw[C z,tk];by_cases j:z∈g.take i
    .rw[if_pos j,if_pos (mP _ j)]
    .rw[ù j,if_neg λh=>by
      rcases iT.mp h with h|h
      .exact j h
      .rw[g_.mp h] at j;exact j c]
   .rw[ù c];refine lC ⟨_,À,_,À,_,À,d,_,À,wq.k (k:=Sum.inr y) t (gY Ã),?_⟩;have Y:D≠d:=λz=>by rw[z,t] at n;cases n
    have lk:Ô (mM b (Sum.inr y) (V.int (i:Nat)))<=i+1:=by
     rw[FV _ (by rw[C y,ù c]),ie];show b.length+1<=i+1;lia
    refine⟨_,_,_,À,fG,lk,λz=>?_,by rw[fM Y];exact n,kR (P.trans O) dH⟩;rw[kfZ,tk];by_cases j:z=y
    .subst j;rw[if_pos À,if_pos (mO _ (g_.mpr À)),Nj X c]
    .rw[if_neg λh=>j (Sum.inr.inj h),C z];by_cases m:z∈g.take i
     .rw[if_pos m,if_pos (mP _ m)]
     .rw[ù m,if_neg λh=>by
       rcases iT.mp h with h|h
       .exact m h
       .exact j (g_.mp h)]
  .rintro f G ⟨o3,o4,b,rfl,S,_,C,_,P⟩;rw[fP,m5 ï] at C;exact Ú (q d G (Î b S C) P)
def Nf:xC r="call"↔∃x f a,r=.call x f a:=by
 cases r<;>first|exact⟨λ_=>⟨_,_,_,À⟩,λ_=>À⟩|exact⟨λz=>Ì z (by simp only[xC];decide +kernel),λ⟨_,_,_,z⟩=>by cases z⟩
def Wk{K:a_}(T:yX K){vs:List V}{H:b_}{Q:fS}{E:f_}(h:Ht K vs H Q E):SZ K E (ì í Q) (gW Td vs) H:=by
 obtain⟨l,d,o,rfl,⟨q,M,L⟩,X,q1,q2⟩:=h;have S:q.length=o.length:=by rw[L.len,fP]
 refine⟨_,À,l,À,Æ _ (Ù M),Cv (xs:=q) (λi b H'=>∃y B,b=[Å l,Å d,y,B]/\Ö H'/\∀j,j<i->¬oC o j) ⟨_,_,À,Ø H,λj z=>Ì z (mH _)⟩ ?_ ?_ ?_⟩
 .rintro i b H' _ ⟨_,_,_,s,_⟩;exact Ù (s _ _ M)
 .rintro i v b I a hv na ⟨y,B,rfl,s1,u⟩;obtain⟨r,D,la⟩:=E3 L hv;refine⟨a,_,À,fR.of fG,À,_,_,À,_,_,À,À,?_⟩;have t:Ö (Ā I a [Ë (i:Nat),v]):=s1.new na;show SH K E _ [Å l,Å d,gm i,Á v] _;generalize upd I a (.tup [.int (i:Nat),v])=R at t ⊢;have O:¬oC o i->∃y B,[Á (V.ref l),Å d,gm i,Á v]=[Å l,Å d,y,B]/\Ö R/\∀j,j<i+1->¬oC o j:=λG=>⟨_,_,À,t,λj lt=>by
   rcases ua.mp lt with z|z
   .exact u j z
   .rw[z];exact G⟩
  have m:=oj.mono la (.of_same t);obtain⟨p,xs,rfl,Z⟩:=oj.ref m;refine á Z (ñ À _ À (gz (λc=>?_) (λc=>i4 (O ?_))))
  .obtain⟨x,f,U,rfl⟩:=Nf.mp (by injection c);obtain⟨p',q',e,C,_⟩:=m;cases e;obtain⟨aa,Y,kq⟩:=X.mono t;refine á C ⟨_,À,d,_,À,rO.k (k:=Sum.inr f) Y,_,À,?_⟩;rw[kq f];by_cases w:f∈iZ o
   .rw[if_pos w];refine i4 (O ?_);rintro⟨P,J,g,e,G⟩;rw[D] at e;cases e;exact G w
   .rw[ù w];exact lC (Ml T (i:=2) (n:=i) À t (q2 i (Æ ⟨x,f,U,D,w⟩ u)))
  .rintro⟨P,J,g,e,_⟩;rw[D] at e;cases e;exact c À
 .rintro b H' ⟨_,_,_,s,u⟩;refine q1 (λn f=>?_) H' s;obtain⟨P,J,g,e,_⟩:=id f;exact u n (by rw[S];exact(gR.mp e).1) f
def Yk{K:a_}{vs:List V}{H:b_}{Q:fS}{E:f_}(h:Iw K vs H Q E):K_ K (ì í Q) (gW KI vs) H:=by
 obtain⟨v,d,r,B,rfl,b,z,l,m,q⟩:=h;obtain⟨p,G,rfl,o⟩:=oj.ref b;refine á o (ñ À _ À (gz (λc=>?_) (λc=>?_)))
 .obtain⟨x,f,g,rfl⟩:=Nf.mp (by injection c);obtain⟨C,t,e,a,s⟩:=b;cases e;obtain⟨y,n,w⟩:=l;have i:=w f;rw[if_pos (m x f g À)] at i;refine á a (Õ _ À _ (û a ⟨d,_,À,(by rw[<-i];exact rO.k (k:=Sum.inr f) n),_,À,û a ⟨va,λu j=>?_⟩⟩));exact q _ _ ⟨u,t,À,fG,(Ø H).new j _ _ s⟩ ((Ø H).new j)
 .refine Ú (q _ H ?_ (Ø H));cases r with
  |part x D=>cases z
  |call x f g=>exact Ì À c
  |_=>exact b
structure wb where
 p:d_
 q:d_
 a:d_
 rvs:É V
 b:gD
structure vp(mk:É V->lj)(H:b_)(e:wb):Prop where
 tp:H e.p=Á (mk [Ä e.b.name,Â e.q,Â e.a])
 tq:H e.q=ä (e.b.params.map Ê)
 la:H e.a=Ð e.rvs
 rw_:ia (mK H) e.rvs e.b.rows
structure rR(mk:É V->lj)(H0 H:b_)(P:d_)(es:É wb):Prop where
 lp:H P=Ð (es.map λe=>V.ref e.p)
 nd:(es.map (·.a)).Nodup
 np:P∉es.map (·.a)
 ok:∀e∈es,vp mk H e/\H0 e.a=none
def vp.mono(h:vp b H e)(t:gZ H H')(p:H' e.p=H e.p)(l:H' e.a=H e.a):vp b H' e:=⟨p.trans h.tp,t _ _ h.tq,l.trans h.la,h.rw_.imp λ_ _ z=>z.mono t⟩
def rR.same(h:rR c b H P es)(s:Ö H'):rR c b H' P es:=
 ⟨s _ _ h.lp,h.nd,h.np,λe a=>Æ ((h.ok e a).1.mono (.of_same s) ((s _ _ (h.ok e a).1.tp).trans (h.ok e a).1.tp.symm) ((s _ _ (h.ok e a).1.la).trans (h.ok e a).1.la.symm)) (h.ok e a).2⟩
def vp.neA(d:∀xs ys,c xs=lj.lst ys->xs=ys)(h:vp c H e)(g:vp c H f):e.p≠f.a:=λz=>by
 have x:=h.tp;rw[z,g.la] at x;have y:=d _ _ (ď x).symm;obtain⟨r,_,j⟩:=g.rw_.of_v (i:=0) (v:=Ä e.b.name) (by rw[<-y];rfl);obtain⟨_,_,w,_⟩:=j.ref;cases w
def vp.neP{a:List V->lj}{H:b_}{P:d_}{es:List wb}{e:wb}(b:∀xs ys,a xs=lj.lst ys->xs=ys)(h:vp a H e)(c:H P=Ð (es.map λe=>V.ref e.p)):e.p≠P:=λz=>by
 have x:=h.tp;rw[z,c] at x;have y:=b _ _ (ď x).symm;cases es with
 |_=>cases y
def rR.part(n:∀xs ys,h xs=lj.lst ys->xs=ys)(g:rR h l H P es)(m:Ö d)(o:H a=none)(s:l a=none)(E:d u=Á (h [Ä x,Â t,Â a]))(D:d t=ä (ps.map Ê))(w:d a=Ð []) :
  rR h l (Ý d P (es.map (λe=>V.ref e.p)++[Â u])) P (es++[⟨u,t,a,[],Î x ps []⟩]):=by
 have k:=g.same m;have f:=k.lp;have i:P≠a:=λz=>by have:=g.lp;rw[z,o] at this;cases this
 have r:gZ d (Ý d P (es.map (λe=>V.ref e.p)++[Â u])):=(gZ.refl d).lst f;have j:vp h d ⟨u,t,a,[],Î x ps []⟩:=⟨E,D,w,ia.nil⟩;refine⟨?_,?_,?_,λe he=>?_⟩
 .rw[fG,g8];rfl
 .rw[g8];refine List.nodup_append.mpr ⟨g.nd,Ò,λb y c B=>?_⟩;have v:c=a:=by simpa using B
  subst v;obtain⟨e,he,rfl⟩:=kA.mp y;exact λz=>by have:=(g.ok e he).1.la;rw[z,o] at this;cases this
 .rw[g8,iT];rintro(z|z)
  .exact g.np z
  .exact i (by simpa using z)
 .rcases iT.mp he with he|he
  .obtain⟨q,C⟩:=k.ok e he;exact Æ (q.mono r (fM (q.neP n f)) (fM λz=>g.np (kA.mpr (Î e he z)))) C
  .have:e=⟨u,t,a,[],Î x ps []⟩:=by simpa using he
   subst this;exact Æ (j.mono r (fM (j.neP n f)) (fM (Ne.symm i))) s
def rR.row(n:∀xs ys,j xs=lj.lst ys->xs=ys)(d:rR j l H P (es++[e]))(t:mK H w r) :
  rR j l (Ý H e.a (e.rvs++[w])) P (es++[⟨e.p,e.q,e.a,e.rvs++[w],Î e.b.name e.b.params (e.b.rows++[r])⟩]):=by
 have m:e∈es++[e]:=mO _ Ò;obtain⟨c,s⟩:=d.ok e m;have k:P≠e.a:=λz=>d.np (kA.mpr (Î e m z.symm));have h:gZ H (Ý H e.a (e.rvs++[w])):=(gZ.refl H).lst c.la;refine⟨?_,?_,?_,λg he=>?_⟩
 .rw[fM k,d.lp,g8,g8];rfl
 .have:=d.nd;rw[g8] at this ⊢;exact this
 .have:=d.np;rw[g8] at this ⊢;exact this
 .rcases iT.mp he with he|he
  .obtain⟨f,i⟩:=d.ok g (mP _ he);have o:=d.nd;rw[g8] at o;exact Æ (f.mono h (fM (f.neA n c)) (fM ((List.nodup_append.mp o).2.2 g.a (kA.mpr (Î g he À)) e.a Ò))) i
  .have:g=⟨e.p,e.q,e.a,e.rvs++[w],Î e.b.name e.b.params (e.b.rows++[r])⟩:=by simpa using he
   subst this;exact Æ ⟨(fM (c.neA n c)).trans c.tp,h _ _ c.tq,fG,(c.rw_.imp λ_ _ z=>z.mono h).snoc (t.mono h)⟩ s
def rR.last{es:List wb}{e:wb}:((es++[e]).map λe=>V.ref e.p)[Ô ((es++[e]).map λe=>V.ref e.p)-1]?=Á (Â e.p):=by
 rw[g8,ie];show((es.map λe=>V.ref e.p)++[V.ref e.p])[Ô (es.map λe=>V.ref e.p)+1-1]?=_;rw[Bw,tr ï,yc];rfl
def kbc(c:É gD)(w:iW)(h:c≠[]):Ô (yA c w)=c.length:=by
 obtain⟨a,b,rfl⟩:∃a b,c=a++[b]:=Î c.dropLast (c.getLast h) (xU h).symm;rw[wR,ie,ie];rfl
def kjg(h:a≠[]):lM nm a r≠[]:=by
 cases c:kn r with
 |true=>
  cases r with
  |part x b=>show a++_≠[];simp
  |_=>cases c
 |false=>
  rw[xc c];intro z;have:=kbc a (nS nm r) h;rw[z] at this;exact h (sH.mp this.symm)
def Rx{nm:List Str}{b:ik}{a:List ik}(f:a[0]?=Á b)(g:kn b=true):∀i,0<i->(a.take i).foldl (lM nm) []≠[]:=by
 intro i
 induction i with
 |zero=>intro z;cases z
 |succ i d=>
  intro _;by_cases c:0<i
  .cases e:a[i]? with
   |none=>rw[mq,e];simpa using d c
   |some r=>rw[mq,e,xZ];exact kjg (d c)
  .have:i=0:=Ã
   subst this;rw[mq,f];cases b with
   |part x h=>show[]++_≠[];simp
   |_=>cases g
def Ge(h:hH K H p xs)(e:xs[xs.length-1]?=Á v)(q:Q v H):sG K (Â p) (Ë (-1)) H Q:=by
 have a:xs.length-1<xs.length:=(gR.mp e).1;refine È ⟨p,xs,-1,v,À,À,h,?_,q⟩;unfold uN uO;rw[ù Ï,if_pos Ã];show xs[((-1:Int)+(xs.length:Int)).toNat]?=Á v;rw[show((-1:Int)+(xs.length:Int)).toNat=xs.length-1 by lia];exact e
def U4{a:List ik}{i:Nat}{r:ik}{es:List wb}(j:∀n,¬m9 (a.map some) n)(e:a[i]?=Á r)(np:kn r=false)(g:es.map (·.b)=(a.take i).foldl (lM (iZ a)) []):es≠[]:=by
 have k:i<a.length:=(gR.mp e).1;obtain⟨c,d⟩:∃c,a[0]?=some c:=Æ a[0] (gF Ã);have f:kn c=true:=by
  cases z:kn c with
  |true=>rfl
  |false=>exact Ì (Í ⟨À,c,by rw[i3,d];rfl,z⟩) (j 0)
 have h:0<i:=by
  apply DS;intro z;rw[z,d] at e;cases e;rw[f] at np;cases np
 intro z;have:=Rx (nm:=iZ a) d f i h;rw[<-g,z] at this;exact this À
def Sq(xs ys:É V)(h:lj.tup xs=lj.lst ys):xs=ys:=by cases h
def WQ{K:a_}{vs:List V}{H:b_}{Q:fS}{E:f_}(h:HR K vs H Q E):Uk K (ì í Q) (gW HW vs) H:=by
 obtain⟨l,d,y,rfl,⟨af,hl,hA⟩,few,hN,nf,nc,q⟩:=h;have al:af.length=y.length:=by rw[hA.len,fP]
 refine Æ mU (λP nP=>?_);show SY K _ [Å l,Å d,Å P,Ç] _;have s1:Ö (Ý H P []):=(Ø H).new nP;have Z:Ĉ H P [] P=Ð []:=fG;generalize upd H P (.lst [])=H1 at s1 Z ⊢;refine È ⟨_,À,l,À,Æ _ (Ù (s1 _ _ hl)),wZ (xs:=af) (λi j H'=>∃(o3:Option V) (k:List wb),j=[kO l,kO d,kO P,o3]/\rR .tup H H' P k/\k.map (·.b)=(y.take i).foldl (lM (iZ y)) []/\k.length<=i/\(∀e∈k,e.rvs.length<=i)/\gJ H H')
  ⟨_,[],À,⟨Z,Kb,(Ò),λe he=>by cases he⟩,À,lu _,(λe he=>by cases he),s1⟩ ?_ ?_ ?_⟩
 .rintro i j H' _ ⟨_,_,_,_,_,_,_,s⟩;exact Ù (s _ _ hl)
 .rintro i v j C hv ⟨o3,k,rfl,I,M,el,U,S⟩;obtain⟨r,hr,la⟩:=E3 hA hv;have hi:i<y.length:=(gR.mp hr).1;have R:=oj.mono la (.of_same S);have tk:(y.take (i+1)).foldl (lM (iZ y)) []=lM (iZ y) (k.map (·.b)) r:=by
   rw[mq,hr,xZ,<-M];rfl
  show SX K _ [Å l,Å d,Å P,Á v] C;obtain⟨p0,ak,rfl,ah⟩:=oj.ref R;refine á ah (ñ À _ À (gz (λc=>?_) (λc=>?_)))
  .have ip:=Cb.mp (by injection c);cases r with
   |part x ps=>
    obtain⟨p',t,e,ab,ht⟩:=R;cases e;refine⟨_,À,È ⟨À,_,Ù I.lp⟩,_,À,û ab (á ab ⟨mU,λa na=>Æ kM (λu nu=>?_)⟩)⟩;have B:gJ C (Ý C a []):=(Ø C).new na;have aa:Ĉ C a [] a=Ð []:=fG;generalize upd C a (.lst [])=m at B aa nu ⊢;have L:gJ m (Ā m u [Ä x,Â t,Â a]):=(Ø m).new nu;have n:upd m u (.tup [Ä x,Â t,Â a]) u=ä [Ä x,Â t,Â a]:=fG;generalize upd m u (.tup [.str x,.ref t,.ref a])=T at L n ⊢;have J:=B.trans L;have ag:=J _ _ I.lp;refine⟨P,_,_,À,À,ag,gY (by rw[fP];lia),?_⟩;refine⟨_,k++[⟨u,t,a,[],Î x ps []⟩],À,I.part Sq J na (S.free na) n (J _ _ ht) (L _ _ aa),?_,by rw[ie];show k.length+1<=i+1;lia,λe he=>?_,kR (S.trans J) nP⟩
    .rw[tk,g8];rfl
    .rcases iT.mp he with he|he
     .have:=U e he;lia
     .have:e=⟨u,t,a,[],Î x ps []⟩:=by simpa using he
      subst this;exact lu _
   |_=>cases ip
  .have np:kn r=false:=by
    cases z:kn r with
    |false=>rfl
    |true=>exact Ì (by rw[Cb.mpr z]) c
   have ne:k≠[]:=U4 nf hr np M;obtain⟨O,e,rfl⟩:∃a b,k=a++[b]:=Î k.dropLast (k.getLast ne) (xU ne).symm;have ee:e∈O++[e]:=mO _ Ò;obtain⟨G,hn⟩:=I.ok e ee;refine Õ _ À _ (Ge (Ù I.lp) rR.last (û G.tp ⟨È ⟨À,_,Ù G.la⟩,_,À,_,À,_,d,r,iZ y,À,R,np,hN.mono S,λx f as z=>?_,λw m rw B=>?_⟩))
   .apply Classical.byContradiction;intro cf;exact nc i ⟨x,f,as,by rw[hr,z],cf⟩
   have ai:=B _ _ G.la;have aj:=I.same B;refine⟨e.a,_,_,À,À,ai,gY (by have:=U e ee;lia),?_⟩;refine⟨_,O++[⟨e.p,e.q,e.a,e.rvs++[w],Î e.b.name e.b.params (e.b.rows++[nS (iZ y) r])⟩],À,aj.row Sq rw,?_,?_,λe' he=>?_,kR (S.trans B) hn⟩
   .rw[tk,xc np,g8,g8];show _=yA (O.map (·.b)++[e.b]) _;rw[wR];rfl
   .rw[ie] at el ⊢;exact Nat.le_succ_of_le el
   .rcases iT.mp he with he|he
    .have:=U e' (mP _ he);lia
    .have:e'=⟨e.p,e.q,e.a,e.rvs++[w],Î e.b.name e.b.params (e.b.rows++[nS (iZ y) r])⟩:=by simpa using he
     subst this;have:=U e ee;show Ô (e.rvs++[w])<=i+1;rw[ie];show e.rvs.length+1<=i+1;lia
 .rintro j C ⟨o3,k,rfl,I,M,el,U,S⟩;rw[al,m5 ï] at M;have M:k.map (·.b)=ki y:=M;rw[al] at el;show SW K _ [Å l,Å d,Å P,o3] C;refine È ⟨_,À,P,À,Æ _ (Ù I.lp),λD nD=>?_⟩;refine sO (xs:=k.map λe=>V.ref e.p) (λi j H'=>∃(o:Option V) (g:List V),j=[kO l,kO d,kO P,o3,o]/\H' D=some (.lst g)/\ia (tI H') g ((k.take i).map (·.b))/\gJ C H') ?_ ?_ ?_ ?_
  .exact⟨Ç,[],À,fG,ia.nil,(Ø C).new nD⟩
  .rintro i j H' _ ⟨o,g,rfl,_,_,s⟩;exact Ù (s _ _ I.lp)
  .rintro i v j m hv ⟨o,g,rfl,hD,Y,B⟩;rw[i3] at hv;obtain⟨e,he,rfl⟩:=pj.mp hv;have hi:i<k.length:=(gR.mp he).1;obtain⟨G,_⟩:=(I.same B).ok e (iS he);refine oO (á G.tp (á G.tp (á G.tp ⟨e.a,_,À,È ⟨Ù G.la,λt nt=>Æ kM (λu nu=>?_)⟩⟩)));have L:gJ m (Ā (Ā m t e.rvs) u [Ä e.b.name,Â e.q,Â t]):=((Ø m).new nt).new nu;have ae:upd (Ā m t e.rvs) u (.tup [Ä e.b.name,Â e.q,Â t]) t=ä e.rvs:=(Ø _).new nu _ _ fG;have n:upd (Ā m t e.rvs) u (.tup [Ä e.b.name,Â e.q,Â t]) u=ä [Ä e.b.name,Â e.q,Â t]:=fG;generalize upd (upd m t (.tup e.rvs)) u (.tup [.str e.b.name,.ref e.q,.ref t])=T at L ae n ⊢;have X:=L _ _ hD;have t5:gZ T (Ý T D (g++[Â u])):=(gZ.refl T).lst X;have T5:gZ m (Ý T D (g++[Â u])):=(gZ.of_same L).trans t5;have pl:g.length<=i:=by rw[Y.len,fP,kz];lia
   refine⟨_,X,gY Ã,_,g++[Â u],À,fG,?_,kR (B.trans L) nD⟩;rw[mq,he,g8];exact(Y.imp λ_ _ z=>z.mono T5).snoc ⟨u,e.q,t,e.rvs,À,t5 _ _ n,T5 _ _ G.tq,t5 _ _ ae,G.rw_.imp λ_ _ z=>z.mono T5⟩
  .rintro j m ⟨o,g,_,hD,Y,B⟩;rw[fP,m5 ï,M] at Y;refine⟨D,_,À,È ⟨Ù hD,λt nt=>?_⟩⟩;exact q t _ ⟨g,fG,Y.imp λ_ _ z=>z.mono (.of_same ((Ø m).new nt))⟩ ((S.trans B).new nt)
def RM{E:f_}{n:Int}{C:d_}{H:b_}(h:∀(a:d_) (H':b_),Ö H'->H' a=Á (kv a (vv n))->E (Â C) (Á a) H') :
  ∀(a:d_) (H':b_),Ö H'->H' a=Á (kv a (vv n))->(sZ λ_=>E) (Â C) (Á a) H':=λa H' s g x c d e f i b nx=>
 h a _ (s.new b) (by rw[fM (f6 g b)];exact g)
theorem MD:∀(L:List (Option ik)),(∀n:Nat,L[n]?≠Á Ç)->∃a:List ik,L=a.map some
 |[],_=>Æ [] À
 |none::r,h=>Ì À (h 0)
 |some x::r,h=>by
  obtain⟨a,e⟩:=MD r λn z=>h (n+1) (by simpa using z);exact⟨x::a,by rw[e];rfl⟩
def kfo{K:a_}{vs:List V}{H:b_}{Q:fS}{E:f_}(h:Ar K vs H Q E):O5 K E (ì í Q) (gW FF vs) H:=by
 obtain⟨x,rfl,hx,q1,q2⟩:=h;have J:Ô (Txt.split x "\n")<=99000:=by have:=Fu x "\n";lia
 refine È ⟨_,À,À,x,"\n",À,À,â,(by have:=gY (n:=x.length+3) Ã;lia),λl nl=>?_⟩;have s0:Ö (Ý H l ((Txt.split x "\n").map Ê)):=(Ø H).new nl;have q:Ĉ H l ((Txt.split x "\n").map Ê) l=Ð ((Txt.split x "\n").map Ê):=fG;generalize upd H l (.lst ((Txt.split x "\n").map V.str))=T at s0 q ⊢;refine⟨l,À,Æ _ (Ù q),λD nD=>?_⟩;refine sO (xs:=(Txt.split x "\n").map Ê) (λi c H'=>∃(o:Option V) (a:List V),c=[î x,Ç,Ç,Ç,o]/\H' D=Ð a/\ia (vw H') a (((Txt.split x "\n").take i).map λy=>lineOf? (ą y))/\gJ T H') ?_ ?_ ?_ ?_
 .exact⟨Ç,[],À,fG,ia.nil,(Ø T).new nD⟩
 .rintro i c H' _ ⟨o,a,rfl,_,_,s⟩;exact Ù (s _ _ q)
 .rintro i v c I hv ⟨o,a,rfl,G,m,P⟩;obtain⟨y,L,rfl⟩:=vd hv;have hi:i<Ô (Txt.split x "\n"):=(gR.mp L).1;have M:y.length<=90000:=by have:=Kl (iS L);lia
  refine oO ⟨_,À,y,À,M,λv r la u=>?_⟩;have C:=u _ _ G;have t3:gZ r (Ý r D (a++[v])):=(gZ.refl r).lst C;have ll:a.length<=i:=by rw[m.len,fP,kz];lia
  refine⟨_,C,gY Ã,_,a++[v],À,fG,?_,kR (P.trans u) nD⟩;rw[mq,L,g8];exact(m.imp λ_ _ z=>z.mono ((gZ.of_same u).trans t3)).snoc (la.mono t3)
 .rintro c I ⟨o,a,_,G,m,P⟩;rw[fP,m5 ï] at m;have m:ia (vw I) a (parse x):=m;have U:=s0.trans P;have j:Ô (parse x)<=99000:=by show Ô (Az _ _)<=99000;rw[fP];exact J
  show MK K E _ [î x,Å D,Ç,Ç] I;refine⟨_,À,D,parse x,À,Î a G m,λO r u=>?_,λn f=>RM λB H' s g=>q1 n f B H' (U.trans s) g⟩;obtain⟨t,b⟩:=MD (parse x) λn z=>O n (È z);obtain⟨q3,q4⟩:=q2 t b O;have S2:=U.trans u;have L2:v3 r D (t.map some):=by rw[<-b];exact v3.mono (Î a G m) u
  have e:t.length<=99000:=by rw[b,fP] at j;exact j
  show MI K E _ [î x,Å D,Ç,Ç] r;refine⟨_,À,D,t,À,L2,e,λd H3 Z R=>?_⟩;have X:=S2.trans R;show MH K E _ [î x,Å D,Å d,Ç] H3;refine⟨_,À,_,À,D,d,t,À,L2.mono R,Z,λnc H4 S=>?_,λn f=>RM λB H' s g=>q3 n f B H' (X.trans s) g⟩;obtain⟨wd,q5,q6⟩:=q4 nc;have S4:=X.trans S;show MG K E _ [î x,Å D,Å d,Ç] H4;refine⟨_,À,_,À,D,d,t,À,(L2.mono R).mono S,e,Z.mono S,by rw[<-b];exact O,nc,λp H5 hp s5=>?_⟩;have Y:=S4.trans s5;show MF K E _ [î x,Å D,Å d,Å p] H5;refine⟨_,À,p,_,À,hp,wd,λcl H6 s6=>Ú (q5 cl p H6 (hp.mono (.of_same s6)) (Y.trans s6)),λk n w f=>R8 λB H' s g=>q6 k n w f B H' (Y.trans s) g⟩
def U9(c:H l=Ð (ws.map Ê))(a:∀w∈ws,w.length<=b)(d:sep.length=1)(f:ws.length*(b+1)<=1000000)(q:Q (Ä (Txt.join sep ws)) H):m_ K (Ä sep) [Â l] H Q:=by
 refine⟨sep,l,ws,À,À,Ù c,?_,q⟩;have e:(ws.map (·.length)).sum<=ws.length*b:=StrLaws.sumLen_le ws a;have:ws.length*(b+1)=ws.length*b+ws.length:=Nat.mul_succ ..;rw[d];lia
def Dl{sep:Str}{ws:List Str}{b:Nat}(a:∀w∈ws,w.length<=b)(c:sep.length=1)(e:ws.length*(b+1)<=1000000):(ws.map (·.length)).sum+ws.length*sep.length<=16777216:=by
 have d:(ws.map (·.length)).sum<=ws.length*b:=StrLaws.sumLen_le ws a;have:ws.length*(b+1)=ws.length*b+ws.length:=Nat.mul_succ ..;rw[c];lia
def tH(e:∀b∈ps,b.name.length<=8)(f:wc 100 ps r)(d:H l=Ð ((sV ps r).map Ê))(q:Q (Ä (si ps r)) H):m_ K (Ä " ") [Â l] H Q:=by
 obtain⟨a,c⟩:=OG Ï e f;have:Ô (sV ps r)*21<=104*21:=tw _ a;exact U9 d c Ap Ã q
def kaN{K:a_}{vs:List V}{H:b_}{Q:fS}{E:f_}(h:IQ K vs H Q E):LC K (ì í Q) (gW Lh vs) H:=by
 obtain⟨p,v,Y,r,rfl,U,j,m,e,q⟩:=h;cases r with
 |num x z=>
  obtain⟨t,rfl,c⟩:=m;refine á c ?_;refine Ú (ñ À _ À (mi ?_));refine⟨À,_,À,û c (á c ⟨z,À,e.2,λg f=>Æ kM (λl d=>?_)⟩)⟩;exact tH (r:=.num x z) j e fG (q _ (f.new d))
 |op x s a b=>
  obtain⟨t,rfl,c⟩:=m;refine á c ?_;refine Ú (é À _ À ?_);refine Ú (ñ À _ À (mi ?_));refine⟨À,_,À,û c (á c (á c (á c ⟨yh,λl d=>?_⟩)))⟩;exact tH (r:=.op x s a b) j e fG (q _ ((Ø H).new d))
 |call x k i=>
  obtain⟨t,u,rfl,c,X⟩:=m;obtain⟨h1,O,T,h4,h5⟩:=id e;obtain⟨b,M,_,S⟩:=AA O T;obtain⟨J,D,P⟩:=U;have R:k.toNat<J.length:=by rw[P.len];exact(gR.mp M).1
  obtain⟨pa,q0,r0,Z,B,C,_⟩:=P.at_ k.toNat _ b (gF R) M;refine á c ?_;refine Ú (é À _ À ?_);refine Ú (é À _ À ?_);refine Ú (ñ À _ À (mi ?_));refine⟨À,_,À,û c (Õ _ À _ (û c (iU D O (by rw[gF R,B]) (û C ⟨va,λl d=>?_⟩))))⟩;have f:Ö (Ý H l [Ä x,Ä "=",Ä "call",Ä b.name]):=(Ø H).new d;have n:Ĉ H l [Ä x,Ä "=",Ä "call",Ä b.name] l=Ð [Ä x,Ä "=",Ä "call",Ä b.name]:=fG;generalize upd H l (.lst [.str x,.str "=",.str "call",.str b.name])=g at f n ⊢;refine á (f _ _ c) ⟨u,_,À,Í (fR.of (f _ _ X)),λw G=>?_⟩;have L:gJ g (Ý g w (i.map Ê)):=(Ø g).new G;have o:Ĉ g w (i.map Ê) w=Ð (i.map Ê):=fG;generalize upd g w (.lst (i.map V.str))=H2 at L o ⊢;refine Í (Í (È ⟨l,w,_,_,À,À,L _ _ n,o,mv (gY (by rw[fP];show 4+i.length<=_;lia)),λl3 I=>?_⟩));refine tH (r:=.call x k i) j e ?_ (q _ ((f.trans L).new I));rw[fG];show Á (lj.lst _)=Á (lj.lst ((x::"="::"call"::tM Y k::i).map Ê));rw[S];rfl
 |say a=>
  obtain⟨t,rfl,c⟩:=m;refine á c ?_;refine Ú (é À _ À ?_);refine Ú (é À _ À ?_);refine Ú (é À _ À ?_);refine Ú (é À _ À ?_);refine Ú (é À _ À ?_);refine⟨À,_,À,_,À,û c ⟨ka,λl d=>?_⟩⟩;exact tH (r:=.say a) j e fG (q _ ((Ø H).new d))
 |jump y=>
  obtain⟨t,rfl,c⟩:=m;refine á c ?_;refine Ú (é À _ À ?_);refine Ú (é À _ À ?_);refine Ú (é À _ À ?_);refine Ú (ñ À _ À (mi ?_));refine⟨À,_,À,_,À,û c ⟨y,À,e,λg f=>Æ ka (λl d=>?_)⟩⟩;exact tH (r:=.jump y) j e fG (q _ (f.new d))
 |test a y=>
  obtain⟨t,rfl,c⟩:=m;refine á c ?_;refine Ú (é À _ À ?_);refine Ú (é À _ À ?_);refine Ú (é À _ À ?_);refine Ú (é À _ À ?_);refine Ú (ñ À _ À (mi ?_));refine⟨À,_,À,_,À,û c (á c ⟨y,À,e.2,λg f=>Æ kM (λl d=>?_)⟩)⟩;exact tH (r:=.test a y) j e fG (q _ (f.new d))
 |give a=>
  obtain⟨t,rfl,c⟩:=m;refine á c ?_;refine Ú (é À _ À ?_);refine Ú (é À _ À ?_);refine Ú (é À _ À ?_);refine Ú (é À _ À ?_);refine Ú (é À _ À ?_);refine⟨À,_,À,_,À,û c ⟨ka,λl d=>?_⟩⟩;exact tH (r:=.give a) j e fG (q _ ((Ø H).new d))
def OT(h:C4 100 ps b):(("part":Str)::b.name::b.params).length*9<=918:=by
 have:=(B_ h).1;lia
def EA(h:ps[i]?=Á b):((ps.take (i+1)).map (kr ps)).flatten=((ps.take i).map (kr ps)).flatten++kr ps b:=by
 rw[mq,h,g8,DP];show _++(kr ps b++[])=_;rw[oe]
def F2(a:r_ 100 ps)(i:Nat):((ps.take i).map (kr ps)).flatten.length<=520:=by
 have e:=(FD Ï a (ps.take i) λb d=>vJ d).1;have c:Ô (ps.take i)<=8:=by rw[kz];have:=a.few;lia
 have:Ô (ps.take i)*65<=8*65:=tw _ c;lia
def kdx{K:a_}{vs:List V}{H:b_}{Q:fS}{E:f_}(h:ED K vs H Q E):NO K (ì í Q) (gW Fi vs) H:=by
 obtain⟨p,a,rfl,hp,G,q⟩:=h;obtain⟨af,C,hA⟩:=id hp;have hn:∀b∈a,b.name.length<=8:=λb x=>(G.part b x).nm;refine Æ mU (λL nL=>?_);show LH K _ [Å p,Å L,Ç] _;have s1:Ö (Ý H L []):=(Ø H).new nL;have w:Ĉ H L [] L=Ð []:=fG;generalize upd H L (.lst [])=H1 at s1 w ⊢;refine Í ⟨_,À,p,À,Æ _ (fR.of (s1 _ _ C)),v7 (xs:=af) (λi c H'=>∃(o:Option V),c=[Å p,Å L,o]/\H' L=Ð ((((a.take i).map (kr a)).flatten).map Ê)/\Ö H') ⟨_,À,w,s1⟩ ?_ ?_ ?_⟩
 .rintro i c H' _ ⟨_,_,_,s⟩;exact fR.of (s _ _ C)
 .rintro i v c d hv ⟨o,rfl,f,P⟩;obtain⟨b,x,pa⟩:=hA.of_v hv;have bm:=iS x;have n:=G.part b bm;have lf:=F2 G i;have aa:=F2 G (i+1);rw[EA x,ie] at aa;obtain⟨pp,pq,pr,rvs,rfl,X,h2,h3,h4⟩:=pa.mono (.of_same P);show LG K _ [Å p,Å L,Å pp] d;refine⟨_,À,È ⟨À,_,Ù f⟩,À,_,À,û X ⟨ka,λl nl=>?_⟩⟩;have R:gJ d (Ý d l [Ä "part",Ä b.name]):=(Ø d).new nl;have y:Ĉ d l [Ä "part",Ä b.name] l=Ð [Ä "part",Ä b.name]:=fG;generalize upd d l (.lst [.str "part",.str b.name])=t at R y ⊢;refine á (R _ _ X) ⟨pq,_,À,Í (fR.of (R _ _ h2)),λI ab=>?_⟩;have s4:gJ t (Ý t I (b.params.map Ê)):=(Ø t).new ab;have z:Ĉ t I (b.params.map Ê) I=Ð (b.params.map Ê):=fG;generalize upd t I (.lst (b.params.map V.str))=u at s4 z ⊢;refine Í (Í (È ⟨l,I,_,_,À,À,s4 _ _ y,z,mv (gY (by rw[fP];have:=n.p8;show 2+b.params.length<=_;lia)),λJ ae=>?_⟩));have s5:gJ u (Ý u J ([Ä "part",Ä b.name]++b.params.map Ê)):=(Ø u).new ae;have B:Ĉ u J ([Ä "part",Ä b.name]++b.params.map Ê) J=Ð ((("part":Str)::b.name::b.params).map Ê):=fG;generalize upd u J (.lst ([.str "part",.str b.name]++b.params.map V.str))=g at s5 B ⊢;have e:=(R.trans s4).trans s5;refine⟨_,J,_,À,À,Ù B,Dl (B_ n).2 Ap (by have:=OT n;lia),L,_,_,À,À,e _ _ f,gY (by rw[fP];lia),?_⟩;have Y:=e _ _ f;have T:Ö (Ý g L ((((a.take i).map (kr a)).flatten).map Ê++[Ä (oR b)])):=kR (P.trans e) nL;have t6:gZ g (Ý g L ((((a.take i).map (kr a)).flatten).map Ê++[Ä (oR b)])):=(gZ.refl g).lst Y;have k:Ĉ g L ((((a.take i).map (kr a)).flatten).map Ê++[Ä (oR b)]) L=Ð ((((a.take i).map (kr a)).flatten++[oR b]).map Ê):=by rw[fG,g8];rfl
  show LF K _ [Å p,Å L,Å pp] (Ý g L ((((a.take i).map (kr a)).flatten).map Ê++[Ä (oR b)]));generalize upd g L (.lst ((((a.take i).map (kr a)).flatten).map V.str++[.str (oR b)]))=S at T t6 k ⊢;have M:gZ d S:=(gZ.of_same e).trans t6;refine⟨_,À,È ⟨À,_,Ù k⟩,Í (á (M _ _ X) ⟨pr,À,Æ _ (fR.of (M _ _ h3)),λD nD=>?_⟩)⟩;refine Cf (xs:=rvs) (λj c H'=>∃(o:Option V),c=[Å p,Å L,Å pp,o]/\H' D=Ð (((b.rows.take j).map (si a)).map Ê)/\gJ S H') ?_ ?_ ?_ ?_
  .exact⟨Ç,À,fG,(Ø S).new nD⟩
  .rintro j c H' _ ⟨o,rfl,_,s⟩;exact fR.of (s _ _ (M _ _ h3))
  .rintro j v c H7 hv ⟨o,rfl,O,m⟩;obtain⟨r,hr,ra⟩:=h4.of_v hv;have rm:=iS hr;have jl:j<b.rows.length:=(gR.mp hr).1;have U:=n.few;refine oO ⟨_,À,_,À,p,v,a,r,À,hp.mono (.of_same (T.trans m)),hn,ra.mono (M.trans (.of_same m)),n.rows r rm,λH8 s8=>⟨_,s8 _ _ O,gY (by rw[fP,fP,kz];lia),_,À,?_,kR (m.trans s8) nD⟩⟩;rw[fG,mq,hr,g8,g8];rfl
  .rintro c H7 ⟨o,_,O,m⟩;rw[h4.len,m5 ï] at O;have Z:=m _ _ k;refine⟨L,D,_,_,À,À,Z,O,mv (gY ?_),_,À,?_,kR (T.trans m) nL⟩
   .have U:=n.few;rw[fP,fP,fP,ie];show _+1+_<=_;lia
   .rw[fG,EA x,<-g8];unfold kr;rw[sM];rfl
 .rintro c d ⟨o,rfl,f,P⟩;rw[hA.len,m5 ï] at f;obtain⟨f1,f2⟩:=E2 Ï G;have:Ô (oQ a)*937<=520*937:=tw _ f1;have f:d L=Ð ((oQ a).map Ê):=f;exact⟨À,_,À,U9 f f2 DN Ã (q d P)⟩
def EI(sep x y:Str)(r:Ñ):Txt.join sep (x::y::r)=x++sep++Txt.join sep (y::r):=by
 show Builtin.Str.glued sep (x::y::r)=x++sep++Builtin.Str.glued sep (y::r);rw[StrLaws.glued_eq_join,StrLaws.glued_eq_join];rfl
def wh(h:a.length+b.length<=100000)(q:Q (Ä (a++b)) H):hZ K (Ä a) (Ä b) H Q:=Í (È ⟨a,b,À,À,mv (gY h),q⟩)
def RV:(" = ":Str)=(" ":Str)++"="++" ":=â
def iy:(" = ":Str).length=3:=â
def hY:(" ":Str).length=1:=â
def keV(ps:É gD)(x:Str)(z:Int):si ps (.num x z)=x++" = "++iL z:=by
 show Txt.join " " [x,"=",iL z]=_;rw[EI,FS,RV];simp only[M9]
def kgP(ps:É gD)(x s a b:Str):si ps (.op x s a b)=x++" = "++a++" "++s++" "++b:=by
 show Txt.join " " [x,"=",a,s,b]=_;rw[EI,EI,EI,FS,RV];simp only[M9]
def kiv(v:V)(w:Str):Prop:=v=Ä w\/∃z:Int,v=Ë z/\pF z/\w=iL z
def Cw(h:H t=ä xs)(l:ws.length<=1000)(g:ia kiv xs ws)(q:∀(D:d_) (H':b_),H' D=Ð (ws.map Ê)->Ö H'->Q (Â D) H') :
  i9 [] 1 (i_ K (fI 1)) (gB 2) kT (ÿ yG 2) [Å p,Å t] H Q:=by
 refine Í ⟨_,À,t,À,Æ _ (fR.of h),λD k=>?_⟩;refine Cf (xs:=xs) (λi a H'=>∃(o:Option V),a=[Å p,Å t,o]/\H' D=Ð ((ws.take i).map Ê)/\Ö H') ?_ ?_ ?_ ?_
 .exact⟨Ç,À,fG,(Ø H).new k⟩
 .rintro i a H' _ ⟨o,rfl,_,s⟩;exact fR.of (s _ _ h)
 .rintro i v a b m ⟨o,rfl,d,f⟩;obtain⟨w,j,r⟩:=g.of_v m;have u:i<ws.length:=(gR.mp j).1;have c:∃e,b D=Ð e/\e.length<gM/\∃(o:Option V),([Á (V.ref p),Å t,Á v]:fO)=[Å p,Å t,o]/\Ĉ b D (e++[Ä w]) D=Ð ((ws.take (i+1)).map Ê)/\Ö (Ý b D (e++[Ä w])):=
   ⟨_,d,gY (by rw[fP,kz];lia),_,À,by rw[fG,mq,j,g8];rfl,kR f k⟩
  rcases r with rfl|⟨z,rfl,n,rfl⟩
  .exact oO (Ú (Í (Ą w c)))
  .exact oO (Ú (ñ z À (CW n) c))
 .rintro a b ⟨o,_,d,f⟩;rw[g.len,m5 ï] at d;exact q D b d f
def kbK{K:a_}{vs:List V}{H:b_}{Q:fS}{E:f_}(h:Kj K vs H Q E):MQ K (ì í Q) (gW Kt vs) H:=by
 obtain⟨p,v,M,r,rfl,hp,o,g,d,q⟩:=h;cases r with
 |num x z=>
  obtain⟨t,rfl,c⟩:=g;have Z:=xp d.2;refine á c (ñ À _ À (mi ?_));refine á c (wh (by rw[iy];have:=d.1;lia) (á c (ñ z À (CW d.2) (wh (a:=x++" = ") (b:=iL z) (by rw[pP,iy];have:=d.1;lia) ?_))));rw[<-keV M];exact q H (Ø H)
 |op x s a b=>
  obtain⟨t,rfl,c⟩:=g;obtain⟨Y,C,S,h4⟩:=d;refine á c (é À _ À ?_);refine á c (ñ À _ À (mi ?_));refine á c (wh (by rw[iy];lia) (á c (wh (by rw[pP,iy];lia) (wh (by rw[pP,pP,iy,hY];lia) (á c (wh (by rw[pP,pP,pP,iy,hY];lia) (wh (by rw[pP,pP,pP,pP,iy,hY];lia) (á c (wh (by rw[pP,pP,pP,pP,pP,iy,hY];lia) ?_)))))))));rw[<-kgP M];exact q H (Ø H)
 |call x k e=>
  obtain⟨t,u,rfl,c,hu⟩:=g;obtain⟨Y,C,S,h4,h5⟩:=id d;obtain⟨b,R,_,X⟩:=AA C S;obtain⟨O,I,T⟩:=hp;have U:k.toNat<O.length:=by rw[T.len];exact(gR.mp R).1
  obtain⟨pa,q0,r0,aa,B,G,_⟩:=T.at_ k.toNat _ b (gF U) R;refine á c (é À _ À ?_);refine á c (é À _ À ?_);refine á c (ñ À _ À (mi ?_));refine⟨À,_,À,û c (Õ _ À _ (û c (iU I C (by rw[gF U,B]) (û G ⟨va,λl nl=>?_⟩))))⟩;have y:Ö (Ý H l [Ä x,Ä "=",Ä "call",Ä b.name]):=(Ø H).new nl;have m:Ĉ H l [Ä x,Ä "=",Ä "call",Ä b.name] l=Ð [Ä x,Ä "=",Ä "call",Ä b.name]:=fG;generalize upd H l (.lst [.str x,.str "=",.str "call",.str b.name])=j at y m ⊢;refine á (y _ _ c) ⟨u,_,À,Í (fR.of (y _ _ hu)),λw J=>?_⟩;have P:gJ j (Ý j w (e.map Ê)):=(Ø j).new J;have n:Ĉ j w (e.map Ê) w=Ð (e.map Ê):=fG;generalize upd j w (.lst (e.map V.str))=H2 at P n ⊢;refine Í (Í (È ⟨l,w,_,_,À,À,P _ _ m,n,mv (gY (by rw[fP];show 4+e.length<=_;lia)),λl3 L=>?_⟩));refine tH (r:=.call x k e) o d ?_ (q _ ((y.trans P).new L));rw[fG];show Á (lj.lst _)=Á (lj.lst ((x::"="::"call"::tM M k::e).map Ê));rw[X];rfl
 |say a=>
  obtain⟨t,rfl,c⟩:=g;refine á c (é À _ À ?_);refine á c (é À _ À ?_);refine á c (é À _ À ?_);exact Æ À (Cw c (ws:=["say",a]) (by show 2<=1000;decide) ((ia.nil.snoc (È À)).snoc (È À)) λD H' f s=>tH (r:=.say a) o d f (q H' s))
 |jump i=>
  obtain⟨t,rfl,c⟩:=g;refine á c (é À _ À ?_);refine á c (é À _ À ?_);refine á c (é À _ À ?_);exact Æ À (Cw c (ws:=["jump",iL i]) (by show 2<=1000;decide) ((ia.nil.snoc (È À)).snoc (Í ⟨i,À,d,À⟩)) λD H' f s=>tH (r:=.jump i) o d f (q H' s))
 |test a i=>
  obtain⟨t,rfl,c⟩:=g;refine á c (é À _ À ?_);refine á c (é À _ À ?_);refine á c (é À _ À ?_);exact Æ À (Cw c (ws:=["test",a,iL i]) (by show 3<=1000;decide) (((ia.nil.snoc (È À)).snoc (È À)).snoc (Í ⟨i,À,d.2,À⟩)) λD H' f s=>tH (r:=.test a i) o d f (q H' s))
 |give a=>
  obtain⟨t,rfl,c⟩:=g;refine á c (é À _ À ?_);refine á c (é À _ À ?_);refine á c (é À _ À ?_);exact Æ À (Cw c (ws:=["give",a]) (by show 2<=1000;decide) ((ia.nil.snoc (È À)).snoc (È À)) λD H' f s=>tH (r:=.give a) o d f (q H' s))
def khz{K:a_}{vs:List V}{H:b_}{Q:fS}{E:f_}(h:Ce K vs H Q E):P9 K (ì í Q) (gW PN vs) H:=by
 obtain⟨p,a,rfl,hp,Y,q⟩:=h;obtain⟨ae,G,hA⟩:=id hp;have hn:∀b∈a,b.name.length<=8:=λb z=>(Y.part b z).nm;refine Æ mU (λL P=>?_);show NI K _ [Å p,Å L,Ç,Ç,Ç,Ç] _;have s1:Ö (Ý H L []):=(Ø H).new P;have u:Ĉ H L [] L=Ð []:=fG;generalize upd H L (.lst [])=H1 at s1 u ⊢;refine Í ⟨_,À,p,À,Æ _ (fR.of (s1 _ _ G)),v7 (xs:=ae) (λi c H'=>∃(o2 o3 o4 f:Option V),c=[Å p,Å L,o2,o3,o4,f]/\H' L=Ð ((((a.take i).map (kr a)).flatten).map Ê)/\Ö H') ⟨_,_,_,_,À,u,s1⟩ ?_ ?_ ?_⟩
 .rintro i c H' _ ⟨_,_,_,_,_,_,s⟩;exact fR.of (s _ _ G)
 .rintro i v c e X ⟨o2,o3,o4,f,rfl,o,R⟩;obtain⟨b,z,pa⟩:=hA.of_v X;have bm:=iS z;have T:=Y.part b bm;have Z:=F2 Y (i+1);rw[EA z,ie] at Z;have af:Ô (kr a b)=b.rows.length+1:=by unfold kr;rw[iN,fP]
  obtain⟨pp,M,O,rvs,rfl,h1,h2,h3,h4⟩:=pa.mono (.of_same R);refine⟨pp,_,À,fR.of h1,À,_,_,À,_,_,À,_,_,À,À,?_⟩;show NH K _ [Å p,Å L,î b.name,Å M,Å O,f] e;refine⟨_,À,È ⟨À,_,Ù o⟩,À,_,À,ka,λl nl=>?_⟩;have s3:gJ e (Ý e l [Ä "part",Ä b.name]):=(Ø e).new nl;have B:Ĉ e l [Ä "part",Ä b.name] l=Ð [Ä "part",Ä b.name]:=fG;generalize upd e l (.lst [.str "part",.str b.name])=m at s3 B ⊢;refine⟨_,À,M,_,À,Í (fR.of (s3 _ _ h2)),λI aa=>?_⟩;have s4:gJ m (Ý m I (b.params.map Ê)):=(Ø m).new aa;have C:Ĉ m I (b.params.map Ê) I=Ð (b.params.map Ê):=fG;generalize upd m I (.lst (b.params.map V.str))=n at s4 C ⊢;refine Í (Í (È ⟨l,I,_,_,À,À,s4 _ _ B,C,mv (gY (by rw[fP];have:=T.p8;show 2+b.params.length<=_;lia)),λJ ab=>?_⟩));have s5:gJ n (Ý n J ([Ä "part",Ä b.name]++b.params.map Ê)):=(Ø n).new ab;have D:Ĉ n J ([Ä "part",Ä b.name]++b.params.map Ê) J=Ð ((("part":Str)::b.name::b.params).map Ê):=fG;generalize upd n J (.lst ([.str "part",.str b.name]++b.params.map V.str))=g at s5 D ⊢;have k:=(s3.trans s4).trans s5;have w:=k _ _ o;refine⟨_,J,_,À,À,Ù D,Dl (B_ T).2 Ap (by have:=OT T;lia),L,_,_,À,À,w,gY (by rw[fP];lia),?_⟩;have S6:Ö (Ý g L ((((a.take i).map (kr a)).flatten).map Ê++[Ä (oR b)])):=kR (R.trans k) P;have t6:gZ g (Ý g L ((((a.take i).map (kr a)).flatten).map Ê++[Ä (oR b)])):=(gZ.refl g).lst w;have x:Ĉ g L ((((a.take i).map (kr a)).flatten).map Ê++[Ä (oR b)]) L=Ð ((((a.take i).map (kr a)).flatten++[oR b]).map Ê):=by rw[fG,g8];rfl
  show NG K _ [Å p,Å L,î b.name,Å M,Å O,f] (Ý g L ((((a.take i).map (kr a)).flatten).map Ê++[Ä (oR b)]));generalize upd g L (.lst ((((a.take i).map (kr a)).flatten).map V.str++[.str (oR b)]))=H6 at S6 t6 x ⊢;have T6:gZ e H6:=(gZ.of_same k).trans t6;refine Í ⟨_,À,O,À,Æ _ (fR.of (T6 _ _ h3)),v7 (xs:=rvs) (λj c H'=>∃(f:Option V),c=[Å p,Å L,î b.name,Å M,Å O,f]/\H' L=Ð ((((a.take i).map (kr a)).flatten++oR b::(b.rows.take j).map (si a)).map Ê)/\gZ e H'/\Ö H') ⟨_,À,x,T6,S6⟩ ?_ ?_ ?_⟩
  .rintro j c H' _ ⟨_,_,_,t,_⟩;exact fR.of (t _ _ h3)
  .rintro j v c H7 X ⟨f,rfl,d,t7,S⟩;obtain⟨r,U,ra⟩:=h4.of_v X;have rm:=iS U;have jl:j<b.rows.length:=(gR.mp U).1;show Ol K _ [Å p,Å L,î b.name,Å M,Å O,Á v] H7;refine⟨_,À,È ⟨À,_,Ù d⟩,_,À,_,À,p,v,a,r,À,hp.mono (.of_same S),hn,ra.mono t7,T.rows r rm,λH8 s8=>?_⟩;have y:=s8 _ _ d;refine⟨L,_,_,À,À,y,gY ?_,_,À,?_,(t7.trans (.of_same s8)).lst y,kR (S.trans s8) P⟩
   .rw[fP,ie,iN,fP,kz];lia
   .rw[fG,mq,U,g8 (l₁:=b.rows.take j)];simp only[g8,kL,sM,List.cons_append];rfl
  .rintro c H7 ⟨f,rfl,d,t7,S⟩;rw[h4.len,m5 ï] at d;refine⟨_,_,_,_,À,?_,S⟩;rw[d,EA z];rfl
 .rintro c e ⟨o2,o3,o4,f,rfl,o,R⟩;rw[hA.len,m5 ï] at o;exact Ú (q L e P o R)
theorem Ea{c:Type}:∀{a b:List c},a.map some=b.map some->a=b
 |[],[],_=>rfl
 |[],y::b,h=>by cases h
 |x::a,[],h=>by cases h
 |x::a,y::b,h=>by
  rw[kL,kL] at h;injection h with h1 h2;rw[ď h1,Ea h2]
def kiE{ps:List gD}(nm:sU ps)(b:(ps.map (·.name)).Nodup){a:List ik}(e:parse (uF ps)=a.map some):(∀n,¬oC a n)/\ki a=ps:=by
 rw[Mw nm] at e;have:=Ea e;subst this;exact⟨Os nm,N_ nm b⟩
def kdA{K:a_}{ps:List gD}{H:b_}{Q:fS}{E:f_}(nm:sU ps)(c:(ps.map (·.name)).Nodup)(d:vh ps->∀(p:d_) (H':b_),md H' p ps->Ö H'->Q (Â p) H')
  (g:∀(k n:Nat) (w:Str),vi ps k n w->∀(b:d_) (H':b_),Ö H'->H' b=Á (kv b (we k n w))->E (Â (iI K "NoProgram")) (Á b) H'):Ar K [Ä (uF ps)] H Q E:=by
 have e:=Mw nm;refine⟨uF ps,À,kew nm.wr,λn f=>?_,λh a i=>?_⟩
 .rw[e] at f;exact Ì f.1 (kfc nm.pos n)
 .rw[e] at a;have:=Ea a;subst this;refine⟨λn f=>Ì f.1 (Os nm n),λ_=>?_⟩;rw[N_ nm c];exact Î nm.wd d g
def kgB(c:yD ys cs e):sU (e.map kI.up):=by
 refine⟨by have:=c.pos;intro z;have:Ô (e.map kI.up)=0:=(by rw[z];rfl);rw[fP] at this;lia,by rw[fP];have:=c.few;lia,λC g=>?_⟩;obtain⟨b,f,rfl⟩:=kA.mp g;have p:=c.part b f;have E:b.params.length<=4:=c.c4 _ (by rw[<-c.cnt];exact kA.mpr (Î b f À));refine⟨c.nnm b f,by show b.params.length<=8;lia,λy w=>c.ynm y (p.pin y w),by show Ô (b.rows.map gG.up)<64;rw[fP];have:=p.few;lia,λB i=>?_⟩;obtain⟨r,v,rfl⟩:=kA.mp (show B∈b.rows.map gG.up from i);have q:=p.rows r v;have m:=p.few;have d:∀n:Nat,n<b.rows.length->pF (n:Nat):=λn h=>by
  have o:n<61:=Ã
  exact Æ Ã (Int.lt_of_lt_of_le (b:=61) Ã Ï)
 cases r with
 |num x z=>exact Æ (c.ynm x q.1) q.2
 |op x s a b=>exact⟨c.ynm x q.1,q.2.1,c.ynm a q.2.2.1,c.ynm b q.2.2.2⟩
 |call x k l=>
  have u:=(gR.mp q.2.1).1;have D:l.length<=4:=c.c4 _ (iS q.2.1);rw[<-c.cnt,fP] at u;exact⟨c.ynm x q.1,Ã,by rw[fP];lia,Ã,λa t=>c.ynm a (q.2.2 a t)⟩
 |say a=>exact c.ynm a q
 |jump j=>exact d j q
 |test a j=>exact⟨c.ynm a q.1,d j q.2⟩
 |give a=>exact c.ynm a q
def kgp(a:É kI):(a.map kI.up).map (·.name)=a.map (·.name):=by rw[pJ];rfl
def Rf:(! æ (([c]:É Nat)<[a]))=æ (a<=c):=by
 by_cases h:a<=c
 .have n:¬([c]:É Nat)<[a]:=λz=>by
   rcases List.cons_lt_cons_iff.mp z with z|⟨_,z⟩
   .lia
   .exact Ì z Ò
  rw[decide_eq_true h,decide_eq_false n];rfl
 .have n:([c]:É Nat)<[a]:=List.cons_lt_cons_iff.mpr (È Ã);rw[decide_eq_false h,decide_eq_true n];rfl
def PX(f:x=⟨#[a]⟩)(g:z=⟨#[b]⟩)(c:Nat)(H:b_)(Q:fS)(q:Q (.bl (æ (a<=c)&&æ (c<=b))) H) :
  wa tU tU (fY (Ä x)) (fI 1) (fY (Ä z)) [î y,î ⟨#[c]⟩] H Q:=by
 subst f g;refine Ú (Í ⟨_,_,À,À,_,À,?_⟩);have d:(! æ ((⟨#[c]⟩:Str).cps.toList<(⟨#[a]⟩:Str).cps.toList))=æ (a<=c):=Rf;have e:(! æ ((⟨#[b]⟩:Str).cps.toList<(⟨#[c]⟩:Str).cps.toList))=æ (c<=b):=Rf;rw[d];refine gz (λh=>?_) λh=>?_
 .refine Í (Õ _ _ À ?_);rw[e];rw[decide_eq_true h,Bool.true_and] at q;exact q
 .rw[decide_eq_false h,Bool.false_and] at q;exact q
def kdt{K:a_}{vs:List V}{H:b_}{Q:fS}{E:f_}(h:yi K vs H Q E):Oj K (ì í Q) (gW Fh vs) H:=by
 obtain⟨y,rfl,f,q⟩:=h;refine⟨_,À,D0,λp j=>⟨p,_,À,Í (fR.of fG),À,À,_,À,?_⟩⟩;have a:Ö (Ā H p [Ä "part",Ä "call",Ä "say",Ä "jump",Ä "test",Ä "give"]):=(Ø H).new j;have e:hU (Ä y) [Ä "part",Ä "call",Ä "say",Ä "jump",Ä "test",Ä "give"]=æ (y∈pW):=rq y pW;rw[show(if false=true then ! hU (è y) [Ä "part",Ä "call",Ä "say",Ä "jump",Ä "test",Ä "give"] else hU (Ä y) [Ä "part",Ä "call",Ä "say",Ä "jump",Ä "test",Ä "give"])=æ (y∈pW) from e];refine gz (λiy=>q Ü _ ⟨λz=>(by cases z),λn=>Ì iy n.no⟩ a) λiy=>?_;refine⟨_,À,_,_,À,xP f,È ⟨_,_,À,À,_,À,gz (λhY=>?_) (λhY=>?_)⟩⟩
 .refine È ⟨_,_,À,À,_,À,gz (λg=>?_) (λg=>?_)⟩
  .refine GC (P:=λc=>æ (97<=c)&&æ (c<=122)) (PX â â) f λb H' i s=>q b H' ?_ (a.trans s);rw[i];exact⟨λh=>⟨Ã,Ã,λc d=>by simpa using h c d,iy⟩,λn c d=>by simpa using n.abc c d⟩
  .exact q Ü _ ⟨λz=>(by cases z),λn=>Ì n.l8 Ã⟩ a
 .exact Ą Ü (i4 (q Ü _ ⟨λz=>(by cases z),λn=>Ì n.l1 Ã⟩ a))
def kds{K:a_}{vs:List V}{H:b_}{Q:fS}{E:f_}(h:BW K vs H Q E):Oi K (ì í Q) (gW Fg vs) H:=by
 obtain⟨y,rfl,k,q⟩:=h;have d:1<=y.length->y.length<=20->(y.cps.toList.head?=Á 48->y="0")->Lw K (ì í Q) [î y] H:=λf u v=>
  GC (P:=λc=>æ (48<=c)&&æ (c<=57)) (PX â â) k λb H' t s=>q b H' (by
   rw[t];exact⟨λh=>⟨f,u,λc j=>by simpa using h c j,v⟩,λn c j=>by simpa using n.dig c j⟩) s
 refine⟨_,À,_,_,À,xP k,È ⟨_,_,À,À,_,À,gz (λhY=>?_) (λhY=>?_)⟩⟩
 .refine È ⟨_,_,À,À,_,À,?_⟩;refine nN (λl=>lC (q Ü _ ⟨λz=>(by cases z),λn=>Ì n.l20 Ã⟩ (Ø H))) (λl=>?_);obtain⟨g,w,a⟩:∃c r,y.cps.toList=c::r:=by
   cases h:y.cps.toList with
   |nil=>
    have:y.cps.toList.length=0:=by rw[h];rfl
    rw[lO] at this;have:y.length=0:=this;lia
   |cons c r=>exact Î c r À
  have one:(è ⟨#[g]⟩=è "0")↔g=48:=by
   rw[show("0":Str)=⟨#[48]⟩ from â];constructor
   .intro z;injection z with z;injection z with z;injection z with z;injection z
   .intro z;rw[z]
  refine⟨_,À,_,_,À,xP k,_,_,À,À,_,À,gz (λiy=>?_) (λiy=>?_)⟩
  .refine Ú (Bp (mv (gY Ã)) Ï (by rw[a];rfl) (ñ À _ À (gz (λi=>?_) (λi=>?_))))
   .refine q Ü H ⟨λz=>(by cases z),λn=>?_⟩ (Ø H);have e:=n.lead (by rw[a,one.mp i];rfl);rw[e] at iy;exact Ì iy â
   .refine d Ã Ã λz=>?_;rw[a] at z;exact Ì (one.mpr (by simpa using z)) i
  .refine i4 (d Ã Ã λz=>?_);have f:y.cps.toList.length=1:=by rw[lO];show y.length=1;lia
   rw[a] at z f;have m:w=[]:=by simpa using f
   have o:g=48:=by simpa using z
   have p:y=⟨y.cps⟩:=rfl;rw[p,show y.cps=#[48] from by rw[<-Ih,a,m,o],show("0":Str)=⟨#[48]⟩ from â]
 .exact Ą Ü (lC (q Ü _ ⟨λz=>(by cases z),λn=>Ì n.l1 Ã⟩ (Ø H)))
def kaK{K:a_}{vs:List V}{H:b_}{Q:fS}{E:f_}(h:BF K vs H Q E):Ly K (ì í Q) (gW Kc vs) H:=by
 obtain⟨l,c,rfl,a,few,b,q⟩:=h;exact Vz (K:=K) (E:=E) ⟨l,c,À,a,few,b,q⟩
def Aw(h:i8 (x::t) r)(m:x∈pW):sS r=x:=by
 rcases h.key with⟨a,e,_⟩|⟨_,b,a,e,nx⟩
 .injection e with e _;exact e.symm
 .injection e with e _;exact Ì nx (by rw[<-e];exact AG m)
def Nq:(∃r,i8 (("part":Str)::t) r)↔1<=t.length/\∀y∈t,gP y:=by
 constructor
 .rintro⟨r,h⟩;have k:=Aw h â;cases r with
  |part x b=>
   obtain⟨e,n,c⟩:=h;injection e with _ e;rw[e];exact⟨Ò,λy a=>(g7.mp a).elim (λe=>by rw[e];exact n) (c y)⟩
  |_=>exact Ì k Đ
 .rintro⟨l,n⟩;cases t with
  |nil=>cases l
  |cons x b=>exact⟨.part x b,À,n x Ò,λy a=>n y (by simp[a])⟩
def kfd:(∃r,i8 (("say":Str)::t) r)↔∃a,t=[a]/\gP a:=by
 constructor
 .rintro⟨r,h⟩;have k:=Aw h â;cases r with
  |say a=>obtain⟨e,n⟩:=h;injection e with _ e;exact Î a e n
  |_=>exact Ì k Đ
 .rintro⟨a,rfl,n⟩;exact Ą (.say a) n
def kcO:(∃r,i8 (("give":Str)::t) r)↔∃a,t=[a]/\gP a:=by
 constructor
 .rintro⟨r,h⟩;have k:=Aw h â;cases r with
  |give a=>obtain⟨e,n⟩:=h;injection e with _ e;exact Î a e n
  |_=>exact Ì k Đ
 .rintro⟨a,rfl,n⟩;exact Ą (.give a) n
def Np:(∃r,i8 (("jump":Str)::t) r)↔∃y,t=[y]/\mX y:=by
 constructor
 .rintro⟨r,h⟩;have k:=Aw h â;cases r with
  |jump a=>obtain⟨y,e,n,_⟩:=h;injection e with _ e;exact Î y e n
  |_=>exact Ì k Đ
 .rintro⟨y,rfl,n⟩;exact⟨.jump (nj y),y,À,n,À⟩
def Fy:(∃r,i8 (("test":Str)::t) r)↔∃a y,t=[a,y]/\gP a/\mX y:=by
 constructor
 .rintro⟨r,h⟩;have k:=Aw h â;cases r with
  |test a c=>obtain⟨y,e,n,b,_⟩:=h;injection e with _ e;exact⟨a,y,e,n,b⟩
  |_=>exact Ì k Đ
 .rintro⟨a,y,rfl,n,b⟩;exact⟨.test a (nj y),y,À,n,b,À⟩
def G9:Ñ:=["part","say","give","jump","test"]
def OR(c:x∉G9):(∃r,i8 (x::t) r)↔gP x/\∃ws,t=("=":Str)::ws/\xB ws:=by
 constructor
 .rintro⟨r,h⟩;rcases h.key with⟨i,e,m⟩|⟨_,p,i,e,nx⟩
  .injection e with e _;exfalso;cases r with
   |part a b=>exact c (by rw[e];simp only[sS];decide +kernel)
   |say a=>exact c (by rw[e];simp only[sS];decide +kernel)
   |give a=>exact c (by rw[e];simp only[sS];decide +kernel)
   |jump a=>exact c (by rw[e];simp only[sS];decide +kernel)
   |test a b=>exact c (by rw[e];simp only[sS];decide +kernel)
   |_=>exact Ì m Đ
  .injection e with e1 e2;subst e2;obtain⟨n,s⟩:=RY h;exact⟨n,i,À,s⟩
 .rintro⟨n,ws,rfl,s⟩;rcases s with⟨y,rfl,g,k⟩|⟨f,j,rfl,o,d⟩|⟨a,s,b,rfl,l,d,g⟩
  .exact⟨.num x (nj y),y,À,n,g,À,k⟩
  .exact⟨.call x f j,À,n,o,d⟩
  .exact⟨.op x s a b,À,n,l,d,g⟩
def kfg:xB (("call":Str)::r)↔1<=r.length/\∀y∈r,gP y:=by
 constructor
 .rintro(⟨y,e,h,_⟩|⟨f,g,e,i,d⟩|⟨a,s,b,e,_,d,_⟩)
  .injection e with e _;exact Ì h (by rw[<-e];exact CP)
  .injection e with _ e;rw[e];exact⟨Ò,λy c=>(g7.mp c).elim (λe=>by rw[e];exact i) (d y)⟩
  .injection e with e _;exact Ì d (by rw[<-e];exact BN)
 .rintro⟨l,n⟩;cases r with
  |nil=>cases l
  |cons f g=>exact Í (È ⟨f,g,À,n f Ò,λy c=>n y (by simp[c])⟩)
def kdG{w:Str}{r:List Str}(h:w≠"call"):xB (w::r)↔(r=[]/\mX w/\nj w<2 ^ 64)\/∃s b,r=[s,b]/\s∈oq/\gP w/\gP b:=by
 constructor
 .rintro(⟨y,e,c,g⟩|⟨f,j,e,k,d⟩|⟨a,s,b,e,i,d,c⟩)
  .injection e with e1 e2;subst e1;exact È (Î e2 c g)
  .injection e with e _;exact Ì e h
  .injection e with e1 e2;subst e1;exact Í ⟨s,b,e2,i,d,c⟩
 .rintro(⟨rfl,c,g⟩|⟨s,b,rfl,i,d,c⟩)
  .exact ñ w À c g
  .exact Í (Í ⟨w,s,b,À,i,d,c⟩)
def AB(h:V.int a=V.int b):a=b:=by injection h
def YX{K:a_}{vs:List V}{H:b_}{Q:fS}{E:f_}(h:IP K vs H Q E):Lx K (ì í Q) (gW Lf vs) H:=by
 obtain⟨l,L,rfl,J,l1,few,T,q⟩:=h;obtain⟨x,t,rfl⟩:∃x r,L=x::r:=by
  cases L with
  |nil=>cases l1
  |cons x r=>exact Î x r À
 have ao:=T x Ò;have af:∀{j:b_} (c:Nat) (R:fS),j l=Ð ((x::t).map Ê)->(∀D,j D=none->R (Â D) (Ý j D (((x::t).drop c).map Ê)))->kE (lh K) ø (kB (fY (Ë (c:Nat)))) kH [Å l] j R:=λc R h1 r=>
  Õ _ À _ (È ⟨l,_,À,Ù h1,λD Y=>by rw[v5];exact r D Y⟩)
 have aj:∀j,Ö j->x∉G9->VD K (ì í Q) [Å l] j:=by
  intro j v nh;have d:=v _ _ J;have P:∀{H':b_},Ö H'->(gP x->∀L,t=("=":Str)::L->¬xB L)->Q (.bl Ü) H':=λs n=>q Ü _ ⟨λz=>(by cases z),λz=>by
   obtain⟨nx,L,e,z⟩:=(OR nh).mp z;exact Ì z (n nx L e)⟩ s
  refine⟨_,À,_,_,À,lY d,_,_,À,À,_,À,gz (λc=>lC (P v λ_ L e z=>?_)) (λc=>?_)⟩
  .subst e;have:1<=L.length:=by rcases z with⟨y,rfl,_⟩|⟨f,as,rfl,_⟩|⟨a,s,b,rfl,_⟩<;>simp
   simp only[iN] at c;lia
  obtain⟨y,w,r,rfl⟩:∃y w r,t=y::w::r:=Sm (by simp only[iN] at c;lia);refine Ċ 0 d À ⟨x,À,ao,λb O I u=>Ú ?_⟩;have u:=v.trans u;have o:=u _ _ J;cases b with
  |false=>exact lC (lC (P u λn=>by cases I.mpr n))
  |true=>
  have nx:=I.mp À;refine i4 ?_;refine Ċ 1 o À (ñ À _ À (nN (λk=>P u λ_ L e=>?_) (λk=>?_)))
  .injection e with e _;exact Ì (by rw[e]) k
  have e:y="=":=by injection k
  subst e;have g:(∃r',i8 (x::"="::w::r) r')↔xB (w::r):=(OR nh).trans ⟨λU=>by obtain⟨_,L,e,z⟩:=U;injection e with _ e;rw[e];exact z,λz=>⟨nx,_,À,z⟩⟩;clear P;refine Ċ 2 o À (ñ À _ À (gz (λiy=>?_) (λiy=>?_)))
  .have e:w="call":=by injection iy
   subst e;rw[kfg] at g;refine⟨_,À,_,_,À,lY o,_,_,À,À,_,À,gz (λS=>?_) (λS=>?_)⟩
   .refine af 3 _ o λD Y=>⟨D,r,À,fG,by simp only[iN] at few;lia,λy X=>T y (by simp[X]),λb Z I C=>q b Z ?_ ((u.new Y).trans C)⟩;rw[I,g];exact⟨λn=>Æ (by simp only[iN] at S;lia) n,λn=>n.2⟩
   .refine q Ü O ⟨λz=>(by cases z),λz=>?_⟩ u;have:=(g.mp z).1;simp only[iN] at S;lia
  have nc:w≠"call":=λz=>iy (by rw[z]);rw[kdG nc] at g;refine⟨_,À,_,_,À,lY o,ñ À _ À (gz (λS=>?_) (λS=>?_))⟩
  .have S:=AB S;obtain⟨s,b,rfl⟩:=Ky (l:=r) (by simp only[iN] at S;lia);refine Ċ 2 o À (Ċ 4 o À ⟨ka,λD Y=>⟨D,[w,b],À,fG,Ò,λy X=>T y (by simp at X ⊢;rcases X with z|z<;>simp[z]),λb3 Z B C=>Ú (mD (λG=>?_) (λG=>?_))⟩⟩)
   .have C:=(u.new Y).trans C;have aa:=C _ _ J;have nn:=B.mp G;refine Ċ 3 aa À ⟨yh,λp hp=>⟨p,_,À,Í (fR.of fG),À,À,?_⟩⟩;have e:hU (Ä s) [Ä "+",Ä "-",Ä "*",Ä "<",Ä "="]=æ (s∈oq):=rq s oq;rw[show(if false=true then ! hU (è s) [Ä "+",Ä "-",Ä "*",Ä "<",Ä "="] else hU (Ä s) [Ä "+",Ä "-",Ä "*",Ä "<",Ä "="])=æ (s∈oq) from e];refine q _ _ ?_ (C.new hp);rw[decide_eq_true_iff,g];exact⟨λm=>Í ⟨s,b,À,m,nn w Ò,nn b Ò⟩,λz=>by
     rcases z with⟨z,_⟩|⟨s',b',e,m,_⟩
     .cases z
     .injection e with e _;rw[e];exact m⟩
   .refine q Ü Z ⟨λz=>(by cases z),λz=>?_⟩ ((u.new Y).trans C);rcases g.mp z with⟨z,_⟩|⟨s',b',e,_,n1,n2⟩
    .cases z
    .injection e with _ e;injection e with e _;rw[B.mpr λy X=>(g7.mp X).elim (λz=>by rw[z];exact n1) (λz=>by rw[g_.mp z,e];exact n2)] at G;cases G
  .have n5:¬∃s b,r=[s,b]/\s∈oq/\gP w/\gP b:=λU=>by obtain⟨s,b,e,_⟩:=U;subst e;exact S À
   have g:(∃r',i8 (x::"="::w::r) r')↔r=[]/\mX w/\nj w<2 ^ 64:=g.trans ⟨λz=>z.elim id λz=>Ì z n5,.inl⟩;refine⟨_,À,_,_,À,lY o,ñ À _ À (gz (λc5=>?_) (λc5=>?_))⟩;rotate_left
   .refine q Ü O ⟨λz=>(by cases z),λz=>?_⟩ u;obtain⟨rfl,_⟩:=g.mp z;exact Ì À c5
   have c5:=AB c5;have er:r=[]:=sH.mp (by simp only[iN] at c5;lia);refine Ċ 2 o À ⟨w,À,T w Ò,λb Z B C=>Ú (mD (λG=>?_) (λG=>?_))⟩;rotate_left
   .refine q Ü Z ⟨λz=>(by cases z),λz=>?_⟩ (u.trans C);rw[B.mpr (g.mp z).2.1] at G;cases G
   have nb:=B.mp G;have C:=u.trans C;have aa:=C _ _ J;have ag:w.length<=640:=by have:=nb.l20;lia
   obtain⟨M,hM,ak⟩:∃M:Int,(2:Int) ^ pA 64=M/\M=18446744073709551616:=Ú UJ;refine Ċ 2 aa À ⟨w,_,À,xo nb,ag,_,_,À,À,Î Ï Ï Ï,_,_,À,À,?_⟩;rw[hM];refine q _ _ ?_ C;rw[decide_eq_true_iff,g,ak,G0];exact⟨λz=>Î er nb Ã,λz=>by have:=z.2.2;lia⟩
 have ae:∀j,Ö j->x≠"part"->x≠"say"->x≠"give"->x≠"jump"->VE K (ì í Q) [Å l] j:=by
  intro j v n1 n2 n3 n4;have d:=v _ _ J;refine Ċ 0 d À (ñ À _ À (gz (λc=>?_) (λc=>?_)))
  .have e:x="test":=by injection c
   subst e;refine⟨_,À,_,_,À,lY d,ñ À _ À (gz (λk=>?_) (λk=>?_))⟩
   .have k:=AB k;obtain⟨a,y,rfl⟩:=Ky (l:=t) (by simp only[iN] at k;lia);refine Ċ 1 d À ⟨a,À,T a Ò,λb O I u=>Ú (mD (λG=>?_) (λG=>?_))⟩
    .have o:=u _ _ d;refine Ċ 2 o À ⟨y,À,T y Ò,λb3 Z B C=>q b3 Z ?_ ((v.trans u).trans C)⟩;rw[B,Fy];exact⟨λn=>⟨a,y,À,I.mp G,n⟩,λU=>by obtain⟨a',y',e,_,n⟩:=U;injection e with _ e;injection e with e _;rw[e];exact n⟩
    .refine q Ü O ⟨λz=>(by cases z),λz=>?_⟩ (v.trans u);obtain⟨a',y',e,n,_⟩:=Fy.mp z;injection e with e _;rw[I.mpr (by rw[e];exact n)] at G;cases G
   .refine q Ü j ⟨λz=>(by cases z),λz=>?_⟩ v;obtain⟨a',y',rfl,_⟩:=Fy.mp z;exact Ì À k
  .exact aj j v (by
    have n5:x≠"test":=λz=>c (by rw[z]);simp only[G9,g7,mz,or_false,not_or];exact⟨n1,n2,n3,n4,n5⟩)
 have ab:∀j,Ö j->x≠"part"->x≠"say"->x≠"give"->Ie K (ì í Q) [Å l] j:=by
  intro j v n1 n2 n3;have d:=v _ _ J;refine Ċ 0 d À (ñ À _ À (gz (λc=>?_) (λc=>ae j v n1 n2 n3 λz=>c (by rw[z]))));have e:x="jump":=by injection c
  subst e;refine⟨_,À,_,_,À,lY d,ñ À _ À (gz (λk=>?_) (λk=>?_))⟩
  .have k:=AB k;obtain⟨y,rfl⟩:∃y,t=[y]:=Hs.mp (by simp only[iN] at k;lia);refine Ċ 1 d À ⟨y,À,T y Ò,λb O I u=>q b O ?_ (v.trans u)⟩;rw[I,Np];exact⟨λn=>Ą y n,λU=>by obtain⟨y',e,n⟩:=U;injection e with e _;rw[e];exact n⟩
  .refine q Ü j ⟨λz=>(by cases z),λz=>?_⟩ v;obtain⟨y',rfl,_⟩:=Np.mp z;exact Ì À k
 have ah:∀j,Ö j->((∃r,i8 (x::t) r)↔∃a,t=[a]/\gP a)->fZ (oS (fV (gS K) (ÿ (gV K) 0) iC) (å (yi K) f9 (Þ (Ó 0 gA)))) {nx:=Ie K (ì í Q),rt:=Q} [Å l] j:=by
  intro j v g;have d:=v _ _ J;refine⟨_,À,_,_,À,lY d,ñ À _ À (gz (λk=>?_) (λk=>?_))⟩
  .have k:=AB k;obtain⟨y,rfl⟩:∃y,t=[y]:=Hs.mp (by simp only[iN] at k;lia);refine Ċ 1 d À ⟨y,À,T y Ò,λb O I u=>q b O ?_ (v.trans u)⟩;rw[I,g];exact⟨λn=>Ą y n,λU=>by obtain⟨y',e,n⟩:=U;injection e with e _;rw[e];exact n⟩
  .refine q Ü j ⟨λz=>(by cases z),λz=>?_⟩ v;obtain⟨y',rfl,_⟩:=g.mp z;exact Ì À k
 have ai:x≠"part"->VF K (ì í Q) [Å l] H:=by
  intro n1;refine Ċ 0 J À ⟨ka,λp hp=>⟨p,_,À,Í (fR.of fG),À,À,_,À,?_⟩⟩;have s0:Ö (Ā H p [Ä "say",Ä "give"]):=(Ø H).new hp;have e:hU (Ä x) [Ä "say",Ä "give"]=æ (x∈(["say","give"]:Ñ)):=rq x ["say","give"];rw[show(if false=true then ! hU (è x) [Ä "say",Ä "give"] else hU (Ä x) [Ä "say",Ä "give"])=æ (x∈(["say","give"]:Ñ)) from e];refine gz (λc=>?_) (λc=>?_)
  .refine ah _ s0 ?_;rcases g7.mp c with rfl|c
   .exact kfd
   .rw[g_.mp c];exact kcO
  .exact ab _ s0 n1 (λz=>c (by rw[z];simp)) (λz=>c (by rw[z];simp))
 refine Ċ 0 J À (ñ À _ À (gz (λc=>?_) (λc=>ai λz=>c (by rw[z]))));have e:x="part":=by injection c
 subst e;refine⟨_,À,_,_,À,lY J,_,_,À,À,_,À,gz (λk=>?_) (λk=>?_)⟩
 .refine af 1 _ J λD Y=>⟨D,t,À,fG,by simp only[iN] at few;lia,λy X=>T y (by simp[X]),λb O I u=>q b O ?_ (((Ø H).new Y).trans u)⟩;rw[I,Nq];exact⟨λn=>Æ (by simp only[iN] at k;lia) n,λn=>n.2⟩
 .refine q Ü H ⟨λz=>(by cases z),λz=>?_⟩ (Ø H);have:=(Nq.mp z).1;simp only[iN] at k;lia
theorem OP:∀{a b u v:List Nat},a++c::u=b++c::v->c∉a->c∉b->a=b/\u=v
 |[],[],_,_,h,_,_=>by injection h with _ h;exact Æ À h
 |[],y::b,_,_,h,_,e=>by injection h with h _;exact Ì (by rw[h];simp) e
 |x::a,[],_,_,h,d,_=>by injection h with h _;exact Ì (by rw[h];simp) d
 |x::a,y::b,_,_,h,d,e=>by
  injection h with h1 h2;obtain⟨f,g⟩:=OP h2 (λz=>d (by simp[z])) (λz=>e (by simp[z]));exact Æ (by rw[h1,f]) g
theorem N9(l:É Nat):∀m,(lH m).filterMap (l[·]?)=l.take m
 |0=>rfl
 |m+1=>by rw[vO,wD,N9 l m,mq];cases h:l[m]?<;>simp[h]
def kgE(c n:Nat):Builtin.Str.strSliceIndices Ç (Á (c:Int)) 1 n=lH (min c n):=by
 have e:Builtin.Str.strSliceIndices Ç (Á (c:Int)) 1 n=sliceRange ((0:Nat):Int) ((min c n:Nat):Int) 1:=by
  have a:¬((c:Int)<0):=Ã
  have b:max 0 (min (c:Int) (n:Int))=((min c n:Nat):Int):=Ã
  show sliceRange 0 (max 0 (min (if(c:Int)<0 then(c:Int)+n else c) (n:Int))) 1=_;rw[ù a,b];rfl
 rw[e,sliceRange_one];simp
def kby(x:Str)(c:Nat):(Txt.slice x Ç (Á (c:Int))).cps.toList=x.cps.toList.take c:=by
 unfold Txt.slice;rw[kgE];split
 .rename_i h;rw[m5];have:min c x.length=x.length:=by simpa using h
  rw[lO];show x.length<=c;lia
 .have e:(lH (min c x.length)).filterMap (x.cps[·]?)=x.cps.toList.take (min c x.length):=by
   rw[<-N9];congr 1;funext i;rw[uR]
  rw[e];show x.cps.toList.take (min c x.length)=_;rw[show x.length=x.cps.toList.length from(lO ..).symm,<-List.take_eq_take_min]
def FA(x:Str):(∃w r,ą x=("part":Str)::w::r)↔Txt.slice x Ç (Á 5)="part ":=by
 have j:("part ":Str).cps.toList=[112,97,114,116]++[32]:=â
 have i:("part":Str).cps.toList=[112,97,114,116]:=â
 have o:(" ":Str)=⟨#[32]⟩:=â
 have ext:∀{a b:Str},a.cps.toList=b.cps.toList->a=b:=λ{a b} h=>by
  have:a.cps=b.cps:=Ih.mp h;cases a;cases b;simp only at this;rw[this]
 have f:=kby x 5;have c:Str.join " " (ą x)=x:=PySem.StrLaws.join_split x " ";have g:=PySem.StrLaws.split_free x 32;rw[o] at c ⊢;constructor
 .rintro⟨w,r,e⟩;rw[e] at c;apply ext;rw[show(5:Int)=((5:Nat):Int) from À,f,<-c,vP,i,j];rfl
 .intro h;rw[show(5:Int)=((5:Nat):Int) from À] at h;rw[h,j] at f;have s:=w9 x ⟨#[32]⟩;have l:x.cps.toList=[112,97,114,116]++32::x.cps.toList.drop 5:=by
   have:=xW 5 x.cps.toList;rw[<-f] at this;exact this.symm
  cases e:Txt.split x ⟨#[32]⟩ with
  |nil=>exact Ì e s
  |cons p q=>
   rw[e] at c g;have d:=g p Ò;cases q with
   |nil=>
    have n:x=p:=c.symm.trans À;rw[<-n,l] at d;exact Ì Ò d
   |cons w r=>
    have k:=vP 32 p w r;rw[c,l] at k;obtain⟨m,_⟩:=OP k Ï d;exact Î w r (by rw[ext (i.trans m)])
def vr:Ñ->Option Str
 |p::w::_=>if p="part" then Á w else none
 |_=>none
def xf(xs:Ñ):Ñ:=xs.filterMap λx=>vr (ą x)
def ME(w:Str)(r:Ñ):vr (("part":Str)::w::r)=Á w:=by unfold vr;exact if_pos À
def ye{p w:Str}(r:Ñ)(h:p≠"part"):vr (p::w::r)=none:=by unfold vr;exact ù h
def CQ(n:gP x):x≠"part":=λe=>n.no (by rw[e];decide +kernel)
def kcR{ws:List Str}{r:ik}(h:i8 ws r):vr ws=sd r:=by
 cases r with
 |part x c=>obtain⟨rfl,_⟩:=h;exact ME x c
 |num x z=>obtain⟨y,rfl,n,_⟩:=h;exact ye _ (CQ n)
 |op x s a b=>obtain⟨rfl,n,_⟩:=h;exact ye _ (CQ n)
 |call x f d=>obtain⟨rfl,n,_⟩:=h;exact ye _ (CQ n)
 |say a=>obtain⟨rfl,_⟩:=h;exact ye _ â
 |give a=>obtain⟨rfl,_⟩:=h;exact ye _ â
 |_=>obtain⟨y,rfl,_⟩:=h;exact ye _ â
theorem LY:∀{xs:List Str} {a:List ik},readL xs=a.map some->xf xs=iZ a
 |[],[],_=>rfl
 |[],_::_,h=>by cases h
 |_::_,[],h=>by cases h
 |x::xs,r::a,h=>by
  have c:lineOf? (ą x)=Á r:=by injection h
  have d:readL xs=a.map some:=by injection h
  have e:=kcR (FC c);show List.filterMap _ (x::xs)=List.filterMap sd (r::a);rw[uf,uf,e];have b:=LY d;unfold xf iZ at b;rw[b]
def ka1(h:Txt.slice x Ç (Á 5)="part "):∃w r,ą x=("part":Str)::w::r/\vr (ą x)=Á w:=by
 obtain⟨w,r,e⟩:=(FA x).mpr h;exact⟨w,r,e,by rw[e];exact ME w r⟩
def ka0{x:Str}(h:Txt.slice x Ç (Á 5)≠"part "):vr (ą x)=none:=by
 cases e:Txt.split x " " with
 |nil=>rfl
 |cons p q=>
  cases q with
  |nil=>rfl
  |cons w r=>
   refine ye _ λz=>h ((FA x).mp (Î w r ?_));rw[e,z]
def vT{a:Type}{xs:List a}{i:Nat}{y:a}(h:xs[i]?=Á y):xs.take (i+1)=xs.take i++[y]:=by rw[mq,h];rfl
def kbA{K:a_}{l:d_}{xs:List Str}{H:b_}{Q:fS}(f:H l=Ð (xs.map Ê))(j:xs.length<=9000)(p:∀x∈xs,x.length<=90000)
  (q:∀(D:d_) (H':b_),H' D=Ð ((xf xs).map Ê)->Ö H'->Q (Â D) H') :
  i9 [] 1 (i_ K ø) (gB 4) (ð (gS K) (kE (wz K) (fI 4) kH (kB sf)) DZ) (fV ċ (iJ K "str" rH (fI 4) (Þ lF)) gA) [Å l,Ç,Ç,Ç] H Q:=by
 refine È ⟨_,À,l,À,Æ _ (Ù f),λD g=>?_⟩;refine sO (xs:=xs.map Ê) (λi a H'=>∃(o:Option V),a=[Å l,Ç,Ç,Ç,o]/\H' D=Ð ((xf (xs.take i)).map Ê)/\Ö H') ?_ ?_ ?_ ?_
 .exact⟨Ç,À,fG,(Ø H).new g⟩
 .rintro i a H' _ ⟨o,rfl,_,s⟩;exact Ù (s _ _ f)
 .rintro i x a H' m ⟨o,rfl,b,s⟩;obtain⟨y,d,rfl⟩:=vd m;have t:=p y (iS d);show n_ D _ _ _ [Å l,Ç,Ç,Ç,î y] H';refine Õ _ À 5 (Í ⟨y,À,mv (gY Ã),ñ À _ À (gz (λc=>?_) (λc=>?_))⟩)
  .have c:Txt.slice y Ç (Á 5)="part ":=by injection c
   obtain⟨w,r,e,k⟩:=ka1 c;refine⟨_,À,À,y," ",À,À,â,(by have:=gY (n:=y.length+3) Ã;lia),λL h=>?_⟩;refine m8 (i:=1) (ws:=ą y) (w:=w) fG (by rw[e];rfl) ⟨(xf (xs.take i)).map Ê,(Ø H').new h _ _ b,gY ?_,_,À,?_,?_⟩
   .rw[fP];have:=Hn (λx=>vr (ą x)) (xs.take i);rw[kz] at this;unfold xf;lia
   .rw[fG,vT d];unfold xf;rw[wD,uf,k,g8];rfl
   .exact kR (s.new h) g
  .have c:Txt.slice y Ç (Á 5)≠"part ":=λz=>c (by rw[z]);refine⟨_,À,?_,s⟩;rw[vT d];unfold xf at b ⊢;rw[wD,uf,ka0 c];simpa using b
 .rintro a H' ⟨o,_,b,s⟩;rw[fP,vL] at b;exact q D H' b s
def O8{xs:List Str}{m:Nat}{x:Str}(h:xs[m]?=Á x):(readL xs)[m]?=Á (lineOf? (ą x)):=by
 unfold readL;rw[i3,h];rfl
def YY(h:i8 (w::t) r):kn r=æ (w="part"):=by
 by_cases c:w="part"
 .subst c;have k:=Aw h â;cases r with
  |part x a=>rw[decide_eq_true À];rfl
  |_=>exact Ì k Đ
 .rw[decide_eq_false c];cases r with
  |part x a=>obtain⟨e,_⟩:=h;injection e with e _;exact Ì e c
  |_=>rfl
def kaY{K:a_}{l D:d_}{xs:List Str}{H:b_}{Q:fS}(P:H l=Ð (xs.map Ê))(X:xs.length<=9000)(sh:∀x∈xs,x.length<=90000)
  (q:∀(n:Nat) (H':b_),oE (m9 (readL xs)) n->Ö H'->Q (Ë (n:Nat)) H')
  (k:∀(h a:Option V) (H':b_),(∀n,¬m9 (readL xs) n)->Ö H'->IW K (ì í Q) [Å l,Å D,h,a] H') :
  IZ K (ì í Q) [Å l,Å D,Ç,Ç] H:=by
 refine⟨_,À,_,_,À,lY P,_,À,Ã,Ã,sP (λi f H'=>∃h a,f=[Å l,Å D,h,a]/\(∀n,n<i->¬m9 (readL xs) n)/\Ö H') ⟨_,_,À,λn z=>Ì z (mH _),Ø H⟩ ?_ ?_⟩
 .rintro m f j G ⟨h,a,rfl,no,s⟩;have G:m<xs.length:=by simpa using G
  have U:(0:Int)+(m:Int)=((m:Nat):Int):=Ã
  have p:xs[m]?=Á xs[m]:=gF G;generalize xs[m]=x at p;have lx:=sh x (iS p);have E:=s _ _ P;show K8 K _ [Å l,Å D,Á (Ë (0+(m:Int))),a] j;rw[U];refine Õ _ À _ (m8 (i:=m) E p ⟨À,x," ",À,À,â,(by have:=gY (n:=x.length+3) Ã;lia),λL nL=>?_⟩);have S:=s.new (o:=.lst ((ą x).map Ê)) nL;have B:Ĉ j L ((ą x).map Ê) L=Ð ((ą x).map Ê):=fG;generalize upd j L (.lst ((Txt.split x " ").map V.str))=T at S B ⊢;show K7 K _ [Å l,Å D,gm m,Å L] T;have Y:Ô (ą x)<=99000:=by have:=Fu x " ";lia
  have sw:∀y∈Txt.split x " ",y.length<=99000:=λy hy=>by have:=Kl hy;lia
  have g:=O8 p;obtain⟨w,t,v⟩:∃w t,Txt.split x " "=w::t:=by
   cases e:Txt.split x " " with
   |nil=>exact Ì e (w9 x " ")
   |cons w t=>exact Î w t À
  refine⟨_,À,L,_,À,B,by rw[v];simp,Y,sw,λb M O d=>Ú ?_⟩;have C:=d _ _ B;have d:=S.trans d;cases b with
  |false=>
   refine lC (lC ?_);refine Ú (q m M ⟨È ?_,no⟩ d);rw[g,Ep λr z=>by cases O.mpr ⟨r,z⟩]
  |true=>
   obtain⟨r,J⟩:=O.mp À;rw[BR J] at g;have I:=YY (by rw[v] at J;exact J);refine i4 (Ú (ñ À _ À (gz (λc=>?_) (λc=>?_))))
   .have c:m=0:=by have:=AB c;lia
    subst c;refine Ú (m8 (i:=0) (ws:=ą x) (w:=w) C (by rw[v];rfl) (ñ À _ À (nN (λu=>?_) (λu=>?_))))
    .refine Ú (q 0 M ⟨Í ⟨À,r,g,?_⟩,no⟩ d);rw[I,decide_eq_false λz=>u (by rw[z])]
    .have e:w="part":=by injection u
     rw[decide_eq_true e] at I;refine⟨_,_,À,λn Z z=>?_,d⟩;obtain rfl:n=0:=Ã
     rcases z with z|⟨_,r',z,R⟩
     .rw[g] at z;cases z
     .rw[g] at z;cases z;rw[I] at R;cases R
   .refine⟨_,_,À,λn Z z=>?_,d⟩;by_cases e:n<m
    .exact no n e z
    obtain rfl:n=m:=Ã
    rcases z with z|⟨z,_⟩
    .rw[g] at z;cases z
    .subst z;exact c À
 .rintro f j ⟨h,a,rfl,no,s⟩;refine k h a j (λn z=>no n ?_ z) s;rcases z with z|⟨rfl,r,z,_⟩
  .have:=(gR.mp z).1;simpa[readL] using this
  .have:=(gR.mp z).1;simpa[readL] using this
def kjD(ws:Ñ):nX (ws.map Ê) (Á 2) (Á 3)=((ws.drop 2).take 1).map Ê:=by
 unfold nX;rw[show(2:Int)=((2:Nat):Int) from À,show(3:Int)=((3:Nat):Int) from À,HT.sIx_nat,HT.sIx_nat,fP]
 match ws with
 |[]=>rfl
 |[a]=>rfl
 |[a,b]=>rfl
 |a::b::c::r=>
  have d:min 2 (Ô (a::b::c::r))=2:=by simp only[iN];lia
  have e:min 3 (Ô (a::b::c::r))=3:=by simp only[iN];lia
  rw[d,e];rfl
def khe(ws:Ñ):mE (((ws.drop 2).take 1).map Ê) [Ä "call"]=æ (ws[2]?=Á ("call":Str)):=by
 match ws with
 |[]=>rfl
 |[a]=>rfl
 |[a,b]=>rfl
 |a::b::c::r=>
  show mE [Ä c] [Ä "call"]=æ (Á c=Á ("call":Str));have e:mE [Ä c] [Ä "call"]=ow (Ä c) (Ä "call"):=by simp[mE]
  rw[e];by_cases h:c="call"
  .subst h;rw[decide_eq_true À];decide +kernel
  .rw[decide_eq_false (λz=>h (by injection z))];simp[ow,h]
def kcp(h:i8 ws r)(c:ws[2]?=Á ("call":Str))(n:ws[0]?≠Á ("part":Str)):∃x f d,r=.call x f d/\ws[0]?=Á x/\ws[3]?=Á f:=by
 cases r with
 |part x j=>obtain⟨rfl,_⟩:=h;exact Ì À n
 |num x z=>
  obtain⟨y,rfl,_,e,_⟩:=h;have:y="call":=by simpa using c
  exact Ì e (by rw[this];exact CP)
 |op x s a b=>
  obtain⟨rfl,_,_,g,_⟩:=h;have:a="call":=by simpa using c
  exact Ì g (by rw[this];exact BN)
 |call x f d=>obtain⟨rfl,_⟩:=h;exact⟨x,f,d,À,À,À⟩
 |jump i=>obtain⟨y,rfl,_⟩:=h;simp at c
 |test a i=>
  obtain⟨y,rfl,_,e,_⟩:=h;have:y="call":=by simpa using c
  exact Ì e (by rw[this];exact CP)
 |_=>obtain⟨rfl,_⟩:=h;simp at c
def kbh{K:a_}{l D:d_}{xs:List Str}{b:List ik}{H:b_}{Q:fS}{u g:Option V}(hl:H l=Ð (xs.map Ê))(hD:H D=Ð ((iZ b).map Ê))(af:xs.length<=9000)(sh:∀x∈xs,x.length<=90000)(hP:readL xs=b.map some)
  (q:∀(n:Nat) (H':b_),oE (oC b) n->Ö H'->Q (Ë (n:Nat)) H') (k:∀(H':b_),(∀n,¬oC b n)->Ö H'->Q (Ë (-1)) H') :
  IW K (ì í Q) [Å l,Å D,u,g] H:=by
 refine⟨_,À,_,_,À,lY hl,_,À,Ã,Ã,sP (λi B H'=>∃u g,B=[Å l,Å D,u,g]/\(∀n,n<i->¬oC b n)/\Ö H') ⟨_,_,À,λn z=>Ì z (mH _),Ø H⟩ ?_ ?_⟩
 .rintro m B E hm ⟨u,g,rfl,no,Z⟩;have hm:m<xs.length:=by simpa using hm
  have e0:(0:Int)+(m:Int)=((m:Nat):Int):=Ã
  have X:xs[m]?=Á xs[m]:=gF hm;generalize xs[m]=x at X;have lx:=sh x (iS X);have ab:=Z _ _ hl;show K6 K _ [Å l,Å D,Á (Ë (0+(m:Int))),g] E;rw[e0];refine Õ _ À _ (m8 (i:=m) ab X ⟨À,x," ",À,À,â,(by have:=gY (n:=x.length+3) Ã;lia),λL nL=>?_⟩);have s2:=Z.new (o:=.lst ((ą x).map Ê)) nL;have S:Ĉ E L ((ą x).map Ê) L=Ð ((ą x).map Ê):=fG;generalize upd E L (.lst ((Txt.split x " ").map V.str))=O at s2 S ⊢;show K3 K _ [Å l,Å D,gm m,Å L] O;obtain⟨r,T,Y⟩:∃r,b[m]?=some r/\i8 (Txt.split x " ") r:=by
   have h:=O8 X;rw[hP,i3] at h;cases e:b[m]? with
   |none=>rw[e] at h;cases h
   |some r=>
    rw[e] at h;have h:Á r=lineOf? (ą x):=by injection h
    exact Ą r (FC h.symm)
  generalize Txt.split x " "=d at S Y;have go:∀(j:b_) (L':d_),Ö j->¬oC b m->∃u g,[Á (V.ref l),Å D,gm m,Å L']=[Å l,Å D,u,g]/\(∀n,n<m+1->¬oC b n)/\Ö j:=λj L' s3 nc=>
   ⟨_,_,À,λn hn z=>by
    by_cases e:n<m
    .exact no n e z
    .obtain rfl:n=m:=Ã
     exact nc z,s3⟩
  refine⟨_,À,2,À,3,À,È (Í (È ⟨L,_,À,Ù S,λM J=>?_⟩))⟩;rw[kjD];have s3:=s2.new (o:=.lst (((d.drop 2).take 1).map Ê)) J;have G:Ĉ O M (((d.drop 2).take 1).map Ê) M=Ð (((d.drop 2).take 1).map Ê):=fG;have I:=(Ø O).new (o:=.lst (((d.drop 2).take 1).map Ê)) J _ _ S;generalize upd O M (.lst (((d.drop 2).take 1).map V.str))=j at s3 G I ⊢;have fl:(((d.drop 2).take 1).map Ê).all oF=true:=by
   rw[uT];intro v hv;obtain⟨y,_,rfl⟩:=kA.mp hv;rfl
  refine Æ kK (λp hp=>Í (Í (Í ⟨M,p,_,_,À,À,Ù ((Ø j).new hp _ _ G),Ù fG,fl,À,_,À,?_⟩)));have C:=s3.new (o:=.lst [Ä "call"]) hp;have s:=(Ø j).new (o:=.lst [Ä "call"]) hp _ _ I;generalize upd j p (.lst [.str "call"])=P at C s ⊢;have aa:=C _ _ hD;rw[show(if false=true then ! mE (((d.drop 2).take 1).map Ê) [Ä "call"] else mE (((d.drop 2).take 1).map Ê) [Ä "call"])=æ (d[2]?=Á ("call":Str)) from khe d];refine gz (λc=>?_) (λc=>?_);rotate_left
  .refine i4 (go P L C ?_);rintro⟨a,f,R,e,_⟩;rw[T] at e;cases e;obtain⟨e,_⟩:=Y;exact c (by rw[e];rfl)
  obtain⟨w,U⟩:∃w,d[0]?=some w:=by
   cases d with
   |nil=>simp at c
   |cons w t=>exact Æ w À
  refine Ċ 0 s U (ñ À _ À (nN (λc2=>?_) (λc2=>?_)));rotate_left
  .refine i4 (go P L C ?_);rintro⟨a,f,R,e,_⟩;rw[T] at e;cases e;obtain⟨e,n,_⟩:=Y;rw[e] at U;have:a=w:=by simpa using U
   have e2:w="part":=by injection c2
   exact CQ n (by rw[this,e2])
  obtain⟨a,f,R,rfl,_,h3⟩:=kcp Y c (by rw[U];intro z;exact c2 (by injection z with z;rw[z]));refine Ċ 3 s h3 ⟨_,À,D,_,À,È (Ù aa),À,?_,_,À,?_⟩
  .rw[uT];intro v hv;obtain⟨y,_,rfl⟩:=kA.mp hv;rfl
  rw[show(if true=true then ! hU (è f) ((iZ b).map Ê) else hU (è f) ((iZ b).map Ê))=! æ (f∈iZ b) from by rw[<-rq];rfl];refine nN (λiy=>?_) (λiy=>?_)
  .exact Ú (q m P (Æ ⟨a,f,R,T,iy⟩ no) C)
  .refine go P L C ?_;rintro⟨a',f',ae,e,nf⟩;rw[T] at e;cases e;exact nf iy
 .rintro B E ⟨u,g,rfl,no,Z⟩;refine Ú (k E (λn z=>no n ?_ z) Z);obtain⟨a,f,R,e,_⟩:=z;have h1:=(gR.mp e).1;have h2:Ô (readL xs)=b.length:=by rw[hP,fP]
  have h3:Ô (readL xs)=xs.length:=by unfold readL;rw[fP]
  simp only[sL,Int.sub_zero];lia
theorem On:∀{P:List (Option ik)},(∀n:Nat,P[n]?≠Á Ç)->∃a:List ik,P=a.map some
 |[],_=>Æ [] À
 |none::_,h=>Ì À (h 0)
 |some r::P,h=>by
  obtain⟨a,e⟩:=On (P:=P) λn=>h (n+1);exact⟨r::a,by rw[e];rfl⟩
def kbF{K:a_}{vs:List V}{H:b_}{Q:fS}{E:f_}(h:I' K vs H Q E):Fc K (ì í Q) (gW Kr vs) H:=by
 obtain⟨l,v,rfl,g,few,o,q⟩:=h;unfold Fc iA mB;refine kbA (H:=H) g few o λD p r k=>?_;show IZ K _ [Å l,Å D,Ç,Ç] p;refine kaY (k _ _ g) few o (λn b i a=>q _ b (Í (Ą n (È i))) (k.trans a)) λt u b no a=>?_;obtain⟨j,e⟩:=On λn z=>no n (È z);have f:=a _ _ r;have a:=k.trans a;have d:b D=Ð ((iZ j).map Ê):=by rw[<-LY e];exact f
 exact kbh (a _ _ g) d few o e (λn c i m=>q _ c (Í (Ą n (Í ⟨no,j,e,i⟩))) (a.trans m)) λc s m=>q _ c (È ⟨À,j,e,no,s⟩) (a.trans m)
def kJ.append(h:kJ a)(h':kJ b):kJ (a++b):=by
 unfold kJ at *;show 10∉(a.cps++b.cps).toList;rw[vH,iT];exact λz=>z.elim h h'
def kJ.split(h:kJ x)(c:Nat)(f:w∈Txt.split x ⟨#[c]⟩):kJ w:=by
 intro z;have d:∀{a:List Str} {w:Str},w∈a->10∈w.cps.toList->10∈(Str.join ⟨#[c]⟩ a).cps.toList:=by
  intro a
  induction a with
  |nil=>intro w h;cases h
  |cons x r g=>
   intro w h b;cases r with
   |nil=>
    have e:w=x:=by simpa using h
    subst e;exact b
   |cons y r=>
    rw[vP];rcases g7.mp h with rfl|h
    .exact mP _ b
    .exact mO _ (my _ (g h b))
 have:=d f z;rw[PySem.StrLaws.join_split] at this;exact h this
def o_(b:Nat)(ys:Ñ):Prop:=∀y∈ys,kJ y/\y.length<=b
def o_.app(h:o_ b xs)(h':o_ b ys):o_ b (xs++ys):=λy a=>(iT.mp a).elim (h y) (h' y)
def AY(h:ys.all (λy=>! æ (10∈y.cps.toList)&&æ (y.length<=c))=true)(l:c<=b):o_ b ys:=λy a=>by
 have:=uT.mp h y a;simp only[Bool.and_eq_true,Bool.not_eq_true',decide_eq_false_iff_not,decide_eq_true_eq] at this;exact Æ this.1 (mC this.2 l)
def vz{K:a_}{H:b_}{a b:d_}{xs ys:List Str}{Q:fS}(d:H a=Ð (xs.map Ê))(e:H b=Ð (ys.map Ê))(f:xs.length+ys.length<=100000)(q:∀(p:d_) (H':b_),H p=none->H' p=Ð ((xs++ys).map Ê)->Ö H'->Q (Â p) H'):hZ K (Â a) (Â b) H Q:=
 Í (Í (È ⟨a,b,_,_,À,À,d,e,mv (gY (by rw[fP,fP];exact f)),λp c=>q p _ c (by rw[fG,g8]) ((Ø H).new c)⟩))
def KB(h:a.length+b.length<=100000)(q:Q (Ä (a++b)) H):hZ K (Ä a) (Ä b) H Q:=Í (È ⟨a,b,À,À,mv (gY h),q⟩)
abbrev AZ:Ñ:=["","aaaaaaaaa",Txt.mul "1" 21,"18446744073709551616","99999999999999999999"]
def MU{K:a_}{w:Str}{cs:List Str}{f:Str->Str}{t:kF}{m:gp}{st:d_}{o:Option V}{H:b_}{Q:fS}(r:∀R,R (cs.map Ê) H->t [Å st,î w,o] H R)(n:cs.length<=100)
  (d:∀c∈cs,∀(H':b_) (R:fS),R (Ä (f c)) H'->m [Å st,î w,o,î c] H' R)
  (q:∀(D:d_) (H':b_),H' D=Ð ((cs.map f).map Ê)->Ö H'->Q (Â D) H') :
  i9 [] 1 (i_ K (h_ t)) (gB 3) kT m [Å st,î w,o] H Q:=by
 refine È (r _ ⟨mv (gY (by rw[fP];lia)),λp v=>⟨p,À,Æ _ (Ù fG),λD e=>?_⟩⟩);have l:Ö (Ý H p (cs.map Ê)):=(Ø H).new v;have h:Ĉ H p (cs.map Ê) p=Ð (cs.map Ê):=fG;generalize upd H p (.lst (cs.map V.str))=g at l h e ⊢;refine sO (xs:=cs.map Ê) (λi a H'=>∃(k:Option V),a=[Å st,î w,o,k]/\H' D=Ð (((cs.take i).map f).map Ê)/\gJ g H') ?_ ?_ ?_ ?_
 .exact⟨Ç,À,fG,(Ø g).new e⟩
 .rintro i a H' _ ⟨_,_,_,s⟩;exact Ù (s _ _ h)
 .rintro i x a H' u ⟨k,rfl,b,s⟩;obtain⟨y,j,rfl⟩:=vd u;refine d y (iS j) H' _ ⟨_,b,gY ?_,_,À,?_,kR s e⟩
  .rw[fP,fP,kz];lia
  .rw[fG,vT j];simp
 .rintro a H' ⟨_,_,b,s⟩;rw[fP,vL] at b;exact q D H' b (l.trans s)
def XW{K:a_}{vs:List V}{H:b_}{Q:fS}{E:f_}(h:Bz K vs H Q E):Ig K (ì í Q) (gW D9 vs) H:=by
 obtain⟨g,w,k,rfl,S,hk,lw,T,q⟩:=h;have wl:∀{f:Str->Str} {cs:List Str},(∀c∈cs,kJ (f c)/\Ô (f c)<=w.length+21)->o_ (w.length+21) (cs.map f):=λhf y hy=>by
  obtain⟨c,a,rfl⟩:=kA.mp hy;exact hf c a
 have sl:∀{cs:List Str},o_ 2 cs->∀c∈cs,(kJ (w++c)/\Ô (w++c)<=w.length+21)/\kJ (c++w)/\Ô (c++w)<=w.length+21:=λa c m=>by
  have:=a c m;have e1:=Ag w c;have e2:=Ag c w;exact⟨Æ (T.append this.1) Ã,this.1.append T,Ã⟩
 have hY:o_ 2 ["A","1","_","_0"]:=AY (c:=2) â ï;have J:o_ 2 ["0","-","+","1_"]:=AY (c:=2) â ï;unfold Ig iA mB fV;show i9 [] 1 (i_ K (h_ _)) (gB 3) kT _ [Å g,î w,Ç] H _;refine MU (cs:=["A","1","_","_0"]) (f:=λc=>w++c) (λR r=>r) Ï (λc a H' R r=>Õ _ À _ (KB (by have:=(hY c a).2;lia) r)) λD1 H1 h1 U=>?_;show i9 [] 1 (i_ K (h_ _)) (gB 3) kT _ [Å g,î w,Ç] H1 _;refine MU (cs:=["0","-","+","1_"]) (f:=λc=>c++w) (λR r=>r) Ï (λc a H' R r=>Õ _ À _ (KB (by have:=(J c a).2;lia) r)) λD2 H2 h2 x=>?_;have w1:=wl λc a=>(sl hY c a).1;have w2:=wl λc a=>(sl J c a).2;refine vz (x _ _ h1) h2 (by show 4+4<=100000;decide) λD3 j _ M X=>?_;have w3:=w1.app w2;have t:Ô (Az (λc=>w++c) ["A","1","_","_0"]++Az (λc=>c++w) ["0","-","+","1_"])=8:=rfl;generalize Az (λc=>w++c) ["A","1","_","_0"]++Az (λc=>c++w) ["0","-","+","1_"]=D at M w3 t;show Uc K _ [Å g,î w,Å D3] j;refine⟨_,À,_,_,À,À,Î Ï (λ_ _=>â) (λ_ _=>â),yh,λp np=>?_⟩;have B:gJ j (Ý j p (AZ.map Ê)):=(Ø j).new np;refine vz (xs:=D) (ys:=AZ) (B _ _ M) fG (by rw[t];decide) λD5 l _ O Y=>?_;have w5:=w3.app (ys:=AZ) (AY (c:=21) â Ã);have u:Ô (D++AZ)=13:=by rw[ie,t];rfl
 generalize D++AZ=G at O w5 u;show Ub K _ [Å g,î w,Å D5] l;refine⟨_,À,À,_,_,À,À,â,(â),λp6 v=>?_⟩;refine vz (xs:=G) ((Ø l).new v _ _ O) fG (by rw[u];decide +kernel) λD7 H7 L P s7=>?_;have C:=w5.app (ys:=ą "part call say + = +- *< ab zz 0") (AY (c:=21) â Ã);have l7:Ô (G++ą "part call say + = +- *< ab zz 0")=23:=by rw[ie,u];decide +kernel
 generalize G++Txt.split "part call say + = +- *< ab zz 0" " "=y7 at P C l7;have Z:Ö H7:=((((U.trans x).trans X).trans B).trans Y).trans (((Ø l).new v).trans s7);refine⟨_,À,g,23,k,À,S.same Z,Ã,Ï,Ï,λd H8 d0 d1 S8 I=>?_⟩;obtain⟨aa,i⟩:=(S.same (((((U.trans x).trans X).trans B).trans Y).trans ((Ø l).new v))).lst;have n7:D7≠g:=λz=>by rw[z,i] at L;cases L
 have s:d.toNat<y7.length:=Ã
 refine ke (Ù (I _ _ n7 P)) d0 (Cr (gF s)) (q _ (k+1) H8 (C _ (nE s)).1 (C _ (nE s)).2 S8 ï (λb o n e=>I b o n (Z b o e)))
def mh(ws:Ñ):Nat:=(ws.map (·.length)).sum
def Ax(a b:Ñ):mh (a++b)=mh a+mh b:=by unfold mh;rw[g8,IJ]
theorem FR(c:Nat):∀(x:Str) (r:List Str),Ô (Str.join ⟨#[c]⟩ (x::r))+1=mh (x::r)+Ô (x::r)
 |x,[]=>by show x.length+1=(x.length+0)+1;rfl
 |x,y::r=>by
  have a:=FR c y r;have e:Ô (Str.join ⟨#[c]⟩ (x::y::r))=x.length+(Ô (Str.join ⟨#[c]⟩ (y::r))+1):=by
   have h:=congrArg tG (vP c x y r);rw[ie,iN,lO,lO,lO] at h;exact h
  rw[e,a];show x.length+(mh (y::r)+Ô (y::r))+1=(x.length+mh (y::r))+(Ô (y::r)+1);lia
def BZ(x:Str):mh (ą x)+Ô (ą x)=x.length+1:=by
 have h:=PySem.StrLaws.join_split x " ";rw[uB] at h ⊢;cases e:Txt.split x ⟨#[32]⟩ with
 |nil=>exact Ì e (w9 _ _)
 |cons a r=>
  rw[e] at h;rw[<-FR 32 a r,h]
def E1(ws:Ñ):Ô (Txt.join " " ws)<=mh ws+ws.length:=by
 show Ô (Builtin.Str.glued " " ws)<=_;rw[StrLaws.glued_eq_join,uB];cases ws with
 |nil=>exact lu _
 |cons a r=>have:=FR 32 a r;lia
def EK(h:∀w∈ws,kJ w):kJ (Txt.join " " ws):=by rw[uB];exact LR Ï h
def Nh(h:ws≠[]):nX (ws.map Ê) Ç (Á (-1))=(ws.take (ws.length-1)).map Ê:=by
 have a:0<ws.length:=sJ.mpr h;unfold nX;have e:HT.sIx (Ô (ws.map Ê)) (Ô (ws.map Ê)) (Á (-1))=ws.length-1:=by
  rw[fP];show(if(-1:Int)<0 then((-1:Int)+(ws.length:Int)).toNat else min (-1:Int).toNat ws.length)=ws.length-1;rw[if_pos Ï];lia
 rw[e,HT.sIx_none,Ef,Nat.sub_zero,uY]
def Rk(h:ws[i]?=Á w)(b:Nat)(d:r.length<=w.length+b):mh (ws.take i++[r]++ws.drop (i+1))<=mh ws+b/\Ô (ws.take i++[r]++ws.drop (i+1))=ws.length:=by
 obtain⟨c,e⟩:=gR.mp h;constructor
 .have a:mh ws=mh (ws.take i)+(w.length+mh (ws.drop (i+1))):=by
   conv=>lhs;rw[<-xW i ws,Hq c,Ax,e]
   rfl
  rw[Ax,Ax,a];have:mh [r]=r.length:=rfl;lia
 .rw[ie,ie,kz,tu];show min i ws.length+1+_=_;lia
def o_.snoc(h:o_ b xs)(n:kJ y)(l:y.length<=b):o_ b (xs++[y]):=h.app λz a=>by rw[g_.mp a];exact Æ n l
def Pm{K:a_}{st L D:d_}{x:Str}{ws ys:List Str}{i k:Nat}{w:Str}{H:b_}{E:sW}{t:e_}(S:iR K H st k)(hk:k<=800002)(y:H L=Ð (ws.map Ê))(hD:H D=Ð (ys.map Ê))(nL:L≠st)(nD:D≠st)(O:L≠D)(J:ws[i]?=Á w)
  (aa:ys.length<=10) (P:∀w∈ws,kJ w) (sh:mh ws+ws.length<=9001)
  (q:∀(r:Str) (k':Nat) (H':b_),kJ r->r.length<=mh ws+ws.length+21->iR K H' st k'->k'<=k+1->H' L=Ð (ws.map Ê)->H' D=Ð ((ys++[r]).map Ê)->(∀b o,b≠st->b≠D->H b=Á o->H' b=Á o)->t E [Å st,î x,Å L,gm i,Å D] H') :
  iA (lS (iJ K "list" m7 (fI 4) (Þ (iJ K "str" (m_ K) lF (Þ (fV (hZ K) (fV (hZ K) (kE (lh K) (fI 2) kH (kB (fI 3))) (h_ (Þ (å (Bz K) f9 (ç ø (Ó 2 (fI 3))))))) (kE (lh K) (fI 2) (kB (ô (hZ K) 3 gA)) kH))))))) t E [Å st,î x,Å L,gm i,Å D] H:=by
 obtain⟨hi,e⟩:=gR.mp J;have nw:kJ w:=by rw[<-e];exact P _ (nE hi)
 have lw:w.length<=mh ws:=by
  have e2:mh ws=mh (ws.take i)+(w.length+mh (ws.drop (i+1))):=by
   conv=>lhs;rw[<-xW i ws,Hq hi,Ax,e]
   rfl
  lia
 refine⟨_,À,È ⟨À,_,Ù hD⟩,À,_,À,_,À,_,À,È ⟨L,_,À,Ù y,λp Q=>?_⟩⟩;rw[vW,<-uY];have d:Ö (Ý H p ((ws.take i).map Ê)):=(Ø H).new Q;have hp:Ĉ H p ((ws.take i).map Ê) p=Ð ((ws.take i).map Ê):=fG;generalize upd H p (.lst ((ws.take i).map V.str))=H1 at d hp ⊢;refine⟨_,À,_,À,_,À,m8 (d _ _ y) J ⟨st,w,k,À,S.same d,Ã,Ã,nw,λr k2 u nr lr S2 M s=>Æ kK (λU R=>?_)⟩⟩;obtain⟨yl,I⟩:=S.lst;have j:p≠st:=λz=>by rw[z,I] at Q;cases Q
 have B:=s p _ j hp;have s3:gJ u (Ý u U ([r].map Ê)):=(Ø u).new R;have C:Ĉ u U ([r].map Ê) U=Ð ([r].map Ê):=fG;refine vz (xs:=ws.take i) (ys:=[r]) (s3 _ _ B) C (by rw[kz];show _+1<=_;lia) λp4 f ab G s4=>?_;have L2:=s L _ nL (d _ _ y);have m:=s3.trans s4;refine Õ _ À _ (È ⟨_,_,À,À,_,À,È ⟨L,_,À,Ù (m _ _ L2),λv T=>?_⟩⟩);rw[show((i:Nat):Int)+1=((i+1:Nat):Int) from Ã,v5];have Y:gJ f (Ý f v ((ws.drop (i+1)).map Ê)):=(Ø f).new T;have g:Ĉ f v ((ws.drop (i+1)).map Ê) v=Ð ((ws.drop (i+1)).map Ê):=fG;generalize upd f v (.lst ((ws.drop (i+1)).map V.str))=H5 at Y g ⊢;obtain⟨X,l⟩:=Rk J 21 lr;refine vz (Y _ _ G) g (by rw[<-ie,l];lia) λp6 H6 _ h s6=>?_;have a:=(m.trans Y).trans s6;generalize hv:ws.take i++[r]++ws.drop (i+1)=n at h X l;have Z:=s D _ nD (d _ _ hD);have jl:=E1 n;have nv:∀w∈n,kJ w:=λz c=>by
  rw[<-hv] at c;rcases iT.mp c with c|c
  .rcases iT.mp c with c|c
   .exact P _ (vJ c)
   .rw[g_.mp c];exact nr
  .exact P _ (Bs c)
 refine⟨_,p6,n,À,À,Ù h,?_,D,_,_,À,À,a _ _ Z,gY (by rw[fP];lia),?_⟩
 .show mh n+n.length*1<=_;lia
 .refine q _ k2 _ (EK nv) Ã ((S2.same a).mono .upd_at (a _ _ Z) (Ne.symm nD)) M ?_ ?_ λb o n1 n2 hb=>?_
  .rw[fM O];exact a _ _ L2
  .rw[fG,g8];rfl
  .rw[fM n2];exact a _ _ (s b _ n1 (d _ _ hb))
abbrev A0:Ñ:=["zz = call zz","part","give","zz = zz","zz = zz + zz","jump 99999999999999999999","zz = 7"]
def Dm(h:(! æ (10∈y.cps.toList))=true):kJ y:=by
 simp only[Bool.not_eq_true',decide_eq_false_iff_not] at h;exact h
def XR{K:a_}{vs:List V}{H:b_}{Q:fS}{E:f_}(h:HZ K vs H Q E):VG K (ì í Q) (gW Vg vs) H:=by
 obtain⟨e,x,k,rfl,S,hk,lx,nx,q⟩:=h;have wl:=BZ x;have U:∀w∈Txt.split x " ",kJ w:=by rw[uB];exact λw t=>nx.split 32 t
 have ne:ą x≠[]:=w9 _ _;refine⟨_,À,À,x," ",À,À,â,(by have:=gY (n:=x.length+3) Ã;lia),λL T=>?_⟩;show TL K _ [Å e,î x,Å L,Ç,Ç] _;generalize Txt.split x " "=a at wl U ne ⊢;have hL:Ĉ H L (a.map Ê) L=Ð (a.map Ê):=fG;have B1:hI e H (Ý H L (a.map Ê)):=(hI.refl e H).new T;have S1:=S.new (o:=.lst (a.map Ê)) T;obtain⟨yl,ae⟩:=S.lst;have f:L≠e:=λz=>by rw[z,ae] at T;cases T
 generalize upd H L (.lst (a.map V.str))=H1 at hL B1 S1 ⊢;have ao:0<a.length:=sJ.mpr ne;refine⟨_,À,_,À,_,_,À,lY hL,e,(a.length:Nat),k,À,S1,Ã,Ã,Ã,λd g d0 d1 S2 B2=>?_⟩;show TK K _ [Å e,î x,Å L,iX d,Ç] g;obtain⟨i,rfl⟩:∃i:Nat,d=(i:Nat):=Æ d.toNat Ã;have hi:i<a.length:=Ã
 have t:a[i]?=Á a[i]:=gF hi;have m:=B2 L _ f hL;have ls:(" ":Str).length=1:=â
 have l2:("  ":Str).length=2:=â
 have l0:(" 0":Str).length=2:=â
 have n1:kJ " ":=Dm â;have n2:kJ "  ":=Dm â;have n0:kJ " 0":=Dm â;refine⟨_,À,_,_,À,À,mv (gY Ã),_,À,_,_,À,À,mv (gY Ã),_,À,x,À,Ã,λr hr lr=>Ú (KB Ã ⟨À,_,À,1,À,_,À,È ⟨L,_,À,Ù m,λp np=>?_⟩⟩)⟩;rw[Nh ne];have X:gJ g (Ý g p ((a.take (a.length-1)).map Ê)):=(Ø g).new np;have ag:mh (a.take (a.length-1))<=mh a:=by
  have:=Ax (a.take (a.length-1)) (a.drop (a.length-1));rw[xW] at this;lia
 have tl:Ô (a.take (a.length-1))<=a.length:=by rw[kz];lia
 have jl:=E1 (a.take (a.length-1));refine⟨_,p,a.take (a.length-1),À,À,Ù fG,?_,D0,λD G=>?_⟩
 .show mh (a.take (a.length-1))+Ô (a.take (a.length-1))*(" ":Str).length<=_;rw[ls];lia
 have jn:kJ (Txt.join " " (a.take (a.length-1))):=EK λw t=>U _ (vJ t);generalize Txt.join " " (a.take (a.length-1))=j at jl jn ⊢;show TJ K _ [Å e,î x,Å L,gm i,Å D] (Ý _ D (Az Ê [" "++x,x++" ",r,"",x++" 0",j]));have e1:=Ag " " x;have e2:=Ag x " ";have e3:=Ag x " 0";have w0:o_ (x.length+30) [" "++x,x++" ",r,"",x++" 0",j]:=λy hy=>by
  simp only[g7,mz,or_false] at hy;rcases hy with rfl|rfl|rfl|rfl|rfl|rfl
  .exact Æ (n1.append nx) Ã
  .exact Æ (nx.append n1) Ã
  .exact Æ (λz=>(hr _ z).elim nx n2) Ã
  .exact⟨Dm â,lu _⟩
  .exact Æ (nx.append n0) Ã
  .exact Æ jn Ã
 generalize af:[" "++x,x++" ",r,"",x++" 0",j]=ys at w0 ⊢;have y6:ys.length=6:=by rw[<-af];rfl
 have l:D≠e:=λz=>by
  obtain⟨aq,B⟩:=(S2.same X).lst;rw[z,B] at G;cases G
 have J:L≠D:=f6 (X _ _ m) G;have Y:gJ g (Ý (Ý g p ((a.take (a.length-1)).map Ê)) D (ys.map Ê)):=X.new G;have u:Ĉ (Ý g p ((a.take (a.length-1)).map Ê)) D (ys.map Ê) D=Ð (ys.map Ê):=fG;generalize upd (upd g p (.lst ((a.take (a.length-1)).map V.str))) D (.lst (ys.map V.str))=H4 at Y u ⊢;have I:g D=none:=X.free G;refine Pm (S2.same Y) Ã (Y _ _ m) u f l J t Ã U Ã λr5 k5 H5 n5 l5 S5 aj ab aa o5=>?_;show TH K _ _ _;refine Pm S5 Ã ab aa f l J t (by rw[ie,y6];show 7<=10;decide) U Ã λr6 k6 R n6 l6 S6 ak ai v o6=>?_;have w6:=(w0.snoc n5 Ã).snoc n6 Ã;have y8:Ô (ys++[r5]++[r6])=8:=by rw[ie,ie,y6];rfl
 generalize ys++[r5]++[r6]=zs at v w6 y8;show TF K _ [Å e,î x,Å L,gm i,Å D] R;refine⟨_,À,(by show 7<=gM;decide),λp7 s=>?_⟩;refine vz (xs:=zs) (ys:=A0) ((Ø R).new s _ _ v) fG (by rw[y8];decide) λD8 H8 f8 h8 s8=>?_;have P:gJ R H8:=((Ø R).new s).trans s8;have w8:=w6.app (ys:=A0) (AY (c:=30) â Ã);have ah:Ô (zs++A0)=15:=by rw[ie,y8];rfl
 generalize zs++A0=us at h8 w8 ah;show TC K _ [Å e,î x,Å L,gm i,Å D8] H8;refine⟨_,À,_,À,e,15,k6,À,S6.same P,Ã,Ï,Ï,λd H9 d0 d1 S9 B9=>?_⟩;obtain⟨ar,C⟩:=(S6.new (o:=.lst (A0.map Ê)) s).lst;have n8:D8≠e:=λz=>by rw[z] at f8;cases C.symm.trans f8
 have Z:d.toNat<us.length:=Ã
 refine ke (Ù (B9 _ _ n8 h8)) d0 (Cr (gF Z)) (q _ (k6+1) H9 (w8 _ (nE Z)).1 (w8 _ (nE Z)).2 S9 Ã λb o M hb=>?_);have h2:=B2 b o M (B1 b o M hb);have O:b≠D:=f6 h2 I;exact B9 b o M (P _ _ (o6 b o M O (o5 b o M O (Y _ _ h2))))
def kka{K:a_}(T:Vf K){vs:List V}{H:b_}{Q:fS}{E:f_}(h:Gd K vs H Q E):Sl K (ì í Q) (gW RF vs) H:=by
 obtain⟨x,rfl,U,Y,q⟩:=h;refine Æ kK (λL X=>?_);have D:Ö (Ā H L [Ä "none"]):=(Ø H).new X;show OV K _ [î x,Å L,Ç] (Ā H L [Ä "none"]);generalize upd H L (.tup [.str "none"])=O at D ⊢;have l:∀(n:Nat),xu (parse x) (.line n)->∀(d:d_) (c:b_),gJ O c->c d=Á (kv d (vv (n:Nat)))->∀(y b:d_),c y=Á (mZ y (iI K "NoLine") (Á d))->c b=none->b≠y->
   mB (h9 (ç HB (xD K (fI 2) "line"))) (gB 1) {nx:=λM G=>OU K (ì í Q) (M.set 2 Ç) G,rt:=Q} ((v_ 3).set 2 (Á (Â y))) (upd c b (kG b)):=λn S d c j g y b o i nx=>by
  have m:(upd c b (kG b)) y=Á (mZ y (iI K "NoLine") (Á d)):=by rw[fM (Ne.symm nx)];exact o
  have e:(upd c b (kG b)) d=Á (kv d (vv (n:Nat))):=by rw[fM (f6 g i)];exact g
  have v:Ö (upd c b (kG b)):=(D.trans j).new i;generalize upd c b (kG b)=G at m e v ⊢;refine⟨_,À,y,_,d,_,_,À,Í m,e,T.clL,T.nLl,À,ka,λa r=>?_⟩;exact Ú (q a (.line n) _ fG S (v.new r))
 refine⟨_,À,x,À,U,λn I d c j g=>?_,λt z B=>⟨λn I d c j g=>?_,λJ=>⟨Y t (Î z B J),λR p c P j=>?_,λk n w f d c j g=>?_⟩⟩⟩
 .intro y C b s o u i nx;cases s;exact Ú (È ⟨T.mLL,l n (È I) d c j g y b o i nx⟩)
 .intro y C b s o u i nx;cases s;exact Ú (È ⟨T.mLL,l n (Í ⟨B,t,z,I⟩) d c j g y b o i nx⟩)
 .refine Æ ka (λa r=>?_);exact Ú (q a (.read (ki t)) _ ⟨p,fG,P.mono (.of_same ((Ø c).new r))⟩ ⟨t,Î z B J,R,À⟩ ((D.trans j).new r))
 .intro y C b s o u i nx;cases s;refine Ú (Í (Î T.nPL T.mPP ?_));have m:(upd c b (kG b)) y=Á (mZ y (iI K "NoProgram") (Á d)):=by rw[fM (Ne.symm nx)];exact o
  have e:(upd c b (kG b)) d=Á (kv d (we k n w)):=by rw[fM (f6 g i)];exact g
  have v:Ö (upd c b (kG b)):=(D.trans j).new i;generalize upd c b (kG b)=G at m e v ⊢;refine⟨_,À,y,_,d,_,_,À,Í m,e,T.clP,T.nPp,À,_,À,y,_,d,_,_,À,Í m,e,T.clP,T.nPr,À,_,À,y,_,d,_,_,À,Í m,e,T.clP,T.nPw,À,va,λa r=>?_⟩;exact Ú (q a (.prog k n w) _ fG (Î t (Î z B J) f) (v.new r))
def kd1(h:b a H λx c=>g x a c (u D)):iA (mB b g) u D a H:=h
def kdc(h:b a H λx d=>c a d λxs e=>Q (x::xs) e):fX b c a H Q:=h
def Ot(d:H a=ä xs)(e:H b=ä ys)(g:xs≠[])(c:ys≠[])(f:xs.length+ys.length<=100)(q:∀p H',H' p=ä (xs++ys)->Ö H'->Q (Â p) H'):hZ K (Â a) (Â b) H Q:=
 Í (Í (Í ⟨a,b,xs,ys,À,À,fR.of d,fR.of e,g,mC f Ï,λz=>Ì z c,λ_ p h=>q p _ fG ((Ø H).new h)⟩))
def kbv{K:a_}{vs:List V}{H:b_}{Q:fS}{E:f_}(h:Kk K vs H Q E):MR K (ì í Q) (gW Mb vs) H:=by
 obtain⟨l,M,rfl,X,few,sh,wd,q⟩:=h;refine⟨_,À,l,M,À,X,few,λx hx=>by have:=sh x hx;lia,λn O B I=>?_⟩;show KW K _ [Å l,iX n,Ç,Ç] O;rcases B with⟨rfl,o,e,nf,nc⟩|⟨k,rfl,b⟩
 .have g:mw (readL M) o:=Î e nf nc;refine⟨_,À,_,_,À,À,_,À,gz (λc=>Ì c Ï) λ_=>?_⟩;show KU K _ [Å l,Á (Ë (-1)),Ç,Ç] O;refine⟨_,À,l,M,o,À,I _ _ X,few,sh,g,λp r R s2=>?_⟩;show KS K _ [Å l,Á (Ë (-1)),Å p,Ç] r;refine Æ kK (λa D=>?_);have J:gJ r (Ā r a [Ä "program"]):=(Ø r).new D;have S:upd r a (.tup [Ä "program"]) a=ä [Ä "program"]:=fG;generalize upd r a (.tup [.str "program"])=H3 at J S ⊢;refine⟨_,À,p,ki o,À,R.mono (.of_same J),wd o g,λb H4 ⟨i,j,w,z,hb⟩ Y=>?_⟩;refine Ot (Y _ _ S) hb Ò Ò (by show 1+3<=100;decide) λc s T s5=>?_;show KR K _ [Å l,Á (Ë (-1)),Å p,Å c] s;have y:=(J.trans Y).trans s5;have u:=(I.trans s2).trans y;refine⟨_,À,_,À,ka,λd nd=>?_⟩;have Z:gJ s (Ā s d [Ä "read",Â p]):=(Ø s).new nd;have U:upd s d (.tup [Ä "read",Â p]) d=ä [Ä "read",Â p]:=fG;generalize upd s d (.tup [.str "read",.ref p])=t at Z U ⊢;refine Æ ka (λf G=>?_);have L:gJ t (Ý t f [Â c,Â d]):=(Ø t).new G;have C:Ĉ t f [Â c,Â d] f=Ð [Â c,Â d]:=fG;generalize upd t f (.lst [.ref c,.ref d])=P at L C ⊢;have m:=Z.trans L;refine á (m _ _ T) (Õ _ _ À (Í (Ú ?_)));rcases z with⟨cl,rfl,rfl,rfl⟩|⟨k,n,fw,rfl,rfl⟩
  .exact ke (v:=Â d) (Ù C) Ï À (q d (.read (ki o)) P ⟨p,L _ _ U,R.mono (.of_same (y.trans m))⟩ ⟨o,g,cl,À⟩ (u.trans m))
  .rw[decide_eq_false (by lia:¬((k:Nat):Int)<0)];exact ke (v:=Â c) (Ù C) Ï À (q c (.prog k n w) P (m _ _ T) (Î o g fw) (u.trans m))
 .refine⟨_,À,_,_,À,À,_,À,gz (λ_=>?_) λc=>Ì (Int.natCast_nonneg k) c⟩;refine⟨_,À,ka,λa D=>?_⟩;exact q a (.line k) _ fG b (I.new D)
theorem Kq:∀{nm:List Str} {f:Str},f∈nm->nm[rr nm f]?=Á f/\∀m,m<rr nm f->nm[m]?≠Á f
 |[],_,h=>by cases h
 |x::nm,f,h=>by
  unfold rr;by_cases c:x=f
  .rw[if_pos c];exact⟨by simp[c],λm a=>by cases a⟩
  .rw[ù c];obtain⟨b,d⟩:=Kq (nm:=nm) (f:=f) ((g7.mp h).resolve_left λz=>c z.symm);refine⟨by simpa using b,λm a=>?_⟩;cases m with
   |zero=>simpa using c
   |succ m=>simpa using d m Ã
def kbJ{K:a_}{vs:List V}{H:b_}{Q:fS}{E:f_}(h:Ki K vs H Q E):MP K (ì í Q) (gW Ma vs) H:=by
 obtain⟨x,l,nm,r,rfl,lx,hl,S,C,fn,q⟩:=h;refine⟨_,À,À,x," ",À,À,â,(by have:=gY (n:=x.length+3) Ã;lia),λL nL=>?_⟩;show Ah K _ [î x,Å l,Å L] _;have s1:Ö (Ý H L ((ą x).map Ê)):=(Ø H).new nL;have R:Ĉ H L ((ą x).map Ê) L=Ð ((ą x).map Ê):=fG;generalize upd H L (.lst ((Txt.split x " ").map V.str))=I at s1 R ⊢;generalize Txt.split x " "=U at S R;have ae:=s1 _ _ hl;clear hl;have af:∀(w a:Str),U=[w,a]->hU (Ä w) [Ä "say",Ä "give"]=true->(∀(p:d_) (H':b_),H' p=ä [Ä w,Ä a]->mK H' (Â p) (nS nm r))->Ah K (ì í Q) [î x,Å l,Å L] I:=λw a e i T=>by
  subst e;refine Ċ 0 R À ⟨ka,λt M=>⟨t,_,À,Í (fR.of fG),À,À,_,À,rM i ?_⟩⟩;have m:gJ I (Ā I t [Ä "say",Ä "give"]):=(Ø I).new M;refine Ċ 0 (m _ _ R) À (Ċ 1 (m _ _ R) À ⟨ka,λp C=>?_⟩);exact q _ _ (T p _ fG) ((s1.trans m).new C)
 have D:∀(w:Str) (t:List Str),U=w::t->hU (Ä w) [Ä "say",Ä "give"]=false->(∀j,Ö j->j L=Ð (U.map Ê)->j l=Ð (nm.map Ê)->KQ K (ì í Q) [î x,Å l,Å L] j)->Ah K (ì í Q) [î x,Å l,Å L] I:=λw t e i k=>by
  refine Ú (m8 (i:=0) (w:=w) R (by rw[e];rfl) ⟨ka,λt M=>⟨t,_,À,Í (fR.of fG),À,À,_,À,s_ i ?_⟩⟩);have m:gJ I (Ā I t [Ä "say",Ä "give"]):=(Ø I).new M;exact k _ (s1.trans m) (m _ _ R) (m _ _ ae)
 have P:∀(g:List Str) (w y:Str),U=w::g++[y]->hU (Ä w) [Ä "say",Ä "give"]=false->hU (Ä w) [Ä "jump",Ä "test"]=true->mX y->g.length<=5->(∀(p:d_) (H':b_),H' p=ä ((w::g).map Ê++[Ë ((nj y:Nat):Int)])->mK H' (Â p) (nS nm r))->Ah K (ì í Q) [î x,Å l,Å L] I:=λg w y e i1 i2 B ag T=>by
  refine D w (g++[y]) e i1 λj m d _=>?_;subst e;refine Ċ 0 d À ⟨ka,λt M=>⟨t,_,À,Í (fR.of fG),À,À,_,À,rM i2 ?_⟩⟩;have O:gJ j (Ā j t [Ä "jump",Ä "test"]):=(Ø j).new M;generalize upd j t (.tup [.str "jump",.str "test"])=X at O ⊢;have Y:=O _ _ d;refine⟨_,À,1,À,_,À,È ⟨L,_,À,Ù Y,λp C=>?_⟩⟩;rw[Nh Ò,show(w::g++[y]).take (Ô (w::g++[y])-1)=w::g from Ò];have s4:gJ X (Ý X p ((w::g).map Ê)):=(Ø X).new C;refine⟨p,_,À,È ⟨Ù fG,λu nu=>?_⟩⟩;have s5:=s4.new (o:=.tup ((w::g).map Ê)) nu;have hu:upd (Ý X p ((w::g).map Ê)) u (.tup ((w::g).map Ê)) u=ä ((w::g).map Ê):=fG;generalize upd (upd X p (.lst ((w::g).map V.str))) u (.tup ((w::g).map V.str))=H5 at s5 hu ⊢;refine Õ _ À 1 (Ge (v:=Ä y) (Ù (s5 _ _ Y)) Ò ⟨y,_,À,xo B,by have:=B.l20;lia,kK,λb aa=>?_⟩);refine Ot ((Ø H5).new aa _ _ hu) fG Ò Ò (by simp;lia) λc H6 hc s6=>?_;exact q _ _ (T c H6 hc) (((m.trans O).trans s5).trans (((Ø H5).new aa).trans s6))
 have G:∀(w z:Str) (t:List Str),U=w::"="::z::t->gP w->(∀j,Ö j->j L=Ð (U.map Ê)->j l=Ð (nm.map Ê)->KP K (ì í Q) [î x,Å l,Å L] j)->Ah K (ì í Q) [î x,Å l,Å L] I:=λw z t e nw k=>by
  have ab:∀a b:Str,a∈pW->b∈pW->hU (Ä w) [Ä a,Ä b]=false:=λa b ha hb=>by
   rw[show([è a,è b]:É V)=[a,b].map Ê from À,rq];refine decide_eq_false λz=>?_;simp only[g7,mz,or_false] at z;rcases z with rfl|rfl
   .exact nw.no ha
   .exact nw.no hb
  refine D w _ e (ab _ _ â â) λj m d J=>?_;refine Ú (m8 (i:=0) (w:=w) d (by rw[e];rfl) ⟨ka,λt M=>⟨t,_,À,Í (fR.of fG),À,À,_,À,s_ (ab _ _ â â) ?_⟩⟩);have O:gJ j (Ā j t [Ä "jump",Ä "test"]):=(Ø j).new M;exact k _ (m.trans O) (O _ _ d) (O _ _ J)
 cases r with
 |part a ps=>cases C
 |jump to=>
  obtain⟨y,e,B,rfl⟩:=S;exact P [] "jump" y e â â B Ï λp H' h=>Ą p h
 |test a to=>
  obtain⟨y,e,_,B,rfl⟩:=S;exact P [a] "test" y e â â B (by show 1<=5;decide) λp H' h=>Ą p h
 |num a z=>
  obtain⟨y,e,Z,B,rfl,_⟩:=S;refine G a y [] e Z λj m d _=>?_;subst e;refine Ċ 2 d À (ñ À _ À (no (λz=>?_) ?_))
  .have z:y="call":=by injection z
   exact CP (by rw[<-z];exact B)
  refine⟨_,À,_,_,À,lY d,ñ À _ À (no (show ¬V.int 3=V.int 5 by decide) ?_)⟩;refine Ċ 0 d À (Ċ 2 d À ⟨y,_,À,xo B,by have:=B.l20;lia,kM,λp C=>?_⟩);exact q _ _ (Ą p fG) (m.new C)
 |op a s b c=>
  obtain⟨e,Z,ms,B,nc⟩:=S;refine G a b [s,c] e Z λj m d _=>?_;subst e;refine Ċ 2 d À (ñ À _ À (no (λz=>?_) ?_))
  .have z:b="call":=by injection z
   exact BN (by rw[<-z];exact B)
  refine⟨_,À,_,_,À,lY d,ñ À _ À (rM (show æ (V.int 5=V.int 5)=true by decide) ?_)⟩;refine Ċ 0 d À (Ċ 3 d À (Ċ 2 d À (Ċ 4 d À ⟨yh,λp C=>?_⟩)));exact q _ _ (Ą p fG) (m.new C)
 |call a f as=>
  obtain⟨e,Z,nf,ah⟩:=S;refine G a "call" (f::as) e Z λj m d J=>?_;subst e;obtain⟨f1,f2⟩:=Kq (fn a f as À);refine Ċ 2 d À (ñ À _ À (mi ?_));refine Ċ 0 d À ⟨_,À,È ⟨À,_,Ù J⟩,_,À,m8 (i:=3) d À ⟨l,nm,f,_,À,À,J,f1,f2,_,À,4,À,È ⟨L,_,À,Ù d,λt M=>?_⟩⟩⟩;rw[show(4:Int)=((4:Nat):Int) from À,v5];refine⟨t,_,À,È ⟨Ù fG,λu nu=>Æ va (λp C=>?_)⟩⟩;have O:=(m.new M).new (o:=.tup (as.map Ê)) nu;exact q _ _ ⟨p,u,À,fG,(Ø _).new C _ _ fG⟩ (O.new C)
 |_=>exact af _ _ S.1 â λp H' h=>Ą p h
def mw.line{xs:List Str}{a:List ik}(g:mw (readL xs) a){i:Nat}{x:Str}(d:xs[i]?=Á x):∃r,a[i]?=Á r/\i8 (ą x) r:=by
 have e:(readL xs)[i]?=Á (lineOf? (ą x)):=by unfold readL;rw[i3,d];rfl
 rw[g.is,i3] at e;obtain⟨r,b,c⟩:=pj.mp e;exact Î r b (FC c.symm)
def mw.len(g:mw (readL xs) a):a.length=xs.length:=by
 have:=congrArg tG g.is;unfold readL at this;rw[fP,fP] at this;exact this.symm
def ID(h:i8 ws r):∃w t,ws=w::t/\(w="part"↔kn r=true):=by
 rcases h.key with⟨t,e,m⟩|⟨e,x,t,ex,nx⟩
 .refine⟨_,t,e,?_⟩;cases r<;>simp only[sS,kn]<;>decide +kernel
 .refine⟨x,_,ex,⟨λz=>Ì nx (by rw[z];exact AG â),λz=>?_⟩⟩;cases r<;>first|(cases z;done)|exact Ì e Đ
def Cp{x:Str}(h:x.length<=9000):x.length+2<=gM:=by have:=gY (n:=x.length+3) Ã;lia
def So(xs ys:É V)(h:lj.lst xs=lj.lst ys):xs=ys:=by cases h;rfl
def kaP{K:a_}{vs:List V}{H:b_}{Q:fS}{E:f_}(h:IT K vs H Q E):LJ K (ì í Q) (gW En vs) H:=by
 obtain⟨l,xs,O,rfl,hl,few,sh,g,q⟩:=h;have al:=g.len;have b1:((" ":Str).length==0)=false:=â
 refine È ⟨_,À,l,À,Æ _ (Ù hl),λD nD=>?_⟩;obtain⟨ar,n⟩:=Bc λi d H'=>∃(o:Option V),d=[Å l,Ç,Ç,o,Ç]/\H' D=Ð ((iZ (O.take i)).map Ê)/\Ö H';refine sO (xs:=xs.map Ê) ar (n.mpr ⟨Ç,À,fG,(Ø H).new nD⟩) ?_ ?_ ?_
 .intro i d H' _ lE;obtain⟨o,rfl,_,s⟩:=n.mp lE;exact Ù (s _ _ hl)
 .intro i v d H' hv lE;obtain⟨o,rfl,hD,s⟩:=n.mp lE;obtain⟨x,hx,rfl⟩:=vd hv;have lx:=sh x (iS hx);have hi:i<xs.length:=(gR.mp hx).1;obtain⟨r,hr,li⟩:=g.line hx;obtain⟨w,t,e,ip⟩:=ID li;show n_ D _ _ _ [Å l,Ç,Ç,î x,Ç] H';refine⟨_,À,À,x," ",À,À,b1,Cp lx,λL nL=>?_⟩;have Z:=(Ø H').new (o:=.lst ((ą x).map Ê)) nL;refine m8 (i:=0) (ws:=ą x) (w:=w) fG (by rw[e];rfl) (ñ À _ À (gz (λc=>?_) (λc=>?_)))
  .have c:kn r=true:=ip.mp (by injection c);cases r with
   |part y I=>
    refine⟨_,À,À,x," ",À,À,b1,Cp lx,λL2 ao=>?_⟩;refine m8 (i:=1) (ws:=ą x) (w:=y) fG (by rw[li.1];rfl) ⟨_,(Z.new ao) _ _ hD,gY ?_,n.mpr ⟨_,À,?_,kR ((s.trans Z).new ao) nD⟩⟩
    .rw[fP];have:=Hn sd (O.take i);rw[kz] at this;unfold iZ;lia
    .rw[fG,vT hr];unfold iZ;rw[wD,g8];rfl
   |_=>cases c
  .have c:kn r=false:=by
    cases z:kn r with
    |false=>rfl
    |true=>exact Ì (by rw[ip.mpr z]) c
   refine n.mpr ⟨_,À,?_,s.trans Z⟩;rw[vT hr];unfold iZ at hD ⊢;rw[wD,show[r].filterMap sd=[] from by
    cases r with
    |part a b=>cases c
    |_=>rfl,oe]
   exact Z _ _ hD
 intro d X lE;obtain⟨o,_,hD,s1⟩:=n.mp lE;clear n;rw[fP,<-al,vL] at hD;show UC K _ [Å l,Å D,Ç,Ç,Ç] X;refine Æ mU (λP nP=>?_);show UB K _ [Å l,Å D,Å P,Ç,Ç] _;have Z:gJ X (Ý X P []):=(Ø X).new nP;have af:Ĉ X P [] P=Ð []:=fG;generalize upd X P (.lst [])=H2 at Z af ⊢;obtain⟨au,B⟩:=Bc λi d H'=>∃(o3 o4:Option V) (m:List wb),d=[Å l,Å D,Å P,o3,o4]/\rR .lst X H' P m/\m.map (·.b)=(O.take i).foldl (lM (iZ O)) []/\m.length<=i/\(∀e∈m,e.rvs.length<=i)/\gJ X H';refine È ⟨_,À,l,À,Æ _ (Ù ((s1.trans Z) _ _ hl)),wZ (xs:=xs.map Ê) au (B.mpr ⟨_,_,[],À,⟨af,Kb,(Ò),λe he=>by cases he⟩,À,lu _,(λe he=>by cases he),Z⟩) ?_ ?_ ?_⟩
 .intro i d H' _ lE;obtain⟨_,_,_,_,_,_,_,_,s⟩:=B.mp lE;exact Ù ((s1.trans s) _ _ hl)
 .intro i v d R hv lE;obtain⟨o3,o4,m,rfl,pb,Y,el,er,s3⟩:=B.mp lE;obtain⟨x,hx,rfl⟩:=vd hv;have lx:=sh x (iS hx);have hi:i<xs.length:=(gR.mp hx).1;obtain⟨r,hr,li⟩:=g.line hx;obtain⟨w,t,e,ip⟩:=ID li;have tk:(O.take (i+1)).foldl (lM (iZ O)) []=lM (iZ O) (m.map (·.b)) r:=by
   rw[mq,hr,xZ,<-Y];rfl
  show UA K _ [Å l,Å D,Å P,î x,o4] R;refine⟨_,À,À,x," ",À,À,b1,Cp lx,λL nL=>?_⟩;show Uz K _ [Å l,Å D,Å P,î x,Å L] _;have s4:gJ R (Ý R L ((ą x).map Ê)):=(Ø R).new nL;have hL:Ĉ R L ((ą x).map Ê) L=Ð ((ą x).map Ê):=fG;generalize upd R L (.lst ((Txt.split x " ").map V.str))=k at s4 hL ⊢;have C:=pb.same s4;have T:=s3.trans s4;refine Ú (m8 (i:=0) (w:=w) hL (by rw[e];rfl) (ñ À _ À (gz (λc=>?_) (λc=>?_))))
  .have c:kn r=true:=ip.mp (by injection c);cases r with
   |part y I=>
    rw[li.1] at hL;refine⟨_,À,È ⟨À,_,Ù C.lp⟩,_,À,m8 (i:=1) hL À (Õ _ À 2 (È ⟨L,_,À,Ù hL,λt nt=>?_⟩))⟩;rw[show(2:Int)=((2:Nat):Int) from À,v5];have U:gJ k (Ý k t (I.map Ê)):=(Ø k).new nt;refine⟨t,_,À,È ⟨Ù fG,λS aw=>?_⟩⟩;have s6:=U.new (o:=.tup (I.map Ê)) aw;have ah:upd (Ý k t (I.map Ê)) S (.tup (I.map Ê)) S=ä (I.map Ê):=fG;show h_ lN _ (Ā (Ý k t (I.map Ê)) S (I.map Ê)) _;generalize upd (upd k t (.lst (I.map V.str))) S (.tup (I.map V.str))=H6 at s6 ah ⊢;refine Æ mU (λa na=>Æ kM (λu nu=>?_));have s7:gJ H6 (Ý H6 a []):=(Ø H6).new na;have ag:Ĉ H6 a [] a=Ð []:=fG;generalize upd H6 a (.lst [])=H7 at s7 ag nu ⊢;have s8:gJ H7 (Ý H7 u [Ä y,Â S,Â a]):=(Ø H7).new nu;have ak:Ĉ H7 u [Ä y,Â S,Â a] u=Ð [Ä y,Â S,Â a]:=fG;generalize upd H7 u (.lst [.str y,.ref S,.ref a])=H8 at s8 ak ⊢;have ab:=s6.trans (s7.trans s8);refine⟨P,_,_,À,À,ab _ _ C.lp,gY (by rw[fP];lia),?_⟩;refine B.mpr ⟨_,_,m++[⟨u,S,a,[],Î y I []⟩],À,C.part So ab (s6.free na) ((T.trans s6).free na) ak ((s7.trans s8) _ _ ah) (s8 _ _ ag),?_,by rw[ie];show m.length+1<=i+1;lia,λe he=>?_,kR (T.trans ab) nP⟩
    .rw[tk,g8];rfl
    .rcases iT.mp he with he|he
     .have:=er e he;lia
     .have:e=⟨u,S,a,[],Î y I []⟩:=by simpa using he
      subst this;exact lu _
   |_=>cases c
  .have np:kn r=false:=by
    cases z:kn r with
    |false=>rfl
    |true=>exact Ì (by rw[ip.mpr z]) c
   have ne:m≠[]:=U4 (g.is ▸ g.form) hr np Y;obtain⟨aa,e,rfl⟩:∃a b,m=a++[b]:=Î m.dropLast (m.getLast ne) (xU ne).symm;have ee:e∈aa++[e]:=mO _ Ò;obtain⟨ok,hn⟩:=C.ok e ee;refine Õ _ À _ (Ge (Ù C.lp) rR.last (ke (Ù ok.tp) Ï À ⟨È ⟨À,_,Ù ok.la⟩,_,À,_,À,x,D,iZ O,r,À,lx,T _ _ hD,li,np,λa f as z=>?_,λw H5 ax U=>?_⟩))
   .apply Classical.byContradiction;intro cf;exact g.call i ⟨a,f,as,by rw[hr,z],cf⟩
   have aq:=C.same U;refine⟨e.a,_,_,À,À,(aq.ok e ee).1.la,gY (by have:=er e ee;lia),?_⟩;refine B.mpr ⟨_,_,aa++[⟨e.p,e.q,e.a,e.rvs++[w],Î e.b.name e.b.params (e.b.rows++[nS (iZ O) r])⟩],À,aq.row So ax,?_,?_,λe' he=>?_,kR (T.trans U) hn⟩
   .rw[tk,xc np,g8,g8];show _=yA (aa.map (·.b)++[e.b]) _;rw[wR];rfl
   .rw[ie] at el ⊢;exact Nat.le_succ_of_le el
   .rcases iT.mp he with he|he
    .have:=er e' (mP _ he);lia
    .have:e'=⟨e.p,e.q,e.a,e.rvs++[w],Î e.b.name e.b.params (e.b.rows++[nS (iZ O) r])⟩:=by simpa using he
     subst this;have:=er e ee;show Ô (e.rvs++[w])<=i+1;rw[ie];show e.rvs.length+1<=i+1;lia
 .intro d R lE;obtain⟨o3,o4,m,rfl,pb,Y,el,er,s3⟩:=B.mp lE;clear B;rw[fP] at Y el;rw[<-al,m5 ï] at Y;have Y:m.map (·.b)=ki O:=Y;show Uy K _ [Å l,Å D,Å P,o3,o4] R;refine È ⟨_,À,P,À,Æ _ (Ù pb.lp),λG nG=>?_⟩;obtain⟨av,M⟩:=Bc λi d H'=>∃(o5 o6 o7:Option V) (j:List V),d=[Å l,Å D,Å P,o3,o4,o5,o6,o7]/\H' G=Ð j/\ia (tI H') j ((m.take i).map (·.b))/\gJ R H';refine sO (xs:=m.map λe=>V.ref e.p) av (M.mpr ⟨Ç,Ç,Ç,[],À,fG,ia.nil,(Ø R).new nG⟩) ?_ ?_ ?_
  .intro i d H' _ lE;obtain⟨_,_,_,j,rfl,_,_,s⟩:=M.mp lE;exact Ù (s _ _ pb.lp)
  .intro i v d k hv lE;obtain⟨o5,o6,o7,j,rfl,hG,J,s4⟩:=M.mp lE;rw[i3] at hv;obtain⟨e,he,rfl⟩:=pj.mp hv;have hi:i<m.length:=(gR.mp he).1;obtain⟨ok,_⟩:=(pb.same s4).ok e (iS he);refine⟨e.p,_,À,Ù ok.tp,À,_,_,À,_,_,À,_,_,À,À,?_⟩;show n_ G _ _ _ [Å l,Å D,Å P,o3,o4,î e.b.name,Á (Â e.q),Á (Â e.a)] k;refine oO ⟨_,À,_,À,_,À,e.a,_,À,È ⟨Ù ok.la,λt nt=>Æ kM (λu nu=>?_)⟩⟩;have U:gJ k (Ā (Ā k t e.rvs) u [Ä e.b.name,Â e.q,Â t]):=((Ø k).new nt).new nu;have ai:upd (Ā k t e.rvs) u (.tup [Ä e.b.name,Â e.q,Â t]) t=ä e.rvs:=(Ø _).new nu _ _ fG;have aj:upd (Ā k t e.rvs) u (.tup [Ä e.b.name,Â e.q,Â t]) u=ä [Ä e.b.name,Â e.q,Â t]:=fG;generalize upd (upd k t (.tup e.rvs)) u (.tup [.str e.b.name,.ref e.q,.ref t])=H5 at U ai aj ⊢;have ae:=U _ _ hG;have t6:gZ H5 (Ý H5 G (j++[Â u])):=(gZ.refl H5).lst ae;have T6:gZ k (Ý H5 G (j++[Â u])):=(gZ.of_same U).trans t6;have pl:j.length<=i:=by rw[J.len,fP,kz];lia
   refine⟨_,ae,gY Ã,M.mpr ⟨_,_,_,j++[Â u],À,fG,?_,kR (s4.trans U) nG⟩⟩;rw[mq,he,g8];exact(J.imp λ_ _ z=>z.mono T6).snoc ⟨u,e.q,t,e.rvs,À,t6 _ _ aj,T6 _ _ ok.tq,t6 _ _ ai,ok.rw_.imp λ_ _ z=>z.mono T6⟩
  .intro d k lE;obtain⟨_,_,_,j,_,hG,J,s4⟩:=M.mp lE;rw[fP,m5 ï,Y] at J;refine⟨G,_,À,È ⟨Ù hG,λt nt=>?_⟩⟩;exact q t _ ⟨j,fG,J.imp λ_ _ z=>z.mono (.of_same ((Ø k).new nt))⟩ (((s1.trans s3).trans s4).new nt)
def kfO(u:x.length<=b/\kJ x/\∀w∈Txt.split x " ",w.length<=20)(j:i<Ô (ą x))(h:32∉d.cps.toList)(v:kJ d)(l:d.length<=20) :
  Ô (Txt.join " " ((ą x).set i d))<=b+21/\kJ (Txt.join " " ((ą x).set i d))/\∀w∈Txt.split (Txt.join " " ((Txt.split x " ").set i d)) " ",w.length<=20:=by
 obtain⟨B,t,o⟩:=u;have y:=BZ x;have s:∀w∈Txt.split x " ",kJ w:=by rw[uB];exact λw k=>t.split 32 k
 have n:∀w∈Txt.split x " ",32∉w.cps.toList:=by rw[uB];exact StrLaws.split_free _ 32
 have q:=w9 x " ";generalize Txt.split x " "=e at o y s n q j;have f:∀{p:Str->Prop},p d->(∀w∈e,p w)->∀w∈e.set i d,p w:=λ{p} a c w k=>by
  rcases DI k with z|rfl
  .exact c w z
  .exact a
 obtain⟨m,g⟩:=Rk (r:=d) (gF j) 20 Ã;rw[show e.take i++[d]++e.drop (i+1)=e.set i d from by rw[List.set_eq_take_append_cons_drop,if_pos j,sM];rfl] at m g;have C:=E1 (e.set i d);refine Î Ã (EK (f v s)) ?_;have:ą (Txt.join " " (e.set i d))=e.set i d:=by
  rw[uB];exact BI (λz=>q (sH.mp (by rw[<-g,z];rfl))) (f h n)
 rw[this];exact f l o
abbrev wA:Ñ:=["zz","0","1","3"]
def kd0{K:a_}{vs:List V}{H:b_}{Q:fS}{E:f_}(h:E8 K vs H Q E):Oh K (ì í Q) (gW NB vs) H:=by
 obtain⟨f,l,xs,k,b,rfl,S,hk,hl,u,pos,few,hb,ok,q⟩:=h;have b1:((" ":Str).length==0)=false:=â
 obtain⟨yl,aK⟩:=S.lst;have ak:∀{a:d_} {H':b_},hI f H H'->H' a=none->a≠f->H a=none:=λ{a H'} B z n=>by
  cases e:H a with
  |none=>rfl
  |some o=>rw[B a o n e] at z;cases z
 refine⟨_,À,_,À,_,_,À,lY hl,f,(xs.length:Nat),k,À,S,Ã,Ã,Ã,λd J d0 d1 S1 B1=>?_⟩;show Lv K _ [Å f,Å l,iX d,Ç,Ç] J;obtain⟨m,rfl⟩:∃m:Nat,d=(m:Nat):=Æ d.toNat Ã;have hm:m<xs.length:=Ã
 have hx:xs[m]?=Á xs[m]:=gF hm;have kx:=ok _ (nE hm);generalize xs[m]=x at hx kx;have j:=B1 _ _ u hl;refine Õ _ À _ (m8 j hx ⟨À,x," ",À,À,b1,Cp Ã,λL O=>?_⟩);show Lu K _ [Å f,Å l,gm m,Å L,Ç] _;have s2:gJ J (Ý J L ((ą x).map Ê)):=(Ø J).new O;have U:Ĉ J L ((ą x).map Ê) L=Ð ((ą x).map Ê):=fG;generalize upd J L (.lst ((Txt.split x " ").map V.str))=H2 at s2 U ⊢;obtain⟨aN,ag⟩:=S1.lst;have c:L≠f:=λz=>by rw[z,ag] at O;cases O
 have ai:L≠l:=λz=>by rw[z,j] at O;cases O
 have wl:=BZ x;refine⟨_,À,_,À,_,À,_,_,À,lY (s2 _ _ j),f,(xs.length:Nat),k+1,À,S1.same s2,Ã,Ã,Ã,λd2 H3 aF aG S3 B3=>?_⟩;obtain⟨m2,rfl⟩:∃m:Nat,d2=(m:Nat):=Æ d2.toNat Ã;have ae:m2<xs.length:=Ã
 have hy:xs[m2]?=Á xs[m2]:=gF ae;have ky:=ok _ (nE ae);generalize xs[m2]=y at hy ky;have ay:=B3 _ _ u (s2 _ _ j);have X:=B3 _ _ c U;refine m8 ay hy ⟨À,y," ",À,À,b1,Cp Ã,λM nM=>Æ va (λZ nZ=>?_)⟩;have s4:gJ H3 (Ý H3 M ((ą y).map Ê)):=(Ø H3).new nM;have aM:=BZ y;refine vz (xs:=ą y) (ys:=wA) ((Ø _).new nZ _ _ fG) fG (by show _+4<=_;lia) λD H5 nD hD s5=>?_;have I:gJ H3 H5:=(s4.new nZ).trans s5;have au:∀w∈Txt.split y " "++wA,32∉w.cps.toList/\kJ w/\w.length<=20:=λw hw=>by
  rcases iT.mp hw with hw|hw
  .refine Î ?_ ?_ (ky.2.2 w hw)
   .rw[uB] at hw;exact StrLaws.split_free _ 32 w hw
   .rw[uB] at hw;exact ky.2.1.split 32 hw
  .have:∀w∈wA,(! æ (32∈w.cps.toList)&&(! æ (10∈w.cps.toList)&&æ (w.length<=20)))=true:=â
   have:=this w hw;simp only[Bool.and_eq_true,Bool.not_eq_true',decide_eq_false_iff_not,decide_eq_true_eq] at this;exact this
 have aq:0<Ô (ą y++wA)/\Ô (ą y++wA)<=9100:=by rw[ie];show 0<_+4/\_+4<=9100;lia
 generalize Txt.split y " "++wA=os at hD au aq;show L9 K _ [Å f,Å l,gm m,Å L,Å D] H5;have S5:=S3.same I;obtain⟨aO,aD⟩:=S5.lst;have ah:D≠f:=λz=>by
  obtain⟨y3,h3⟩:=(S3.same (s4.new (o:=.lst (wA.map Ê)) nZ)).lst;rw[z] at nD;cases h3.symm.trans nD
 have aL:D≠L:=λz=>by
  rw[z] at nD;have:=(s4.new (o:=.lst (wA.map Ê)) nZ) _ _ X;cases this.symm.trans nD
 refine⟨_,À,_,À,_,À,_,_,À,lY hD,f,(os.length:Nat),k+2,À,S5,Ã,Ã,Ã,λd3 H6 aH aI S6 B6=>?_⟩;obtain⟨m3,rfl⟩:∃m:Nat,d3=(m:Nat):=Æ d3.toNat Ã;have af:m3<os.length:=Ã
 have hw:os[m3]?=Á os[m3]:=gF af;have kw:=au _ (nE af);generalize os[m3]=w' at hw kw;have Y:=B6 _ _ c (I _ _ X);refine m8 (B6 _ _ ah hD) hw ⟨_,À,_,À,_,À,_,_,À,lY Y,f,(Ô (ą x):Nat),k+3,À,S6,Ã,by have:=sJ.mpr (w9 x " ");lia,Ã,λd4 s ax aJ S7 B7=>?_⟩;obtain⟨i,rfl⟩:∃m:Nat,d4=(m:Nat):=Æ d4.toNat Ã;have hi:i<Ô (ą x):=Ã
 have aa:=B7 _ _ c Y;refine uH aa ax (by rw[sL,fP];exact hi) ?_;rw[sL,<-List.map_set];obtain⟨p1,p2,p3⟩:=kfO kx hi kw.1 kw.2.1 kw.2.2;have aE:Ô (ą x)*21<=9100*21:=tw _ Ã;have ar:∀w∈(Txt.split x " ").set i w',w.length<=20:=λw hw=>by
  rcases DI hw with z|rfl
  .exact kx.2.2 w z
  .exact kw.2.2
 have P:∀a o,a≠f->a≠L->H a=Á o->s a=Á o:=λa o n1 _ e=>B7 _ _ n1 (B6 _ _ n1 (I _ _ (B3 _ _ n1 (s2 _ _ (B1 _ _ n1 e)))));have aA:H L=none:=ak B1 O c;have az:s l=Ð (xs.map Ê):=P l _ u (Ne.symm ai) hl;have sl:Ô ((ą x).set i w')=Ô (ą x):=uV ..;generalize (Txt.split x " ").set i w'=vs at p1 p2 p3 ar sl;have S8:iR K (Ý s L (vs.map Ê)) f (k+4):=S7.mono .upd_at aa (Ne.symm c);have t:Ĉ s L (vs.map Ê) l=Ð (xs.map Ê):=by rw[fM (Ne.symm ai)];exact az
 have ab:Ĉ s L (vs.map Ê) L=Ð (vs.map Ê):=fG;have B8:hI f H (Ý s L (vs.map Ê)):=λa o n e=>by
  have na:a≠L:=f6 e aA;rw[fM na];exact P a o n na e
 show L8 K _ [Å f,Å l,gm m,Å L,Å D] _;generalize upd s L (.lst (vs.map V.str))=T at S8 t ab B8 ⊢;refine⟨_,À,_,À,_,À,È ⟨l,_,À,Ù t,λA nA=>?_⟩⟩;rw[vW,<-uY];have s9:gJ T (Ý T A ((xs.take m).map Ê)):=(Ø T).new nA;have hA:Ĉ T A ((xs.take m).map Ê) A=Ð ((xs.take m).map Ê):=fG;generalize upd T A (.lst ((xs.take m).map V.str))=H9 at s9 hA ⊢;refine⟨À,_,À,_,L,vs,À,À,Ù (s9 _ _ ab),Dl ar Ap (by rw[sl];lia),kK,λC nC=>?_⟩;refine vz (xs:=xs.take m) (ys:=[Txt.join " " vs]) ((Ø H9).new nC _ _ hA) fG (by rw[kz];show _+1<=_;lia) λF av _ hF aB=>?_;have p:=s9.trans (((Ø H9).new (o:=.lst [Ä (Txt.join " " vs)]) nC).trans aB);refine Õ _ À _ (È ⟨_,_,À,À,_,À,È ⟨l,_,À,Ù (p _ _ t),λG nG=>?_⟩⟩);rw[show((m:Nat):Int)+1=((m+1:Nat):Int) from Ã,v5];have v:=p.new (o:=.lst ((xs.drop (m+1)).map Ê)) nG;have ln:Ô (xs.take m++[Txt.join " " vs]++xs.drop (m+1))=xs.length:=by
  rw[ie,ie,kz,tu];show min m xs.length+1+_=_;lia
 refine vz ((Ø av).new nG _ _ hF) fG (by rw[<-ie,ln];lia) λR aw nR hR aC=>?_;have r:=v.trans aC;have aj:R≠f:=λz=>by
  obtain⟨y8,h8⟩:=S8.lst;rw[z,v _ _ h8] at nR;cases nR
 refine q R _ (k+4) aw ?_ hR ln (λz g=>?_) (S8.same r) Ã λa o n e=>r _ _ (B8 a o n e)
 .exact ak (λa o n e=>v _ _ (B8 a o n e)) nR aj
 .have ao:∀z∈xs,z.length<=b+21/\kJ z/\∀w∈Txt.split z " ",w.length<=20:=λz g=>Æ (by have:=(ok z g).1;lia) (ok z g).2;rcases iT.mp g with g|g
  .rcases iT.mp g with g|g
   .exact ao _ (vJ g)
   .rw[g_.mp g];exact Î p1 p2 p3
  .exact ao _ (Bs g)
def Px(h:48<=c/\c<=57):(wO (c-48)).toNat=c:=by
 have:∀d:Nat,d<10->(wO d).toNat=d+48:=Ï
 rw[this _ Ã];lia
def kcJ:∀(D:List Nat),D≠[]->(∀c∈D,48<=c/\c<=57)->(D.head?=Á 48->D=[48])->(nI 10 (NumText.digitsVal D)).map Char.toNat=D:=by
 intro D
 induction l:D.length generalizing D with
 |zero=>intro h;exact Ì (sH.mp l) h
 |succ n q=>
  intro h t_ o;obtain⟨f,c,rfl⟩:∃a b,D=a++[b]:=Î D.dropLast (D.getLast h) (xU h).symm;have m:=t_ c Ò;have k:NumText.digitsVal (f++[c])=NumText.digitsVal f*10+(c-48):=by unfold NumText.digitsVal;rw[xZ];rfl
  cases f with
  |nil=>
   rw[k,show NumText.digitsVal []*10+(c-48)=c-48 from by show 0*10+_=_;lia,HC Ã];show[_]=[_];rw[Px m]
  |cons d f=>
   have g:d≠48:=λz=>by
    have:=o (by rw[z];rfl);have:=congrArg tG this;simp at this
   have i:=q (d::f) (by simpa using l) Ò (λe p=>t_ e (mP _ p)) λz=>Ì (by simpa using z) g;have j:0<NumText.digitsVal (d::f):=by
    apply DS;intro z;rw[z] at i;have:(nI 10 0).map Char.toNat=[48]:=Ï
    rw[this] at i;injection i with i _;exact g i.symm
   rw[k,Ai,CK j Ã,g8,i];show _++[_]=_;rw[Px m]
def Gf(h:mX y):iL ((nj y:Nat):Int)=y:=by
 refine Str.ext' ?_;rw[tP];refine kcJ _ (λz=>?_) h.dig λz=>?_
 .have:=h.l1;rw[show y.length=y.cps.toList.length from(lO ..).symm,z] at this;cases this
 .rw[h.lead z];decide +kernel
def kc6(nm:Ñ)(d:É gD)(r:ik):(lM nm d r).map (·.name)=d.map (·.name)++(sd r).toList:=by
 cases c:kn r with
 |true=>
  cases r with
  |part x f=>show(d++[_]).map _=_;rw[g8];rfl
  |_=>cases c
 |false=>
  rw[xc c,show(sd r).toList=[] from by
   cases r with
   |part x f=>cases c
   |_=>rfl,oe]
  by_cases e:d=[]
  .subst e;rfl
  .obtain⟨a,b,rfl⟩:∃a b,d=a++[b]:=Î d.dropLast (d.getLast e) (xU e).symm;rw[wR,g8,g8];rfl
theorem MC(nm:Ñ):∀(b:List ik) (a:List gD),(b.foldl (lM nm) a).map (·.name)=a.map (·.name)++iZ b
 |[],a=>by rw[show iZ []=[] from À,oe];rfl
 |r::b,a=>by
  rw[Ae,MC nm b,kc6,sM];unfold iZ;rw[uf];cases sd r<;>rfl
def E4(a:É ik):(ki a).map (·.name)=iZ a:=by
 unfold ki;rw[MC];rfl
def mw.call_in(g:mw P a)(h:ik.call x f b∈a):f∈iZ a:=by
 apply Classical.byContradiction;intro c;obtain⟨i,d,e⟩:=nB.mp h;exact g.call i ⟨x,f,b,by rw[gF d,e],c⟩
def kb4{ps:List gD}{f:Str}(h:f∈ps.map (·.name)):tM ps ((rr (ps.map (·.name)) f:Nat):Int)=f:=by
 have:=(Kq h).1;rw[i3] at this;unfold tM;rw[sL,this];rfl
def kdK{ps:List gD}{ws:List Str}{r:ik}(h:i8 ws r)(np:kn r=false)(d:∀x f c,r=.call x f c->f∈ps.map (·.name)):sV ps (nS (ps.map (·.name)) r)=ws:=by
 cases r with
 |part x g=>cases np
 |num x z=>obtain⟨y,rfl,_,b,rfl,_⟩:=h;show[x,"=",iL _]=_;rw[Gf b]
 |call x f c=>rw[h.1];show x::"="::"call"::tM ps _::c=_;rw[kb4 (d x f c À)]
 |jump e=>obtain⟨y,rfl,b,rfl⟩:=h;show([("jump":Str),iL _]:Ñ)=_;rw[Gf b]
 |test a e=>obtain⟨y,rfl,_,b,rfl⟩:=h;show([("test":Str),a,iL _]:Ñ)=_;rw[Gf b]
 |_=>exact h.1.symm
def kbM(x:Str):Txt.join " " (ą x)=x:=by
 show Builtin.Str.glued " " _=_;rw[StrLaws.glued_eq_join];exact StrLaws.join_split x " "
def G2(P:É gD)(nm:Ñ):ik->Str
 |.part x a=>Txt.join " " ("part"::x::a)
 |r=>si P (nS nm r)
def Bd(P a:É gD):Ñ:=(a.map (kr P)).flatten
def kgt(h:kn r=false->d≠[]):Bd P (lM nm d r)=Bd P d++[G2 P nm r]:=by
 cases c:kn r with
 |true=>
  cases r with
  |part x f=>
   show((d++[_]).map (kr P)).flatten=_;rw[g8,DP];rfl
  |_=>cases c
 |false=>
  have e:=h c;obtain⟨a,b,rfl⟩:∃a b,d=a++[b]:=Î d.dropLast (d.getLast e) (xU e).symm;rw[xc c,wR];unfold Bd;rw[g8,DP,g8,DP,sM];congr 1;show kr P _++[]=(kr P b++[])++_;rw[oe,oe];unfold kr;show oR b::(b.rows++[nS nm r]).map (si P)=oR b::b.rows.map (si P)++_;rw[g8,show G2 P nm r=si P (nS nm r) from by
   cases r with
   |part x f=>cases c
   |_=>rfl];rfl
def mw.acc(g:mw P a)(d:a[i]?=Á r)(np:kn r=false)(nm:Ñ):(a.take i).foldl (lM nm) []≠[]:=by
 have f:i<a.length:=(gR.mp d).1;obtain⟨b,c⟩:∃b,a[0]?=some b:=Æ a[0] (gF Ã);have e:kn b=true:=by
  cases z:kn b with
  |true=>rfl
  |false=>exact Ì (Í ⟨À,b,by rw[g.is,i3,c];rfl,z⟩) (g.form 0)
 refine Rx c e i (DS λz=>?_);rw[z,c] at d;cases d;rw[e] at np;cases np
def kex{xs:List Str}{b:List ik}(g:mw (readL xs) b):oQ (ki b)=xs:=by
 have l:=g.len;have j:∀i,i<=xs.length->Bd (ki b) ((b.take i).foldl (lM (iZ b)) [])=xs.take i:=λi=>by
  induction i with
  |zero=>intro _;rfl
  |succ i n=>
   intro q;have m:xs[i]?=Á xs[i]:=gF Ã;obtain⟨r,d,k⟩:=g.line m;rw[vT d,xZ,vT m];show Bd _ (lM _ _ r)=_;rw[kgt λo=>g.acc d o _,n Ã];congr 2;have h:=kbM xs[i];generalize xs[i]=x at k h;cases c:kn r with
   |true=>
    cases r with
    |part y ps=>rw[<-h,k.1];rfl
    |_=>cases c
   |false=>
    have e:=kdK (ps:=ki b) k c λa f p z=>by
     rw[E4];exact g.call_in (iS (by rw[d,z]))
    rw[E4] at e;rw[show G2 (ki b) (iZ b) r=si (ki b) (nS (iZ b) r) from by
     cases r with
     |part x ps=>cases c
     |_=>rfl,<-h,<-e]
    rfl
 have:=j xs.length ï;rw[<-l,vL,l,vL] at this;exact this
theorem OQ(I:gD->Prop):∀(f:List ik) (d:List gD),(∀b∈d,I b)->(∀x ps,ik.part x ps∈f->I (Î x ps []))->(∀b r,I b->r∈f->kn r=false->I ⟨b.name,b.params,b.rows++[nS nm r]⟩)->∀b∈f.foldl (lM nm) d,I b
 |[],d,h,_,_=>h
 |r::f,d,h,i,j=>by
  refine OQ I f (lM nm d r) ?_ (λx ps m=>i x ps (my _ m)) λb q e m=>j b q e (my _ m);cases c:kn r with
  |true=>
   cases r with
   |part x ps=>
    intro b e;rcases iT.mp e with z|z
    .exact h b z
    .rw[g_.mp z];exact i x ps Ò
   |_=>cases c
  |false=>
   rw[xc c];by_cases g:d=[]
   .subst g;intro b e;cases e
   .obtain⟨a,b,rfl⟩:∃a b,d=a++[b]:=Î d.dropLast (d.getLast g) (xU g).symm;rw[wR];intro k e;rcases iT.mp e with z|z
    .exact h k (mP _ z)
    .rw[g_.mp z];exact j b r (h b Ò) Ò c
def GS(a:É ik):Prop:=∀i j,i<j->j<=a.length->(∃r,a[i]?=Á r/\kn r=true)->(∀m,i<m->m<j->∀r,a[m]?=Á r->kn r=false)->j<=i+25
def kfw(h:GS d):∀i,i<=d.length->(∀b∈(d.take i).foldl (lM nm) [],b.rows.length<=24)/\((d.take i).foldl (lM nm) []=[]\/∃f b p,(d.take i).foldl (lM nm) []=f++[b]/\p<i/\(∃r,d[p]?=Á r/\kn r=true)/\(∀m,p<m->m<i->∀r,d[m]?=Á r->kn r=false)/\p+1+b.rows.length=i):=λi=>by
 induction i with
 |zero=>intro _;exact⟨λb g=>(by cases g),È À⟩
 |succ i B=>
  intro y;obtain⟨n,u⟩:=B Ã;have k:d[i]?=Á d[i]:=gF Ã;generalize d[i]=r at k;rw[vT k,xZ];show(∀b∈lM nm _ r,_)/\(lM nm _ r=[]\/∃f b p,lM nm _ r=_/\_);generalize (d.take i).foldl (lM nm) []=f at n u;cases c:kn r with
  |true=>
   cases r with
   |part x C=>
    refine⟨λb g=>?_,Í ⟨f,Î x C [],i,À,Ã,Î _ k À,λm s w=>Ã,À⟩⟩;rcases iT.mp g with z|z
    .exact n b z
    .rw[g_.mp z];exact lu _
   |_=>cases c
  |false=>
   rw[xc c];rcases u with rfl|⟨a,b,p,rfl,E,t,o,D⟩
   .exact⟨λb g=>(by cases g),È À⟩
   .rw[wR];have j:∀m,p<m->m<i+1->∀r,d[m]?=Á r->kn r=false:=λm s w q l=>by
     by_cases e:m=i
     .subst e;rw[k] at l;cases l;exact c
     .exact o m s Ã q l
    have:=h p (i+1) Ã y t j;refine⟨λv g=>?_,Í ⟨a,_,p,À,Ã,t,j,by show p+1+Ô (b.rows++[_])=_;rw[ie];show p+1+(b.rows.length+1)=_;lia⟩⟩;rcases iT.mp g with z|z
    .exact n v (mP _ z)
    .rw[g_.mp z];show Ô (b.rows++[_])<=24;rw[ie];show b.rows.length+1<=24;lia
def Ms(h:ą x=ws)(c:n<=ws.length)(d:∀w∈ws.drop n,1<=w.length):Ô (ws.drop n)+Ô (ws.drop n)+n<=x.length+1:=by
 have g:=BZ x;rw[h] at g;have e:=Ax (ws.take n) (ws.drop n);rw[xW] at e;have:∀(a:List Str),(∀w∈a,1<=w.length)->a.length<=mh a:=λa=>by
  induction a with
  |nil=>exact λ_=>lu _
  |cons v r f=>
   intro b;have i:=b v Ò;have j:=f λw c=>b w (by simp[c]);show r.length+1<=v.length+mh r;lia
 have:=this _ d;have:Ô (ws.drop n)=ws.length-n:=tu ..;lia
def Kw:iW->Prop
 |.num x z=>x.length<=8/\pF z
 |.op x s a b=>x.length<=8/\s.length<=8/\a.length<=8/\b.length<=8
 |.call x _ c=>x.length<=8/\c.length<=100/\∀a∈c,a.length<=8
 |.say a=>a.length<=8
 |.jump _=>True
 |.test a _=>a.length<=8
 |.give a=>a.length<=8
def mw.mem{xs:List Str}{f:List ik}(g:mw (readL xs) f){r:ik}(h:r∈f):∃x∈xs,i8 (ą x) r:=by
 obtain⟨i,c,e⟩:=nB.mp h;have a:i<xs.length:=by rw[<-g.len];exact c
 have d:xs[i]?=Á xs[i]:=gF a;obtain⟨k,b,j⟩:=g.line d;rw[gF c,e] at b;cases b;exact Î _ (iS d) j
def kko(g:mw (readL xs) e)(l:∀x∈xs,x.length<=201)(h:r∈e)(np:kn r=false):Kw (nS nm r):=by
 obtain⟨x,k,c⟩:=g.mem h;have p:=l x k;cases r with
 |part y q=>cases np
 |num y z=>
  obtain⟨w,_,n,_,rfl,o⟩:=c;exact Î n.l8 Ã (by show((nj w:Nat):Int)<2 ^ 64;lia)
 |op y s a b=>exact⟨c.2.1.l8,Pc c.2.2.1,c.2.2.2.1.l8,c.2.2.2.2.l8⟩
 |call y f d=>
  refine Î c.2.1.l8 ?_ (λa i=>(c.2.2.2 a i).l8);have:=Ms (n:=4) c.1 (IL 4 _) λw j=>(c.2.2.2 w j).l1;have this:d.length+d.length+4<=x.length+1:=this;lia
 |jump m=>trivial
 |test a m=>obtain⟨w,_,n,_⟩:=c;exact n.l8
 |_=>exact c.2.l8
def ki8(g:mw (readL xs) d)(f:∀x∈xs,x.length<=201):∀b∈ki d,gP b.name/\b.params.length<=100/\(∀y∈b.params,gP y)/\∀r∈b.rows,Kw r:=by
 refine OQ (λb=>gP b.name/\b.params.length<=100/\(∀y∈b.params,gP y)/\∀r∈b.rows,Kw r) d [] (λb a=>by cases a) (λx e m=>?_) λb r a m l=>⟨a.1,a.2.1,a.2.2.1,λq h=>?_⟩
 .obtain⟨y,k,c⟩:=g.mem m;refine⟨c.2.1,?_,c.2.2,λr i=>by cases i⟩;have:=Ms (n:=2) c.1 (IL 2 _) λw j=>(c.2.2 w j).l1;have this:e.length+e.length+2<=y.length+1:=this;have:=f y k;show e.length<=100;lia
 .rcases iT.mp h with z|z
  .exact a.2.2.2 q z
  .rw[g_.mp z];exact kko g f m l
def khZ(g:mw (readL xs) c)(D:∀x∈xs,x.length<=201)(u:GS c)(l:Ô (iZ c)<=8):tL (ki c)/\(vh (ki c)->r_ 100 (ki c)):=by
 have j:=ki8 g D;have G:Ô (ki c)<=8:=by rw[<-E4,fP] at l;exact l
 have q:∀b∈ki c,b.rows.length<=24:=by
  have:=(kfw (nm:=iZ c) u c.length ï).1;rw[vL] at this;exact this
 refine Æ ⟨Ã,λb d=>⟨(j b d).2.1,by have:=q b d;lia,λr m=>?_⟩⟩ (λw=>Æ G (λb d=>⟨(j b d).1.l8,(j b d).2.1,λy C=>((j b d).2.2.1 y C).l8,by have:=q b d;lia,λr m=>?_⟩))
 .have k:=(j b d).2.2.2 r m;cases r with
  |call x n p=>exact k.2.1
  |op x s a b=>show 2<=100;decide
  |num x z=>show 0<=100;decide
  |jump t=>show 0<=100;decide
  |_=>show 1<=100;decide
 .have k:=(j b d).2.2.2 r m;obtain⟨i,B,e⟩:=nB.mp d;have f:=AH (w i b (by rw[gF B,e])).row r m;have:=q b d;have v:∀o:Int,¬(o<0\/(b.rows.length:Int)<=o)->pF o:=λo h=>Æ Ã Ã;cases r with
  |call x n p=>
   have f:¬(n<0\/(lL (ki c))[n.toNat]?≠Á p.length):=f;have E:0<=n:=ES.mp λz=>f (È z);refine⟨k.1,E,?_,k.2.1,k.2.2⟩;have e:(lL (ki c))[n.toNat]?=Á p.length:=Classical.not_not.mp λz=>f (Í z);have:=(gR.mp e).1;unfold lL at this;rw[fP] at this;lia
  |jump t=>exact v t f
  |test a t=>exact Æ k (v t f)
  |_=>exact k
def wg(xs:Ñ)(k:Nat):Bool:=æ (Txt.slice ((xs[k]?).getD "") Ç (Á 5)="part ")
def nW(xs:Ñ)(n:Nat):É Nat:=(lH n).filter (wg xs)
def F3{xs:List Str}{h:List ik}(g:mw (readL xs) h){i:Nat}{r:ik}(c:h[i]?=Á r):wg xs i=kn r:=by
 have j:i<xs.length:=by rw[<-g.len];exact(gR.mp c).1
 have d:xs[i]?=Á xs[i]:=gF j;obtain⟨m,b,f⟩:=g.line d;rw[c] at b;cases b;unfold wg;rw[d,BC,Bool.eq_iff_iff,decide_eq_true_eq,<-FA];obtain⟨w,t,e,k⟩:=ID f;constructor
 .rintro⟨o,n,a⟩;rw[e] at a;injection a with a _;exact k.mp a
 .intro z;cases r with
  |part y l=>exact Î y l f.1
  |_=>cases z
theorem Ph(g:mw (readL xs) a):∀i,i<=a.length->Ô (iZ (a.take i))=Ô (nW xs i)
 |0,_=>rfl
 |i+1,e=>by
  have b:a[i]?=Á a[i]:=gF Ã;have d:=F3 g b;generalize a[i]=r at b d;have c:=Ph g i Ã;rw[vT b];unfold nW iZ at c ⊢;rw[vO,Bv,wD,ie,ie,c,BA,d];cases r<;>rfl
def kkd(g:mw (readL xs) b)(h:∀a u v,(nW xs xs.length++[xs.length])[a]?=Á u->(nW xs xs.length++[xs.length])[a+1]?=Á v->v<=u+25):GS b:=by
 intro i j G H ⟨r,n,B⟩ p;have D:=g.len;have E:i<b.length:=Ã
 have d:i∈nW xs xs.length:=wJ.mpr ⟨tE.mpr Ã,by rw[F3 g n,B]⟩;have w:(nW xs xs.length).Pairwise (·<·):=List.Pairwise.filter _ List.pairwise_lt_range;have f:∀m∈nW xs xs.length,m<b.length/\∀r,b[m]?=Á r->kn r=true:=λm z=>by
  obtain⟨x,y⟩:=wJ.mp z;exact⟨by have:=tE.mp x;lia,λr n=>by rw[<-F3 g n];exact y⟩
 generalize nW xs xs.length=T at h d w f;obtain⟨a,l,e⟩:=nB.mp d;have s:(T++[xs.length])[a]?=Á i:=by rw[uc l,gF l,e]
 by_cases c:a+1<T.length
 .have k:(T++[xs.length])[a+1]?=Á T[a+1]:=by rw[uc c,gF c]
  have o:=DJ.mp w a (a+1) l c Ã;have:=h a i _ s k;obtain⟨q,t⟩:=f _ (nE c);rw[e] at o;generalize T[a+1]=m at o this q t;by_cases C:m<j
  .have:=p m o C _ (gF q);rw[t _ (gF q)] at this;cases this
  .lia
 .have k:(T++[xs.length])[a+1]?=Á xs.length:=by
   rw[tr Ã,show a+1-T.length=0 from Ã];rfl
  have:=h a i _ s k;lia
def xu.one(h:xu P a)(h':xu P b):a=b:=by
 have vE:∀{j d:List ik},P=j.map some->P=d.map some->j=d:=λe o=>Ea (e.symm.trans o);have i:∀{n:Nat} {j:List ik},xu P (.line n)->mw P j->False:=λh g=>by
  rcases h with h|⟨_,d,e,h⟩
  .exact g.form _ h.1
  .rw[vE e g.is] at h;exact g.call _ h.1
 cases a with
 |line n=>cases b with
  |line m=>
   rcases h with h|⟨y,j,e,h⟩<;>rcases h' with h'|⟨q,d,o,h'⟩
   .rw[h.one h']
   .exact Ì h.1 (q _)
   .exact Ì h'.1 (y _)
   .rw[vE e o] at h;rw[h.one h']
  |prog k n w=>obtain⟨j,g,_⟩:=h';exact(i h g).elim
  |read r=>obtain⟨j,g,_⟩:=h';exact(i h g).elim
 |prog k n w=>
  obtain⟨j,g,f⟩:=h;cases b with
  |line m=>exact(i h' g).elim
  |prog v x B=>
   obtain⟨d,l,p⟩:=h';rw[vE g.is l.is] at f;obtain⟨s,t,u⟩:=f.one p;rw[s,t,u]
  |read r=>
   obtain⟨d,l,c,_⟩:=h';rw[vE g.is l.is] at f;exact Ì c f.clean
 |read r=>
  obtain⟨j,g,c,e⟩:=h;cases b with
  |line m=>exact(i h' g).elim
  |prog v x B=>
   obtain⟨d,l,p⟩:=h';rw[vE g.is l.is] at c;exact Ì c p.clean
  |read z=>
   obtain⟨d,l,C,o⟩:=h';rw[e,o,vE g.is l.is]
end Bg
namespace L2
open PySem PySem.Spec PyProof.Rows
def kfb{K:a_}{a b:d_}{xs ys:List V}{g:lW}{q:e_}{D:sW}{c:fO}{H:b_}(J:ys.length<=xs.length)(d:Nat->fO->b_->Prop)(r:d 0 c H)(w:∀i c H,i<=ys.length->d i c H->hH K H a xs/\hH K H b ys)
  (z:∀i x y c H p,xs[i]?=Á x->ys[i]?=Á y->H p=none->d i c H->g (Â p) c (Ā H p [x,y]) λh j=>q {D with nx:=d (i+1),ct:=d (i+1),bk:=D.nx} h j) (s:∀c H,d ys.length c H->D.nx c H) :
  ∃W:Nat->Nat->fO->b_->Prop,(∃m,W 0 m c H)/\∀i m c H,W i m c H->
   ((tZ K a b).stop i H/\D.nx c H)\/((tZ K a b).go i H/\∃N:fO->b_->Prop,(∀f H',N f H'->∃o,o<m/\W (i+1) o f H')/\∀x H',(tZ K a b).yld i H x H'->g x c H' λh j=>q {D with nx:=N,ct:=N,bk:=D.nx} h j):=by
 refine Î (λi m c H=>m=ys.length-i/\i<=ys.length/\d i c H) ⟨ys.length,Ò,lu _,r⟩ ?_;rintro i m c H ⟨rfl,t,p⟩;obtain⟨k,l⟩:=w i c H t p;by_cases n:i<ys.length
 .refine Í ⟨⟨xs,_,ys,_,k,gF Ã,l,gF n⟩,d (i+1),λf H' G=>⟨ys.length-(i+1),Ã,À,n,G⟩,λx H' y=>?_⟩;obtain⟨I,v,u,E,rfl,rfl,C,B⟩:=y;exact z i v u c H I (C xs k) (B ys l) E p
 .have e:i=ys.length:=Ã
  subst e;exact È ⟨⟨xs,ys,k,l,Í ï⟩,s c H p⟩
end L2
namespace Bg
open PySem L2
def kez{K:a_}{l:d_}{xs:List Str}{H:b_}{Q:fS}{g h j k m n p r t a b:Option V}(w:H l=Ð (xs.map Ê))(C:xs.length<=9000)(G:∀x∈xs,x.length<=9000)
  (q:∀(D:d_) (H':b_),H' D=Ð (gu (nW xs xs.length))->Ö H'->Q (Â D) H') :
  i9 [] 1 (om (Þ (ÿ (gV K) 5))) (gB 12) (ð (Bl K) (kE (wz K) (Ó 5 (fI 12)) kH (kB sf)) DZ) (fI 12) [g,h,j,k,m,Å l,n,p,r,t,a,b] H Q:=by
 refine⟨_,À,_,_,À,lY w,_,À,Ã,Ã,λD y=>?_⟩;refine BU (λi d H'=>∃(o:Option V),d=[g,h,j,k,m,Å l,n,p,r,t,a,b,o]/\H' D=Ð (gu (nW xs i))/\Ö H') ?_ ?_ ?_
 .exact⟨Ç,À,fG,(Ø H).new y⟩
 .rintro i d H' f ⟨o,rfl,e,s⟩;have f:i<xs.length:=by simpa using f
  have v:xs[i]?=Á xs[i]:=gF f;have E:=G _ (nE f);have u:wg xs i=æ (Txt.slice xs[i] Ç (Á 5)="part "):=by unfold wg;rw[v];rfl
  have B:nW xs (i+1)=nW xs i++if wg xs i=true then[i] else[]:=by
   unfold nW;rw[vO,Bv,BA];rfl
  generalize xs[i]=x at v E u;rw[show(0:Int)+((i:Nat):Int)=((i:Nat):Int) from Ã];show n_ D _ _ _ [g,h,j,k,m,Å l,n,p,r,t,a,b,gm i] H';refine Õ _ À _ (m8 (s _ _ w) v (Ą 5 (Í ⟨x,À,mv (gY Ã),Í (ñ À _ À (gz (λc=>?_) (λc=>?_)))⟩)))
  .have c:Txt.slice x Ç (Á 5)="part ":=by injection c
   rw[B,u,decide_eq_true c,if_pos À];refine⟨_,À,_,e,gY ?_,_,À,?_,kR s y⟩
   .rw[mI];have:=wF (wg xs) (lH i);rw[uX] at this;unfold nW;lia
   .rw[fG];unfold gu;rw[g8];rfl
  .have c:¬Txt.slice x Ç (Á 5)="part ":=λz=>c (by rw[z]);rw[B,u,decide_eq_false c,ù Ï,oe];exact⟨_,À,e,s⟩
 .rintro d H' ⟨o,_,e,s⟩;exact q D H' (by simpa using e) s
def kdb{j:List Nat}{k:Nat}{K:a_}{a b:d_}{xs ys:List V}{g:lW}{n:kU}{o:gp}{R:b_->Prop}{c:fO}{H:b_}{D:d_}(q:ys.length<=xs.length)(d:Nat->fO->b_->Prop)(r:d 0 (oM j k c) (Ý H D []))(t:∀i c H,i<=ys.length->d i c H->hH K H a xs/\hH K H b ys)
  (u:∀i x y c H p,xs[i]?=Á x->ys[i]?=Á y->H p=none->d i c H->g (Â p) c (Ā H p [x,y]) λe h=>n_ D n o {nx:=d (i+1),rt:=λ_ _=>False,ct:=d (i+1),bk:=λ_ H'=>R H'} e h) (s:∀c H,d ys.length c H->R H) :
  ∃W:Nat->Nat->fO->b_->Prop,(∃m,W 0 m (oM j k c) (Ý H D []))/\∀i m c H,W i m c H->
   ((tZ K a b).stop i H/\R H)\/((tZ K a b).go i H/\∃N:fO->b_->Prop,(∀f H',N f H'->∃l,l<m/\W (i+1) l f H')/\∀x H',(tZ K a b).yld i H x H'->g x c H' λe h=>n_ D n o {nx:=N,rt:=λ_ _=>False,ct:=N,bk:=λ_ H'=>R H'} e h):=
 kfb (D:=ì (R H') (λ_ _=>False)) q d r t u s
def kcN{K:a_}{T:d_}{b:List Nat}{H:b_}{Q:fS}{n r t w B C E G I f g:Option V}(X:H T=Ð (gu b))(aa:b.length<=9000)
  (q:∀(D:d_) (c:List Int) (H':b_),H' D=Ð (c.map V.int)->c.length<=b.length->(∀a u v,b[a]?=Á u->b[a+1]?=Á v->((v:Nat):Int)-(u:Nat)∈c)->Ö H'->Q (Â D) H') :
  i9 [] 2 (Bj K (ç (fI 9) (kE (wz K) (fI 9) (kB gA) kH))) (rL K 2 (lg (gB 12) (lg (gB 13) pU))) kT (ô vu 13 (fI 12)) [n,r,t,w,B,C,E,G,I,Å T,f,g] H Q:=by
 refine⟨_,À,_,À,1,À,È (Í (È ⟨T,_,À,Ù X,λU nU=>?_⟩))⟩;rw[show(1:Int)=((1:Nat):Int) from À,Ct,show(gu b).drop 1=gu (b.drop 1) from by unfold gu;rw[BP]];have R:Ö (Ý H U (gu (b.drop 1))):=(Ø H).new nU;have M:Ĉ H U (gu (b.drop 1)) U=Ð (gu (b.drop 1)):=fG;generalize upd H U (.lst (gu (b.drop 1)))=S at R M ⊢;have k:=R _ _ X;refine⟨T,U,À,Æ _ (Ù k),Æ _ (Ù M),λD Z=>?_⟩;have P:Ô (gu (b.drop 1))=b.length-1:=by rw[mI,tu]
 refine kdb (xs:=gu b) (ys:=gu (b.drop 1)) (by rw[P,mI];lia) (λi d H'=>∃(o o':Option V) (c:List Int),d=[n,r,t,w,B,C,E,G,I,Å T,f,g,o,o']/\H' D=Ð (c.map V.int)/\c.length=i/\(∀a u v,a<i->b[a]?=Á u->b[a+1]?=Á v->((v:Nat):Int)-(u:Nat)∈c)/\gJ S H') ?_ ?_ ?_ ?_
 .exact⟨Ç,Ç,[],À,fG,À,λa u v z=>(by cases z),(Ø S).new Z⟩
 .rintro i d H' _ ⟨_,_,_,rfl,_,_,_,s⟩;exact⟨Ù (s _ _ k),Ù (s _ _ M)⟩
 .rintro i x y d H' p O m np ⟨o,o',c,rfl,L,J,l,s⟩;have hi:i<b.length-1:=by rw[<-P];exact(gR.mp m).1
  unfold gu at O m;rw[i3] at O m;obtain⟨u,hu,rfl⟩:=pj.mp O;obtain⟨v,Y,rfl⟩:=pj.mp m;rw[List.getElem?_drop,Nat.add_comm] at Y;refine⟨p,_,À,fR.of fG,À,_,_,À,_,_,À,À,?_⟩;show n_ D _ _ _ [n,r,t,w,B,C,E,G,I,Å T,f,g,gm u,gm v] _;have s2:=s.new (o:=.tup [Ë (u:Nat),Ë (v:Nat)]) np;refine oO ⟨_,À,_,À,_,_,À,À,_,(Ø H').new np _ _ L,gY (by rw[fP];lia),_,_,c++[((v:Nat):Int)-(u:Nat)],À,by rw[fG,g8];rfl,by rw[ie,J];rfl,λa u' v' lt j h=>?_,kR s2 Z⟩;by_cases e:a=i
  .subst e;rw[hu] at j;rw[Y] at h;cases j;cases h;exact mO _ Ò
  .exact mP _ (l a u' v' Ã j h)
 .rintro d H' ⟨_,_,c,_,L,J,l,s⟩;rw[P] at J l;exact q D c H' L Ã (λa u v j h=>l a u v (by have:=(gR.mp h).1;lia) j h) (R.trans s)
def A9{K:a_}{H:b_}{d:Nat}{a b:d_}{us vs:List V}(i:H a=ä us)(k:H b=ä vs)(l:us.length=vs.length)(h:∀(j:Nat) x y,us[j]?=Á x->vs[j]?=Á y->mN K H d x y true):mN K H (d+1) (Â a) (Â b) true:=by
 by_cases n:a=b
 .subst n;exact .same
 .have:=mN.tups (K:=K) (H:=H) (d:=d) (es:=lq us.length true) n (fR.of i) (fR.of k) l (by simp) λj x y e f g c=>by
   rw[y9] at c;split at c
   .cases c;exact h j x y f g
   .cases c
  simpa using this
def vB{K:a_}{H:b_}{d:Nat}(z:Str):mN K H d (Ä z) (Ä z) true:=by
 have:=mN.flat (K:=K) (H:=H) (d:=d) (x:=Ä z) (y:=Ä z) À À;simpa[ow] using this
def Be{K:a_}{H:b_}{d:Nat}(z:Int):mN K H d (Ë z) (Ë z) true:=by
 have:=mN.flat (K:=K) (H:=H) (d:=d) (x:=Ë z) (y:=Ë z) À À;simpa[ow] using this
def RW{K:a_}{H:b_}{d:Nat}{a b:d_}{us:List V}(f:H a=ä us)(g:H b=ä us)(h:∀x∈us,mN K H d x x true):mN K H (d+1) (Â a) (Â b) true:=
 A9 f g À λj x y c e=>by
  rw[c] at e;cases e;exact h x (iS c)
def UV{K:a_}{H:b_}{d:Nat}{a b:d_}{c:List Str}(e:H a=ä (c.map Ê))(f:H b=ä (c.map Ê)):mN K H (d+1) (Â a) (Â b) true:=
 RW e f λx g=>by obtain⟨z,_,rfl⟩:=kA.mp g;exact vB z
def kkS{K:a_}{H:b_}{u v:V}{r:iW}(j:mK H u r)(l:mK H v r):mN K H 2 u v true:=by
 cases r with
 |call x k n=>
  obtain⟨p,a,rfl,d,f⟩:=j;obtain⟨q,b,rfl,g,h⟩:=l;refine A9 d g À λi u v e c=>?_
  match i,e,c with
  |0,e,c=>cases e;cases c;exact vB _
  |1,e,c=>cases e;cases c;exact vB _
  |2,e,c=>cases e;cases c;exact Be _
  |3,e,c=>cases e;cases c;exact UV f h
  |i+4,e,c=>cases e
 |_=>
  obtain⟨p,rfl,d⟩:=j;obtain⟨q,rfl,g⟩:=l;refine RW d g λx m=>?_;simp only[g7,mz,or_false] at m;rcases m with rfl|rfl|rfl|rfl|rfl<;>first|exact vB _|exact Be _
def UI{K:a_}{H:b_}{u v:V}{b:gD}(t:tI H u b)(c:tI H v b):mN K H 4 u v true:=by
 obtain⟨z,B,C,rvs,rfl,j,k,l,d⟩:=t;obtain⟨hY,D,iy,g,rfl,p,q,s,f⟩:=c;refine A9 j p À λi u v e a=>?_
 match i,e,a with
 |0,e,a=>cases e;cases a;exact vB _
 |1,e,a=>cases e;cases a;exact UV k q
 |2,e,a=>
  cases e;cases a;refine A9 l s (by rw[d.len,f.len]) λm x y n o=>?_;obtain⟨r,h,w⟩:=d.of_v n;exact kkS w (f.at_ m y r o h)
 |i+3,e,a=>cases e
def khY{K:a_}{d:Bool}{H:b_}{p k:d_}{ps:List gD}{Q:fS}(h:md H p ps)(h':md H k ps)(q:Q (.bl (!d)) H):Bk K d (Â p) (Â k) H Q:=by
 obtain⟨a,o,m⟩:=h;obtain⟨c,i,g⟩:=h';have l:a.length=c.length:=by rw[m.len,g.len]
 refine⟨p,k,a,c,À,À,Í ⟨fR.of o,fR.of i,l⟩,Í ⟨lq a.length true,l,Ò,λj u v e r s f=>?_,?_⟩⟩
 .have f:e=true:=by
   rw[y9] at f;split at f
   .exact(ď f).symm
   .cases f
  subst f;obtain⟨b,n,t⟩:=m.of_v r;exact UI t (g.at_ j v b s n)
 .rw[show(lq a.length true).all id=true from Ò];cases d<;>exact q
def LX{xs:List Str}(a:xs≠[])(h:∀x∈xs,kJ x):parse (Txt.join "\n" xs)=readL xs:=by
 unfold parse readL;rw[UH,BI a h]
def keW{ps:List gD}(f:sU ps):Ds 108 (oQ ps):=λy g=>by
 refine Æ ((E2 Ï f.wr).2 y g) ?_;have a:=Fx f ps λ_ h=>h;unfold oQ at g;rw[Kf] at g;obtain⟨q,d,rfl⟩:=kA.mp g;obtain⟨i,l,e⟩:=nB.mp d;have k:=a.get i q _ (by rw[gF l,e]) (gF (by rw[<-a.len];exact l));refine Æ (EK λw d=>(k.free.2 w d).2) ?_;rw[uB,BI k.free.1 λw d=>(k.free.2 w d).1];obtain⟨s,j,hm⟩:=List.mem_flatten.mp d;obtain⟨b,n,rfl⟩:=kA.mp j;have m:=f.wr.part b n;intro w d;rcases g7.mp hm with rfl|hm
 .have:=(B_ m).2 w d;lia
 .obtain⟨r,p,rfl⟩:=kA.mp hm;exact(OG Ï (λc o=>(f.wr.part c o).nm) (m.rows r p)).2 w d
theorem Mr{ps:List gD}:∀(a:List gD),(∀b∈a,b.rows.length<=8)->Ô ((a.map (kr ps)).flatten)<=a.length*9
 |[],_=>lu _
 |b::a,h=>by
  have:=Mr (ps:=ps) a λc d=>h c (my _ d);have:=h b Ò;rw[kL,rY,ie,iN];have:Ô (kr ps b)=b.rows.length+1:=by unfold kr;rw[iN,fP]
  lia
def kks{xs:List Str}(w:o_ 201 xs)(a:xs.length<=100):(xs.map (·.length)).sum+xs.length*("\n":Str).length<=16777216/\Ô (Txt.join "\n" xs)<=90000:=by
 have h:∀x∈xs,x.length<=201:=λx b=>(w x b).2;have m:xs.length*202<=100*202:=tw _ a;refine Æ (Dl h DN Ã) ?_;have:=EJ (sep:="\n") h;rw[DN] at this;lia
def kiw{K:a_}{H:b_}{p q:d_}{a:yC}{Q:fS}(h:xw H p a)(h':xw H q a)(k:Q (.bl true) H):DE K (Â p) (Â q) H Q:=by
 have f:∀{r:List V},H p=ä r->H q=ä r->(∀x∈r,mN K H 5 x x true)->DE K (Â p) (Â q) H Q:=λh h' e=>
  ⟨p,q,_,_,À,À,fR.of h,fR.of h',À,λj a b c d=>by rw[c] at d;cases d;exact e a (iS c),k⟩
 cases a with
 |line n=>
  refine f h h' λx l=>?_;simp only[g7,mz,or_false] at l;rcases l with rfl|rfl
  .exact vB _
  .exact Be _
 |prog i n w=>
  refine f h h' λx l=>?_;simp only[g7,mz,or_false] at l;rcases l with rfl|rfl|rfl|rfl
  .exact vB _
  .exact Be _
  .exact Be _
  .exact vB _
 |read L=>
  obtain⟨a,B,o⟩:=h;obtain⟨b,C,I⟩:=h';refine⟨p,q,_,_,À,À,fR.of B,fR.of C,À,λj x y c d=>?_,k⟩
  match j,c,d with
  |0,c,d=>cases c;cases d;exact vB _
  |1,c,d=>
   cases c;cases d;obtain⟨J,D,s⟩:=o;obtain⟨t,m,g⟩:=I;refine A9 D m (by rw[s.len,g.len]) λj u v E G=>?_;obtain⟨b,z,o⟩:=s.of_v E;exact UI o (g.at_ j v b G z)
  |j+2,c,d=>cases c
def xw.mono{H H':b_}{q:d_}{a:yC}(h:xw H q a)(s:Ö H'):xw H' q a:=by
 cases a with
 |read c=>obtain⟨p,e,b⟩:=h;exact⟨p,s _ _ e,b.mono (.of_same s)⟩
 |_=>exact s _ _ h
def Gi{r:i6}{b c:gp}{a:fO}{H:b_}{Q:fS}(h:b a H λx d=>c a d λy e=>r x y e Q):fV r b c a H Q:=h
def kev{t:gp}{a:fO}{H:b_}{Q:Bool->b_->Prop}(h:t a H λx H'=>GV x λk=>Q k H'):iY t a H Q:=h
def kg2{r:List V->b_->fS->Prop}{t:kF}{a:fO}{H:b_}{Q:fS}(h:t a H λvs b=>r vs b Q):iO r t a H Q:=h
def kkn{K:a_}{vs:List V}{H:b_}{Q:fS}{E:f_}(h:CV K vs H Q E):UX K (ì í Q) (gW Df vs) H:=by
 obtain⟨s,ns,rfl,aN,a8,q⟩:=h;refine⟨_,À,kM,λt a9=>?_⟩;have S1:iR K (Ý H t [Â s,Ë 0,Ë 0]) t 0:=⟨s,ns,0,fG,aN.mono (.of_same ((Ø H).new a9)),a8⟩;show O3 K _ [Å s,Å t,Ç,Ç,Ç,Ç,Ç,Ç,Ç,Ç,Ç,Ç] (Ý H t [Â s,Ë 0,Ë 0]);generalize upd H t (.lst [.ref s,.int 0,.int 0])=H1 at S1 ⊢;refine⟨_,À,t,4,0,À,S1,Ï,Ï,Ï,λd H2 d0 d1 S2 B2=>?_⟩;show O2 K _ [Å s,Å t,iX d,Ç,Ç,Ç,Ç,Ç,Ç,Ç,Ç,Ç] H2;refine⟨_,À,t,3,1,À,S2,Ï,Ï,Ï,λg H3 g0 g1 S3 B3=>?_⟩;show O1 K _ [Å s,Å t,iX d,iX g,Ç,Ç,Ç,Ç,Ç,Ç,Ç,Ç] H3;refine⟨_,À,t,7,2,À,S3,Ï,Ï,Ï,λp bh bs ys cs k4 H4 hp hA ok af S4 l4 B4=>?_⟩;show O0 K _ [Å s,Å t,iX d,iX g,Å p,Ç,Ç,Ç,Ç,Ç,Ç,Ç] H4;have G4:md H4 p (bs.map kI.up):=Î bh hp (kjC hA);have C:=kgB ok;have aG:((bs.map kI.up).map (·.name)).Nodup:=by rw[kgp];exact ok.nnd
 have aM:=kaZ ok;have gr:∀b∈bs.map kI.up,b.rows.length<=8:=λb' a5=>by
  obtain⟨b,hb,rfl⟩:=kA.mp a5;show Ô (b.rows.map gG.up)<=8;rw[fP];exact af b hb
 generalize bs.map kI.up=ps at G4 C aG aM gr;have aj:=keW C;have av:0<Ô (oQ ps):=by
  cases e:ps with
  |nil=>exact Ì e C.pos
  |cons b r=>show 0<Ô (oR b::_++_);simp
 have aQ:Ô (oQ ps)<=100:=by
  have h1:=Mr (ps:=ps) ps gr;have:ps.length*9<=8*9:=tw _ C.few;show Ô ((ps.map (kr ps)).flatten)<=100;lia
 have a4:∀L,mw (readL (oQ ps)) L->tL (ki L)/\(vh (ki L)->r_ 100 (ki L)):=λL g=>by
  have e:parse (uF ps)=readL (oQ ps):=LX (λz=>by rw[z] at av;cases av) λx J=>(aj x J).2.1;have:ki L=ps:=(kiE C aG (e.trans g.is)).2;rw[this];exact Æ C.wd (λ_=>C.wr.up)
 have aK:∀{σ:fO} {H:b_} {Q:fS} {E:f_},(∀(p:d_) (H':b_),md H' p ps->Ö H'->Q (Â p) H')->lN σ H λxs H2=>Ar K (Ä (uF ps)::xs++[]) H2 Q E:=λq1=>kdA C aG (λ_=>q1) λk n w f=>Ì aM f.clean;have aL:∀(l:d_) (j:List Str) (U:b_) (X Y I o7 P o9:Option V),U l=Ð (j.map Ê)->0<j.length->j.length<=100->o_ 201 j->(∀L,mw (readL j) L->tL (ki L)/\(vh (ki L)->r_ 100 (ki L)))->md U p ps->
   Gw K (ì í Q) [Å s,Å t,X,Y,Å p,Å l,I,o7,P,o9,Ç,Ç] U:=λl j U X Y I o7 P o9 hl ax af w wd G7=>by
  obtain⟨j1,j2⟩:=kks w af;have pe:parse (Txt.join "\n" j)=readL j:=LX (λz=>by rw[z] at ax;cases ax) λx J=>(w x J).1;refine⟨À,_,À,_,l,j,À,À,Ù hl,j1,?_⟩;show PZ K _ [Å s,Å t,X,Y,Å p,Å l,I,o7,P,o9,î (Txt.join "\n" j),Ç] U;refine⟨_,À,Txt.join "\n" j,À,j2,λL g=>(wd L (pe ▸ g)).1,λf a H8 fa du s8=>?_⟩;rw[pe] at du;show Gv K _ [Å s,Å t,X,Y,Å p,Å l,I,o7,P,o9,î (Txt.join "\n" j),Å f] H8;have aA:∀H9,gJ H8 H9->PY K (ì í Q) [Å s,Å t,X,Y,Å p,Å l,I,o7,P,o9,î (Txt.join "\n" j),Å f] H9:=λH9 s9=>by
   have aS:=s8.trans s9;refine⟨_,À,_,À,l,j,À,aS _ _ hl,Ã,λx J=>by have:=(w x J).2;lia,λL g=>(wd L g).1,λf' a' B a3 aZ aa=>?_⟩;obtain rfl:=du.one aZ;refine kiw (fa.mono (s9.trans aa)) a3 (Ú (lC ?_));have aE:=aS.trans aa;refine⟨_,À,p,ps,À,G7.mono (.of_same aE),C.wr.up,λaJ ab=>aK λp' aF aV ao=>Ú (È (khY aV (G7.mono (.of_same ((aE.trans ab).trans ao))) (q _)))⟩
  have aI:∀(w:Str) (us:List V),H8 f=ä (Ä w::us)->w≠"read"->Gv K (ì í Q) [Å s,Å t,X,Y,Å p,Å l,I,o7,P,o9,î (Txt.join "\n" j),Å f] H8:=λw us hf ne=>by
   refine á hf (Í (ñ À _ À (no (λz=>ne (by injection z)) (i4 (aA H8 (Ø H8))))))
  cases a with
  |read rs=>
   obtain⟨rp,hf,pa⟩:=fa;obtain⟨L,gd,cl,rfl⟩:=du;refine á hf (Í (ñ À _ À (mi ?_)));refine á hf ⟨rp,ki L,À,pa,(wd L gd).2 cl,λH9 s9=>Ú (Í (ñ À _ À ?_))⟩;have e:uF (ki L)=Txt.join "\n" j:=by unfold uF;rw[kex gd]
   rw[e];exact nN (λz=>Ì À z) λ_=>aA H9 s9
  |_=>exact aI _ _ fa â
 have bo:∀(l:d_) (j:List Str) (H6:b_) (X Y I o7 P:Option V),H6 l=Ð (j.map Ê)->0<j.length->j.length<=100->o_ 201 j->md H6 p ps->
   Gx K (ì í Q) [Å s,Å t,X,Y,Å p,Å l,I,o7,P,Ç,Ç,Ç] H6:=λl j H6 X Y I o7 P hl ax af w G6=>by
  unfold Gx;refine kd1 (Gi (kez hl Ã (λx J=>by have:=(w x J).2;lia) λD U hD s7=>?_));have tl:Ô (nW j j.length)<=j.length:=by
   have:=wF (wg j) (lH j.length);rw[uX] at this;exact this
  refine⟨_,À,_,_,À,lY (s7 _ _ hl),kK,λA nA=>?_⟩;have s8:gJ U (Ý U A [Ë (j.length:Nat)]):=(Ø U).new nA;refine Í (Í (È ⟨D,A,_,_,À,À,s8 _ _ hD,fG,mv (gY (by rw[mI];show _+1<=_;lia)),λT nT=>?_⟩));have hT:Ĉ (Ý U A [Ë (j.length:Nat)]) T (gu (nW j j.length)++[Ë (j.length:Nat)]) T=Ð (gu (nW j j.length++[j.length])):=by
   rw[fG];unfold gu;rw[g8];rfl
  have s9:=(s7.trans s8).new (o:=.lst (gu (nW j j.length)++[Ë (j.length:Nat)])) nT;show P1 K _ [Å s,Å t,X,Y,Å p,Å l,I,o7,P,Å T,Ç,Ç] _;generalize upd (upd U A (.lst [.int (j.length:Nat)])) T (.lst (gu (nW j j.length)++[.int (j.length:Nat)]))=H9 at hT s9 ⊢;have Tl:Ô (nW j j.length++[j.length])=Ô (nW j j.length)+1:=by rw[ie];rfl
  have az:∀B,gJ H9 B->iA (đ (å (Ce K) f9 (ý 4)) 5) (Gw K) (ì í Q) [Å s,Å t,X,Y,Å p,Å l,I,o7,P,Å T,Ç,Ç] B:=λB aa=>by
   have aC:=s9.trans aa;refine⟨_,À,p,ps,À,G6.mono (.of_same aC),C.wr.up,λO aJ _ a6 ab=>?_⟩;exact aL O (oQ ps) aJ X Y I o7 P _ a6 av aQ (λx J=>Æ (aj x J).2.1 (by have:=(aj x J).1;lia)) a4 (G6.mono (.of_same (aC.trans ab)))
  refine⟨_,À,_,_,À,È ⟨_,Ù hT,(mI _).symm⟩,_,_,À,À,_,À,gz (λc=>lC (az H9 (Ø H9))) λc6=>?_⟩;refine kev (Gi (kg2 (kdc (Gi (kcN hT Ã λG gs B hG gl gi aa=>Æ kK (λZ nZ=>?_))))));have ab:gJ B (Ý B Z [Ë 0]):=(Ø B).new nZ;refine Í (Í (È ⟨G,Z,_,_,À,À,ab _ _ hG,fG,mv (gY (by rw[fP];show _+1<=_;lia)),λM nM=>?_⟩));have hM:Ĉ (Ý B Z [Ë 0]) M (gs.map V.int++[Ë 0]) M=Ð ((gs++[0]).map V.int):=by rw[fG,g8];rfl
  have ao:=(aa.trans ab).new (o:=.lst (gs.map V.int++[Ë 0])) nM;generalize upd (upd B Z (.lst [.int 0])) M (.lst (gs.map V.int++[.int 0]))=aF at hM ao ⊢;refine⟨M,gs++[0],À,Ù hM,Ò,λz mx _=>⟨_,_,À,À,_,À,gz (λc=>az aF ao) λbt=>?_⟩⟩;have aD:=s9.trans ao;refine aL l j aF X Y I o7 P _ (aD _ _ hl) ax af w (λL gd=>khZ gd (λx J=>(w x J).2) (kkd gd λa u v h1 h2=>?_) ?_) (G6.mono (.of_same aD))
  .have:=mx _ (mP _ (gi a u v h1 h2));lia
  .have e:=Ph gd L.length ï;rw[vL,gd.len] at e;rw[e];rw[Tl] at c6;lia
 refine⟨_,À,p,ps,À,G4,C.wr.up,λl H5 nl hl s5=>?_⟩;show OZ K _ [Å s,Å t,iX d,iX g,Å p,Å l,Ç,Ç,Ç,Ç,Ç,Ç] H5;obtain⟨yl,aO⟩:=S4.lst;have bf:l≠t:=λz=>by rw[z,aO] at nl;cases nl
 generalize oQ ps=ol at aj av aQ hl;obtain⟨aW,ai⟩:=Bc λi R H'=>∃(I:Option V) (O:d_) (j:List Str) (k':Nat),R=[Å s,Å t,iX d,iX g,Å p,Å O,I,Ç,Ç,Ç,Ç,Ç]/\H' O=Ð (j.map Ê)/\O≠t/\j.length=ol.length/\Ds (108+21*i) j/\md H' p ps/\iR K H' t k'/\k'<=20000+4*i;refine⟨_,À,_,À,Ã,Ã,sP aW (ai.mpr ⟨_,l,ol,k4,À,hl,bf,À,aj,G4.mono (.of_same s5),S4.same s5,Ã⟩) ?_ ?_⟩
 .intro i R H6 hi lE;obtain⟨I,O,j,k6,rfl,ah,aw,zl,ay,G6,S6,bb⟩:=ai.mp lE;obtain⟨bp,S⟩:=S6.lst;refine⟨_,À,_,À,t,O,j,k6,108+21*i,À,S6,Ã,ah,aw,Ã,Ã,Ã,ay,λl2 bq k7 U aR a7 bx aT S7 bu B7=>?_⟩;refine ai.mpr ⟨_,l2,bq,k7,À,a7,(λz=>by rw[z,S] at aR;cases aR),Ã,?_,G6.mono (.of_but B7 S),S7,Ã⟩;rw[show 108+21*(i+1)=108+21*i+21 from Ã];exact aT
 intro R H6 lE;obtain⟨I,O,j,k6,rfl,ah,aw,zl,ay,G6,S6,bb⟩:=ai.mp lE;clear ai;have di:d.toNat<=3:=Ã
 show OY K _ [Å s,Å t,iX d,iX g,Å p,Å O,I,Ç,Ç,Ç,Ç,Ç] H6;refine⟨_,À,O,_,À,È (Ù ah),λo ak=>?_⟩;obtain⟨bp,S⟩:=S6.lst;have aB:o≠t:=λz=>by rw[z,S] at ak;cases ak
 have bg:O≠o:=f6 ah ak;have S7:=S6.new (o:=.lst (j.map Ê)) ak;have s7:gJ H6 (Ý H6 o (j.map Ê)):=(Ø H6).new ak;have ho:Ĉ H6 o (j.map Ê) o=Ð (j.map Ê):=fG;show P7 K _ [Å s,Å t,iX d,iX g,Å p,Å O,I,Å o,Ç,Ç,Ç,Ç] _;generalize upd H6 o (.lst (j.map V.str))=U at S7 s7 ho ⊢;have aq:∀x∈j,kJ x/\x.length<=171:=λx J=>Æ (ay x J).2.1 (by have:=(ay x J).1;lia);obtain⟨aX,au⟩:=Bc λi R H'=>∃(I P:Option V) (us:List Str) (k':Nat),R=[Å s,Å t,iX d,iX g,Å p,Å O,I,Å o,P,Ç,Ç,Ç]/\H' O=Ð (us.map Ê)/\o_ 201 us/\us.length=j.length/\H' o=Ð (j.map Ê)/\md H' p ps/\iR K H' t k'/\k'<=30000+10*i;refine⟨_,À,_,À,Ã,Ã,sP aX (au.mpr ⟨_,_,j,k6,À,s7 _ _ ah,λx J=>Æ (aq x J).1 (by have:=(aq x J).2;lia),À,ho,G6.mono (.of_same s7),S7,Ã⟩) ?_ ?_⟩
 .intro i R H8 hi lE;obtain⟨I,P,us,k8,rfl,ar,w8,ul,aH,G8,S8,bc⟩:=au.mp lE;show P6 K _ [Å s,Å t,iX d,iX g,Å p,Å O,Á (Ë (0+(i:Int))),Å o,P,Ç,Ç,Ç] H8;refine⟨_,À,_,À,_,_,À,lY ar,t,(us.length:Nat),k8,À,S8,Ã,Ã,Ã,λa H9 a0 a1 S9 B9=>?_⟩;show P2 K _ [Å s,Å t,iX d,iX g,Å p,Å O,Á (Ë (0+(i:Int))),Å o,iX a,Ç,Ç,Ç] H9;obtain⟨m,rfl⟩:∃m:Nat,a=(m:Nat):=Æ a.toNat Ã;have hm:m<j.length:=Ã
  have J:j[m]?=Á j[m]:=gF hm;have kx:=aq _ (nE hm);generalize j[m]=x at J kx;obtain⟨bw,aP⟩:=S8.lst;refine⟨_,À,_,À,_,À,m8 (B9 _ _ aB aH) J ⟨t,x,k8+1,À,S9,Ã,Ã,kx.1,λr ba B nr lr aY br aU=>?_⟩⟩;have ae:=B9.trans aU;have ag:=ae _ _ aw ar;refine⟨_,À,_,À,O,_,_,m,À,À,ag,?_,?_⟩
  .unfold uO;rw[if_pos Ã,if_pos (by rw[fP];lia),sL]
  .have bj:gZ B (Ý B O ((us.map Ê).set m (Ä r))):=(gZ.refl B).lst ag;refine au.mpr ⟨_,_,us.set m r,ba,À,by rw[fG,List.map_set],λy hy=>?_,by rw[uV];exact ul,?_,(G8.mono (.of_but ae aP)).mono bj,aY.mono .upd_at ag (Ne.symm aw),Ã⟩
   .rcases DI hy with z|rfl
    .exact w8 y z
    .exact Æ nr Ã
   .rw[fM (Ne.symm bg)];exact ae _ _ aB aH
 .intro R H8 lE;obtain⟨I,P,us,k8,rfl,ar,w8,ul,aH,G8,S8,bc⟩:=au.mp lE;exact bo O us H8 _ _ _ _ _ ar Ã Ã w8 G8
end Bg
namespace Bg
open PySem PySem.Spec PyProof.Rows L2
def Yh{K:a_}{vs:List V}{H:b_}{Q:fS}{E:f_}(h:BS K vs H Q E):vs.length=BQ.length:=by
 first|(obtain⟨_,_,_,_,rfl,_⟩:=h;rfl)
def kab{P:f5}{w:fW}{K:a_}{d:Str->Option c_}{c:Heap}{f:d_}{fd:m6}{g:c_}(F:Dy K "walked" "walked" u5 g f fd)(B:ic d)(b:FL P w K d c)(a:Fe P w K d c):oI P w K d c oK Mj f fd BQ (BS K):=
 F.ok kaS (λj H Q E h=>Yh h) λe A outer s H j Q E i h=>⟨_,kbk B b a i,kbH (E:=E) h⟩
def VS{K:a_}{vs:List V}{H:b_}{Q:fS}{E:f_}(h:Ab K vs H Q E):vs.length=Aa.length:=by
 first|(obtain⟨_,_,_,_,rfl,_⟩:=h;rfl)
def VO{P:f5}{w:fW}{K:a_}{b:Str->Option c_}{a:Heap}{f:d_}{fd:m6}(F:wk K "__init__" "NoProgram.__init__" xY f fd)(B:ic b)(T:DC K) :oI P w K b a oK HE f fd Aa (Ab K):=
 F.ok V4 (λe H Q E h=>VS h) λc A outer s H e Q E d h=>⟨_,Wa B d,Wj T (E:=E) h⟩
def WG{K:a_}{vs:List V}{H:b_}{Q:fS}{E:f_}(h:uU K vs H Q E):vs.length=x_.length:=by
 first|(obtain⟨_,_,rfl,_⟩:=h;rfl)
def WT{P:f5}{w:fW}{K:a_}{b:Str->Option c_}{a:Heap}{f:d_}{fd:m6}(F:wk K "__init__" "NoLine.__init__" x6 f fd)(B:ic b)(T:yX K) :oI P w K b a oK D6 f fd x_ (uU K):=
 F.ok Xa (λe H Q E h=>WG h) λc A outer s H e Q E d h=>⟨_,Xy B d,XQ T (E:=E) h⟩
def all_mk{l:PySem.W.OpenLaw}{w:fW}{K:a_}{h:Heap}{g:Str->Option c_}{fa:d_}(X:K.In h)(G:h.Ns i7 g)(eA:g "law"=Á (Â fa))
  {d:d_} (t:ly K i7 "NoLine"=Á (Á (Â d)))
  {a:d_} (j:ly K i7 "NoProgram"=Á (Á (Â a)))
  {cg cR:Str} {cH cG:d_} {bS:List c_} {cq:List Str} {bK:List c_} {bR:Bool} {bz:Option Bool} {b1:Option d_} {b4 b5 b6 b7 b8:Option c_}
  (cc:K.lookup d=Á (xR cg cR d cH cG bS true cq bK bR bz b1 b4 b5 b6 b7 b8)) (b2:nF K (Â d) "__getattribute__"=Á (Á (.builtin "BaseException.__getattribute__"))) (b3:nF K (Â d) "__getattr__"=Á Ç) (cn:nF K (Â d) "__setattr__"=Á (Á (.builtin "object.__setattr__")))
  {aN ba:Str} {aV aU:d_} {aw:List c_} {aQ:List Str} {aq:List c_} {av:Bool} {Y:Option Bool} {aA:Option d_} {aD aE aF aG aH:Option c_}
  (aK:K.lookup a=Á (xR aN ba a aV aU aw true aQ aq av Y aA aD aE aF aG aH)) (aB:nF K (Â a) "__getattribute__"=Á (Á (.builtin "BaseException.__getattribute__"))) (aC:nF K (Â a) "__getattr__"=Á Ç) (aP:nF K (Â a) "__setattr__"=Á (Á (.builtin "object.__setattr__")))
  {bI cj:Str} {bQ:d_} {bo bj:List c_} {bB:Bool} {bJ:List Str} {bb:List c_} {bh:Bool} {a7:Option Bool} {bA:Option d_} {bC bD bE bF bG:Option c_} {bH:String}
  (cb:K.lookup d=Á (wV bI cj d bQ bo bj bB bJ bb bh a7 bA bC bD bE bF bG bH)) (cf:rX K d (.type "BaseException")=Á true)
  {ak aO:Str} {au:d_} {O M:List c_} {aa:Bool} {ao:List Str} {J:List c_} {L:Bool} {I:Option Bool} {Z:Option d_} {ab ae af ag ah:Option c_} {aj:String}
  (aJ:K.lookup a=Á (wV ak aO a au O M aa ao J L I Z ab ae af ag ah aj)) (aL:rX K a (.type "BaseException")=Á true)
  (b9:rh K (Â d)=true)
  (aI:rh K (Â a)=true)
  (eo:rX K a (Â a)=Á true)
  (ep:rX K d (Â d)=Á true)
  (dx:rX K a (Â a)=Á true)
  (dy:rX K a (Â d)=Á Ü)
  {bL:Tok} (bO:ly K i7 "FIGURES"=Á (Á (.str "0123456789" bL)))
  {bM:Tok} (bP:ly K i7 "LETTERS"=Á (Á (.str "abcdefghijklmnopqrstuvwxyz" bM)))
  {bg:d_} {cQ:Option d_} {dc:Nat} {cT:Array (Option c_)} {cv cx cz cB cD cE:Tok} (cX:ly K i7 "WORDS"=Á (Á (Â bg))) (cO:K.lookup bg=Á ⟨.type "tuple",cQ,.seq #[.str "part" cv,.str "call" cx,.str "say" cz,.str "jump" cB,.str "test" cD,.str "give" cE] dc,cT⟩)
  {bf:d_} {cP:Option d_} {da:Nat} {cS:Array (Option c_)} {cu cw cy cA cC:Tok} (cW:ly K i7 "SIGNS"=Á (Á (Â bf))) (cN:K.lookup bf=Á ⟨.type "tuple",cP,.seq #[.str "+" cu,.str "-" cw,.str "*" cy,.str "<" cA,.str "=" cC] da,cS⟩)
  (d2:nF K (Â d) "line"=Á Ç)
  (d3:nF K (Â a) "part"=Á Ç)
  (d4:nF K (Â a) "row"=Á Ç)
  (d5:nF K (Â a) "word"=Á Ç)
  (d6:nF K (Â d) "line"=Á Ç)
  (d7:nF K (Â a) "part"=Á Ç)
  (d8:nF K (Â a) "row"=Á Ç)
  (d9:nF K (Â a) "word"=Á Ç)
  (l0:iu K "figures" L1)
  (l1:iu K "line_of" L3)
  (l2:iu K "write" Fm)
  (l3:iu K "reads" Oe)
  (l4:iu K "names_read" TN)
  (l5:iu K "sets" Pa)
  (l6:iu K "goal" O')
  (l7:iu K "leads" Od)
  {fE dQ:Option d_} {fF:Array (Option c_)} {fD d1 dY ei dw dV:c_} {f8:d_}
  {T8:d_} {ec:c_} {ef:Option d_} {fC:Nat} {en:Array (Option c_)}
  (a8:ly K i7 "walked"=Á (Á (Â f8)))
  (l8:K.lookup f8=Á ⟨fD,fE,.func (pK "walked" "walked" (rZ u5) (nJ u5) (kf u5) (Â T8) d1 dY ei dQ dw dV),fF⟩) (c8:u0 K dw "walked"=true) (k8:rh K (Â f8)=true)
  (t8:K.lookup T8=Á ⟨ec,ef,.seq #[c_.none] fC,en⟩)
  (l9:iu K "unset_due" Iu)
  {ed dO:Option d_} {ej:Array (Option c_)} {ea dZ dW eg dt dS:c_} {c7:d_}
  (es:nF K (Â a) "__init__"=Á (Á (Â c7)))
  (eF:K.lookup c7=Á ⟨ea,ed,.func (pK "__init__" "NoProgram.__init__" (rZ xY) (nJ xY) (kf xY) .none dZ dW eg dO dt dS),ej⟩) (ey:u0 K dt "NoProgram.__init__"=true) (eD:rh K (Â c7)=true)
  (eB:EZ K (Â c7)=true)
  (eG:iu K "refuse" Mm)
  (eH:iu K "comes_round" Tx)
  (eI:iu K "ring_due" KZ)
  (eJ:iu K "calls_amiss" Tw)
  (eK:iu K "goes_astray" Tz)
  (eL:iu K "row_due" L4)
  (eM:iu K "name_due" IB)
  (eN:iu K "check" Oc)
  (eO:iu K "numbered" KY)
  (eP:iu K "program_of" HY)
  {ee dP:Option d_} {ek:Array (Option c_)} {eb d0 dX eh du dU:c_} {c9:d_}
  (et:nF K (Â d) "__init__"=Á (Á (Â c9)))
  (eQ:K.lookup c9=Á ⟨eb,ee,.func (pK "__init__" "NoLine.__init__" (rZ x6) (nJ x6) (kf x6) .none d0 dX eh dP du dU),ek⟩) (ez:u0 K du "NoLine.__init__"=true) (eE:rh K (Â c9)=true)
  (eC:EZ K (Â c9)=true)
  (eR:iu K "refuse_calls" Th)
  (eS:iu K "numbers_of_parts" Hj)
  (eT:iu K "refuse_forms" Ti)
  (eU:iu K "is_number" Ir)
  (eV:iu K "is_name" I_)
  (eW:iu K "are_names" Iq)
  (eX:iu K "setting_read" Tj)
  (eY:iu K "line_read" VB)
  (eZ:iu K "read" FQ)
  (e0:iu K "_law_read" R7)
  (e1:iu K "_law_next" R6)
  (e2:iu K "_law_without" EN)
  (e3:iu K "_law_unset" Rr)
  (e4:iu K "_law_round" Rq)
  (e5:iu K "_law_bad_row" Oa)
  (e6:iu K "_law_part_due" Et)
  (e7:iu K "_law_due" UU)
  (e8:iu K "_law_row_read" Mn)
  (e9:iu K "_law_read_here" Er)
  (fb:iu K "_law_figures" Fk)
  (fc:iu K "_law_is_name" Fl)
  (fe:iu K "_law_names_all" Kg)
  (ff:iu K "_law_line_good" L0)
  (fg:iu K "_law_bad_line" E5)
  (fh:iu K "_law_text_due" MT)
  (fi:iu K "_law_told" RX)
  (fj:iu K "_law_row_text" E6)
  (fk:iu K "_law_lines" Ro)
  (fl:iu K "_law_draw" R5)
  (fm:iu K "_law_word_spoilt" D_)
  (fo:iu K "_law_line_spoilt" VA)
  (fp:iu K "_law_changed" Ob)
  (fq:iu K "_law_filled" FP)
  (ft:iu K "_law_leads" Rn)
  (fu:iu K "_law_set_names" Es)
  (fv:iu K "_law_mended" O_)
  (fw:iu K "_law_worth" Rt)
  (fx:iu K "_law_rough_row" L5)
  (fy:iu K "_law_part" GG)
  (fz:iu K "_law_names" Gn)
  (fA:iu K "_law_program" Fo)
  (fB:iu K "law" Dp)
  (dD:ly K i7 "len"=Á Ç) (df:ly K i7 "range"=Á Ç) (cU:ly K i7 "divmod"=Á Ç) (dE:ly K i7 "max"=Á Ç) (dF:ly K i7 "min"=Á Ç) (dI:ly K i7 "sum"=Á Ç) (dA:ly K i7 "all"=Á Ç) (aR:ly K i7 "isinstance"=Á Ç) (dC:ly K i7 "int"=Á Ç) (dn:ly K i7 "bool"=Á Ç) (dr:ly K i7 "list"=Á Ç) (dh:ly K i7 "tuple"=Á Ç) (bc:ly K i7 "enumerate"=Á Ç) (dJ:ly K i7 "zip"=Á Ç) (cV:ly K i7 "sorted"=Á Ç) (dG:ly K i7 "set"=Á Ç) (dq:ly K i7 "dict"=Á Ç) (dH:ly K i7 "str"=Á Ç) (dB:ly K i7 "any"=Á Ç) (bN:ly K i7 "reversed"=Á Ç) (dz:ly K i7 "abs"=Á Ç) :
  ∃fd:m6,(∀(s:fU) (v:c_),yy s fd (Æ [v] []) [("_law_script",v)])/\∀b:Heap,K.In b->b.Ns i7 g->oI l.prog w K g b oK GX fa fd RG (CV K):=by
 have B:ic g:=⟨nH X G dD,nH X G df,nH X G cU,nH X G dE,nH X G dF,nH X G dI,nH X G dA,nH X G aR,nH X G dC,nH X G dn,nH X G dr,nH X G dh,nH X G bc,nH X G dJ,nH X G cV,nH X G dG,nH X G dq,nH X G dH,nH X G dB,nH X G bN,nH X G dz⟩;have e:iI K "NoLine"=d:=OK t;have c:iI K "NoProgram"=a:=OK j;have n:mW K d:=⟨⟨_,_,_,_,_,_,_,_,_,_,_,_,_,_,_,cc⟩,b2,b3,cn⟩;have f:mW K a:=⟨⟨_,_,_,_,_,_,_,_,_,_,_,_,_,_,_,aK⟩,aB,aC,aP⟩;have ar:DD K d:=Æ ⟨_,_,_,_,_,_,_,_,_,_,_,_,_,_,_,_,_,cb⟩ cf;have r:DD K a:=Æ ⟨_,_,_,_,_,_,_,_,_,_,_,_,_,_,_,_,_,aJ⟩ aL;have ck:yH g "FIGURES" "0123456789":=⟨Æ _ (tD X G bO)⟩;have cm:yH g "LETTERS" "abcdefghijklmnopqrstuvwxyz":=⟨Æ _ (tD X G bP)⟩;have de:yI K g "WORDS" [Ä "part",Ä "call",Ä "say",Ä "jump",Ä "test",Ä "give"]:=⟨⟨_,_,_,_,tD X G cX,cO,À,À,D0,.cons (Æ _ À) (.cons (Æ _ À) (.cons (Æ _ À) (.cons (Æ _ À) (.cons (Æ _ À) (.cons (Æ _ À) .nil)))))⟩⟩;have dd:yI K g "SIGNS" [Ä "+",Ä "-",Ä "*",Ä "<",Ä "="]:=⟨⟨_,_,_,_,tD X G cW,cN,À,À,yh,.cons (Æ _ À) (.cons (Æ _ À) (.cons (Æ _ À) (.cons (Æ _ À) (.cons (Æ _ À) .nil))))⟩⟩;have cM:g "NoLine"=Á (Â (iI K "NoLine")):=tD X G t |>.trans (by rw[e]);have a9:g "NoProgram"=Á (Â (iI K "NoProgram")):=tD X G j |>.trans (by rw[c]);have aW:yX K:=Æ (by rw[e];exact n) (by rw[e];exact d2);have cF:DC K:=⟨(by rw[c];exact f),(by rw[c];exact d3),(by rw[c];exact d4),(by rw[c];exact d5),(by rw[c];exact Î f r eo)⟩;have di:Vf K:=⟨(by rw[e];exact n),(by rw[e];exact d6),(by rw[e];exact Î n ar ep),(by rw[c];exact f),(by rw[c];exact d7),(by rw[c];exact d8),(by rw[c];exact d9),(by rw[c];exact Î f r dx),(by rw[c,e];exact Î f ar dy)⟩;have F8:=khi (st:=u5) l8 c8 k8;have dM:=AV (st:=xY) eF ey eD;have eu:=dM.binds (ps:=Aa) λ_ _ _ _ _ _ us hl=>by(obtain⟨_,_,_,_,rfl⟩:=Sr (us:=us) hl);rfl
 have dN:=AV (st:=x6) eQ ez eE;have ew:=dN.binds (ps:=x_) λ_ _ _ _ _ _ us hl=>by(obtain⟨_,_,rfl⟩:=Hf (us:=us) hl);rfl
 refine kkv (k:=U_) X G eA fB (λb=>?_) λ_ _ _ _=>kkn;have aZ:Ln l.prog w K g b:=ĉ X G l0 (kah B) kaL;have a0:Lo l.prog w K g b:=ĉ X G l1 (kaj B aZ) kaN;have bY:Nw l.prog w K g b:=ĉ X G l2 (kdl B a0) kdx;have S:Ff l.prog w K g b:=ĉ X G l3 (kdk B) kdw;have E:TQ l.prog w K g b:=ĉ X G l4 (WW B S) WO;have cK:FL l.prog w K g b:=ĉ X G l5 (ke6 B) kfp;have aS:FJ l.prog w K g b:=ĉ X G l6 (OL B) kfn;have cL:Ox l.prog w K g b:=ĉ X G l6 (OL B) kfq;have bX:Fe l.prog w K g b:=ĉ X G l7 (kdj B aS) kdv;have dR:uC K _ BQ []:=λs us X hl=>by(obtain⟨_,_,rfl⟩:=Hf (us:=us) (show us.length=2 from by rw[oe] at hl;exact hl));exact PySem.W.binds_K (fd:=pK "walked" "walked" (rZ u5) (nJ u5) (kf u5) (Â T8) d1 dY ei dQ dw dV) X À t8 À À À
 have br:Me l.prog w K g b:=⟨⟨_,_,tD X G a8,k8,dR,kab F8 B cK bX⟩⟩;have T:UG l.prog w K g b:=ĉ X G l9 (XE B E br S) XU;have aM:yN l.prog w K g b "NoProgram" (iI K "NoProgram") Aa HE (Ab K):=⟨⟨c7,_,tD X G j |>.trans (by rw[c]),by rw[c];exact⟨f,es,eB,aI⟩,eu,VO dM B cF⟩⟩;have bq:Md l.prog w K g b:=Bf X G eG (kbj B aM) λ_ _ _ _=>kbG cF;have C:Ts l.prog w K g b:=ĉ X G eH (Wo B aS) WJ;have az:KH l.prog w K g b:=ĉ X G eI (Yt B C) Yl;have z:Tr l.prog w K g b:=ĉ X G eJ (Wn B) WH;have D:Tt l.prog w K g b:=ĉ X G eK (Wp B cL) WK;have a3:Lp l.prog w K g b:=ĉ X G eL (kak B z D) kaO;have ax:KF l.prog w K g b:=ĉ X G eM (Yr B) Yj;have bW:Nv l.prog w K g b:=Bf X G eN (kdi B T bq az a3 ax) λ_ _ _ _=>kdu;have ay:KG l.prog w K g b:=ĉ X G eO (Ys B) Yk;have H:TR l.prog w K g b:=ĉ X G eP (WX B ay) WQ;have ai:yN l.prog w K g b "NoLine" (iI K "NoLine") x_ D6 (uU K):=⟨⟨c9,_,tD X G t |>.trans (by rw[e]),by rw[e];exact⟨n,et,eC,b9⟩,ew,WT dN B aW⟩⟩;have u:Ta l.prog w K g b:=Bf X G eR (Wb B ai) λ_ _ _ _=>Wk aW;have o:SA l.prog w K g b:=ĉ X G eS (kio B) kiq;have x:Tb l.prog w K g b:=Bf X G eT (Wc B ai) λ_ _ _ _=>Wl aW;have q:Ik l.prog w K g b:=ĉ X G eU (XB B ck) XS;have m:Em l.prog w K g b:=ĉ X G eV (kai B cm de) kaM;have p:Ij l.prog w K g b:=ĉ X G eW (XA B m) Vz;have y:Tc l.prog w K g b:=ĉ X G eX (Wd B dd m p q) Wm;have R:Ue l.prog w K g b:=ĉ X G eY (XC B q m p y) XT;have aT:FK l.prog w K g b:=Bf X G eZ (ke5 B bW H u o x R) λ_ _ _ _=>kfo;have dk:RA l.prog w K g b:=ĉ X G e0 (kjl B) kj9;have dj:RI l.prog w K g b:=ĉ X G e1 (kjj B) kj7;have b0:Nz l.prog w K g b:=ĉ X G e2 (kdo B dj) kdz;have c5:PJ l.prog w K g b:=ĉ X G e3 (kg9 B dk b0) khC;have c2:PH l.prog w K g b:=ĉ X G e4 (kg8 B) khB;have bT:Nr l.prog w K g b:=ĉ X G e5 (kdd B) kdZ;have bt:Mf l.prog w K g b:=ĉ X G e6 (kbl B c5 c2 bT) kbI;have dv:UZ l.prog w K g b:=ĉ X G e7 (kjE B bt) kkm;have bu:Mg l.prog w K g b:=ĉ X G e8 (kbm B) kbJ;have a4:Lq l.prog w K g b:=ĉ X G e9 (kal B bu) kaP;have bV:Nu l.prog w K g b:=ĉ X G fb (kdf B) kds;have P:Fd l.prog w K g b:=ĉ X G fc (kdh B) kdt;have aY:Lm l.prog w K g b:=ĉ X G fe (kag B P) kaK;have aX:Ll l.prog w K g b:=ĉ X G ff (kaf B bV aY P) YX;have bp:Mc l.prog w K g b:=ĉ X G fg (kbi B aX) kbF;have bx:Mi l.prog w K g b:=ĉ X G fh (kaU B dv a4 bp) kbv;have dm:RB l.prog w K g b:=ĉ X G fi (kjm B cM a9 aT) (kka di);have bw:Mh l.prog w K g b:=ĉ X G fj (kaT B) kbK;have cZ:PD l.prog w K g b:=ĉ X G fk (kg5 B bw) khz;have i:ur l.prog w K g b:=ĉ X G fl (kji B) kj6;have U:Va l.prog w K g b:=ĉ X G fm (XG B i) XW;have Q:Ud l.prog w K g b:=ĉ X G fo (Xz B i U) XR;have bU:Nt l.prog w K g b:=ĉ X G fp (kde B i) kd0;have cI:OC l.prog w K g b:=ĉ X G fq (ke3 B i) kfl;have cY:Pz l.prog w K g b:=ĉ X G ft (kg4 B) khy;have a6:Ls l.prog w K g b:=ĉ X G fu (kan B cY) kaR;have cJ:Ow l.prog w K g b:=ĉ X G fv (ke4 B) kfm;have c6:PL l.prog w K g b:=ĉ X G fw (kha B i) khD;have a5:Lr l.prog w K g b:=ĉ X G fx (kam B i c6) kaQ;have c_part:Rz l.prog w K g b:=ĉ X G fy (kjk B cI a6 cJ a5 i) kj8;have c0:PF l.prog w K g b:=ĉ X G fz (kg6 B i) khA;have bZ:Ny l.prog w K g b:=ĉ X G fA (kdm B c_part i c0) kdy;intro _ _ _ _ _ _ _ hr;exact kjF B bY aT bx dm cZ Q i bU bZ hr
def kkh{K:a_}{H:b_}{a:d_}{b:List Int}(o:Dt H)(h:hH K H a (b.map V.int)):sg K H a b:=by
 rcases h with(h|h)|h
 .rcases o a with z|⟨c,d,z⟩<;>rw[h] at z<;>cases z
 .exact È h
 .exact Í h
def walk{l:PySem.W.OpenLaw}{q:f5}{c:List Str}{m:(Str->Option c_)->Heap->Prop}{i:fW->Heap->Prop}{d:DefRec}{K:Params->a_}(v:l.most=Á 63)(g:d.params.defaults=[])
  (r:∀(w:fW) (h:Heap),i w h->(K w.params).In h)
  (F:∀(w:fW) (e:Str->Option c_) (j:d_) (h:Heap),(K w.params).In h->h.Ns i7 e->e d.name=Á (Â j)->
   ∃fd:m6,(∀(s:fU) (u:c_),yy s fd (Æ [u] []) [("_law_script",u)])/\∀b:Heap,(K w.params).In b->b.Ns i7 e->oI l.prog w (K w.params) e b oK GX j fd RG (CV (K w.params))) :
  PySem.W.WalkO q c m i l.row.toRowW d [] (λf vs=>FI f vs):=
 L2.walk_of (n:=63) (k:=GX) (x:="_law_script") (CX:=λ_=>oK) (sp:=λw=>CV (K w.params)) v Ï g (Î À Ï Ï) r F (λ_ _ a y t o p=>⟨a,y,À,kkh o p,t,λ_=>À⟩) λ_ _ _ _ _ z=>z
end Bg
open PySem PySem.W PyProof.Rows
namespace PySem.W.Fast
def tw8874249276458918547:=()
def tw8670444236743808603:=()
def tw16030136075664790140:=()
def tw7812185672603882676:=()
def tw11908735922484537875:=()
def tw14637785779956373466:=()
def tw4615169842296722070:=()
def tw16642332368469500232:=()
def tw13202928663613139861:=()
def tw9386280643446511581:=()
def tw2484557887217001635:=()
def tw18036423355494810567:=()
def tw7069462548117957662:=()
def tw10888142984441987831:=()
def tw9048694503200183186:=()
def tw1863318639402083721:=()
def tw4881654161994039046:=()
def tw16313403833558095037:=()
def tw11392980580560609705:=()
def tw6492590904588783672:=()
def tw16915274845331775025:=()
def tw8257600110651155597:=()
def tw4141705913046592157:=()
def tw1294535618278099853:=()
def tw1949760658362682060:=()
def tw2987925119827499727:=()
def tw1616962855864128929:=()
def tw16088494049243907122:=()
def tw14992309043023088551:=()
def tw5952255145199419400:=()
def tw14963985183539449660:=()
def tw9422172401697695084:=()
def tw17867703390942124778:=()
def tw9223083097987436925:=()
def tw12490660109553429283:=()
def tw1193419757948782380:=()
def tw15642807692266708530:=()
def tw6190895929908562980:=()
def tw5949206230703169011:=()
def tw14170275013938542848:=()
def tw15655438248724659468:=()
def tw5808188066060416946:=()
def tw10989602358647828501:=()
def tw16963989361075854712:=()
def tw14481855394084532288:=()
def tw14830090117670722373:=()
def tw8430128926287647437:=()
def tw10895946530198387747:=()
def tw14435201955155075762:=()
def tw2935875825139625089:=()
def tw3739174165699482103:=()
def tw14751718147213009058:=()
def tw4951022573202929608:=()
def tw4662823956909482550:=()
def tw16090039120145931714:=()
def tw9805450378133744545:=()
def tw11803794208382359033:=()
def tw5355150754154347631:=()
def tw16337773527512798706:=()
def tw15169479400583269875:=()
def tw271662702938525485:=()
def tw11357469599453646985:=()
def tw401525719393659416:=()
def tw16453207436753594373:=()
def tw5987101680518450575:=()
def tw9375682630008944627:=()
def tw8960196889388205991:=()
def tw12945080354419800798:=()
def tw16142020218121162112:=()
def tw7887264539260522626:=()
def tw5769733043228079997:=()
def tw6732107520751063234:=()
def tw12475394073542911525:=()
def tw11652485689258557925:=()
def tw8020548619183973754:=()
def tw3886134309687959068:=()
def tw1016952369375178256:=()
def tw17466645337399326446:=()
def tw17032995777986249558:=()
def tw14666232421615496413:=()
def tw18183599186890295909:=()
def tw7744279246150771073:=()
def tw2287650570952664075:=()
def tw555996858838593493:=()
def tw9403349021707327944:=()
def tw10772457395108144290:=()
def tw15493664722798945790:=()
def tw12799330938285967950:=()
def tw13417981757624494833:=()
def tw193092121031918228:=()
def tw15693141243302561459:=()
def tw14364749235094552623:=()
def tw14128951406291272048:=()
def tw17451423676859651018:=()
def tw16300793206811561234:=()
def tw9137732253328873975:=()
def tw1781842919419839139:=()
def tw15288994544154226541:=()
def tw16227823452385118327:=()
def tw7205204532867742807:=()
def tw14464027723337823941:=()
def tw17880255283251949275:=()
def tw269038755668420151:=()
def tw7713203121206047244:=()
def tw13941834915735808645:=()
def tw11761479623472203367:=()
def tw3119210749840706572:=()
def tw11260544733224585147:=()
def tw17400850691789646033:=()
def tw17556627291650954364:=()
def tw12225468888448068334:=()
def tw5414989939224448972:=()
def tw9403273827108466965:=()
def tw10323611664235972582:=()
def tw6746230696910602024:=()
def tw14833759193779632907:=()
def tw13813558550845152056:=()
def tw13659799941742619486:=()
def tw7282776352341855389:=()
def tw14799084557329592961:=()
def tw1344410336797446072:=()
def tw14070364542916880855:=()
def tw804505515037857049:=()
def tw4963171919308134589:=()
def tw15330193010045120257:=()
def tw13262905368693782116:=()
def tw6596085116285255101:=()
def tw7128651349570946077:=()
def tw5645680520897662813:=()
def tw16733860370432585761:=()
def tw7788959370618599081:=()
def tw1692513799631148422:=()
def tw13479984382456202301:=()
def tw15408678197403055448:=()
def tw14907909121483599760:=()
def tw15475524154138216977:=()
def tw11312978554418628078:=()
def tw14347266959515684930:=()
def tw9273634303822606628:=()
def tw820242265056825601:=()
def tw6773208398029763981:=()
def tw13819997769147054066:=()
def tw1569571952585540356:=()
def tw280787012791092839:=()
def tw4122546070321665366:=()
def tw15404294676605164745:=()
def tw17328267354816306294:=()
def tw18215637959721779058:=()
def tw5264028003544369725:=()
def tw14598745319657755994:=()
def tw7065287346902241638:=()
def tw4682025863348563603:=()
def tw15507976838372870402:=()
def tw16636670741143757029:=()
def tw7607628130523380522:=()
def tw8694147089374822282:=()
def tw38770392229467724:=()
def tw5584745395013919685:=()
def tw2120982997307836486:=()
def tw9065361229891117969:=()
def tw213742344237569681:=()
def tw46159912357286673:=()
def tw683241657529547588:=()
def tw8118675009361730145:=()
def tw1480764524413256443:=()
def tw388936064654593703:=()
def tw7499476187104084426:=()
def tw9808711060803594255:=()
def tw8245435425948677356:=()
def tw2613158230980249516:=()
def tw9031907650600227972:=()
def tw6476603924540943903:=()
def tw3738557163642967204:=()
def tw9107142438504712016:=()
def tw2186516255817623829:=()
def tw18231891759518947632:=()
def tw17561775531964626975:=()
def tw7797231098576648669:=()
def tw10268476258466993789:=()
def tw3590486969420993175:=()
def tw10324073302772057842:=()
end PySem.W.Fast
set_option maxHeartbeats 0 in
theorem PySem.Challenge.cw_beltgarth_k23_whole_texts_read_holds : PySem.Challenge.rw_beltgarth_k23_whole_texts_read.Holds := by
 w_on;o_law;k_head;(case hw=>w_witness2)
 k_fill
 refine Bg.walk (l:=PySem.Challenge.rw_beltgarth_k23_whole_texts_read) rfl rfl (λw h Y=>PySem.W.kIn_of Y) ?F
 case F=>
  intro w mg fa h KX G hmg
  refine' Bg.all_mk KX G hmg ?zc_NoLine ?zc_NoProgram ?lx_NoLine ?ga_NoLine ?gh_NoLine ?sa_NoLine ?lx_NoProgram ?ga_NoProgram ?gh_NoProgram ?sa_NoProgram ?le_NoLine ?me_NoLine ?le_NoProgram ?me_NoProgram ?kp_NoLine ?kp_NoProgram ?xm_6 ?xm_9 ?xm_14 ?xm_15 ?zq_FIGURES ?zq_LETTERS ?zq_WORDS ?lq_WORDS ?zq_SIGNS ?lq_SIGNS ?no_0 ?no_1 ?no_2 ?no_3 ?no_4 ?no_5 ?no_6 ?no_7 ?l0 ?l1 ?l2 ?l3 ?l4 ?l5 ?l6 ?l7 ?a8 ?l8 ?c8 ?k8 ?t8 ?l9 ?a10 ?l10 ?c10 ?k10 ?i10 ?l11 ?l12 ?l13 ?l14 ?l15 ?l16 ?l17 ?l18 ?l19 ?l20 ?a21 ?l21 ?c21 ?k21 ?i21 ?l22 ?l23 ?l24 ?l25 ?l26 ?l27 ?l28 ?l29 ?l30 ?l31 ?l32 ?l33 ?l34 ?l35 ?l36 ?l37 ?l38 ?l39 ?l40 ?l41 ?l42 ?l43 ?l44 ?l45 ?l46 ?l47 ?l48 ?l49 ?l50 ?l51 ?l52 ?l53 ?l54 ?l55 ?l56 ?l57 ?l58 ?l59 ?l60 ?l61 ?l62 ?l63 ?z_len ?z_range ?z_divmod ?z_max ?z_min ?z_sum ?z_all ?z_isinstance ?z_int ?z_bool ?z_list ?z_tuple ?z_enumerate ?z_zip ?z_sorted ?z_set ?z_dict ?z_str ?z_any ?z_reversed ?z_abs
  case zc_NoLine|zc_NoProgram|lx_NoLine|ga_NoLine|gh_NoLine|sa_NoLine|lx_NoProgram|ga_NoProgram|gh_NoProgram|sa_NoProgram|le_NoLine|me_NoLine|le_NoProgram|me_NoProgram|kp_NoLine|kp_NoProgram|xm_6|xm_9|xm_14|xm_15|zq_FIGURES|zq_LETTERS|zq_WORDS|lq_WORDS|zq_SIGNS|lq_SIGNS|no_0|no_1|no_2|no_3|no_4|no_5|no_6|no_7|a8|l8|c8|k8|t8|a10|l10|c10|k10|i10|a21|l21|c21|k21|i21|z_len|z_range|z_divmod|z_max|z_min|z_sum|z_all|z_isinstance|z_int|z_bool|z_list|z_tuple|z_enumerate|z_zip|z_sorted|z_set|z_dict|z_str|z_any|z_reversed|z_abs=>k_is
  all_goals (refine' Bg.defAt ?a ?l ?c ?k;(case a|l|c|k=>k_is))
