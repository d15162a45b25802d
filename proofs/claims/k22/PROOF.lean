import PyProof.Rows.All
import Wide.All
import OpenK.AllK
import Wide.FinOn
import Lean
import PyProof.EqAt
import PyProof.EqKinds
import PyProof.TupleCall
import PyProof.SetKind
import PyProof.Rows.SetFrom
import PyProof.FactsAll.set
import PyProof.DictIter
import PyProof.DictWalks
import PyProof.WalksMore
import PyProof.MakeMany
import PyProof.FactsAll.subtypes_4
import KE.KDictSum
import KE.KIntText
import KE.IntTextLaws
import PyProof.FString5
import PyProof.StrBlock2
import PyProof.FitsReplace
import PySem.Challenge.RW_beltgarth_k22_lines_refused
set_option Elab.async false
set_option autoImplicit true
set_option linter.all false
set_option maxHeartbeats 1000000
set_option maxHeartbeats 3200000
set_option maxHeartbeats 4000000
set_option maxRecDepth 100000
set_option relaxedAutoImplicit true
open PySem renaming Value->aa,wpAny_bind->ag,Shared->aq,Addr->ar,sizeLine->av,wpAny_pure->aC,wpAny->aO,starEach->aR,Program->aW,mainGlobals->aX,Around->bj,SetTable->bp,World->bK,compareOp->bP,NameKind->cu,wpAny_holding->cw,PassesOwn->cy,wpAny_mono->dh,mem_of_lookup->dB,wpAny_truthy_bool->dI,FuncData->dY,wpAny_loadPart_at->d5,wpAny_newObj_type->d6,assignEach->eh,wpAny_Call_Name_kw->eA,wpAny_callSpecial?_slot->eD,foldedSetIterable->eL,backTo->eV,attributeBase->e7,bootBuiltins->e8,binaryOp->fc,wpAny_field->ff,codeAny_builtin->fF,wpAny_isSubtype_exc->fJ,wpAny_call_entry->fQ,wpAny_passesOwn->gf,codeAny_call_builtin->gi,codeAny_mono->gj,sizeLine_eq->gk,checkBuiltinCall->gH,swapsWith->gI,wpAny_getItem_str_slice->gJ,call_meets->gR,wpAny_pyIter_tuple->gU,wpAny_standAt->hV,codeAny->ig,sysModules->iu,wpAny_call->iw,plainId_quiet->iU,strLen_append->iV,wpAny_execs_nil->i9,tupleKind_room_in1->je,excClassObj->jo,noteFrame->jq,sliceBounds->jt,relayAll->jF,wpAny_pyIter_enum->jG,wpAny_pyIter_list->jH,wpAny_seqItems->jI,wpAny_tryCatch->jJ,strKind->kJ,keywordEach->kQ,wpAny_of_eq->kR,codeAny_of_tree->lq,letOwnedTupleGo->lu,Keyword->lS,getItem->lT,plainKind->mf,rawInt->mi,wpAny_Name->mj,wpAny_loadPart->mq,wpAny_rule->mr,wpAny_setField->mw,behindInMarks->nH,pyNext->nI,wpAny_attempt->nJ,intItems->oE,IsPart->pH,argBest->pI,isInstance->pJ,typeLookup->pK,wpAny_typeOf->pL,GenState->rB,backToKw->rC,wpAny_letGo->rD,BindsTo->sR,callerA->sS,seqItems?->sT,setFlight->sU,tupleKind->sV,valueAt->sW,PlainAttrs->uw,call->y9
open List renaming length_map->ae,getElem?_eq_getElem->af,getElem?_eq_some_iff->ak,mem_singleton->aw,size_toArray->aA,mem_cons->aE,mem_of_getElem?->aF,length_append->aG,length_cons->aI,map_append->aN,getElem?_map->aQ,mem_append->aT,map_cons->aV,length_take->a8,mem_cons_of_mem->bq,mem_map->bA,mem_append_right->bD,replicate->bG,not_mem_nil->bH,getElem?_set_self->bI,take_of_length_le->bJ,take_add_one->bL,mem_append_left->bR,getElem?_append_right->bT,mem_iff_getElem->bV,mem_cons_self->bZ,getElem?_set_ne->b8,getElem_mem->ck,getElem?_append_left->cE,getLast?_eq_getElem?->cF,flatten_cons->cH,range->cK,length_singleton->cM,length_pos_iff->cP,length_replicate->c9,filterMap_cons->dc,map_nil->de,length_eq_zero_iff->di,nodup_cons->dw,getElem?_eq_none->dF,map_map->dM,mem_of_mem_take->dR,append_nil->dU,length_drop->dW,all_eq_true->eE,mem_range->eM,replicate_succ->eU,take_append_drop->eY,append_assoc->fq,length_set->fG,map_take->fP,lookup_cons->fR,getD_eq_getElem?_getD->fU,filterMap_append->fY,length_filter_le->fZ,find?_cons->gg,mem_of_mem_drop->gm,getElem?_replicate->gL,length->gP,contains_cons->gW,mem_filter->g7,lookup->ix,drop_eq_getElem_cons->iP,getElem?_range->iR,map_congr_left->iS,getElem?_take_of_lt->iW,foldl_cons->ja,head?_eq_getElem?->jK,length_range->jL,take_sublist->jM,take_length->kj,any_cons->kI,length_nil->lz,range_succ->lA,drop_zero->my,ext_getElem?->mW,foldl_append->mX,map_drop->nK,of_mem_zip->qw,sum_append->qx,map->rE,map_id->xp,foldl->y0
open PySem.Heap renaming get?_push_of_some->az,lt_size->aP,get?_push_size->aZ,get?_update_other->cx,get?_update_self->dE,size_push->d7
open Nat renaming le_refl->aD,lt_of_lt_of_le->bh,ne_of_lt->bu,not_lt_zero->bW,le_trans->b9,zero_le->cA,lt_irrefl->cQ,le_of_lt->cT,mul_le_mul_right->dr,lt_succ_iff_lt_or_eq->dy,lt_succ_of_lt->gp,toDigits->gX,add_sub_cancel->jf,lt_of_le_of_lt->jg,ne_of_gt->jN,lt_succ_self->ko,le_succ->kS,sub_self->lU,lt_or_ge->pM,lt_trans->pN,le_antisymm->qy,not_lt->y4
open Array renaming length_toList->bg,getElem?_eq_some_iff->bN,getElem?_toList->dD,toList_append->eT,eq_empty_of_size_eq_zero->gK,toList_inj->oF
open PySem.W renaming mg_none_of->bz,nsIn->bB,findIn->b5,keepIn->cV,mroIn->cY,fnOf->dv,mg_of->dz,codeIn->eN,emptyDict->fu,typeIn->jO,isClsIn->lB,looks_clsIn->lP,callWith_K->mz,methodObj->mZ,specialIn->m5,clsIn->nM,subIn->tJ,isFn->uU
open Option renaming map_eq_some_iff->b4,map_some->cv,bind_some->fS,isSome_iff_exists->gA,getD_some->gM,isSome_map->mY,getD_none->oG
open PySem.F renaming slot_str_split->cG,plainAttrs_str->cU,type_str_split->dX,excBase_ValueError->iy,args_str_split_2->iX,entry_str_split->ju,plainAttrs_list->jv
open Int renaming toNat_natCast->dJ,emod_lt_of_pos->dQ,emod_nonneg->dS,toNat->fo,not_lt->yZ
open PyProof.Rows renaming callWith_type1->dN,slot_tuple_getitem->eW,boot_tuple->gz,envOfC->hZ,boot_isinstance->i8,AllBare->lQ,IntsAre->lR,boot_int->mh,boot_list->oC,boot_all->rA
abbrev Fg := PySem.W.Frag
def Zx:0<=PySem.sizeLine:=by decide
def Zy:1<=PySem.sizeLine:=by decide
def Zz:2<=PySem.sizeLine:=by decide
def ZA:3<=PySem.sizeLine:=by decide
def ZC:4<=PySem.sizeLine:=by decide
def ZD:5<=PySem.sizeLine:=by decide
def ZE:6<=PySem.sizeLine:=by decide
abbrev ZF:=PySem.Value->PySem.Shared->Prop
section
namespace Bg
def WH{α:Type}{P:List α->Prop}{us:List α}(h:us.length=0)(k:P []):P us:=by cases us with|nil=>exact k|cons a r=>cases h
def Wt{α:Type}{P:List α->Prop}{us:List α}(h:us.length=1)(k:∀x0,P [x0]):P us:=by cases us with|nil=>cases h|cons a r=>exact WH (P:=λr=>P (a::r)) (Nat.succ.inj h) (k a)
def Wu{α:Type}{P:List α->Prop}{us:List α}(h:us.length=2)(k:∀x0 x1,P [x0,x1]):P us:=by cases us with|nil=>cases h|cons a r=>exact Wt (P:=λr=>P (a::r)) (Nat.succ.inj h) (k a)
def Wv{α:Type}{P:List α->Prop}{us:List α}(h:us.length=3)(k:∀x0 x1 x2,P [x0,x1,x2]):P us:=by cases us with|nil=>cases h|cons a r=>exact Wu (P:=λr=>P (a::r)) (Nat.succ.inj h) (k a)
def Ww{α:Type}{P:List α->Prop}{us:List α}(h:us.length=4)(k:∀x0 x1 x2 x3,P [x0,x1,x2,x3]):P us:=by cases us with|nil=>cases h|cons a r=>exact Wv (P:=λr=>P (a::r)) (Nat.succ.inj h) (k a)
def WJ{α:Type}{P:List α->Prop}{us:List α}(h:us.length=5)(k:∀x0 x1 x2 x3 x4,P [x0,x1,x2,x3,x4]):P us:=by cases us with|nil=>cases h|cons a r=>exact Ww (P:=λr=>P (a::r)) (Nat.succ.inj h) (k a)
def WK{α:Type}{P:List α->Prop}{us:List α}(h:us.length=6)(k:∀x0 x1 x2 x3 x4 x5,P [x0,x1,x2,x3,x4,x5]):P us:=by cases us with|nil=>cases h|cons a r=>exact WJ (P:=λr=>P (a::r)) (Nat.succ.inj h) (k a)
def WD{α:Type}{us:List α}(h:us.length=1):∃x0,us=[x0]:=Wt (P:=λus=>∃x0,us=[x0]) h λx0=>⟨x0,rfl⟩
def Wf{α:Type}{us:List α}(h:us.length=2):∃x0 x1,us=[x0,x1]:=Wu (P:=λus=>∃x0 x1,us=[x0,x1]) h λx0 x1=>⟨x0,x1,rfl⟩
def WE{α:Type}{us:List α}(h:us.length=3):∃x0 x1 x2,us=[x0,x1,x2]:=Wv (P:=λus=>∃x0 x1 x2,us=[x0,x1,x2]) h λx0 x1 x2=>⟨x0,x1,x2,rfl⟩
def Ws{α:Type}{us:List α}(h:us.length=4):∃x0 x1 x2 x3,us=[x0,x1,x2,x3]:=Ww (P:=λus=>∃x0 x1 x2 x3,us=[x0,x1,x2,x3]) h λx0 x1 x2 x3=>⟨x0,x1,x2,x3,rfl⟩
def WG{α:Type}{us:List α}(h:us.length=6):∃x0 x1 x2 x3 x4 x5,us=[x0,x1,x2,x3,x4,x5]:=WK (P:=λus=>∃x0 x1 x2 x3 x4 x5,us=[x0,x1,x2,x3,x4,x5]) h λx0 x1 x2 x3 x4 x5=>⟨x0,x1,x2,x3,x4,x5,rfl⟩
end Bg
end
section
namespace L2
open PySem PySem.Spec PyProof.Rows
abbrev g8:=Sum Int Str
def C4:g8->aa->Bool
 |.inl k,v=>aa.isInt k v
 |.inr x,v=>aa.isStrOf x v
def We(w:bK):g8->Int
 |.inl k=>hashInt k
 |.inr x=>hashStr w x
def gq:∀{k:g8} {v:aa},C4 k v=true->(∃i t,k=Sum.inl i/\v=aa.int i t)\/(∃x t,k=Sum.inr x/\v=aa.str x t)
 |.inl i,v,h=>by
  obtain⟨t,e⟩:=aa.isInt_shape (k:=i) (v:=v) h;exact .inl ⟨i,t,rfl,e⟩
 |.inr x,v,h=>by
  obtain⟨t,e⟩:=aa.isStrOf_shape (x:=x) (v:=v) h;exact .inr ⟨x,t,rfl,e⟩
def LF(i:Int)(t:Tok):C4 (.inl i) (.int i t)=true:=by simp[C4,aa.isInt]
def LG(x:Str)(t:Tok):C4 (.inr x) (.str x t)=true:=by simp[C4,aa.isStrOf]
def Tj(a b:Int):decide ((Sum.inl a:g8)=Sum.inl b)=(a==b):=by
 by_cases e:a=b
 ·subst e;simp
 ·have h:¬(Sum.inl a:g8)=Sum.inl b:=λq=>e (Sum.inl.inj q);rw[decide_eq_false h];exact(beq_eq_false_iff_ne.mpr e).symm
def Tq(a b:Str):decide ((Sum.inr a:g8)=Sum.inr b)=decide (a=b):=by
 by_cases e:a=b
 ·subst e;simp
 ·have h:¬(Sum.inr a:g8)=Sum.inr b:=λq=>e (Sum.inr.inj q);rw[decide_eq_false h,decide_eq_false e]
def Tn(a:Int)(b:Str):decide ((Sum.inl a:g8)=Sum.inr b)=false:=decide_eq_false (λq=>nomatch q)
def To(a:Str)(b:Int):decide ((Sum.inr a:g8)=Sum.inl b)=false:=decide_eq_false (λq=>nomatch q)
def fL(prog:aW)(w:bK):PySem.KeyKind prog w g8 where
 is:=C4
 hash:=We w
 inj:=λv a b ha hb=>by
  rcases gq ha with⟨i,t,rfl,rfl⟩|⟨x,t,rfl,rfl⟩
  ·rcases gq hb with⟨j,u,rfl,e⟩|⟨y,u,rfl,e⟩
   ·injection e with e1 _;rw[e1]
   ·exact nomatch e
  ·rcases gq hb with⟨j,u,rfl,e⟩|⟨y,u,rfl,e⟩
   ·exact nomatch e
   ·injection e with e1 _;rw[e1]
 byValue:=λk v h=>by
  rcases gq h with⟨i,t,rfl,rfl⟩|⟨x,t,rfl,rfl⟩<;>rfl
 pyHash:=λhv h=>by
  rcases gq hv with⟨i,t,rfl,rfl⟩|⟨x,t,rfl,rfl⟩
  ·exact wpAny_pyHash_int h
  ·exact wpAny_pyHash_str h
 eqBool:=λhu hv h=>by
  rcases gq hu with⟨i,t,rfl,rfl⟩|⟨x,t,rfl,rfl⟩
  ·rcases gq hv with⟨j,u,rfl,rfl⟩|⟨y,u,rfl,rfl⟩
   ·rw[Tj] at h;exact wpAny_eqBool_int h
   ·rw[Tn] at h;exact SeqAt.EqAt.int_str i t y u _ _ _ _ h
  ·rcases gq hv with⟨j,u,rfl,rfl⟩|⟨y,u,rfl,rfl⟩
   ·rw[To] at h;exact SeqAt.EqAt.str_int x t j u _ _ _ _ h
   ·rw[Tq] at h;exact wpAny_eqBool_str h
 «strs»:=λk x t v h=>by
  rcases gq h with⟨i,u,rfl,e⟩|⟨y,u,rfl,e⟩
  ·exact nomatch e
  ·injection e with e1 _;subst e1;cases v<;>rfl
def F8(prog:aW)(w:bK)(i:Int)(t:Tok):(fL prog w).is (.inl i) (.int i t)=true:=LF i t
def F9(prog:aW)(w:bK)(x:Str)(t:Tok):(fL prog w).is (.inr x) (.str x t)=true:=LG x t
inductive V where
 |non|bl (b:Bool)|int (i:Int)|str (x:Str)|byt (b:Array UInt8)|flt (b:UInt64)|ref (a:ar)|ty (n:String)
 deriving DecidableEq
def dA:V->aa->Prop
 |.non,u=>u=aa.none
 |.bl b,u=>u=aa.bool b
 |.int i,u=>∃t,u=aa.int i t
 |.str x,u=>∃t,u=aa.str x t
 |.byt b,u=>∃t,u=aa.bytes b t
 |.flt b,u=>∃t,u=aa.float b t
 |.ref a,u=>u=aa.ref a
 |.ty n,u=>u=aa.type n
abbrev c8:List V->List aa->Prop:=Paired dA
def c8.length{xs:List V}{us:List aa}(r:c8 xs us):xs.length=us.length:=Paired.length r
def c8.get:∀{xs:List V} {us:List aa} {i:Nat} {x:V},c8 xs us->xs[i]?=some x->∃u,us[i]?=some u/\dA x u
 |_,_,_,_,.nil,e=>by simp at e
 |_,_,0,_,.cons r _,e=>by simp at e;subst e;exact⟨_,rfl,r⟩
 |_,_,i+1,x,.cons _ t,e=>by
  obtain⟨u,h1,h2⟩:=c8.get (i:=i) (x:=x) t (by simpa using e);exact⟨u,by simpa using h1,h2⟩
def c8.set{x:V}{u:aa}(r:dA x u):∀{xs:List V} {us:List aa} (i:Nat),c8 xs us->c8 (xs.set i x) (us.set i u)
 |_,_,_,.nil=>.nil
 |_,_,0,.cons _ t=>.cons r t
 |_,_,i+1,.cons q t=>.cons q (c8.set r i t)
def c8.append:∀{xs ys:List V} {us ws:List aa},c8 xs us->c8 ys ws->c8 (xs++ys) (us++ws)
 |_,_,_,_,.nil,s=>s
 |_,_,_,_,.cons r t,s=>.cons r (c8.append t s)
def c8.take:∀{xs:List V} {us:List aa} (n:Nat),c8 xs us->c8 (xs.take n) (us.take n)
 |_,_,0,_=>.nil
 |_,_,_+1,.nil=>.nil
 |_,_,n+1,.cons r t=>.cons r (c8.take n t)
def c8.drop:∀{xs:List V} {us:List aa} (n:Nat),c8 xs us->c8 (xs.drop n) (us.drop n)
 |_,_,0,r=>r
 |_,_,_+1,.nil=>.nil
 |_,_,n+1,.cons _ t=>c8.drop n t
def rP:Option V->Option aa->Prop
 |some v,some u=>dA v u
 |none,none=>True
 |_,_=>False
def KV{κ:Type}:List (κ×V)->List (κ×aa)->Prop:=Paired λ(p:κ×V) (q:κ×aa)=>p.1=q.1/\dA p.2 q.2
def kV:g8->V
 |.inl i=>.int i
 |.inr x=>.str x
inductive HO where
  |lst (xs:List V)
  |tup (xs:List V)
  |dK (kvs:List (g8×V))|dT (kvs:List (List g8×V))
  |set (S:Int->Bool) (n:Nat)
  |ins (C dx:ar) (fs:List (Str×V))
  |own (x:ar)
  |xd (fs:List (Str×V))
  |met (f x:ar)
  |rng (lo hi:Int)
  |frz (o:Obj) (u:HO)
  |tbl (ps:Array aa)
  |ext (φ:Heap->Prop)
abbrev Hp:=ar->Option HO
def upd(H:Hp)(a:ar)(o:HO):Hp:=λb=>if b=a then some o else H b
def aj{H:Hp}{a:ar}{o:HO}:upd H a o a=some o:=by unfold upd;rw[if_pos rfl]
def aK{H:Hp}{a b:ar}{o:HO}(h:b≠a):upd H a o b=H b:=by unfold upd;rw[if_neg h]
def EW{H:Hp}{a:ar}{o u:HO}:upd (upd H a o) a u=upd H a u:=by
 funext b;unfold upd;split<;>rfl
def Sf{H:Hp}{a b:ar}{o u:HO}(h:H a=some o)(h':H b=some u)(d:o≠u):a≠b:=by
 intro e;subst e;rw[h] at h';exact d (Option.some.inj h')
def aB{H:Hp}{a b:ar}{o:HO}(h:H a=some o)(h':H b=none):a≠b:=by
 intro e;subst e;rw[h] at h';cases h'
def nR(h:Heap)(a:ar)(items:Array aa):Prop:=∃o,h.get? a=some o/\(o.cls=.type "tuple"/\o.dict=none)/\∃n,o.data=.seq items n
def nR.tup{h:Heap}{a:ar}{items:Array aa}(x:nR h a items):IsTup h a items:=let⟨o,e,c,n⟩:=x;⟨o,e,c.1,n⟩
def nR.lt{h:Heap}{a:ar}{items:Array aa}(x:nR h a items):a<h.objs.size:=let⟨_,e,_⟩:=x;aP e
def nR.new(h:Heap)(items:Array aa):nR (h.push {cls:=.type "tuple",data:=.seq items}) h.objs.size items:=⟨_,aZ _ rfl,⟨rfl,rfl⟩,_,rfl⟩
section
variable(P:aW)(w:bK)
def fg(H:Hp)(h:Heap)(a:ar):HO->Prop
 |.lst xs=>xs.length<=av/\∃(its:List aa) (n:Nat),c8 xs its/\h.get? a=some {cls:=.type "list",data:=.seq its.toArray n}
 |.tup xs=>xs.length<=av/\∃its:List aa,c8 xs its/\nR h a its.toArray
 |.dK kvs=>kvs.length<=av/\(a==iu)=false/\∃vs,KV kvs vs/\h.DictOf (fL P w) a vs
 |.dT kvs=>kvs.length<=av/\(a==iu)=false/\∃xs:List (List g8×ar×aa),
   Paired (λ(p:List g8×V) (q:List g8×ar×aa)=>p.1=q.1/\H q.2.1=some (.tup (p.1.map kV))/\dA p.2 q.2.2) kvs xs/\
   ∃o es ep,h.get? a=some o/\o.ExactDict/\o.data=.dict es ep/\es.toList=xs.map (entryOfKey (sV (fL P w)))/\(xs.map (·.1)).Nodup
 |.set S n=>h.SetOf (intKind P w) a S n
 |.ins C dx fs=>H dx=some (.own a)/\fs.length<=1000/\dx≠a/\h.get? a=some (PySem.W.instObj C dx)/\
   ∃mA,h.Ns1 dx mA/\(∀f,rP (fs.lookup f) (mA f))/\PySem.Within mA (fs.map (·.1))
 |.own _=>∃o,h.get? a=some o
 |.xd fs=>∃mA,h.Ns1 a mA/\∀f,rP (fs.lookup f) (mA f)
 |.rng lo hi=>∃t u v,h.get? a=some {cls:=.type "range",data:=.fields #[.int lo t,.int hi u,.int 1 v]}
 |.frz o u=>h.get? a=some o/\fg H h a u
 |.tbl ps=>h.get? a=some {cls:=.none,data:=.fields ps}
 |.met f x=>h.get? a=some (mZ (.ref f) (.ref x))
 |.ext φ=>φ h/\(∃o,h.get? a=some o)/\∀h1 h2:Heap,φ h1->(∀o,h1.get? a=some o->h2.get? a=some o)->φ h2
def rp(H:Hp)(h:Heap):Prop:=∀a o,H a=some o->fg P w H h a o
end
section
variable{P:aW}{w:bK}{H H':Hp}{h h':Heap}{a:ar}{o:HO}
def fg.lt(x:fg P w H h a o):a<h.objs.size:=by
 cases o with
 |lst xs=>obtain⟨_,_,_,_,e⟩:=x;exact aP e
 |tup xs=>obtain⟨_,_,_,p⟩:=x;exact p.lt
 |dK kvs=>obtain⟨_,_,_,_,o,_,_,e,_⟩:=x;exact aP e
 |dT kvs=>obtain⟨_,_,_,_,o,_,_,e,_⟩:=x;exact aP e
 |set S n=>obtain⟨o,_,_,_,e,_⟩:=x;exact aP e
 |ins C dx fs=>obtain⟨_,_,_,e,_⟩:=x;exact aP e
 |own y=>obtain⟨_,e⟩:=x;exact aP e
 |xd fs=>obtain⟨_,⟨_,_,_,e,_⟩,_⟩:=x;exact aP e
 |rng lo hi=>obtain⟨_,_,_,e⟩:=x;exact aP e
 |frz ob u=>obtain⟨e,_⟩:=x;exact aP e
 |tbl ps=>exact aP (show h.get? a=some _ from x)
 |met f y=>exact aP (show h.get? a=some _ from x)
 |ext φ=>obtain⟨_,⟨_,e⟩,_⟩:=x;exact aP e
def Paired.mapP{α β:Type}{F G:α->β->Prop}:∀{l₁:List α} {l₂:List β},Paired F l₁ l₂->(∀a b,F a b->G a b)->Paired G l₁ l₂
 |_,_,.nil,_=>.nil
 |_,_,.cons r t,f=>.cons (f _ _ r) (Paired.mapP t f)
def fg.stay(x:fg P w H h a o)(k:∀b u,(b=a\/H b=some (.own a))->h.get? b=some u->h'.get? b=some u)
  (ho:∀b,H b=some (.own a)->H' b=some (.own a)) (ht:∀b xs,H b=some (.tup xs)->H' b=some (.tup xs)):fg P w H' h' a o:=by
 induction o with
 |lst xs=>obtain⟨z,its,n,r,e⟩:=x;exact⟨z,its,n,r,k _ _ (.inl rfl) e⟩
 |tup xs=>obtain⟨z,its,r,ob,e,c⟩:=x;exact⟨z,its,r,ob,k _ _ (.inl rfl) e,c⟩
 |dK kvs=>obtain⟨z,y,vs,r,ob,es,ep,e,c⟩:=x;exact⟨z,y,vs,r,ob,es,ep,k _ _ (.inl rfl) e,c⟩
 |dT kvs=>
  obtain⟨z,y,xs,r,ob,es,ep,e,c⟩:=x;exact⟨z,y,xs,Paired.mapP r λp q z=>⟨z.1,ht _ _ z.2.1,z.2.2⟩,ob,es,ep,k _ _ (.inl rfl) e,c⟩
 |set S n=>obtain⟨ob,es,ep,t,e,c⟩:=x;exact⟨ob,es,ep,t,k _ _ (.inl rfl) e,c⟩
 |ins C dx fs=>
  obtain⟨d,z,ne,e,mA,⟨od,es,ep,e2,c⟩,r⟩:=x;exact⟨ho _ d,z,ne,k _ _ (.inl rfl) e,mA,⟨od,es,ep,k _ _ (.inr d) e2,c⟩,r⟩
 |own y=>obtain⟨ob,e⟩:=x;exact⟨ob,k _ _ (.inl rfl) e⟩
 |xd fs=>obtain⟨mA,⟨od,es,ep,e,c⟩,r⟩:=x;exact⟨mA,⟨od,es,ep,k _ _ (.inl rfl) e,c⟩,r⟩
 |rng lo hi=>obtain⟨t,u,v,e⟩:=x;exact⟨t,u,v,k _ _ (.inl rfl) e⟩
 |frz ob u ih=>obtain⟨e,q⟩:=x;exact⟨k _ _ (.inl rfl) e,ih q⟩
 |tbl ps=>
  have e:h.get? a=some {cls:=.none,data:=.fields ps}:=x;show h'.get? a=some {cls:=.none,data:=.fields ps};exact k a _ (.inl rfl) e
 |met f y=>
  have e:h.get? a=some (mZ (.ref f) (.ref y)):=x;show h'.get? a=some (mZ (.ref f) (.ref y));exact k a _ (.inl rfl) e
 |ext φ=>obtain⟨p,⟨o,e⟩,st⟩:=x;exact⟨st _ _ p λo q=>k _ _ (.inl rfl) q,⟨o,k _ _ (.inl rfl) e⟩,st⟩
def rp.lt(x:rp P w H h)(e:H a=some o):a<h.objs.size:=(x a o e).lt
def rp.fresh(x:rp P w H h)(e:h.objs.size<=a):H a=none:=by
 cases q:H a with
 |none=>rfl
 |some u=>exact absurd (bh (x.lt q) e) (cQ _)
def rp.kept(x:rp P w H h)(k:∀b u,h.get? b=some u->h'.get? b=some u):rp P w H h':=λa o e=>
 (x a o e).stay (λb u _ q=>k b u q) (λ_ q=>q) λ_ _ q=>q
def rp.laid(x:rp P w H h)(k:∀b u,h.get? b=some u->h'.get? b=some u)(hp:h.objs.size<=a)(new:fg P w (upd H a o) h' a o):rp P w (upd H a o) h':=λb u e=>by
 have hn:=x.fresh hp;by_cases hb:b=a
 ·subst hb;rw[aj] at e;cases e;exact new
 ·rw[aK hb] at e;exact(x b u e).stay (λc v _ q=>k c v q) (λc q=>by rw[aK (aB q hn)];exact q) λc xs q=>by rw[aK (aB q hn)];exact q
end
def Rd(H:Hp)(a:ar)(u:HO):Prop:=H a=some u\/∃o,H a=some (.frz o u)
def Rd.ok{P:aW}{w:bK}{H:Hp}{h:Heap}{a:ar}{u:HO}(r:Rd H a u)(x:rp P w H h):fg P w H h a u:=by
 rcases r with r|⟨o,r⟩
 ·exact x a u r
 ·obtain⟨_,q⟩:=x a _ r;exact q
def U0:Option HO->Prop
 |some (.lst _)=>True
 |some (.dK _)=>True
 |some (.dT _)=>True
 |some (.set _ _)=>True
 |some (.ins _ _ _)=>True
 |some (.ext _)=>True
 |_=>False
section
variable{P:aW}{w:bK}{H:Hp}{h h':Heap}{x e:ar}{o':HO}
def rp.write(ok:rp P w H h)(mu:U0 (H x))(he:e=x\/H e=some (.own x))(k:∀b u,b≠e->h.get? b=some u->h'.get? b=some u)(heo:∃u,h'.get? e=some u)
  (new:fg P w (upd H x o') h' x o'):rp P w (upd H x o') h':=λb u q=>by
 have nown:∀c y,H c=some (.own y)->c≠x:=λc y r z=>by subst z;rw[r] at mu;exact mu
 have ntup:∀c xs,H c=some (.tup xs)->c≠x:=λc xs r z=>by subst z;rw[r] at mu;exact mu
 by_cases hb:b=x
 ·subst hb;rw[aj] at q;cases q;exact new
 ·rw[aK hb] at q;by_cases hbe:b=e
  ·have q':H b=some (.own x):=by
    rcases he with z|z
    ·exact absurd (hbe.trans z) hb
    ·rw[hbe];exact z
   rw[q] at q';cases q';obtain⟨v,hv⟩:=heo;exact⟨v,by rw[hbe];exact hv⟩
  ·refine(ok b u q).stay (λc v hc r=>k c v ?_ r) (λc r=>by rw[aK (nown c b r)];exact r) λc xs r=>by rw[aK (ntup c xs r)];exact r
   rcases hc with rfl|hc
   ·exact hbe
   ·rintro rfl;rcases he with z|z
    ·exact nown c b hc z
    ·rw[hc] at z;cases z;exact hb rfl
end
structure Un(fs ex:List ar)(H H':Hp)(h h':Heap):Prop where
 keep:∀b o,h.get? b=some o->H b=none->b∉fs->b∉ex->h'.get? b=some o
 slot:∀b o,h.get? b=some o->H b=none->b∈fs->b∉ex->∃sl,h'.get? b=some {o with slots:=sl}
 free:∀b o,h.get? b=some o->H b=none->b∉ex->H' b=none
 there:∀b o,h.get? b=some o->b∉ex->∃o',h'.get? b=some o'
 tups:∀b xs,H b=some (.tup xs)->H' b=some (.tup xs)
 frzs:∀b o u,H b=some (.frz o u)->H' b=some (.frz o u)
 tbls:∀b ps,H b=some (.tbl ps)->∃more,H' b=some (.tbl (ps++more))
section
variable{fs fs' ex ex':List ar}{H H1 H2:Hp}{h h1 h2 h':Heap}{a x e:ar}{o:HO}
def Un.any(u:Un fs ex H H1 h h1){b:ar}{ob:Obj}(q:h.get? b=some ob)(n:H b=none)(hx:b∉ex):∃sl,h1.get? b=some {ob with slots:=sl}:=by
 by_cases hb:b∈fs
 ·exact u.slot b ob q n hb hx
 ·exact⟨ob.slots,u.keep b ob q n hb hx⟩
def Un.kept(k:∀b u,h.get? b=some u->h'.get? b=some u):Un fs ex H H h h':=
 ⟨λb ob q _ _ _=>k b ob q,λb ob q _ _ _=>⟨ob.slots,k b ob q⟩,λ_ _ _ n _=>n,λb ob q _=>⟨ob,k b ob q⟩,λ_ _ q=>q,λ_ _ _ q=>q,λ_ ps q=>⟨#[],by rw[q];simp⟩⟩
def Un.refl:Un fs ex H H h h:=Un.kept λ_ _ q=>q
def Un.laid(k:∀b u,h.get? b=some u->h'.get? b=some u)(hp:h.objs.size<=a)(hn:H a=none):Un fs ex H (upd H a o) h h' where
 keep:=λb u q _ _ _=>k b u q
 slot:=λb u q _ _ _=>⟨u.slots,k b u q⟩
 free:=λb u q n _=>by rw[aK (bu (bh (aP q) hp))];exact n
 there:=λb u q _=>⟨u,k b u q⟩
 tups:=λb xs q=>by rw[aK (aB q hn)];exact q
 frzs:=λb u xs q=>by rw[aK (aB q hn)];exact q
 tbls:=λb ps q=>⟨#[],by rw[aK (aB q hn),q];simp⟩
def Un.write(mu:U0 (H x))(he:e=x\/H e=some (.own x))(k:∀b u,b≠e->h.get? b=some u->h'.get? b=some u)(heo:∃u,h'.get? e=some u):Un fs ex H (upd H x o) h h':=by
 have hx:∀b,H b=none->b≠x:=λb n z=>by subst z;rw[n] at mu;exact mu
 have hb:∀b,H b=none->b≠e:=λb n z=>by
  subst z;rcases he with r|r
  ·exact hx b n r
  ·rw[n] at r;cases r
 have hm:∀b u,H b=some u->¬U0 (some u)->b≠x:=λb u q nm z=>by subst z;rw[q] at mu;exact nm mu
 refine⟨λb u q n _ _=>k b u (hb b n) q,λb u q n _ _=>⟨u.slots,k b u (hb b n) q⟩,λb u q n _=>by rw[aK (hx b n)];exact n,λb u q _=>?_,
  λb xs q=>by rw[aK (hm b _ q λz=>z)];exact q,λb u xs q=>by rw[aK (hm b _ q λz=>z)];exact q,λb ps q=>⟨#[],by rw[aK (hm b _ q λz=>z),q];simp⟩⟩
 by_cases hbe:b=e
 ·subst hbe;exact heo
 ·exact⟨u,k b u hbe q⟩
def Un.mono(u:Un fs ex H H1 h h1)(hs:∀b∈fs,b∈fs')(hx:∀b∈ex,b∈ex'):Un fs' ex' H H1 h h1:=
 ⟨λb ob q n hb he=>u.keep b ob q n (λz=>hb (hs b z)) λz=>he (hx b z),λ_ _ q n _ he=>u.any q n λz=>he (hx _ z),λb ob q n he=>u.free b ob q n λz=>he (hx b z),λb ob q he=>u.there b ob q λz=>he (hx b z),u.tups,u.frzs,u.tbls⟩
end
def V0(h:Heap)(H:Hp):List ar:=(cK h.objs.size).filter λa=>(H a).isSome
def El(h:Heap)(H:Hp):Heap:=PySem.W.hideAll h (V0 h H)
def Lr(h:Heap)(H:Hp):(El h H).objs.size=h.objs.size:=PySem.W.hideAll_size _ _
def NH{h:Heap}{H:Hp}{b:ar}{o:Obj}(e:h.get? b=some o)(n:H b=none):(El h H).get? b=some o:=
 PySem.W.hideAll_get _ e λhm=>by
  have q:(H b).isSome=true:=(g7.mp hm).2;rw[n] at q;simp at q
def Qz{h:Heap}{H:Hp}{b:ar}{o:Obj}(e:(El h H).get? b=some o):h.get? b=some o/\H b=none:=by
 have e':h.get? b=some o:=PySem.W.of_hideAll (V0 h H) e;refine⟨e',?_⟩;cases q:H b with
 |none=>rfl
 |some x=>
  have hm:b∈V0 h H:=g7.mpr ⟨eM.mpr (aP e'),by simp[q]⟩;have z:(El h H).get? b=none:=PySem.W.hideAll_none (V0 h H) hm;rw[z] at e;cases e
structure Mod(K:Fg)(mg:Str->Option aa)(base:Heap):Prop where
 kin:K.In base
 glob:base.Ns aX mg
 blt:∃mb,base.Ns builtinsNs mb/\∀x:Str,x≠"__name__"->mb x=e8 x
 nolimit:base.NoLimit
structure Cx where
 prog:aW
 w:bK
 K:Fg
 mg:Str->Option aa
 base:Heap
 A:bj
 N:List Str
 s₀:aq
 H₀:Hp
 env:Env
 outer:List Env
 stack:List Env
 ex:List ar
 fn:Str->Bool
 calm:Bool
 pn:List (ar×Obj)
 xe:aa->aq->Prop
def E2(l:List Env):List ar:=l.filterMap (·.frame)
abbrev Cx.fs(X:Cx):List ar:=E2 X.outer
def U6(sc:Scope)(x:Str):Prop:=sc.names.lookup x=some .local\/sc.names.lookup x=some .cell\/sc.names.lookup x=some .free
def MR(sc:Scope)(x:Str):Prop:=sc.names.lookup x=some .local\/sc.names.lookup x=some .cell
def V1(env:Env)(h:Heap)(m:Str->Option aa)(x:Str)(u:aa):Prop:=
 (env.kindOf x=some .local/\m x=some u)\/((env.kindOf x=some .cell\/env.kindOf x=some .free)/\∃c,env.cells.lookup x=some c/\h.IsCell c (some u))
structure Cx.Ok(X:Cx):Prop where
 mod:Mod X.K X.mg X.base
 kind:X.env.scope.kind=.function
 glob:X.env.globals=aX
 blt:X.env.builtins=builtinsNs
 above:X.s₀.heap.objs.size<=X.env.locals
 inj:∀x y c,X.env.cells.lookup x=some c->X.env.cells.lookup y=some c->x=y
 has:∀x,(X.env.kindOf x=some .cell\/X.env.kindOf x=some .free)->∃c,X.env.cells.lookup x=some c
 cab:∀x c,X.fn x=true->X.env.cells.lookup x=some c->X.s₀.heap.objs.size<=c
 hd:X.calm=true->X.A.handled=none
 frames:X.A.frames=some X.stack
 stk:X.stack=X.outer\/(X.stack=X.env::X.outer/\X.env.frame=some X.env.locals)
 exf:∀b∈X.ex,b≠X.env.locals/\∀x c,X.env.cells.lookup x=some c->c≠b
 bs:∀b o,X.base.get? b=some o->X.s₀.heap.get? b=some o/\X.H₀ b=none
 bsz:X.base.objs.size<=X.s₀.heap.objs.size
 noex:∀b o,X.base.get? b=some o->b∉X.ex
 exfs:∀b∈X.ex,b∉X.fs
 funs:X.s₀.heap.FunFrames X.base X.outer
 frf:∀b∈X.fs,X.H₀ b=none
structure bY(X:Cx)(pins:List (ar×Obj))(σ:List (Option V))(H:Hp)(s:aq):Prop where
 ok:X.Ok
 os:s.os=X.s₀.os
 bare:lQ s.gens
 base:Un X.fs X.ex X.H₀ H X.s₀.heap s.heap
 loc:∃m,s.heap.Ns X.env.locals m/\∀(i:Nat) (x:Str) (v:V),X.N[i]?=some x->σ[i]?=some (some v)->U6 X.env.scope x->∃u,dA v u/\V1 X.env s.heap m x u
 cell:∀x c,X.env.cells.lookup x=some c->∃v,s.heap.IsCell c v
 free:H X.env.locals=none
 freeC:∀x c,X.env.cells.lookup x=some c->H c=none
 pin:∀p∈X.pn++pins,s.heap.get? p.1=some p.2/\H p.1=none/\p.1≠X.env.locals/\p.1∉X.fs/\∀v,p.2.data≠.cell v
 hok:rp X.prog X.w H s.heap
 len:σ.length=X.N.length
section
variable{X:Cx}{pins:List (ar×Obj)}{σ:List (Option V)}{H H':Hp}{s:aq}{h':Heap}
def Cx.Ok.nofr(ok:X.Ok){b:ar}{o:Obj}(e:X.base.get? b=some o):b∉X.fs:=λhb=>by
 have:=(ok.funs.mem hb).1;rw[e] at this;cases this
def bY.bs(I:bY X pins σ H s):∀b o,X.base.get? b=some o->s.heap.get? b=some o/\H b=none:=λb o e=>
 ⟨I.base.keep b o (I.ok.bs b o e).1 (I.ok.bs b o e).2 (I.ok.nofr e) (I.ok.noex b o e),I.base.free b o (I.ok.bs b o e).1 (I.ok.bs b o e).2 (I.ok.noex b o e)⟩
def bY.bk(I:bY X pins σ H s):∀b o,X.base.get? b=some o->s.heap.get? b=some o:=λb o e=>(I.bs b o e).1
def bY.mod(I:bY X pins σ H s):Mod X.K X.mg X.base:=I.ok.mod
def bY.kIn(I:bY X pins σ H s):X.K.In s.heap:=I.ok.mod.kin.keeps I.bk
def bY.lt(I:bY X pins σ H s):X.env.locals<s.heap.objs.size:=let⟨_,hn,_⟩:=I.loc;hn.lt
def bY.sz(I:bY X pins σ H s):X.s₀.heap.objs.size<=s.heap.objs.size:=b9 I.ok.above (cT I.lt)
def bY.nofs(I:bY X pins σ H s){a:ar}(h:s.heap.objs.size<=a):a∉X.fs:=λhb=>by
 obtain⟨_,o,ho,_⟩:=I.ok.funs.mem hb;exact absurd (bh (aP ho) (b9 I.sz h)) (cQ _)
def bY.cne(I:bY X pins σ H s):∀x c,X.env.cells.lookup x=some c->c≠X.env.locals:=λx c e z=>by
 obtain⟨v,o,ho,hd⟩:=I.cell x c e;obtain⟨m,⟨o',es,ep,ho',hd',_⟩,_⟩:=I.loc;rw[z,ho'] at ho;cases ho;rw[hd'] at hd;cases hd
def bY.funs(I:bY X pins σ H s):s.heap.FunFrames X.base X.outer:=by
 have all:∀(l:List Env),(∀b∈E2 l,b∈X.fs)->X.s₀.heap.FunFrames X.base l->s.heap.FunFrames X.base l:=by
  intro l
  induction l with
  |nil=>intro _ _;trivial
  |cons env r ih=>
   intro hs hl;obtain⟨hk,⟨L,o,hf,hn,ho,hd⟩,hr⟩:=hl;have hL:L∈X.fs:=hs L (by unfold E2;rw[dc,hf];exact bZ);obtain⟨sl,e⟩:=I.base.slot L o ho (I.ok.frf L hL) hL λz=>I.ok.exfs L z hL;exact⟨hk,⟨L,_,hf,hn,e,hd⟩,ih (λb hb=>hs b (by unfold E2;rw[dc,hf];exact bq _ hb)) hr⟩
 exact all X.outer (λ_ hb=>hb) I.ok.funs
def bY.stack(I:bY X pins σ H s):s.heap.FunFrames X.base X.stack:=by
 rcases I.ok.stk with e|⟨e,hf⟩
 ·rw[e];exact I.funs
 ·rw[e];obtain⟨m,hn,_⟩:=I.loc;refine .cons (by rw[I.ok.kind];decide) hf hn ?_ I.funs;exact Heap.get?_none_of_le (b9 I.ok.bsz I.ok.above)
def bY.stkSub(I:bY X pins σ H s):∀b∈E2 X.stack,b∈X.env.locals::X.fs:=λb hb=>by
 rcases I.ok.stk with e|⟨e,hf⟩
 ·rw[e] at hb;exact bq _ hb
 ·rw[e] at hb;unfold E2 at hb;rw[dc,hf] at hb;exact hb
def bY.stkFree(I:bY X pins σ H s):∀b∈E2 X.stack,H b=none:=λb hb=>by
 rcases aE.mp (I.stkSub b hb) with e|hb
 ·rw[e];exact I.free
 ·obtain⟨_,o,ho,_⟩:=I.ok.funs.mem hb;exact I.base.free b o ho (I.ok.frf b hb) λz=>I.ok.exfs b z hb
def bY.step{g':Array rB}{t':Nat}{d':Drawn}{ch:List ar}(I:bY X pins σ H s)
  (hch:∀b∈ch,(b∈X.ex\/X.s₀.heap.objs.size<=b)/\b≠X.env.locals/\(∀x c,X.env.cells.lookup x=some c->c≠b)/\∀p∈X.pn++pins,p.1≠b)
  (keep:∀b o,b≠X.env.locals->b∉X.fs->b∉ch->s.heap.get? b=some o->H b=none->h'.get? b=some o)
  (slot:∀b o,b≠X.env.locals->b∈X.fs->b∉ch->s.heap.get? b=some o->H b=none->∃sl,h'.get? b=some {o with slots:=sl}) (free:∀b o,b∉ch->s.heap.get? b=some o->H b=none->H' b=none)
  (there:∀b o,b∉ch->s.heap.get? b=some o->∃o',h'.get? b=some o')
  (tups:∀b xs,H b=some (.tup xs)->H' b=some (.tup xs)) (frzs:∀b o u,H b=some (.frz o u)->H' b=some (.frz o u)) (tbls:∀b ps,H b=some (.tbl ps)->∃more,H' b=some (.tbl (ps++more)))
  (ns:∀m,s.heap.Ns X.env.locals m->h'.Ns X.env.locals m) (hok:rp X.prog X.w H' h') (hg:lQ g') :
  bY X pins σ H' {s with heap:=h',gens:=g',drawn:=d',toks:=t'}:=by
 have neL:∀b o,X.s₀.heap.get? b=some o->b≠X.env.locals:=λb o e=>bu (bh (aP e) I.ok.above);have neC:∀b o,X.s₀.heap.get? b=some o->b∉X.ex->b∉ch:=λb o e hx hb=>by
  rcases(hch b hb).1 with z|z
  ·exact hx z
  ·exact absurd (bh (aP e) z) (cQ _)
 have cellK:∀x c,X.env.cells.lookup x=some c->∀v,s.heap.IsCell c v->h'.IsCell c v:=λx c e v ⟨o,ho,hd⟩=>by
  have nch:c∉ch:=λz=>(hch c z).2.2.1 x c e rfl;by_cases hc:c∈X.fs
  ·obtain⟨sl,q⟩:=slot c o (I.cne x c e) hc nch ho (I.freeC x c e);exact⟨_,q,hd⟩
  ·exact⟨o,keep c o (I.cne x c e) hc nch ho (I.freeC x c e),hd⟩
 refine⟨I.ok,I.os,hg,⟨λb o e n hb hx=>?_,λb o e n hb hx=>?_,λb o e n hx=>?_,λb o e hx=>?_,λb xs e=>tups b xs (I.base.tups b xs e),λb o xs e=>frzs b o xs (I.base.frzs b o xs e),λb ps e=>?_⟩,?_,λx c e=>?_,?_,λx c e=>?_,λp hp=>?_,hok,I.len⟩
 ·exact keep b o (neL b o e) hb (neC b o e hx) (I.base.keep b o e n hb hx) (I.base.free b o e n hx)
 ·obtain⟨sl,e1⟩:=I.base.slot b o e n hb hx;obtain⟨sl',e2⟩:=slot b _ (neL b o e) hb (neC b o e hx) e1 (I.base.free b o e n hx);exact⟨sl',e2⟩
 ·obtain⟨o',e1⟩:=I.base.there b o e hx;exact free b o' (neC b o e hx) e1 (I.base.free b o e n hx)
 ·obtain⟨o',e1⟩:=I.base.there b o e hx;exact there b o' (neC b o e hx) e1
 ·obtain⟨m1,e1⟩:=I.base.tbls b ps e;obtain⟨m2,e2⟩:=tbls b _ e1;exact⟨m1++m2,by rw[e2,Array.append_assoc]⟩
 ·obtain⟨m,hn,hl⟩:=I.loc;refine⟨m,ns m hn,λi x v e1 e2 e3=>?_⟩;obtain⟨u,r,l⟩:=hl i x v e1 e2 e3;refine⟨u,r,?_⟩;rcases l with l|⟨k,c,e,z⟩
  ·exact .inl l
  ·exact .inr ⟨k,c,e,cellK x c e _ z⟩
 ·obtain⟨v,z⟩:=I.cell x c e;exact⟨v,cellK x c e v z⟩
 ·obtain⟨m,⟨o,_,_,ho,_⟩,_⟩:=I.loc;exact free _ o (λz=>(hch _ z).2.1 rfl) ho I.free
 ·obtain⟨v,o,ho,hd⟩:=I.cell x c e;exact free c o (λz=>(hch c z).2.2.1 x c e rfl) ho (I.freeC x c e)
 ·obtain⟨e,n,ne,nf,d⟩:=I.pin p hp;have nch:p.1∉ch:=λz=>(hch p.1 z).2.2.2 p hp rfl;exact⟨keep p.1 p.2 ne nf nch e n,free p.1 p.2 nch e n,ne,nf,d⟩
def bY.un{t':Nat}(I:bY X pins σ H s)(u:Un X.fs [] H H' s.heap h')(hok:rp X.prog X.w H' h'):bY X pins σ H' {s with heap:=h',toks:=t'}:=by
 obtain⟨m,⟨o,es,ep,ho,r⟩,_⟩:=id I.loc;obtain⟨sl,hL⟩:=u.any ho I.free (by simp);exact I.step (g':=s.gens) (d':=s.drawn) (ch:=[]) (λ_ z=>nomatch z) (λb o _ hb _ e n=>u.keep b o e n hb (by simp)) (λb o _ hb _ e n=>u.slot b o e n hb (by simp)) (λb o _ e n=>u.free b o e n (by simp)) (λb o _ e=>u.there b o e (by simp)) u.tups u.frzs u.tbls (λm' hm=>by
  obtain⟨o',es',ep',ho',r'⟩:=hm;rw[ho] at ho';cases ho';exact⟨_,es',ep',hL,r'⟩) hok I.bare
def bY.call{g':Array rB}{t':Nat}{d':Drawn}{ch:List ar}(I:bY X pins σ H s)(u:Un (E2 X.stack) ch H H' s.heap h')(hok:rp X.prog X.w H' h')(hg:lQ g')
  (hch:∀b∈ch,(b∈X.ex\/X.s₀.heap.objs.size<=b)/\b≠X.env.locals/\(∀x c,X.env.cells.lookup x=some c->c≠b)/\∀p∈X.pn++pins,p.1≠b) :
  bY X pins σ H' {s with heap:=h',gens:=g',drawn:=d',toks:=t'}:=by
 obtain⟨m,⟨o,es,ep,ho,r⟩,_⟩:=id I.loc;obtain⟨sl,hL⟩:=u.any ho I.free λz=>(hch _ z).2.1 rfl;exact I.step (ch:=ch) hch (λb o hL hb hc e n=>u.keep b o e n (λz=>(aE.mp (I.stkSub b z)).elim hL hb) hc) (λb o _ _ hc e n=>u.any e n hc) (λb o hc e n=>u.free b o e n hc) (λb o hc e=>u.there b o e hc) u.tups u.frzs u.tbls (λm' hm=>by
  obtain⟨o',es',ep',ho',r'⟩:=hm;rw[ho] at ho';cases ho';exact⟨_,es',ep',hL,r'⟩) hok hg
def bY.turned{t':Nat}{it:ar}(I:bY X pins σ H s)(k:∀b o,b≠it->s.heap.get? b=some o->h'.get? b=some o)(hn:H it=none)(hL:it≠X.env.locals)
  (h1:it∈X.ex\/X.s₀.heap.objs.size<=it) (h2:∀x c,X.env.cells.lookup x=some c->c≠it) (h3:∀p∈X.pn++pins,p.1≠it):bY X pins σ H {s with heap:=h',toks:=t'}:=by
 have nit:∀b u,H b=some u->b≠it:=λb u e z=>by rw[z,hn] at e;cases e
 refine I.step (g':=s.gens) (d':=s.drawn) (ch:=[it]) (λb hb=>?_) (λb o _ _ hc e _=>k b o (λz=>hc (by simp[z])) e) (λb o _ _ hc e _=>⟨o.slots,k b o (λz=>hc (by simp[z])) e⟩) (λ_ _ _ _ n=>n)
  (λb o hc e=>⟨o,k b o (λz=>hc (by simp[z])) e⟩) (λ_ _ e=>e) (λ_ _ _ e=>e) (λb ps e=>⟨#[],by rw[e];simp⟩) (λm hm=>?_) (λb u e=>?_) I.bare
 ·have e:b=it:=by simpa using hb
  subst e;exact⟨h1,hL,h2,h3⟩
 ·obtain⟨o,es,ep,ho,r⟩:=hm;exact⟨o,es,ep,k _ o (Ne.symm hL) ho,r⟩
 ·refine(I.hok b u e).stay (λc v hc q=>k c v ?_ q) (λ_ q=>q) λ_ _ q=>q;rcases hc with z|z
  ·rw[z];exact nit b u e
  ·exact nit c _ z
def bY.tok(I:bY X pins σ H s)(t:Nat):bY X pins σ H {s with toks:=t}:=I.un (h':=s.heap) (t':=t) Un.refl I.hok
def bY.kept{t':Nat}(I:bY X pins σ H s)(k:∀b u,s.heap.get? b=some u->h'.get? b=some u):bY X pins σ H {s with heap:=h',toks:=t'}:=I.un (Un.kept k) (I.hok.kept k)
def bY.laid{a:ar}{o:HO}{t':Nat}(I:bY X pins σ H s)(k:∀b u,s.heap.get? b=some u->h'.get? b=some u)(hp:s.heap.objs.size<=a)(new:fg X.prog X.w (upd H a o) h' a o) :
  bY X pins σ (upd H a o) {s with heap:=h',toks:=t'}:=I.un (Un.laid k hp (I.hok.fresh hp)) (I.hok.laid k hp new)
def bY.write{x e:ar}{o:HO}{t':Nat}(I:bY X pins σ H s)(mu:U0 (H x))(he:e=x\/H e=some (.own x))(k:∀b u,b≠e->s.heap.get? b=some u->h'.get? b=some u)(heo:∃u,h'.get? e=some u)
  (new:fg X.prog X.w (upd H x o) h' x o):bY X pins σ (upd H x o) {s with heap:=h',toks:=t'}:=I.un (Un.write mu he k heo) (I.hok.write mu he k heo new)
def bY.pins_of{pins':List (ar×Obj)}(I:bY X pins σ H s)(h:∀p∈pins',s.heap.get? p.1=some p.2/\H p.1=none/\p.1≠X.env.locals/\p.1∉X.fs/\∀v,p.2.data≠.cell v):bY X pins' σ H s:=
 ⟨I.ok,I.os,I.bare,I.base,I.loc,I.cell,I.free,I.freeC,λp hp=>(aT.mp hp).elim (λz=>I.pin p (bR _ z)) (h p),I.hok,I.len⟩
def Aj{N:List Str}(hN:N.Nodup){i j:Nat}{x:Str}(a:N[i]?=some x)(b:N[j]?=some x):i=j:=by
 obtain⟨h1,e1⟩:=ak.mp a;obtain⟨h2,e2⟩:=ak.mp b;exact(List.getElem_inj hN).mp (e1.trans e2.symm)
def Dk{M:Model}{A:bj}{E:ZF}{i:Nat}{x:Str}{v:V}{u:aa}{Q:Unit->aq->Prop}(I:bY X pins σ H s)(hN:X.N.Nodup)(hi:X.N[i]?=some x)(hx:MR X.env.scope x)(r:dA v u)
  (h:∀s',bY X pins (σ.set i (some v)) H s'->(∃a,Heap.SameBut a s.heap s'.heap/\(a=X.env.locals\/X.env.cells.lookup x=some a))->Q () s') (hf:X.fn x=true\/X.env.scope.names.lookup x=some .local:=by first|exact .inl rfl|exact .inr rfl|assumption):aO M A (storeName X.env x u) Q E s:=by
 obtain⟨m,hn,hl⟩:=id I.loc;have hcls:(X.env.scope.kind==.class || (X.env.scope.kind==.module&&X.env.locals != X.env.globals))=false:=by rw[I.ok.kind];rfl
 have hiσ:i<σ.length:=by rw[I.len];exact(ak.mp hi).1
 have cne:=I.cne;have tracked:∀{a:ar} {h':Heap},(∃o,s.heap.get? a=some o/\H a=none)->Heap.SameBut a s.heap h'->rp X.prog X.w H h':=λ{a h'} ha hs b ob e=>by
  obtain⟨_,_,hfree⟩:=ha;refine(I.hok b ob e).stay (λc w' hc q=>(hs.2 c ?_).trans q) (λ_ q=>q) λ_ _ q=>q;rintro rfl;rcases hc with rfl|hc
  ·rw[hfree] at e;cases e
  ·rw[hfree] at hc;cases hc
 rcases hx with hk|hk
 ·refine wpAny_storeName_local hk hn (λh' hn' hs=>?_) hcls;obtain⟨oL,_,_,hoL,_⟩:=id hn;refine h _ ⟨I.ok,I.os,I.bare,⟨λb o e n hb hx=>?_,λb o e n hb hx=>?_,I.base.free,λb o e hx=>?_,I.base.tups,I.base.frzs,I.base.tbls⟩,⟨_,hn',λj y v' e1 e2 e3=>?_⟩,λy c e=>?_,I.free,I.freeC,λp hp=>?_,tracked ⟨oL,hoL,I.free⟩ hs,by simpa using I.len⟩ ⟨_,hs,.inl rfl⟩
  ·exact(hs.2 b (bu (bh (aP e) I.ok.above))).trans (I.base.keep b o e n hb hx)
  ·obtain⟨sl,e1⟩:=I.base.slot b o e n hb hx;exact⟨sl,(hs.2 b (bu (bh (aP e) I.ok.above))).trans e1⟩
  ·obtain⟨o',e1⟩:=I.base.there b o e hx;exact⟨o',(hs.2 b (bu (bh (aP e) I.ok.above))).trans e1⟩
  ·by_cases hj:j=i
   ·subst hj;rw[hi] at e1;cases e1;rw[bI hiσ] at e2;cases e2;exact⟨u,r,.inl ⟨hk,by simp⟩⟩
   ·rw[b8 (Ne.symm hj)] at e2;obtain⟨u',r',q⟩:=hl j y v' e1 e2 e3;refine⟨u',r',?_⟩;rcases q with⟨k,e⟩|⟨k,c,e,z⟩
    ·refine .inl ⟨k,?_⟩;have:y≠x:=λe=>hj (Aj hN e1 (e ▸ hi));simp[this,e]
    ·exact .inr ⟨k,c,e,z.sameBut hs (cne y c e)⟩
  ·obtain⟨w',z⟩:=I.cell y c e;exact⟨w',z.sameBut hs (cne y c e)⟩
  ·obtain⟨e,n,ne,nf,d⟩:=I.pin p hp;exact⟨(hs.2 p.1 ne).trans e,n,ne,nf,d⟩
 ·have hfn:X.fn x=true:=by
   rcases hf with z|z
   ·exact z
   ·rw[z] at hk;cases hk
  obtain⟨c,hc⟩:=I.ok.has x (.inl hk);obtain⟨w',z⟩:=I.cell x c hc;refine wpAny_storeName_cell I.ok.kind hk hc z (λh' hc' hs=>?_);obtain⟨oc,hoc,hocd⟩:=id z;refine h {s with heap:=h'} ⟨I.ok,I.os,I.bare,⟨λb o e n hb hx=>?_,λb o e n hb hx=>?_,I.base.free,λb o e hx=>?_,I.base.tups,I.base.frzs,I.base.tbls⟩,⟨m,hn.sameBut hs (Ne.symm (cne x c hc)),λj y v' e1 e2 e3=>?_⟩,λy c' e=>?_,I.free,I.freeC,λp hp=>?_,tracked ⟨oc,hoc,I.freeC x c hc⟩ hs,by simpa using I.len⟩ ⟨c,hs,.inr hc⟩
  ·exact(hs.2 b (bu (bh (aP e) (I.ok.cab x c hfn hc)))).trans (I.base.keep b o e n hb hx)
  ·obtain⟨sl,e1⟩:=I.base.slot b o e n hb hx;exact⟨sl,(hs.2 b (bu (bh (aP e) (I.ok.cab x c hfn hc)))).trans e1⟩
  ·obtain⟨o',e1⟩:=I.base.there b o e hx;exact⟨o',(hs.2 b (bu (bh (aP e) (I.ok.cab x c hfn hc)))).trans e1⟩
  ·by_cases hj:j=i
   ·subst hj;rw[hi] at e1;cases e1;rw[bI hiσ] at e2;cases e2;exact⟨u,r,.inr ⟨.inl hk,c,hc,hc'⟩⟩
   ·rw[b8 (Ne.symm hj)] at e2;obtain⟨u',r',q⟩:=hl j y v' e1 e2 e3;refine⟨u',r',?_⟩;rcases q with q|⟨k,c',e,z'⟩
    ·exact .inl q
    ·refine .inr ⟨k,c',e,z'.sameBut hs ?_⟩;rintro rfl;exact hj (Aj hN e1 (I.ok.inj _ _ _ e hc ▸ hi))
  ·by_cases hcc:c'=c
   ·subst hcc;exact⟨_,hc'⟩
   ·obtain⟨w2,z2⟩:=I.cell y c' e;exact⟨w2,z2.sameBut hs hcc⟩
  ·obtain⟨e,n,ne,nf,d⟩:=I.pin p hp;refine⟨(hs.2 p.1 ?_).trans e,n,ne,nf,d⟩;intro q;rw[q,hoc] at e;have q':oc=p.2:=Option.some.inj e;exact d w' (by rw[<-q'];exact hocd)
def vy{M:Model}{A:bj}{E:ZF}{i:Nat}{x:Str}{v:V}{u:aa}{Q:Unit->aq->Prop}(I:bY X pins σ H s)(hN:X.N.Nodup)(hi:X.N[i]?=some x)(hx:MR X.env.scope x)(r:dA v u)
  (h:∀s',bY X pins (σ.set i (some v)) H s'->Q () s') (hf:X.fn x=true\/X.env.scope.names.lookup x=some .local:=by first|exact .inl rfl|exact .inr rfl|assumption):aO M A (storeName X.env x u) Q E s:=
 Dk I hN hi hx r (λs' I' _=>h s' I') hf
def bY.call'{s':aq}{ch:List ar}(I:bY X pins σ H s)(ho:s'.os=s.os)(u:Un (E2 X.stack) ch H H' s.heap s'.heap)(hok:rp X.prog X.w H' s'.heap)(hg:lQ s'.gens)
  (hch:∀b∈ch,(b∈X.ex\/X.s₀.heap.objs.size<=b)/\b≠X.env.locals/\(∀x c,X.env.cells.lookup x=some c->c≠b)/\∀p∈X.pn++pins,p.1≠b):bY X pins σ H' s':=by
 obtain⟨h',g',d',t',o'⟩:=s';have e:o'=s.os:=ho;subst e;exact I.call (g':=g') (t':=t') (d':=d') u hok hg hch
end
abbrev XK:=aa->Option ar->Hp->Prop
abbrev St:=List (Option V)
abbrev VK:=V->Hp->Prop
abbrev TE:=St->Hp->VK->Prop
abbrev TT:=St->Hp->(Bool->Hp->Prop)->Prop
abbrev TA:=St->Hp->(List V->Hp->Prop)->Prop
structure rn where
 nx:St->Hp->Prop
 rt:VK
 bk:St->Hp->Prop:=λ_ _=>False
 ct:St->Hp->Prop:=λ_ _=>False
abbrev TS:=rn->St->Hp->Prop
def EP(X:Cx)(pins:List (ar×Obj))(σ:St)(Q:VK)(u:aa)(s':aq):Prop:=∃v H',bY X pins σ H' s'/\dA v u/\Q v H'
def TP(X:Cx)(pins:List (ar×Obj))(σ:St)(Q:Bool->Hp->Prop)(b:Bool)(s':aq):Prop:=∃H',bY X pins σ H' s'/\Q b H'
def AP(X:Cx)(pins:List (ar×Obj))(σ:St)(Q:List V->Hp->Prop)(us:List aa)(s':aq):Prop:=∃vs H',bY X pins σ H' s'/\c8 vs us/\Q vs H'
def SP(X:Cx)(pins:List (ar×Obj))(D:rn)(f:Flow)(s':aq):Prop:=
 match f with
 |.next=>∃σ' H',bY X pins σ' H' s'/\D.nx σ' H'
 |.brk=>∃σ' H',bY X pins σ' H' s'/\D.bk σ' H'
 |.cont=>∃σ' H',bY X pins σ' H' s'/\D.ct σ' H'
 |.ret u=>∃v σ' H',bY X pins σ' H' s'/\dA v u/\D.rt v H'
def PE(X:Cx)(e:Expr)(t:TE):Prop:=
 ∀(pins:List (ar×Obj)) (s:aq) (σ:St) (H:Hp) (Q:VK),bY X pins σ H s->t σ H Q->aO (model X.prog X.w) X.A (eval e X.env) (EP X pins σ Q) X.xe s
def PT(X:Cx)(e:Expr)(t:TT):Prop:=
 ∀(pins:List (ar×Obj)) (s:aq) (σ:St) (H:Hp) (Q:Bool->Hp->Prop),bY X pins σ H s->t σ H Q->aO (model X.prog X.w) X.A (isTrue e X.env (eval e X.env)) (TP X pins σ Q) X.xe s
def PW(X:Cx)(e:Expr)(t:TT):Prop:=
 ∀(whole:Sem aa) (pins:List (ar×Obj)) (s:aq) (σ:St) (H:Hp) (Q:Bool->Hp->Prop),bY X pins σ H s->t σ H Q->aO (model X.prog X.w) X.A (isTrue e X.env whole) (TP X pins σ Q) X.xe s
def PW.pt{X:Cx}{e:Expr}{t:TT}(h:PW X e t):PT X e t:=h _
def PA(X:Cx)(es:List Expr)(t:TA):Prop:=
 ∀(pos:Pos) (pins:List (ar×Obj)) (s:aq) (σ:St) (H:Hp) (Q:List V->Hp->Prop),bY X pins σ H s->t σ H Q->aO (model X.prog X.w) X.A (spliced (eV pos (aR es X.env))) (AP X pins σ Q) X.xe s
def PS(X:Cx)(st:Stmt)(t:TS):Prop:=
 ∀(pins:List (ar×Obj)) (s:aq) (σ:St) (H:Hp) (D:rn),bY X pins σ H s->t D σ H->aO (model X.prog X.w) X.A (exec st X.env) (SP X pins D) X.xe s
def DT(X:Cx)(st:List Stmt)(t:TS):Prop:=
 ∀(pins:List (ar×Obj)) (s:aq) (σ:St) (H:Hp) (D:rn),bY X pins σ H s->t D σ H->aO (model X.prog X.w) X.A (execs st X.env) (SP X pins D) X.xe s
def fk{α:Type}{t:Sem α}{Q Q':α->aq->Prop}{M:Model}{A:bj}{E:ZF}{s:aq}(h:aO M A t Q E s)(hQ:∀a s,Q a s->Q' a s):aO M A t Q' E s:=dh h hQ λ_ _ x=>x
section
variable{X:Cx}
def ao(i:Nat):TE:=λσ H Q=>∃v,σ[i]?=some (some v)/\Q v H
def tC(v:V):TE:=λ_ H Q=>Q v H
abbrev Za:=tC (.int 1)
abbrev Zb:=tC (.int 0)
abbrev Zc:=tC (.int 2)
abbrev Zd:=tC (.int 3)
abbrev Ze:=tC (.str " ")
abbrev Zf:=tC (.str "call")
abbrev Zg:=tC (.str "")
abbrev Zh:=tC (.str "jump")
abbrev Zi:=tC (.str "give")
abbrev Zj:=tC (.str "part")
abbrev Zk:=tC (.int 5)
abbrev Zl:=tC (.str "test")
abbrev Zm:=tC (.int 4)
abbrev Zn:=tC (.str "say")
abbrev Zo:=tC (.str "num")
abbrev Zp:=tC (.str "op")
abbrev Zq:=tC (.int 12)
abbrev Zr:=tC (.int 8)
abbrev Zs:=tC (.str "0")
abbrev Zt:=tC (.str "=")
abbrev Zu:=tC (.str "abcdefghijklmnopqrstuvwxyz")
def Ua{i:Nat}{x:Str}{pos:Pos}(hN:X.N[i]?=some x)(hv:U6 X.env.scope x)(hd:(x==("__debug__":Str))=false:=by decide)(hcd:(x==("__classdict__":Str))=false:=by decide):PE X (.Name x pos) (ao i):=by
 intro pins s σ H Q I h;obtain⟨v,e,h⟩:=h;obtain⟨m,hn,hl⟩:=I.loc;obtain⟨u,r,l⟩:=hl i x v hN e hv;have fin:EP X pins σ Q u s:=⟨v,H,I,r,h⟩;rcases l with⟨hk,hm⟩|⟨hk,c,hc,hcell⟩
 ·exact mj (wpAny_loadName_local I.ok.kind hk hn hm fin) hd
 ·rcases hk with hk|hk
  ·exact mj (wpAny_loadName_cell I.ok.kind hk hc hcell fin) hd
  ·exact mj (wpAny_loadName_free I.ok.kind hk hc hcell fin hcd) hd
def TY{i j pos}:PE X (.Constant (.int i) j pos) (tC (.int i)):=λ_ _ _ H _ I h=>wpAny_Constant_int ⟨.int i,H,I.tok _,⟨_,rfl⟩,h⟩
def Vo{b j pos}:PE X (.Constant (.bool b) j pos) (tC (.bl b)):=λ_ _ _ H _ I h=>Constant_bool ⟨.bl b,H,I,rfl,h⟩
def Og{j pos}:PE X (.Constant .none j pos) (tC .non):=λ_ _ _ H _ I h=>Constant_none ⟨.non,H,I,rfl,h⟩
def T8{x j pos}:PE X (.Constant (.str x) j pos) (tC (.str x)):=λ_ _ _ H _ I h=>Calls.Constant_str ⟨.str x,H,I.tok _,⟨_,rfl⟩,h⟩
def Gl(X:Cx)(x:Str):Prop:=X.env.kindOf x=some .globalImplicit
def pT{E:ZF}{pins:List (ar×Obj)}{s:aq}{σ:St}{H:Hp}{x:Str}{u:aa}{pos:Pos}{Q:ZF}(I:bY X pins σ H s)(hg:Gl X x)(hm:X.mg x=some u)(h:Q u s)
  (hd:(x==("__debug__":Str))=false:=by decide):aO (model X.prog X.w) X.A (eval (.Name x pos) X.env) Q E s:=
 Calls.Name_function_global I.ok.kind hg (Calls.loadGlobal_global (by rw[I.ok.glob];exact I.mod.glob.keeps I.bk) hm h) hd
def og{E:ZF}{pins:List (ar×Obj)}{s:aq}{σ:St}{H:Hp}{x:Str}{u:aa}{pos:Pos}{Q:ZF}(I:bY X pins σ H s)(hg:Gl X x)(hm:X.mg x=none)(hv:e8 x=some u)(h:Q u s)
  (hn:x≠"__name__":=by decide) (hd:(x==("__debug__":Str))=false:=by decide):aO (model X.prog X.w) X.A (eval (.Name x pos) X.env) Q E s:=by
 obtain⟨mb,h1,h2⟩:=I.mod.blt;exact Calls.Name_function_global I.ok.kind hg (Calls.loadGlobal_builtin (by rw[I.ok.glob];exact I.mod.glob.keeps I.bk) hm (by rw[I.ok.blt];exact h1.keeps I.bk) ((h2 x hn).trans hv) h) hd
def QL{x:Str}{v:V}{u:aa}{pos:Pos}(hg:Gl X x)(hm:X.mg x=none)(hv:e8 x=some u)(r:dA v u)(hn:x≠"__name__":=by decide)(hd:(x==("__debug__":Str))=false:=by decide):PE X (.Name x pos) (tC v):=
 λ_ _ _ H _ I h=>og I hg hm hv ⟨v,H,I,r,h⟩ hn hd
variable{a b:Expr}{ta tb:TE}{pos:Pos}
def tB(t:TE):TT:=λσ H Q=>t σ H λx H1=>∃c,x=.bl c/\Q c H1
def Uq{e:Expr}{t:TE}(h:PE X e t)(he:∀whole,isTrue e X.env whole=(do let v <-whole;standAt e.pos;holding [v] (truthy v)):=by intro _;rfl):PT X e (tB t):=by
 intro pins s σ H Q I hw;refine isTrue_plain (fk (h pins s σ H _ I hw) λv s1 ⟨x,H1,I1,r1,q1⟩=>?_) (he _);obtain⟨d,rfl,q⟩:=q1;cases r1;exact dI ⟨H1,I1,q⟩
variable{tA tB':TT}{rest:List Expr}
def i6(t u:TT):TT:=λσ H Q=>t σ H λc H1=>if c=true then u σ H1 Q else Q false H1
def Kl(t u:TT):TT:=λσ H Q=>t σ H λc H1=>if c=true then Q true H1 else u σ H1 Q
def Ji(t:TT):TT:=λσ H Q=>t σ H λc H1=>Q (!c) H1
def Rj(ha:PT X a tA):PW X (.BoolOp .And [a] pos) tA:=by
 intro wh pins s σ H Q I h;refine isTrue_and (fk (ha pins s σ H Q I h) λc s1 e=>?_);cases c with
 |true=>exact isTrue_and_nil e
 |false=>exact e
def Us(ha:PT X a tA):PW X (.BoolOp .Or [a] pos) tA:=by
 intro wh pins s σ H Q I h;refine isTrue_or (fk (ha pins s σ H Q I h) λc s1 e=>?_);cases c with
 |false=>exact isTrue_or_nil e
 |true=>exact e
def Ur(ha:PT X a tA)(hb:PW X (.BoolOp .And (b::rest) pos) tB'):PW X (.BoolOp .And (a::b::rest) pos) (i6 tA tB'):=by
 intro wh pins s σ H Q I h;refine isTrue_and (fk (ha pins s σ H _ I h) λc s1 ⟨H1,I1,q1⟩=>?_);cases c with
 |true=>exact hb wh pins s1 σ H1 Q I1 q1
 |false=>exact⟨H1,I1,q1⟩
def Vw(ha:PT X a tA)(hb:PW X (.BoolOp .Or (b::rest) pos) tB'):PW X (.BoolOp .Or (a::b::rest) pos) (Kl tA tB'):=by
 intro wh pins s σ H Q I h;refine isTrue_or (fk (ha pins s σ H _ I h) λc s1 ⟨H1,I1,q1⟩=>?_);cases c with
 |true=>exact⟨H1,I1,q1⟩
 |false=>exact hb wh pins s1 σ H1 Q I1 q1
def Up(ha:PT X a tA):PT X (.UnaryOp .Not a pos) (Ji tA):=by
 intro pins s σ H Q I h;exact isTrue_not (ha pins s σ H (λc H1=>Q (!c) H1) I h)
def ki(ta tb:TE):TE:=λσ H Q=>ta σ H λx H1=>∃c,x=.bl c/\if c=true then tb σ H1 Q else Q (.bl false) H1
def UM(ta tb:TE):TE:=λσ H Q=>ta σ H λx H1=>∃c,x=.bl c/\if c=true then Q (.bl true) H1 else tb σ H1 Q
def O1(ta:TE):TE:=λσ H Q=>ta σ H λx H1=>∃c,x=.bl c/\Q (.bl (!c)) H1
def T7{op}{t:TE}(h:PE X a t):PE X (.BoolOp op [a] pos) t:=λpins s σ H Q I hw=>BoolOp_one (h pins s σ H Q I hw)
def TQ(ha:PE X a ta)(hb:PE X (.BoolOp .And (b::rest) pos) tb):PE X (.BoolOp .And (a::b::rest) pos) (ki ta tb):=by
 intro pins s σ H Q I h;refine BoolOp_and (fk (ha pins s σ H _ I h) λv s1 ⟨x,H1,I1,r1,q1⟩=>?_);obtain⟨c,rfl,q1⟩:=q1;cases r1;refine dI ?_;cases c with
 |true=>exact hb pins s1 σ H1 Q I1 q1
 |false=>exact⟨.bl false,H1,I1,rfl,q1⟩
def Vt(ha:PE X a ta)(hb:PE X (.BoolOp .Or (b::rest) pos) tb):PE X (.BoolOp .Or (a::b::rest) pos) (UM ta tb):=by
 intro pins s σ H Q I h;refine BoolOp_or (fk (ha pins s σ H _ I h) λv s1 ⟨x,H1,I1,r1,q1⟩=>?_);obtain⟨c,rfl,q1⟩:=q1;cases r1;refine dI ?_;cases c with
 |false=>exact hb pins s1 σ H1 Q I1 q1
 |true=>exact⟨.bl true,H1,I1,rfl,q1⟩
def T4(ha:PE X a ta):PE X (.UnaryOp .Not a pos) (O1 ta):=by
 intro pins s σ H Q I h;refine UnaryOp_ (fk (ha pins s σ H _ I h) λv s1 ⟨x,H1,I1,r1,q1⟩=>?_);obtain⟨c,rfl,q1⟩:=q1;cases r1;exact not_of (dI ⟨.bl (!c),H1,I1,rfl,q1⟩)
end
def cB(K:Fg)(H:Hp)(a:ar)(xs:List V):Prop:=
 Rd H a (.lst xs)\/
  ∃(o:Obj) (its:Array aa) (n:Nat),K.lookup a=some o/\o.cls=.type "list"/\o.dict=none/\o.data=.seq its n/\its.size<=av/\c8 xs its.toList
def eO(K:Fg)(H:Hp)(a:ar)(xs:List V):Prop:=
 Rd H a (.tup xs)\/
  ∃(o:Obj) (its:Array aa) (n:Nat),K.lookup a=some o/\o.cls=.type "tuple"/\o.data=.seq its n/\its.size<=av/\c8 xs its.toList
def Wb:aa->Option V
 |.none=>some .non
 |.bool b=>some (.bl b)
 |.int i _=>some (.int i)
 |.str x _=>some (.str x)
 |.bytes b _=>some (.byt b)
 |.float b _=>some (.flt b)
 |.ref a=>some (.ref a)
 |.type n=>some (.ty n)
 |_=>none
def dA.abs{x:V}{u:aa}(r:dA x u):Wb u=some x:=by
 cases x with
 |non=>cases r;rfl
 |bl _=>cases r;rfl
 |int _=>obtain⟨t,rfl⟩:=r;rfl
 |str _=>obtain⟨t,rfl⟩:=r;rfl
 |byt _=>obtain⟨t,rfl⟩:=r;rfl
 |flt _=>obtain⟨t,rfl⟩:=r;rfl
 |ref _=>cases r;rfl
 |ty _=>cases r;rfl
def dA.inj{x y:V}{u:aa}(r:dA x u)(q:dA y u):x=y:=Option.some.inj (r.abs.symm.trans q.abs)
def c8.inj:∀{xs ys:List V} {us:List aa},c8 xs us->c8 ys us->xs=ys
 |_,_,_,.nil,.nil=>rfl
 |_,_,_,.cons r t,.cons r' t'=>by rw[r.inj r',c8.inj t t']
section
variable{X:Cx}{pins:List (ar×Obj)}{σ:St}{H:Hp}{s:aq}{a:ar}{xs ys:List V}
def cB.of{K:Fg}(h:H a=some (.lst xs)):cB K H a xs:=.inl (.inl h)
def eO.of{K:Fg}(h:H a=some (.tup xs)):eO K H a xs:=.inl (.inl h)
def bY.list(I:bY X pins σ H s)(h:cB X.K H a xs):∃its:List aa,c8 xs its/\PlainL s.heap a its.toArray/\xs.length<=av:=by
 rcases h with h|⟨o,its,n,hk,hc,hd,hs,hz,r⟩
 ·obtain⟨z,its,n,r,e⟩:=h.ok I.hok;exact⟨its,r,⟨_,n,e,rfl,rfl,rfl⟩,z⟩
 ·refine⟨its.toList,r,⟨o,n,I.kIn a o hk,hc,hd,by simpa using hs⟩,?_⟩;have e:=r.length;simp only[bg] at e;lia
def bY.tuple(I:bY X pins σ H s)(h:eO X.K H a xs):∃its:List aa,c8 xs its/\IsTup s.heap a its.toArray/\xs.length<=av:=by
 rcases h with h|⟨o,its,n,hk,hc,hs,hz,r⟩
 ·obtain⟨z,its,r,p⟩:=h.ok I.hok;exact⟨its,r,p.tup,z⟩
 ·refine⟨its.toList,r,⟨o,I.kIn a o hk,hc,n,by simpa using hs⟩,?_⟩;have e:=r.length;simp only[bg] at e;lia
def bY.list_inj(I:bY X pins σ H s)(h:cB X.K H a xs)(h':cB X.K H a ys):xs=ys:=by
 obtain⟨its,r,⟨o,n,e,_,_,d⟩,_⟩:=I.list h;obtain⟨its',r',⟨o',n',e',_,_,d'⟩,_⟩:=I.list h';rw[e] at e';cases e';rw[d] at d';injection d' with d1 _;have:its=its':=by simpa using congrArg Array.toList d1
 subst this;exact r.inj r'
def bY.tuple_inj(I:bY X pins σ H s)(h:eO X.K H a xs)(h':eO X.K H a ys):xs=ys:=by
 obtain⟨its,r,⟨o,e,_,n,d⟩,_⟩:=I.tuple h;obtain⟨its',r',⟨o',e',_,n',d'⟩,_⟩:=I.tuple h';rw[e] at e';cases e';rw[d] at d';injection d' with d1 _;have:its=its':=by simpa using congrArg Array.toList d1
 subst this;exact r.inj r'
end
abbrev Cx.wish(X:Cx)(E:ZF):Cx:={X with xe:=E}
abbrev Cx.nox(X:Cx):Cx:=X.wish λ_ _=>False
def Cx.Ok.wish{X:Cx}(ok:X.Ok)(E:ZF):(X.wish E).Ok:=
 ⟨ok.mod,ok.kind,ok.glob,ok.blt,ok.above,ok.inj,ok.has,ok.cab,ok.hd,ok.frames,ok.stk,ok.exf,ok.bs,ok.bsz,ok.noex,ok.exfs,ok.funs,ok.frf⟩
def Cx.Ok.unwish{X:Cx}{E:ZF}(ok:(X.wish E).Ok):X.Ok:=
 ⟨ok.mod,ok.kind,ok.glob,ok.blt,ok.above,ok.inj,ok.has,ok.cab,ok.hd,ok.frames,ok.stk,ok.exf,ok.bs,ok.bsz,ok.noex,ok.exfs,ok.funs,ok.frf⟩
section
variable{X:Cx}{pins:List (ar×Obj)}{σ:St}{H:Hp}{s:aq}{E:ZF}
def bY.wish(I:bY X pins σ H s)(E:ZF):bY (X.wish E) pins σ H s:=⟨I.ok.wish E,I.os,I.bare,I.base,I.loc,I.cell,I.free,I.freeC,I.pin,I.hok,I.len⟩
def bY.unwish(I:bY (X.wish E) pins σ H s):bY X pins σ H s:=⟨I.ok.unwish,I.os,I.bare,I.base,I.loc,I.cell,I.free,I.freeC,I.pin,I.hok,I.len⟩
def SP.unwish{D:rn}{f:Flow}{s':aq}(h:SP (X.wish E) pins D f s'):SP X pins D f s':=by
 cases f with
 |next=>obtain⟨σ',H',I,q⟩:=h;exact⟨σ',H',I.unwish,q⟩
 |brk=>obtain⟨σ',H',I,q⟩:=h;exact⟨σ',H',I.unwish,q⟩
 |cont=>obtain⟨σ',H',I,q⟩:=h;exact⟨σ',H',I.unwish,q⟩
 |ret u=>obtain⟨v,σ',H',I,r,q⟩:=h;exact⟨v,σ',H',I.unwish,r,q⟩
def DT.nox{st:List Stmt}{t:TS}(h:DT X.nox st t):DT X st t:=λpins s σ H D I hw=>
 dh (h pins s σ H D (I.wish _) hw) (λ_ _ q=>q.unwish) λ_ _ z=>False.elim z
end
section
variable{X:Cx}{st:Stmt}{rest:List Stmt}{t u:TS}{e:Expr}{te:TE}{pos:Pos}
def b6:TS:=λD σ H=>D.nx σ H
def bx(t u:TS):TS:=λD σ H=>t {D with nx:=u D} σ H
def Rf:DT X [] b6:=λ_ _ σ H _ I h=>i9 ⟨σ,H,I,h⟩
def Os(h1:PS X st t)(h2:DT X rest u):DT X (st::rest) (bx t u):=by
 intro pins s σ H D I h;refine wpAny_execs_cons (fk (h1 pins s σ H {D with nx:=u D} I h) λf s1 q=>?_);cases f with
 |next=>
  obtain⟨σ',H',I',q⟩:=q;exact h2 pins s1 σ' H' D I' q
 |ret v=>exact q
 |brk=>exact q
 |cont=>exact q
def Rg(h1:PS X st t):DT X [st] t:=by
 intro pins s σ H D I h;refine wpAny_execs_cons (fk (h1 pins s σ H D I h) λf s1 q=>?_);cases f with
 |next=>exact i9 q
 |ret v=>exact q
 |brk=>exact q
 |cont=>exact q
def bY.quiet{pins:List (ar×Obj)}{σ:St}{H:Hp}{s:aq}(I:bY X pins σ H s):interactive X.env=false:=by simp[interactive,I.ok.kind]
def iQ(te:TE):TS:=λD σ H=>te σ H λ_ H1=>D.nx σ H1
def Rb(he:PE X e te)(hs:gI e none pos.line X.env=pure false:=by rfl):PS X (.Expr e pos) (iQ te):=by
 intro pins s σ H D I h;exact wpAny_Expr_any (fk (he pins s σ H _ I h) λv s1 ⟨x,H1,I1,r1,q1⟩=>⟨σ,H1,I1,q1⟩) I.quiet hs
def cD(te:TE):TS:=λD σ H=>te σ H D.rt
def Um(he:PE X e te):PS X (.Return (some e) pos) (cD te):=by
 intro pins s σ H D I h;exact wpAny_Return_some (fk (he pins s σ H _ I h) λv s1 ⟨x,H1,I1,r1,q1⟩=>⟨x,σ,H1,I1,r1,q1⟩)
def dq(c:TT)(t u:TS):TS:=λD σ H=>c σ H λb H1=>if b=true then t D σ H1 else u D σ H1
def Vv{c:Expr}{a b:List Stmt}{tc:TT}(hc:PT X c tc)(ha:DT X a t)(hb:DT X b u):PS X (.If c a b pos) (dq tc t u):=by
 intro pins s σ H D I h;refine wpAny_If (fk (hc pins s σ H _ I h) λd s1 ⟨H1,I1,q1⟩=>?_);cases d with
 |true=>exact ha pins s1 σ H1 D I1 q1
 |false=>exact hb pins s1 σ H1 D I1 q1
end
abbrev TG:=V->St->Hp->(St->Hp->Prop)->Prop
abbrev KU:=List V->St->Hp->(St->Hp->Prop)->Prop
def PG(X:Cx)(target:Expr)(t:TG):Prop:=
 ∀(pins:List (ar×Obj)) (s:aq) (σ:St) (H:Hp) (v:V) (u:aa) (Q:St->Hp->Prop),bY X pins σ H s->dA v u->t v σ H Q->
  aO (model X.prog X.w) X.A (assign target X.env u) (λ_ s'=>∃σ' H',bY X pins σ' H' s'/\Q σ' H') X.xe s
def UT(X:Cx)(ts:List Expr)(t:KU):Prop:=
 ∀(pins:List (ar×Obj)) (s:aq) (σ:St) (H:Hp) (vs:List V) (us:List aa) (Q:St->Hp->Prop),bY X pins σ H s->c8 vs us->t vs σ H Q->
  aO (model X.prog X.w) X.A (assignInOrder ((eh ts X.env).map (·.2)) us) (λ_ s'=>∃σ' H',bY X pins σ' H' s'/\Q σ' H') X.xe s
abbrev PQ:=V->V->V->Hp->(Hp->Prop)->Prop
def PP(X:Cx)(t:PQ):Prop:=
 ∀(pins:List (ar×Obj)) (s:aq) (σ:St) (H:Hp) (o i v:V) (ov iv u:aa) (Q:Hp->Prop),bY X pins σ H s->dA o ov->dA i iv->dA v u->t o i v H Q->
  aO (model X.prog X.w) X.A (setItem ov iv u) (λ_ s'=>∃H',bY X pins σ H' s'/\Q H') X.xe s
section
variable{X:Cx}{pos:Pos}
def aU(i:Nat):TG:=λv σ H Q=>Q (σ.set i (some v)) H
def QV{i:Nat}{x:Str}(hN:X.N.Nodup)(hi:X.N[i]?=some x)(hx:MR X.env.scope x)(hf:X.fn x=true\/X.env.scope.names.lookup x=some .local:=by first|exact .inl rfl|exact .inr rfl|assumption):PG X (.Name x pos) (aU i):=by
 intro pins s σ H v u Q I r h;exact wpAny_assign_Name (vy I hN hi hx r (λs' I'=>⟨_,H,I',h⟩) hf)
def yA:KU:=λvs σ H Q=>vs=[]/\Q σ H
def iB(t:TG)(u:KU):KU:=λvs σ H Q=>∃v r,vs=v::r/\t v σ H λσ' H'=>u r σ' H' Q
def QY:UT X [] yA:=by
 intro pins s σ H vs us Q I r h;obtain⟨e,h⟩:=h;subst e;cases r;exact assignInOrder_nil ⟨σ,H,I,h⟩
def Oi{e:Expr}{es:List Expr}{t:TG}{u:KU}(h1:PG X e t)(h2:UT X es u)
  (hs:(eh (e::es) X.env).map (·.2)=assign e X.env::(eh es X.env).map (·.2):=by rfl):UT X (e::es) (iB t u):=by
 intro pins s σ H vs us Q I r h;obtain⟨v,vr,e1,h⟩:=h;subst e1;cases r with
 |cons r rr=>
  rw[hs];refine assignInOrder_cons (fk (h1 pins s σ H _ _ _ I r h) λ_ s1 ⟨σ1,H1,I1,q1⟩=>?_);exact h2 pins s1 σ1 H1 _ _ Q I1 rr q1
def zT(K:Fg)(n:Nat)(t:KU):TG:=λv σ H Q=>∃a xs,v=.ref a/\eO K H a xs/\xs.length=n/\t xs σ H Q
def Uc{es:List Expr}{k:Nat}{t:KU}{n:Nat}(hc:X.calm=true)(h:UT X es t)
  (hn:(eh es X.env).length=n:=by rfl) (hst:(eh es X.env).findIdx? (·.1)=none:=by rfl):PG X (.Tuple es k pos) (zT X.K n t):=by
 intro pins s σ H v u Q I r hw;obtain⟨a,xs,e1,hq,hl,hw⟩:=hw;subst e1;cases r;obtain⟨its,rv,ht,hz⟩:=I.tuple hq;refine assign_Tuple_tuple (I.ok.hd hc) ht (by simp[hn,<-hl,rv.length]) hst λh' hx=>?_;have I1:bY X pins σ H {s with heap:=h'}:=I.kept (t':=s.toks) λb o e=>hx b o (bu (aP e)) e;exact h pins _ σ H xs _ Q I1 (by simpa using rv) hw
def tI(to ti:TE)(t:PQ):TG:=λv σ H Q=>to σ H λo H1=>ti σ H1 λi H2=>t o i v H2 λH3=>Q σ H3
def Ub{o i:Expr}{to ti:TE}{t:PQ}(ho:PE X o to)(hi:PE X i ti)(hs:PP X t)
  (ha:∀v,assign (.Subscript o i pos) X.env v=(do
   let ov <-holding [v] (eval o X.env);let iv <-holding [v,ov] (eval i X.env)
   standAt pos
   holding [v,ov,iv] (setItem ov iv v)
   release [v,ov,iv] []):=by intro _;rfl):PG X (.Subscript o i pos) (tI to ti t):=by
 intro pins s σ H v u Q I r h;rw[ha];refine ag (cw (fk (ho pins s σ H _ I h) λov s1 ⟨x,H1,I1,r1,q1⟩=>?_));refine ag (cw (fk (hi pins s1 σ H1 _ I1 q1) λiv s2 ⟨y,H2,I2,r2,q2⟩=>?_));refine ag (hV (ag (cw (fk (hs pins s2 σ H2 x y v ov iv u _ I2 r1 r2 r q2) λ_ s3 ⟨H3,I3,q3⟩=>?_))));exact wpAny_release ⟨σ,H3,I3,q3⟩
def cb(te:TE)(g:TG):TS:=λD σ H=>te σ H λx H1=>g x σ H1 D.nx
def Uk{tg e:Expr}{te:TE}{g:TG}(he:PE X e te)(hg:PG X tg g)(hs:swapsWithSole [tg] e pos.line X.env=pure false:=by rfl)(hw:swappedStores [tg] e X.env=pure none:=by rfl)
  (h1:(eh [tg] X.env).map (·.2)=[assign tg X.env]:=by rfl):PS X (.Assign [tg] e pos) (cb te g):=by
 intro pins s σ H D I h;refine wpAny_Assign_stores (fk (he pins s σ H _ I h) λv s1 ⟨x,H1,I1,r1,q1⟩=>?_) hs hw;rw[h1];exact fk (hg pins s1 σ H1 x v _ I1 r1 q1) λ_ s2 q=>q
def Uo{i:Nat}{x:Str}{e:Expr}{te:TE}{pos':Pos}(hN:X.N.Nodup)(hi:X.N[i]?=some x)(hx:MR X.env.scope x)(he:PE X e te)(hs:gI e (some (.Name x pos')) pos.line X.env=pure false:=by rfl)(hf:X.fn x=true\/X.env.scope.names.lookup x=some .local:=by first|exact .inl rfl|exact .inr rfl|assumption) :
  PS X (.Assign [.Name x pos'] e pos) (cb te (aU i)):=by
 intro pins s σ H D I h;refine wpAny_Assign_Name (fk (he pins s σ H _ I h) λv s1 ⟨y,H1,I1,r1,q1⟩=>?_) hs;exact vy I1 hN hi hx r1 (λs2 I2=>⟨_,H1,I2,q1⟩) hf
end
section
variable{X:Cx}{pos:Pos}
def AV(c:TT)(tb:TS):TS:=λD σ H=>∃W:Nat->St->Hp->Prop,(∃m,W m σ H)/\∀m σ H,W m σ H->
 c σ H λb H1=>if b=true then ∃N:St->Hp->Prop,(∀σ' H',N σ' H'->∃m',m'<m/\W m' σ' H')/\tb {D with nx:=N,ct:=N,bk:=D.nx} σ H1 else D.nx σ H1
def Oq{c:Expr}{body:List Stmt}{tc:TT}{tb:TS}(hp:cy (model X.prog X.w) X.A X.env X.xe)(hc:PT X c tc)(hb:DT X body tb):PS X (.While c body [] pos) (AV tc tb):=by
 intro pins s σ H D I h;obtain⟨W,⟨m0,w0⟩,turn⟩:=h;refine wpAny_While (codeAny_whileLoop (λn s'=>∃σ' H',bY X pins σ' H' s'/\W n σ' H') ?_ m0 ⟨σ,H,I,w0⟩);rintro n s1 ⟨σ1,H1,I1,w1⟩;refine gf hp (fk (hc pins s1 σ1 H1 _ I1 (turn n σ1 H1 w1)) λb s2 ⟨H2,I2,q2⟩=>?_);cases b with
 |true=>
  obtain⟨N,hN,q2⟩:=q2;rw[if_pos rfl];refine gf hp (fk (hb pins s2 σ1 H2 _ I2 q2) λf s3 q3=>?_);cases f with
  |next=>
   obtain⟨σ3,H3,I3,n3⟩:=q3;obtain⟨m',hm,w3⟩:=hN σ3 H3 n3;exact⟨m',hm,σ3,H3,I3,w3⟩
  |cont=>
   obtain⟨σ3,H3,I3,n3⟩:=q3;obtain⟨m',hm,w3⟩:=hN σ3 H3 n3;exact⟨m',hm,σ3,H3,I3,w3⟩
  |brk=>exact q3
  |ret v=>exact q3
 |false=>
  rw[if_neg Bool.false_ne_true];exact i9 ⟨σ1,H2,I2,q2⟩
end
structure It where
 go:Nat->Hp->Prop
 yld:Nat->Hp->V->Hp->Prop
 stop:Nat->Hp->Prop
def uy(X:Cx)(pins:List (ar×Obj))(H:Hp)(b:ar):Prop:=
 H b=none/\b≠X.env.locals/\b∉X.fs/\(b∈X.ex\/X.s₀.heap.objs.size<=b)/\(∀x c,X.env.cells.lookup x=some c->c≠b)/\∀p∈X.pn++pins,p.1≠b
def bY.fpOk{X:Cx}{pins:List (ar×Obj)}{σ:St}{H H':Hp}{s:aq}{b:ar}(I:bY X pins σ H s)(hb:s.heap.objs.size<=b)(hn:H' b=none):uy X pins H' b:=by
 refine⟨hn,jN (bh I.lt hb),I.nofs hb,.inr (b9 I.sz hb),λx c e z=>?_,λp hp z=>?_⟩
 ·obtain⟨v,q⟩:=I.cell x c e;exact absurd (bh q.lt (by rw[z];exact hb)) (cQ _)
 ·exact absurd (bh (aP (I.pin p hp).1) (by rw[z];exact hb)) (cQ _)
structure DW(P:aW)(w:bK)(K:Fg)(tg:Expr)(J:It)(fp:List ar)(it:ar)(tn:Nat->Heap->Prop):Prop where
 mem:it∈fp
 obj:∀i h,tn i h->∀b∈fp,∃o,h.get? b=some o/\∀v,o.data≠.cell v
 keep:∀i h h',tn i h->(∀b∈fp,∀o,h.get? b=some o->h'.get? b=some o)->tn i h'
 item:∀(X:Cx),X.prog=P->X.w=w->X.K=K->X.calm=true->∀(i:Nat) (pins:List (ar×Obj)) (s:aq) (σ:St) (H:Hp) (E:ZF),bY X pins σ H s->(∀b∈fp,uy X pins H b)->tn i s.heap->J.go i H->
  aO (model P w) X.A (nI (.ref it)) (λr s1=>∃u,r=some u/\
   aO (model P w) X.A (lu tg (.ref it) u) (λ_ s2=>∃x H',bY X pins σ H' s2/\dA x u/\J.yld i H x H'/\tn (i+1) s2.heap/\∀b∈fp,H' b=none) E s1) E s
 done:∀(X:Cx),X.prog=P->X.w=w->X.K=K->X.calm=true->∀(i:Nat) (pins:List (ar×Obj)) (s:aq) (σ:St) (H:Hp) (E:ZF),bY X pins σ H s->(∀b∈fp,uy X pins H b)->tn i s.heap->J.stop i H->
  aO (model P w) X.A (nI (.ref it)) (λr s1=>r=none/\bY X pins σ H s1) E s
 self:∀(A:bj) (i:Nat) (s:aq) (Q:ZF) (E:ZF),tn i s.heap->Q (.ref it) s->aO (model P w) A (pyIter (.ref it)) Q E s
abbrev TI:=St->Hp->(It->Hp->Prop)->Prop
def Wq(X:Cx)(pins:List (ar×Obj))(σ:St)(tg:Expr)(R:It->Hp->Prop)(itv:aa)(s2:aq):Prop:=
 ∃(it:ar) (fp:List ar) (tn:Nat->Heap->Prop) (J:It) (H':Hp),itv=.ref it/\bY X pins σ H' s2/\DW X.prog X.w X.K tg J fp it tn/\tn 0 s2.heap/\(∀b∈fp,uy X pins H' b)/\R J H'
def PI(X:Cx)(tg iter:Expr)(wi:TI):Prop:=
 ∀(pins:List (ar×Obj)) (s:aq) (σ:St) (H:Hp) (R:It->Hp->Prop),bY X pins σ H s->wi σ H R->
  aO (model X.prog X.w) X.A (eval iter X.env) (λv s1=>aO (model X.prog X.w) X.A (pyIter v) (Wq X pins σ tg R) X.xe s1) X.xe s
def J1{M:Model}{A:bj}{E:ZF}{s:aq}{tg:Expr}{it:ar}{u:aa}{o:Obj}{n:String}{vs:Array aa}{Q:Unit->aq->Prop}(ho:s.heap.get? it=some o)(hc:o.cls=.type n)(hd:o.data=.fields vs)
  (hn:["enumerate","zip","dict_itemiterator","dict_reverseitemiterator","odict_iterator","itertools.zip_longest","itertools.pairwise"].contains n=false) (hQ:Q () s):aO M A (lu tg (.ref it) u) Q E s:=by
 unfold lu;cases tg<;>first
  |exact aC hQ
  |(cases u<;>first
    |exact aC hQ
    |(refine ag (wpAny_load ho ?_)
      rw[hc,hd];show aO M A (if(["enumerate","zip","dict_itemiterator","dict_reverseitemiterator","odict_iterator","itertools.zip_longest","itertools.pairwise"].contains n&&vs[0]?==some (mi _))=true then _ else _) Q E s;rw[if_neg (by intro h;rw[hn,Bool.false_and] at h;cases h)];exact aC hQ))
def RZ(K:Fg)(a:ar):It:=
 ⟨λi H=>∃xs x,cB K H a xs/\xs[i]?=some x,λi H x H'=>H'=H/\∀xs,cB K H a xs->xs[i]?=some x,λi H=>∃xs,cB K H a xs/\xs.length<=i⟩
def R0(K:Fg)(a:ar):It:=
 ⟨λi H=>∃xs x,eO K H a xs/\xs[i]?=some x,λi H x H'=>H'=H/\∀xs,eO K H a xs->xs[i]?=some x,λi H=>∃xs,eO K H a xs/\xs.length<=i⟩
def Px(lo:Int)(n:Nat):It:=⟨λi _=>i<n,λi H x H'=>H'=H/\x=.int (lo+i),λi _=>n<=i⟩
def Mz{P:aW}{w:bK}{K:Fg}{tg:Expr}(a it:ar):DW P w K tg (RZ K a) [it] it (λi h=>h.IsListIter it a i) where
 mem:=by simp
 obj:=λi h st b hb=>by
  have e:b=it:=by simpa using hb
  subst e;obtain⟨o,e,c,d⟩:=st;exact⟨o,e,λv z=>by rw[d] at z;cases z⟩
 keep:=λi h h' st k=>st.at λo e=>k it (by simp) o e
 item:=by
  intro X hP hw hK hc i pins s σ H E I hf st hg;subst hP hw hK;obtain⟨xs,x,hq,hx⟩:=hg;obtain⟨its,rv,p,hz⟩:=I.list hq;obtain⟨u,hu,ru⟩:=rv.get hx;obtain⟨f0,f1,f2,f3,f4,f5⟩:=hf it (by simp);refine wpAny_pyNext_list_item st p.isList (x:=u) (by simpa using hu) λh' st' sb=>?_;have I1:bY X pins σ H {s with heap:=h'}:=I.turned (t':=s.toks) (λb o hb e=>(sb.2 b hb).trans e) f0 f1 f3 f4 f5;obtain⟨o,e,c,d⟩:=id st';exact⟨u,rfl,J1 (s:={s with heap:=h'}) e c d (by decide) ⟨x,H,I1,ru,⟨rfl,λys hy=>by rw[I.list_inj hy hq];exact hx⟩,st',λb hb=>(hf b hb).1⟩⟩
 done:=by
  intro X hP hw hK hc i pins s σ H E I hf st hg;subst hP hw hK;obtain⟨xs,hq,hx⟩:=hg;obtain⟨its,rv,p,hz⟩:=I.list hq;obtain⟨f0,f1,f2,f3,f4,f5⟩:=hf it (by simp);have hl:=rv.length;exact wpAny_pyNext_list_end (I.ok.hd hc) st p.isList (by simp;lia) λh' eb=>⟨rfl,I.turned (t':=s.toks) (λb o hb e=>eb b o hb e) f0 f1 f3 f4 f5⟩
 self:=λ_ _ _ _ _ st h=>wpAny_pyIter_listiter st h
def Jx{P:aW}{w:bK}{K:Fg}{tg:Expr}(a it:ar):DW P w K tg (R0 K a) [it] it (λi h=>h.IsTupleIter it a i) where
 mem:=by simp
 obj:=λi h st b hb=>by
  have e:b=it:=by simpa using hb
  subst e;obtain⟨o,e,c,d⟩:=st;exact⟨o,e,λv z=>by rw[d] at z;cases z⟩
 keep:=λi h h' st k=>st.at λo e=>k it (by simp) o e
 item:=by
  intro X hP hw hK hc i pins s σ H E I hf st hg;subst hP hw hK;obtain⟨xs,x,hq,hx⟩:=hg;obtain⟨its,rv,p,hz⟩:=I.tuple hq;obtain⟨u,hu,ru⟩:=rv.get hx;obtain⟨f0,f1,f2,f3,f4,f5⟩:=hf it (by simp);refine wpAny_pyNext_tuple_item st (show s.heap.IsTuple a its.toArray from p) (x:=u) (by simpa using hu) λh' st' sb=>?_;have I1:bY X pins σ H {s with heap:=h'}:=I.turned (t':=s.toks) (λb o hb e=>(sb.2 b hb).trans e) f0 f1 f3 f4 f5;obtain⟨o,e,c,d⟩:=id st';exact⟨u,rfl,J1 (s:={s with heap:=h'}) e c d (by decide) ⟨x,H,I1,ru,⟨rfl,λys hy=>by rw[I.tuple_inj hy hq];exact hx⟩,st',λb hb=>(hf b hb).1⟩⟩
 done:=by
  intro X hP hw hK hc i pins s σ H E I hf st hg;subst hP hw hK;obtain⟨xs,hq,hx⟩:=hg;obtain⟨its,rv,p,hz⟩:=I.tuple hq;obtain⟨f0,f1,f2,f3,f4,f5⟩:=hf it (by simp);have hl:=rv.length;exact wpAny_pyNext_tuple_end (I.ok.hd hc) st (show s.heap.IsTuple a its.toArray from p) (by simp;lia) λh' eb=>⟨rfl,I.turned (t':=s.toks) (λb o hb e=>eb b o hb e) f0 f1 f3 f4 f5⟩
 self:=λ_ _ _ _ _ st h=>wpAny_pyIter_tupleiter st h
def Jw{P:aW}{w:bK}{K:Fg}{tg:Expr}(it:ar)(lo:Int)(n:Nat):DW P w K tg (Px lo n) [it] it (λi h=>IsRangeIter h it (lo+(i:Nat)*1) ((n:Int)-(i:Nat)) 1) where
 mem:=by simp
 obj:=λi h st b hb=>by
  have e:b=it:=by simpa using hb
  subst e;exact⟨_,st,λv z=>by
   have z':Data.fields _=Data.cell v:=z;cases z'⟩
 keep:=λi h h' st k=>k it (by simp) _ st
 item:=by
  intro X hP hw hK hc i pins s σ H E I hf st hg;subst hP hw hK;obtain⟨f0,f1,f2,f3,f4,f5⟩:=hf it (by simp);have W:=Walks.range (prog:=X.prog) (w:=X.w) (I.ok.hd hc) it lo 1 n;refine W.item i s _ _ hg st λv h' tk hv st' kk=>?_;obtain⟨t,rfl⟩:=hv;have I1:bY X pins σ H {s with heap:=h',toks:=tk}:=I.turned (λb o hb e=>kk b o (by simpa using hb) e) f0 f1 f3 f4 f5;refine⟨_,rfl,J1 (s:={s with heap:=h',toks:=tk}) (n:="range_iterator") st' rfl rfl (by decide) ⟨.int (lo+i),H,I1,⟨t,?_⟩,⟨rfl,rfl⟩,st',λb hb=>(hf b hb).1⟩⟩;rw[Int.mul_one]
 done:=by
  intro X hP hw hK hc i pins s σ H E I hf st hg;subst hP hw hK;obtain⟨f0,f1,f2,f3,f4,f5⟩:=hf it (by simp);exact wpAny_pyNext_range_end (I.ok.hd hc) st (by have:n<=i:=hg;lia) λh' eb=>⟨rfl,I.turned (t':=s.toks) (λb o hb e=>eb b o hb e) f0 f1 f3 f4 f5⟩
 self:=λ_ _ _ _ _ st h=>wpAny_pyIter_rangeiter st h
section
variable{X:Cx}{tg:Expr}
def R8(K:Fg)(tl:TE):TI:=λσ H R=>tl σ H λx H1=>∃a,x=.ref a/\(∃xs,cB K H1 a xs)/\R (RZ K a) H1
def Vb(K:Fg)(tl:TE):TI:=λσ H R=>tl σ H λx H1=>∃a,x=.ref a/\(∃xs,eO K H1 a xs)/\R (R0 K a) H1
def Q0{l:Expr}{tl:TE}(hl:PE X l tl):PI X tg l (R8 X.K tl):=by
 intro pins s σ H R I h;refine fk (hl pins s σ H _ I h) λv s1 ⟨x,H1,I1,r1,q1⟩=>?_;obtain⟨a,e,⟨xs,hq⟩,q⟩:=q1;subst e;cases r1;obtain⟨its,rv,p,hz⟩:=I1.list hq;refine jH p.isList ?_;refine⟨s1.heap.objs.size,[s1.heap.objs.size],_,_,H1,rfl,I1.kept (t':=s1.toks) λb o e=>az _ e,Mz a _,⟨_,aZ _ rfl,rfl,rfl⟩,λb hb=>?_,q⟩;have e:b=s1.heap.objs.size:=by simpa using hb
 subst e;exact I1.fpOk (aD _) (I1.hok.fresh (aD _))
def Ug{l:Expr}{tl:TE}(hl:PE X l tl):PI X tg l (Vb X.K tl):=by
 intro pins s σ H R I h;refine fk (hl pins s σ H _ I h) λv s1 ⟨x,H1,I1,r1,q1⟩=>?_;obtain⟨a,e,⟨xs,hq⟩,q⟩:=q1;subst e;cases r1;obtain⟨its,rv,p,hz⟩:=I1.tuple hq;refine gU (show s1.heap.IsTuple a its.toArray from p) ?_;refine⟨s1.heap.objs.size,[s1.heap.objs.size],_,_,H1,rfl,I1.kept (t':=s1.toks) λb o e=>az _ e,Jx a _,⟨_,aZ _ rfl,rfl,rfl⟩,λb hb=>?_,q⟩;have e:b=s1.heap.objs.size:=by simpa using hb
 subst e;exact I1.fpOk (aD _) (I1.hok.fresh (aD _))
def OI{pins:List (ar×Obj)}{σ:St}{H:Hp}{s:aq}{R:It->Hp->Prop}{E:ZF}{lo hi:Int}{t u v:Tok}{tk:Nat}(I:bY X pins σ H s)(h1:-(2 ^ 62)<=lo)(h2:lo<2 ^ 62)(h3:-(2 ^ 62)<=hi)(h4:hi<2 ^ 62)
  (q:R (Px lo (hi-lo).toNat) H):aO (model X.prog X.w) X.A (pyIter (.ref s.heap.objs.size)) (Wq X pins σ tg R) E {s with heap:=s.heap.push {cls:=.type "range",data:=.fields #[.int lo t,.int hi u,.int 1 v]},toks:=tk}:=by
 refine wpAny_pyIter_range (IsRange.new ..) (small_one h1 h2 h3 h4) ?_;have I1:bY X pins σ H {s with heap:=s.heap.push {cls:=.type "range",data:=.fields #[.int lo t,.int hi u,.int 1 v]},toks:=tk}:=I.kept λb o e=>az _ e;refine⟨(s.heap.push {cls:=.type "range",data:=.fields #[.int lo t,.int hi u,.int 1 v]}).objs.size,[(s.heap.push {cls:=.type "range",data:=.fields #[.int lo t,.int hi u,.int 1 v]}).objs.size],_,_,H,rfl,
  I1.kept (t':=tk) λb o e=>az _ e,Jw _ lo (hi-lo).toNat,?_,λb hb=>?_,q⟩
 ·have e1:lo+((0:Nat):Int)*1=lo:=by simp
  have e2:(((hi-lo).toNat:Nat):Int)-((0:Nat):Int)=Builtin.Range.rangeSize lo hi 1:=by rw[rangeSize_one];split<;>lia
  show IsRangeIter _ _ (lo+((0:Nat):Int)*1) ((((hi-lo).toNat:Nat):Int)-((0:Nat):Int)) 1;rw[e1,e2];exact aZ _ rfl
 ·have e:b=(s.heap.push {cls:=.type "range",data:=.fields #[.int lo t,.int hi u,.int 1 v]}).objs.size:=by simpa using hb
  subst e;exact I1.fpOk (aD _) (I1.hok.fresh (aD _))
def rT(ta:TA):TI:=λσ H R=>ta σ H λvs H1=>∃j:Int,vs=[.int j]/\-(2 ^ 62)<=j/\j<2 ^ 62/\R (Px 0 j.toNat) H1
def LZ{a:Expr}{ta:TA}{p pos:Pos}(hg:Gl X "range")(hm:X.mg "range"=none)(ha:PA X [a] ta)(hs:aR [a] X.env=[(false,eval a X.env)]:=by rfl):PI X tg (.Call (.Name "range" p) [a] [] pos) (rT ta):=by
 intro pins s σ H R I h;refine Call_ (og I hg hm boot_range (dN (fk (ha pos pins s σ H _ I h) λus s1 ⟨vs,H1,I1,r1,q1⟩=>?_) hs rfl));obtain⟨j,e,q1,q2,q⟩:=q1;subst e;cases r1 with
 |cons r rr=>
  cases rr;obtain⟨t,rfl⟩:=r;exact call_range_1 (OI I1 (by lia) (by lia) q1 q2 (by simpa using q))
def kG(wi:TI)(g:TG)(tb:TS):TS:=λD σ H=>wi σ H λJ H1=>∃W:Nat->Nat->St->Hp->Prop,(∃m,W 0 m σ H1)/\∀i m σ H,W i m σ H->
 (J.stop i H/\D.nx σ H)\/(J.go i H/\∃N:St->Hp->Prop,(∀σ' H',N σ' H'->∃m',m'<m/\W (i+1) m' σ' H')/\∀x H',J.yld i H x H'->g x σ H' λσ2 H2=>tb {D with nx:=N,ct:=N,bk:=D.nx} σ2 H2)
def Ap(fp:List ar)(h:Heap):List (ar×Obj):=fp.filterMap λb=>(h.get? b).map λo=>(b,o)
def pW{fp:List ar}{h:Heap}{b:ar}{o:Obj}(hb:b∈fp)(e:h.get? b=some o):(b,o)∈Ap fp h:=List.mem_filterMap.mpr ⟨b,hb,by rw[e];rfl⟩
def LU{fp:List ar}{h:Heap}{p:ar×Obj}(hp:p∈Ap fp h):p.1∈fp/\h.get? p.1=some p.2:=by
 obtain⟨b,hb,e⟩:=List.mem_filterMap.mp hp;cases q:h.get? b with
 |none=>rw[q] at e;cases e
 |some o=>
  rw[q] at e;have e':(b,o)=p:=Option.some.inj e;subst e';exact⟨hb,q⟩
def bY.pinned{pins:List (ar×Obj)}{σ:St}{H:Hp}{s:aq}{fp:List ar}(I:bY X pins σ H s)(hf:∀b∈fp,uy X pins H b)(ho:∀b∈fp,∃o,s.heap.get? b=some o/\∀v,o.data≠.cell v):bY X (pins++Ap fp s.heap) σ H s:=
 I.pins_of λp hp=>(aT.mp hp).elim (λz=>I.pin p (bD _ z)) λz=>by
  obtain⟨hb,e⟩:=LU z;obtain⟨f0,f1,f2,_⟩:=hf p.1 hb;obtain⟨o,e',d⟩:=ho p.1 hb;rw[e] at e';cases e';exact⟨e,f0,f1,f2,d⟩
def bY.unpinned{pins pl:List (ar×Obj)}{σ:St}{H:Hp}{s:aq}(I:bY X (pins++pl) σ H s):bY X pins σ H s:=I.pins_of λp hp=>I.pin p (bD _ (bR _ hp))
def Ul{iter:Expr}{body:List Stmt}{wi:TI}{g:TG}{tb:TS}{pos:Pos}(hp:cy (model X.prog X.w) X.A X.env X.xe)(hc:X.calm=true)(hi:PI X tg iter wi)(hg:PG X tg g)(hb:DT X body tb)
  (hs:∀x,eL iter X.env x=pure x:=by intro _;rfl):PS X (.For tg iter body [] pos) (kG wi g tb):=by
 intro pins s σ H D I h;refine wpAny_For (fk (hi pins s σ H _ I h) λv s1 h1=>fk h1 λitv s2 h2=>?_) hs;obtain⟨it,fp,tn,J,H2,e,I2,T,st2,f2,W,⟨m0,w0⟩,turn⟩:=h2;subst e;have stat:∀{H':Hp},(∀b∈fp,H' b=none)->∀b∈fp,uy X pins H' b:=λhn b hb=>⟨hn b hb,(f2 b hb).2⟩;refine codeAny_forLoop_any (λn s'=>∃i σ' H',bY X pins σ' H' s'/\tn i s'.heap/\(∀b∈fp,H' b=none)/\W i n σ' H') ?_ m0 ⟨0,σ,H2,I2,st2,λb hb=>(f2 b hb).1,w0⟩;rintro n s3 ⟨i,σ3,H3,I3,st3,fr3,w3⟩;rcases turn i n σ3 H3 w3 with⟨stop,qn⟩|⟨go,N,hN,step⟩
 ·refine gf hp (fk (T.done X rfl rfl rfl hc i pins s3 σ3 H3 X.xe I3 (stat fr3) st3 stop) λr s4 ⟨hr,I4⟩=>?_);subst hr;exact i9 ⟨σ3,H3,I4,qn⟩
 ·refine gf hp (fk (T.item X rfl rfl rfl hc i pins s3 σ3 H3 X.xe I3 (stat fr3) st3 go) λr s4 ⟨u,hr,h4⟩=>?_);subst hr;refine gf hp (fk h4 λ_ s5 ⟨x,H5,I5,r5,y5,st5,fr5⟩=>?_);have I5':=I5.pinned (stat fr5) (T.obj _ _ st5);refine gf hp (fk (hg _ s5 σ3 H5 x u _ I5' r5 (step x H5 y5)) λ_ s6 ⟨σ6,H6,I6,q6⟩=>?_);refine gf hp (fk (hb _ s6 σ6 H6 _ I6 q6) λf s7 q7=>?_);have again:∀{σ7:St} {H7:Hp},bY X (pins++Ap fp s5.heap) σ7 H7 s7->N σ7 H7->∃m,m<n/\∃i σ' H',bY X pins σ' H' s7/\tn i s7.heap/\(∀b∈fp,H' b=none)/\W i m σ' H':=λ{σ7 H7} I7 n7=>by
   obtain⟨m',hm,w7⟩:=hN σ7 H7 n7;refine⟨m',hm,i+1,σ7,H7,I7.unpinned,T.keep _ _ _ st5 λb hb o e=>(I7.pin (b,o) (bD _ (bD _ (pW hb e)))).1,λb hb=>?_,w7⟩;obtain⟨o,e,d⟩:=T.obj _ _ st5 b hb;exact(I7.pin (b,o) (bD _ (bD _ (pW hb e)))).2.1
  cases f with
  |next=>obtain⟨σ7,H7,I7,n7⟩:=q7;exact again I7 n7
  |cont=>obtain⟨σ7,H7,I7,n7⟩:=q7;exact again I7 n7
  |brk=>obtain⟨σ7,H7,I7,q7⟩:=q7;exact⟨σ7,H7,I7.unpinned,q7⟩
  |ret v=>obtain⟨x7,σ7,H7,I7,r7,q7⟩:=q7;exact⟨x7,σ7,H7,I7.unpinned,r7,q7⟩
end
def rS{K:Fg}{a:ar}{xs:List V}{g:TG}{tb:TS}{D:rn}{σ:St}{H:Hp}(Pv:Nat->St->Hp->Prop)(h0:Pv 0 σ H)(hl:∀i σ H,i<=xs.length->Pv i σ H->cB K H a xs)
  (hs:∀i x σ H,xs[i]?=some x->Pv i σ H->g x σ H λσ2 H2=>tb {D with nx:=Pv (i+1),ct:=Pv (i+1),bk:=D.nx} σ2 H2) (hd:∀σ H,Pv xs.length σ H->D.nx σ H) :
  ∃W:Nat->Nat->St->Hp->Prop,(∃m,W 0 m σ H)/\∀i m σ H,W i m σ H->
   ((RZ K a).stop i H/\D.nx σ H)\/((RZ K a).go i H/\∃N:St->Hp->Prop,(∀σ' H',N σ' H'->∃m',m'<m/\W (i+1) m' σ' H')/\∀x H',(RZ K a).yld i H x H'->g x σ H' λσ2 H2=>tb {D with nx:=N,ct:=N,bk:=D.nx} σ2 H2):=by
 refine⟨λi m σ H=>m=xs.length-i/\i<=xs.length/\Pv i σ H,⟨xs.length,by simp,cA _,h0⟩,?_⟩;rintro i m σ H ⟨rfl,hi,p⟩;have q:=hl i σ H hi p;by_cases hlt:i<xs.length
 ·refine .inr ⟨⟨xs,xs[i],q,by simp[hlt]⟩,Pv (i+1),λσ' H' p'=>⟨xs.length-(i+1),by lia,rfl,hlt,p'⟩,λx H' y=>?_⟩;obtain⟨e,y⟩:=y;subst e;exact hs i x σ _ (y xs q) p
 ·have e:i=xs.length:=by lia
  subst e;exact .inl ⟨⟨xs,q,aD _⟩,hd σ H p⟩
def pR{K:Fg}{a:ar}{xs:List V}{g:TG}{tb:TS}{D:rn}{σ:St}{H:Hp}(Pv:Nat->St->Hp->Prop)(h0:Pv 0 σ H)(hl:∀i σ H,i<=xs.length->Pv i σ H->eO K H a xs)
  (hs:∀i x σ H,xs[i]?=some x->Pv i σ H->g x σ H λσ2 H2=>tb {D with nx:=Pv (i+1),ct:=Pv (i+1),bk:=D.nx} σ2 H2) (hd:∀σ H,Pv xs.length σ H->D.nx σ H) :
  ∃W:Nat->Nat->St->Hp->Prop,(∃m,W 0 m σ H)/\∀i m σ H,W i m σ H->
   ((R0 K a).stop i H/\D.nx σ H)\/((R0 K a).go i H/\∃N:St->Hp->Prop,(∀σ' H',N σ' H'->∃m',m'<m/\W (i+1) m' σ' H')/\∀x H',(R0 K a).yld i H x H'->g x σ H' λσ2 H2=>tb {D with nx:=N,ct:=N,bk:=D.nx} σ2 H2):=by
 refine⟨λi m σ H=>m=xs.length-i/\i<=xs.length/\Pv i σ H,⟨xs.length,by simp,cA _,h0⟩,?_⟩;rintro i m σ H ⟨rfl,hi,p⟩;have q:=hl i σ H hi p;by_cases hlt:i<xs.length
 ·refine .inr ⟨⟨xs,xs[i],q,by simp[hlt]⟩,Pv (i+1),λσ' H' p'=>⟨xs.length-(i+1),by lia,rfl,hlt,p'⟩,λx H' y=>?_⟩;obtain⟨e,y⟩:=y;subst e;exact hs i x σ _ (y xs q) p
 ·have e:i=xs.length:=by lia
  subst e;exact .inl ⟨⟨xs,q,aD _⟩,hd σ H p⟩
def jy{lo:Int}{n:Nat}{g:TG}{tb:TS}{D:rn}{σ:St}{H:Hp}(Pv:Nat->St->Hp->Prop)(h0:Pv 0 σ H)
  (hs:∀i σ H,i<n->Pv i σ H->g (.int (lo+i)) σ H λσ2 H2=>tb {D with nx:=Pv (i+1),ct:=Pv (i+1),bk:=D.nx} σ2 H2) (hd:∀σ H,Pv n σ H->D.nx σ H) :
  ∃W:Nat->Nat->St->Hp->Prop,(∃m,W 0 m σ H)/\∀i m σ H,W i m σ H->
   ((Px lo n).stop i H/\D.nx σ H)\/((Px lo n).go i H/\∃N:St->Hp->Prop,(∀σ' H',N σ' H'->∃m',m'<m/\W (i+1) m' σ' H')/\∀x H',(Px lo n).yld i H x H'->g x σ H' λσ2 H2=>tb {D with nx:=N,ct:=N,bk:=D.nx} σ2 H2):=by
 refine⟨λi m σ H=>m=n-i/\i<=n/\Pv i σ H,⟨n,by simp,cA _,h0⟩,?_⟩;rintro i m σ H ⟨rfl,hi,p⟩;by_cases hlt:i<n
 ·refine .inr ⟨hlt,Pv (i+1),λσ' H' p'=>⟨n-(i+1),by lia,rfl,hlt,p'⟩,λx H' y=>?_⟩;obtain⟨e,y⟩:=y;subst e y;exact hs i σ _ hlt p
 ·have e:i=n:=by lia
  subst e;exact .inl ⟨aD _,hd σ H p⟩
abbrev R2:=V->V->Hp->VK->Prop
def jE(X:Cx)(f:aa->aa->Sem aa)(r:R2):Prop:=
 ∀(pins:List (ar×Obj)) (s:aq) (σ:St) (H:Hp) (x y:V) (v u:aa) (Q:VK),bY X pins σ H s->dA x v->dA y u->r x y H Q->
  aO (model X.prog X.w) X.A (f v u) (EP X pins σ Q) X.xe s
def VX(X:Cx)(f:aa->Sem aa)(r:V->Hp->VK->Prop):Prop:=
 ∀(pins:List (ar×Obj)) (s:aq) (σ:St) (H:Hp) (x:V) (v:aa) (Q:VK),bY X pins σ H s->dA x v->r x H Q->
  aO (model X.prog X.w) X.A (f v) (EP X pins σ Q) X.xe s
def iY(X:Cx)(f:aa)(r:List V->Hp->VK->Prop):Prop:=
 ∀(pins:List (ar×Obj)) (s:aq) (σ:St) (H:Hp) (xs:List V) (us:List aa) (Q:VK),bY X pins σ H s->c8 xs us->r xs H Q->
  aO (model X.prog X.w) X.A (call f us) (EP X pins σ Q) X.xe s
def a9(r:R2)(ta tb:TE):TE:=λσ H Q=>ta σ H λx H1=>tb σ H1 λy H2=>r x y H2 Q
def Sw(r:V->Hp->VK->Prop)(ta:TE):TE:=λσ H Q=>ta σ H λx H1=>r x H1 Q
def rI(C:Int->Int->Prop)(g:Int->Int->V):R2:=λx y H Q=>∃i j,x=.int i/\y=.int j/\C i j/\Q (g i j) H
def Kd(g:Int->Int->V):R2:=λx y H Q=>∃i j,x=.int i/\y=.int j/\Q (g i j) H
def rU(g:Int->V):V->Hp->VK->Prop:=λx H Q=>∃i,x=.int i/\Q (g i) H
section
variable{X:Cx}{a b c:Expr}{ta tb tc:TE}{pos:Pos}
def SO(ha:PE X a ta)(hb:PE X b tb){pins:List (ar×Obj)}{s:aq}{σ:St}{H:Hp}{R:V->V->Hp->Prop}(I:bY X pins σ H s)
  (h:ta σ H λx H1=>tb σ H1 λy H2=>R x y H2) {Q:ZF} {f:aa->aa->Sem aa}
  (hf:∀v u s2 x y H2,bY X pins σ H2 s2->dA x v->dA y u->R x y H2->aO (model X.prog X.w) X.A (f v u) Q X.xe s2) :
  aO (model X.prog X.w) X.A (eval a X.env) (λv s₁=>aO (model X.prog X.w) X.A (eval b X.env) (λu s₂=>aO (model X.prog X.w) X.A (f v u) Q X.xe s₂) X.xe s₁) X.xe s:=by
 refine fk (ha pins s σ H _ I h) λv s1 ⟨x,H1,I1,r1,q1⟩=>?_;refine fk (hb pins s1 σ H1 _ I1 q1) λu s2 ⟨y,H2,I2,r2,q2⟩=>?_;exact hf v u s2 x y H2 I2 r1 r2 q2
def Vs{op:Operator}{r:R2}(ho:jE X (fc op) r)(ha:PE X a ta)(hb:PE X b tb):PE X (.BinOp a op b pos) (a9 r ta tb):=by
 intro pins s σ H Q I h;exact wpAny_BinOp (SO ha hb I h λv u s2 x y H2 I2 rx ry q=>ho pins s2 σ H2 x y v u Q I2 rx ry q)
def Vu{op:UnaryOp}{r:V->Hp->VK->Prop}(ho:VX X (unaryOp op) r)(ha:PE X a ta):PE X (.UnaryOp op a pos) (Sw r ta):=by
 intro pins s σ H Q I h;exact UnaryOp_ (fk (ha pins s σ H _ I h) λv s1 ⟨x,H1,I1,r1,q1⟩=>ho pins s1 σ H1 x v Q I1 r1 q1)
def VY{f:aa->aa->Sem aa}{C:Int->Int->Prop}{g:Int->Int->Int}
  (rule:∀(i j:Int) (t u:Tok) (s:aq) (Q:ZF) (E:ZF),C i j->Q (.int (g i j) s.toks) {s with toks:=s.toks+1}->aO (model X.prog X.w) X.A (f (.int i t) (.int j u)) Q E s) :
  jE X f (rI C λi j=>.int (g i j)):=by
 intro pins s σ H x y v u Q I rx ry h;obtain⟨i,j,rfl,rfl,hc,q⟩:=h;obtain⟨t,rfl⟩:=rx;obtain⟨t',rfl⟩:=ry;exact rule i j t t' s _ _ hc ⟨.int (g i j),H,I.tok _,⟨_,rfl⟩,q⟩
def Vj{f:aa->aa->Sem aa}{g:Int->Int->Int}
  (rule:∀(i j:Int) (t u:Tok) (s:aq) (Q:ZF) (E:ZF),Q (.int (g i j) s.toks) {s with toks:=s.toks+1}->aO (model X.prog X.w) X.A (f (.int i t) (.int j u)) Q E s) :
  jE X f (Kd λi j=>.int (g i j)):=by
 intro pins s σ H x y v u Q I rx ry h;obtain⟨i,j,rfl,rfl,q⟩:=h;obtain⟨t,rfl⟩:=rx;obtain⟨t',rfl⟩:=ry;exact rule i j t t' s _ _ ⟨.int (g i j),H,I.tok _,⟨_,rfl⟩,q⟩
def QB{f:aa->aa->Sem aa}{g:Int->Int->Bool}
  (rule:∀(i j:Int) (t u:Tok) (s:aq) (Q:ZF) (E:ZF),Q (.bool (g i j)) s->aO (model X.prog X.w) X.A (f (.int i t) (.int j u)) Q E s) :
  jE X f (Kd λi j=>.bl (g i j)):=by
 intro pins s σ H x y v u Q I rx ry h;obtain⟨i,j,rfl,rfl,q⟩:=h;obtain⟨t,rfl⟩:=rx;obtain⟨t',rfl⟩:=ry;exact rule i j t t' s _ _ ⟨.bl (g i j),H,I,rfl,q⟩
def UV(i j:Int):Prop:=0<j/\j<1073741824
def UW(i j:Int):Prop:=0<=j/\j<=1000000/\i.natAbs<2 ^ 64
def Pt(i j:Int):Prop:=(-(2 ^ 64)<i/\i<2 ^ 64)\/(-(2 ^ 64)<j/\j<2 ^ 64)
def Pt.ok{i j:Int}(h:Pt i j):IntMulOk i j:=by
 rcases h with⟨h1,h2⟩|⟨h1,h2⟩
 ·exact .of_left (intBits_le_64 h1 h2)
 ·exact .of_right (intBits_le_64 h1 h2)
def Tu:jE X (fc .Add) (Kd λi j=>.int (i+j)):=Vj λ_ _ _ _ _ _ _ q=>add_int q
def Ao:jE X (fc .Sub) (Kd λi j=>.int (i-j)):=Vj λ_ _ _ _ _ _ _ q=>sub_int q
def TJ:jE X (fc .Mult) (rI Pt λi j=>.int (i*j)):=VY λ_ _ _ _ _ _ _ hc q=>mul_int q hc.ok
def Ex:jE X (fc .FloorDiv) (rI UV λi j=>.int (i / j)):=VY λi j _ _ _ _ _ hc q=>by
 have h1:(0:Int)<j:=hc.1;have h2:j<1073741824:=hc.2;exact floordiv_int (by lia) (by rw[Int.fdiv_eq_ediv_of_nonneg i (by lia)];exact q) (.inl (PyProof.noPylong_small (by lia)))
def kz:jE X (fc .Mod) (rI (λ_ j=>0<j) λi j=>.int (i % j)):=VY λi j _ _ _ _ _ hc q=>by
 have h1:(0:Int)<j:=hc;exact mod_int' (by lia) (by rw[Int.fmod_eq_emod_of_nonneg i (by lia)];exact q)
def wQ:jE X (fc .Pow) (rI UW λi j=>.int (i ^ j.toNat)):=VY λ_ _ _ _ _ _ _ hc q=>pow_int_small hc.1 hc.2.1 hc.2.2 q
def WM{f:aa->Sem aa}{g:Int->Int}
  (rule:∀(i:Int) (t:Tok) (s:aq) (Q:ZF) (E:ZF),Q (.int (g i) s.toks) {s with toks:=s.toks+1}->aO (model X.prog X.w) X.A (f (.int i t)) Q E s) :
  VX X f (rU λi=>.int (g i)):=by
 intro pins s σ H x v Q I rx h;obtain⟨i,rfl,q⟩:=h;obtain⟨t,rfl⟩:=rx;exact rule i t s _ _ ⟨.int (g i),H,I.tok _,⟨_,rfl⟩,q⟩
def xj:VX X (unaryOp .USub) (rU λi=>.int (-i)):=WM λ_ _ _ _ _ q=>neg_int q
end
def VT:V->V->Bool
 |.non,.non=>true|.non,.int _=>true|.int _,.non=>true|.non,.bl _=>true|.bl _,.non=>true|.non,.str _=>true|.str _,.non=>true
 |.int _,.int _=>true|.bl _,.bl _=>true|.str _,.str _=>true|.byt _,.byt _=>true
 |.int _,.str _=>true|.str _,.int _=>true|.bl _,.str _=>true|.str _,.bl _=>true
 |_,_=>false
def Wx:R2:=λx y H Q=>VT x y=true/\Q (.bl (decide (x=y))) H
def Wy:R2:=λx y H Q=>VT x y=true/\Q (.bl (!decide (x=y))) H
def JX{i j:Int}:decide (V.int i=V.int j)=(i==j):=by
 rw[Bool.eq_iff_iff];simp
def Nn{i j:Bool}:decide (V.bl i=V.bl j)=(i==j):=by
 rw[Bool.eq_iff_iff];simp
def JY{i j:Str}:decide (V.str i=V.str j)=(i==j):=by
 rw[Bool.eq_iff_iff];simp
def JW{i j:Array UInt8}:decide (V.byt i=V.byt j)=(i.toList==j.toList):=by
 rw[Bool.eq_iff_iff];cases i;cases j;simp
section
variable{X:Cx}{a b c:Expr}{ta tb tc:TE}{pos:Pos}
def dZ{pins:List (ar×Obj)}{σ:St}{H:Hp}{s:aq}{Q:VK}{k k':Bool}(I:bY X pins σ H s)(q:Q (.bl k) H)(e:k=k'):EP X pins σ Q (.bool k') s:=by
 subst e;exact⟨.bl k,H,I,rfl,q⟩
def Vk:jE X (bP .Eq) Wx:=by
 intro pins s σ H x y v u Q I rx ry h;obtain⟨hs,q⟩:=h;cases x with
 |non=>
  cases rx;cases y with
  |non=>cases ry;exact PySem.EqNone.eq_none_none (dZ I q (by simp))
  |bl j=>cases ry;exact PySem.EqNone.eq_none_bool (dZ I q (by simp))
  |int j=>obtain⟨t',rfl⟩:=ry;exact PySem.EqNone.eq_none_int (dZ I q (by simp))
  |str j=>obtain⟨t',rfl⟩:=ry;exact PySem.EqNone.eq_none_str (dZ I q (by simp))
  |_=>exact absurd (show false=true from hs) Bool.false_ne_true
 |bl i=>
  cases rx;cases y with
  |non=>cases ry;exact PySem.EqNone.eq_bool_none (dZ I q (by simp))
  |bl j=>cases ry;exact eq_bool (dZ I q Nn)
  |str j=>obtain⟨t',rfl⟩:=ry;exact PySem.EqMixed.eq_bool_str (dZ I q (by simp))
  |_=>exact absurd (show false=true from hs) Bool.false_ne_true
 |int i=>
  obtain⟨t,rfl⟩:=rx;cases y with
  |non=>cases ry;exact PySem.EqNone.eq_int_none (dZ I q (by simp))
  |int j=>obtain⟨t',rfl⟩:=ry;exact eq_int (dZ I q JX)
  |str j=>obtain⟨t',rfl⟩:=ry;exact PySem.EqMixed.eq_int_str (dZ I q (by simp))
  |_=>exact absurd (show false=true from hs) Bool.false_ne_true
 |str i=>
  obtain⟨t,rfl⟩:=rx;cases y with
  |non=>cases ry;exact PySem.EqNone.eq_str_none (dZ I q (by simp))
  |bl j=>cases ry;exact PySem.EqMixed.eq_str_bool (dZ I q (by simp))
  |int j=>obtain⟨t',rfl⟩:=ry;exact PySem.EqMixed.eq_str_int (dZ I q (by simp))
  |str j=>obtain⟨t',rfl⟩:=ry;exact eq_str (dZ I q JY)
  |_=>exact absurd (show false=true from hs) Bool.false_ne_true
 |byt i=>
  obtain⟨t,rfl⟩:=rx;cases y with
  |byt j=>obtain⟨t',rfl⟩:=ry;exact PySem.W.eq_bytes (dZ I q JW)
  |_=>exact absurd (show false=true from hs) Bool.false_ne_true
 |_=>cases y<;>exact absurd (show false=true from hs) Bool.false_ne_true
def Vm:jE X (bP .NotEq) Wy:=by
 intro pins s σ H x y v u Q I rx ry h;obtain⟨hs,q⟩:=h;cases x with
 |non=>
  cases rx;cases y with
  |non=>cases ry;exact PySem.EqNone.ne_none_none (dZ I q (by simp))
  |bl j=>cases ry;exact PySem.EqNone.ne_none_bool (dZ I q (by simp))
  |int j=>obtain⟨t',rfl⟩:=ry;exact PySem.EqNone.ne_none_int (dZ I q (by simp))
  |str j=>obtain⟨t',rfl⟩:=ry;exact PySem.EqNone.ne_none_str (dZ I q (by simp))
  |_=>exact absurd (show false=true from hs) Bool.false_ne_true
 |bl i=>
  cases rx;cases y with
  |non=>cases ry;exact PySem.EqNone.ne_bool_none (dZ I q (by simp))
  |bl j=>cases ry;exact ne_bool (dZ I q (congrArg not Nn))
  |str j=>obtain⟨t',rfl⟩:=ry;exact PySem.EqMixed.ne_bool_str (dZ I q (by simp))
  |_=>exact absurd (show false=true from hs) Bool.false_ne_true
 |int i=>
  obtain⟨t,rfl⟩:=rx;cases y with
  |non=>cases ry;exact PySem.EqNone.ne_int_none (dZ I q (by simp))
  |int j=>obtain⟨t',rfl⟩:=ry;exact ne_int (dZ I q (congrArg not JX))
  |str j=>obtain⟨t',rfl⟩:=ry;exact PySem.EqMixed.ne_int_str (dZ I q (by simp))
  |_=>exact absurd (show false=true from hs) Bool.false_ne_true
 |str i=>
  obtain⟨t,rfl⟩:=rx;cases y with
  |non=>cases ry;exact PySem.EqNone.ne_str_none (dZ I q (by simp))
  |bl j=>cases ry;exact PySem.EqMixed.ne_str_bool (dZ I q (by simp))
  |int j=>obtain⟨t',rfl⟩:=ry;exact PySem.EqMixed.ne_str_int (dZ I q (by simp))
  |str j=>obtain⟨t',rfl⟩:=ry;exact ne_str (dZ I q (congrArg not JY))
  |_=>exact absurd (show false=true from hs) Bool.false_ne_true
 |byt i=>
  obtain⟨t,rfl⟩:=rx;cases y with
  |byt j=>obtain⟨t',rfl⟩:=ry;exact PySem.W.ne_bytes (dZ I q (congrArg not JW))
  |_=>exact absurd (show false=true from hs) Bool.false_ne_true
 |_=>cases y<;>exact absurd (show false=true from hs) Bool.false_ne_true
def kZ:jE X (bP .Lt) (Kd λi j=>.bl (decide (i<j))):=QB λ_ _ _ _ _ _ _ q=>lt_int q
def Vl:jE X (bP .LtE) (Kd λi j=>.bl (decide (i<=j))):=QB λ_ _ _ _ _ _ _ q=>le_int q
def sf:jE X (bP .Gt) (Kd λi j=>.bl (decide (j<i))):=QB λ_ _ _ _ _ _ _ q=>gt_int q
def N7:jE X (bP .GtE) (Kd λi j=>.bl (decide (j<=i))):=QB λ_ _ _ _ _ _ _ q=>ge_int q
def LV:jE X (bP .In) (λx y H Q=>∃i j,x=.str i/\y=.str j/\Q (.bl (!(Builtin.Str.occurrences j i 0 j.length 1).isEmpty)) H):=by
 intro pins s σ H x y v u Q I rx ry h;obtain⟨i,j,rfl,rfl,q⟩:=h;obtain⟨t,rfl⟩:=rx;obtain⟨t',rfl⟩:=ry;exact in_str (dZ I q rfl)
def N8:jE X (bP .Is) (λx y H Q=>y=.non/\Q (.bl (decide (x=.non))) H):=by
 intro pins s σ H x y v u Q I rx ry h;obtain⟨rfl,q⟩:=h;cases ry;refine is_none_gen (dZ I q ?_);cases x<;>first
  |(cases rx;rfl)
  |(obtain⟨t,rfl⟩:=rx;rfl)
def J9:jE X (bP .IsNot) (λx y H Q=>y=.non/\Q (.bl (!decide (x=.non))) H):=by
 intro pins s σ H x y v u Q I rx ry h;obtain⟨rfl,q⟩:=h;cases ry;refine isnot_none_gen (dZ I q ?_);cases x<;>first
  |(cases rx;rfl)
  |(obtain⟨t,rfl⟩:=rx;rfl)
def jE.or{f:aa->aa->Sem aa}{r r':R2}(h:jE X f r)(h':jE X f r'):jE X f (λx y H Q=>r x y H Q\/r' x y H Q):=by
 intro pins s σ H x y v u Q I rx ry q;rcases q with q|q
 ·exact h pins s σ H x y v u Q I rx ry q
 ·exact h' pins s σ H x y v u Q I rx ry q
def QM{op:CmpOp}{r:R2}(ho:jE X (bP op) r)(ha:PE X a ta)(hb:PE X b tb)(hm:nH op b=false):PE X (.Compare a [op] [b] pos) (a9 r ta tb):=by
 intro pins s σ H Q I h;exact wpAny_Compare1 (SO ha hb I h λv u s2 x y H2 I2 rx ry q=>ho pins s2 σ H2 x y v u Q I2 rx ry q) hm
def bE(t:TE):TT:=λσ H Q=>t σ H λx H'=>∃k,x=.bl k/\Q k H'
def Rh{op:CmpOp}{r:R2}(ho:jE X (bP op) r)(ha:PE X a ta)(hb:PE X b tb)(hm:nH op b=false):PT X (.Compare a [op] [b] pos) (bE (a9 r ta tb)):=by
 intro pins s σ H Q I h;refine wpAny_isTrue_Compare1 (fk (ha pins s σ H _ I h) λv s1 ⟨x,H1,I1,r1,q1⟩=>fk (hb pins s1 σ H1 _ I1 q1) λu s2 ⟨y,H2,I2,r2,q2⟩=>
  fk (ho pins s2 σ H2 x y v u _ I2 r1 r2 q2) λc s3 ⟨z,H3,I3,r3,k,e,q3⟩=>?_) hm
 subst e;cases r3;exact dI ⟨H3,I3,q3⟩
def qm(r r':R2)(ta tb tc:TE):TE:=λσ H Q=>ta σ H λx H1=>tb σ H1 λy H2=>r x y H2 λz H3=>∃k,z=.bl k/\
 (if k=true then tc σ H3 λw' H4=>r' y w' H4 Q else Q (.bl false) H3)
def Od{op op':CmpOp}{r r':R2}(ho:jE X (bP op) r)(ho':jE X (bP op') r')(ha:PE X a ta)(hb:PE X b tb)(hc:PE X c tc)
  (hm:lastMarks [op,op'] [b,c]=false:=by with_unfolding_all rfl):PE X (.Compare a [op,op'] [b,c] pos) (qm r r' ta tb tc):=by
 intro pins s σ H Q I h;refine Compare_chain (fk (ha pins s σ H _ I h) λv s1 ⟨x,H1,I1,r1,q1⟩=>chain_link (fk (hb pins s1 σ H1 _ I1 q1) λu s2 ⟨y,H2,I2,r2,q2⟩=>
  fk (ho pins s2 σ H2 x y v u _ I2 r1 r2 q2) λd s3 ⟨z,H3,I3,r3,k,e,q3⟩=>?_)) hm
 subst e;cases r3;refine dI ?_;cases k with
 |false=>exact ite_ff ⟨.bl false,H3,I3,rfl,q3⟩
 |true=>exact ite_tt (chain_last (fk (hc pins s3 σ H3 _ I3 q3) λw' s4 ⟨z',H4,I4,r4,q4⟩=>ho' pins s4 σ H4 y z' u w' Q I4 r2 r4 q4))
def Ot{op op':CmpOp}{r r':R2}(ho:jE X (bP op) r)(ho':jE X (bP op') r')(ha:PE X a ta)(hb:PE X b tb)(hc:PE X c tc)
  (hm:lastMarks [op,op'] [b,c]=false:=by with_unfolding_all rfl):PT X (.Compare a [op,op'] [b,c] pos) (bE (qm r r' ta tb tc)):=by
 intro pins s σ H Q I h;refine isTrue_chain (fk (ha pins s σ H _ I h) λv s1 ⟨x,H1,I1,r1,q1⟩=>test_link (fk (hb pins s1 σ H1 _ I1 q1) λu s2 ⟨y,H2,I2,r2,q2⟩=>
  fk (ho pins s2 σ H2 x y v u _ I2 r1 r2 q2) λd s3 ⟨z,H3,I3,r3,k,e,q3⟩=>?_)) hm
 subst e;cases r3;refine dI ?_;cases k with
 |false=>
  obtain⟨k',e',q'⟩:=q3;cases e';exact ite_ff ⟨H3,I3,q'⟩
 |true=>
  refine ite_tt (test_last (fk (hc pins s3 σ H3 _ I3 q3) λw' s4 ⟨z',H4,I4,r4,q4⟩=>fk (ho' pins s4 σ H4 y z' u w' _ I4 r2 r4 q4) λd' s5 ⟨z2,H5,I5,r5,k2,e2,q5⟩=>?_));subst e2;cases r5;exact dI ⟨H5,I5,q5⟩
def wL:(av:Nat)<2 ^ 63:=by rw[gk];decide
def IK:jE X (fc .Add) (λx y H Q=>∃i j,x=.str i/\y=.str j/\i.length+j.length<=av/\Q (.str (i++j)) H):=by
 intro pins s σ H x y v u Q I rx ry h;obtain⟨i,j,rfl,rfl,hz,q⟩:=h;obtain⟨t,rfl⟩:=rx;obtain⟨t',rfl⟩:=ry;exact add_str (λt' tk=>⟨.str (i++j),H,I.tok _,⟨_,rfl⟩,q⟩) hz
def mU{x:V}{us:List aa}(r:c8 [x] us):∃u,us=[u]/\dA x u:=by
 cases r with
 |cons r1 r2=>cases r2;exact⟨_,rfl,r1⟩
def DE{x y:V}{us:List aa}(r:c8 [x,y] us):∃u w',us=[u,w']/\dA x u/\dA y w':=by
 cases r with
 |cons r1 r2=>
  cases r2 with
  |cons r3 r4=>cases r4;exact⟨_,_,rfl,r1,r3⟩
def K6(hc:X.calm=true):iY X (.builtin "max") (λxs H Q=>∃i j,xs=[.int i,.int j]/\Q (.int (if j>i then j else i)) H):=by
 intro pins s σ H xs us Q I r h;obtain⟨i,j,rfl,q⟩:=h;obtain⟨u,w',rfl,⟨t,rfl⟩,⟨t',rfl⟩⟩:=DE r;refine max_two_ints (I.ok.hd hc) λh' tk k=>⟨_,H,I.kept k,?_,q⟩;by_cases hj:j>i
 ·rw[if_pos hj,if_pos hj];exact⟨_,rfl⟩
 ·rw[if_neg hj,if_neg hj];exact⟨_,rfl⟩
def K7(hc:X.calm=true):iY X (.builtin "min") (λxs H Q=>∃i j,xs=[.int i,.int j]/\Q (.int (if j<i then j else i)) H):=by
 intro pins s σ H xs us Q I r h;obtain⟨i,j,rfl,q⟩:=h;obtain⟨u,w',rfl,⟨t,rfl⟩,⟨t',rfl⟩⟩:=DE r;refine min_two_ints (I.ok.hd hc) λh' tk k=>⟨_,H,I.kept k,?_,q⟩;by_cases hj:j<i
 ·rw[if_pos hj,if_pos hj];exact⟨_,rfl⟩
 ·rw[if_neg hj,if_neg hj];exact⟨_,rfl⟩
def wq:iY X (.type "int") (λxs H Q=>(∃i,xs=[.int i]/\Q (.int i) H)\/∃k,xs=[.bl k]/\Q (.int (if k then 1 else 0)) H):=by
 intro pins s σ H xs us Q I r h;rcases h with⟨i,rfl,q⟩|⟨k,rfl,q⟩
 ·obtain⟨u,rfl,t,rfl⟩:=mU r;exact call_int_int ⟨.int i,H,I,⟨_,rfl⟩,q⟩
 ·obtain⟨u,rfl,r1⟩:=mU r;cases r1;exact call_int_bool ⟨.int (if k then 1 else 0),H,I.tok _,⟨_,rfl⟩,q⟩
def Eb:iY X (.type "str") (λxs H Q=>∃i,xs=[.int i]/\i.natAbs.log2<1920/\Q (.str (toString i)) H):=by
 intro pins s σ H xs us Q I r h;obtain⟨i,rfl,hz,q⟩:=h;obtain⟨u,rfl,t,rfl⟩:=mU r;exact PySem.P.str_of_int hz ⟨.str _,H,I.tok _,⟨_,rfl⟩,q⟩
def PH(K:Fg)(x:V)(H:Hp)(n:Nat):Prop:=
 match x with
 |.str y=>y.length<=av/\n=y.length
 |.byt y=>y.size<=av/\n=y.size
 |.ref p=>(∃xs,cB K H p xs/\n=xs.length)\/∃xs,eO K H p xs/\n=xs.length
 |_=>False
def Na:iY X (.builtin "len") (λxs H Q=>∃x n,xs=[x]/\PH X.K x H n/\Q (.int n) H):=by
 intro pins s σ H xs us Q I r h;obtain⟨x,n,rfl,e,q⟩:=h;obtain⟨u,rfl,rx⟩:=mU r;have hl:=wL;have hs:av=16777216:=gk;cases x with
 |str y=>
  obtain⟨t,rfl⟩:=rx;obtain⟨hy,e'⟩:y.length<=av/\n=y.length:=e;subst e';exact len_str (by lia) ⟨.int _,H,I.tok _,⟨_,rfl⟩,q⟩
 |byt y=>
  obtain⟨t,rfl⟩:=rx;obtain⟨hy,e'⟩:y.size<=av/\n=y.size:=e;subst e';exact PySem.W.len_bytes (by lia) ⟨.int _,H,I.tok _,⟨_,rfl⟩,q⟩
 |ref p=>
  cases rx;have e':(∃xs,cB X.K H p xs/\n=xs.length)\/∃xs,eO X.K H p xs/\n=xs.length:=e;rcases e' with⟨xs,hx,e'⟩|⟨xs,hx,e'⟩
  ·subst e';obtain⟨its,r',pl,hz⟩:=I.list hx;have hlen:=r'.length;exact Calls.call_len_list pl.isList (by simp only[aA];lia) ⟨.int xs.length,H,I.tok _,⟨_,by simp only[aA];rw[hlen]⟩,q⟩
  ·subst e';obtain⟨its,r',pl,hz⟩:=I.tuple hx;have hlen:=r'.length;exact len_tuple pl (by simp only[aA];lia) ⟨.int xs.length,H,I.tok _,⟨_,by simp only[aA];rw[hlen]⟩,q⟩
 |_=>exact(show False from e).elim
end
def wN{h:Heap}{dx:ar}{mA:Str->Option aa}(n:h.Ns1 dx mA):∃od,h.get? dx=some od/\∀name,PySem.W.lookIn name od=some (mA name):=by
 obtain⟨o,es,ep,ho,hd,hk,_,hm⟩:=n;refine⟨o,ho,λname=>?_⟩;have e:=hm name;unfold nsFind findBy at e;rw[<-Array.find?_toList] at e;unfold PySem.W.lookIn;rw[hd];dsimp only;split
 ·rename_i y q;rw[q] at e;exact congrArg some e
 ·rename_i q;rw[q] at e;have a:es.toList.any (·.refKey)=false:=by
   rw[List.any_eq_false];intro y hy;obtain⟨z,t,hkey⟩:=hk y (Array.mem_toList_iff.mp hy);simp[DictEntry.refKey,hkey]
  have a':¬es.toList.any (·.refKey)=true:=by rw[a];exact Bool.false_ne_true
  rw[if_neg a'];exact congrArg some e
section
variable{prog:aW}{w:bK}{A:bj}{E:ZF}{s:aq}{K:Fg}{x dx C f:ar}{mA:Str->Option aa}{name:Str}{v:aa}
end
def oh(f:Str)(v:V):List (Str×V)->List (Str×V)
 |[]=>[(f,v)]
 |(g,x)::r=>if g=f then(g,v)::r else(g,x)::oh f v r
def xM(f g:Str)(v:V):∀fs:List (Str×V),(oh f v fs).lookup g=if g=f then some v else fs.lookup g
 |[]=>by
  show ix g [(f,v)]=_;by_cases h:g=f
  ·have hb:(g==f)=true:=beq_iff_eq.mpr h;simp only[ix,hb,if_pos h]
  ·have hb:(g==f)=false:=beq_eq_false_iff_ne.mpr h;simp only[ix,hb,if_neg h]
 |(k,x)::r=>by
  have ih:=xM f g v r;rw[show oh f v ((k,x)::r)=(if k=f then(k,v)::r else(k,x)::oh f v r) from rfl];by_cases hk:k=f
  ·rw[if_pos hk];by_cases h:g=k
   ·have hb:(g==k)=true:=beq_iff_eq.mpr h;simp only[ix,hb,if_pos (h.trans hk)]
   ·have hb:(g==k)=false:=beq_eq_false_iff_ne.mpr h;simp only[ix,hb,if_neg (λe:g=f=>h (e.trans hk.symm))]
  ·rw[if_neg hk];by_cases h:g=k
   ·have hb:(g==k)=true:=beq_iff_eq.mpr h;simp only[ix,hb,if_neg (λe:g=f=>hk (h.symm.trans e))]
   ·have hb:(g==k)=false:=beq_eq_false_iff_ne.mpr h;simp only[ix,hb];exact ih
def wK(f:Str)(v:V):∀fs:List (Str×V),f∈(oh f v fs).map (·.1)/\∀g,g∈fs.map (·.1)->g∈(oh f v fs).map (·.1)
 |[]=>⟨by simp[oh],λg h=>by simp at h⟩
 |(k,x)::r=>by
  obtain⟨i1,i2⟩:=wK f v r;rw[show oh f v ((k,x)::r)=(if k=f then(k,v)::r else(k,x)::oh f v r) from rfl];by_cases hk:k=f
  ·rw[if_pos hk];subst hk;exact⟨by simp,λg h=>by simpa using h⟩
  ·rw[if_neg hk];refine⟨?_,λg h=>?_⟩
   ·rw[aV];exact bq _ i1
   ·rw[aV] at h ⊢;rcases aE.mp h with e|e
    ·exact aE.mpr (.inl e)
    ·exact bq _ (i2 g e)
def xK(f:Str)(v:V):∀fs:List (Str×V),(oh f v fs).length<=fs.length+1
 |[]=>by simp[oh]
 |(k,x)::r=>by
  have ih:=xK f v r;rw[show oh f v ((k,x)::r)=(if k=f then(k,v)::r else(k,x)::oh f v r) from rfl];by_cases hk:k=f
  ·rw[if_pos hk,aI,aI];lia
  ·rw[if_neg hk,aI,aI];lia
def rP.some_of{v:V}{o:Option aa}(r:rP (some v) o):∃u,o=some u/\dA v u:=by
 cases o with
 |none=>exact(show False from r).elim
 |some u=>exact⟨u,rfl,r⟩
def Lo{v:V}{u:aa}(r:dA v u):PySem.W.handedIn u=true:=by
 cases v with
 |non=>cases(show u=aa.none from r);rfl
 |bl b=>cases(show u=aa.bool b from r);rfl
 |int i=>obtain⟨t,e⟩:=(show ∃t,u=aa.int i t from r);cases e;rfl
 |str x=>obtain⟨t,e⟩:=(show ∃t,u=aa.str x t from r);cases e;rfl
 |byt b=>obtain⟨t,e⟩:=(show ∃t,u=aa.bytes b t from r);cases e;rfl
 |flt b=>obtain⟨t,e⟩:=(show ∃t,u=aa.float b t from r);cases e;rfl
 |ref a=>cases(show u=aa.ref a from r);rfl
 |ty n=>cases(show u=aa.type n from r);rfl
section
variable{P:aW}{w:bK}{H H':Hp}{h h':Heap}{a C dx:ar}{fs fs':List (Str×V)}
end
def mD(K:Fg)(C:ar)(f:Str):Prop:=b5 K (.ref C) f=some none
section
variable{X:Cx}{pins:List (ar×Obj)}{σ:St}{H:Hp}{s:aq}{a C dx:ar}{fs:List (Str×V)}{f:Str}{v:V}{A:bj}{E:ZF}
def PX{prog:aW}{w:bK}{env:Env}{e:Expr}{f:Str}{pos:Pos}{s:aq}{Q:ZF}(hb:e7 e f env (eval e env)=eval e env)
  (h:aO (model prog w) A (eval e env) (λo s₁=>aO (model prog w) A (getAttr o f true) Q E s₁) E s):aO (model prog w) A (eval (.Attribute e f pos) env) Q E s:=
 Attribute_any_ h (by rw[arm_eval_Attribute,hb])
end
section
variable{X:Cx}{o e value:Expr}{f:Str}{pos pos' tpos:Pos}{ta tv:TE}
end
section
variable{X:Cx}{pins:List (ar×Obj)}{σ:St}{H:Hp}{s:aq}{A:bj}{E:ZF}{Q:ZF}{c:aa}{b:Bool}
end
structure gB(k:Nat)(A:bj):Prop where
 hd:A.handled=none
 dp:A.depth+3*k+5<recursionLimit
 un:A.units+16*k+200<cLine
def gB.mono{j k:Nat}{A:bj}(r:gB k A)(h:j<=k):gB j A:=⟨r.hd,by have:=r.dp;lia,by have:=r.un;lia⟩
def gB.deeper{k:Nat}{A:bj}(r:gB (k+1) A)(env:Env):gB k (A.deeper env):=
 ⟨r.hd,by have:=r.dp;show A.depth+1+3*k+5<_;lia,by have:=r.un;show A.units+3+16*k+200<_;lia⟩
def IC{A:bj}{C:ar}{us:List aa}{kw:List (Str×aa)}:(A.under (.builtin "type.__call__" ⟨.ref C::us,kw⟩)).depth=A.depth+1:=by
 first|rfl|simp[bj.under,Code.weight,Code.isCreation,Code.isGuard,Code.isCaller,Code.frames,Code.isFrame,guardIds]
def ID{A:bj}{C:ar}{us:List aa}{kw:List (Str×aa)}:(A.under (.builtin "type.__call__" ⟨.ref C::us,kw⟩)).units=A.units+1:=by
 first|rfl|simp[bj.under,Code.cUnits,Code.frames,Code.isFrame]
def gB.make{k:Nat}{A:bj}(r:gB (k+1) A)(C:ar)(us:List aa)(kw:List (Str×aa)):gB k (A.under (.builtin "type.__call__" ⟨.ref C::us,kw⟩)):=
 ⟨r.hd,by have:=r.dp;rw[IC];lia,by have:=r.un;rw[ID];lia⟩
def gB.depth{k:Nat}{A:bj}(r:gB k A):A.depth<recursionLimit:=by have:=r.dp;lia
def gB.units{k:Nat}{A:bj}(r:gB k A):A.units+64<cLine:=by have:=r.un;lia
def gB.units0{k:Nat}{A:bj}(r:gB k A):A.units<cLine:=by have:=r.un;lia
def aJ:TA:=λ_ H Q=>Q [] H
def ai(ta:TE)(tr:TA):TA:=λσ H Q=>ta σ H λx H1=>tr σ H1 λxs H2=>Q (x::xs) H2
section
variable{X:Cx}{e:Expr}{es:List Expr}{te:TE}{t:TA}{pos:Pos}
def TM:PA X [] aJ:=λ_ _ _ _ H Q I h=>Calls.spliced_nil ⟨[],H,I,.nil,h⟩
def QK(ha:PE X e te)(hr:PA X es t)(hs:aR (e::es) X.env=(false,eval e X.env)::aR es X.env:=by rfl):PA X (e::es) (ai te t):=by
 intro pos pins s σ H Q I h;rw[hs];show aO _ _ (spliced ((false,eval e X.env)::eV pos (aR es X.env))) _ _ s;refine Calls.spliced_cons (fk (ha pins s σ H _ I h) λu s1 ⟨x,H1,I1,r1,q1⟩=>?_);exact fk (hr pos pins s1 σ H1 _ I1 q1) λus s2 ⟨xs,H2,I2,r2,q2⟩=>⟨x::xs,H2,I2,.cons r1 r2,q2⟩
def gc(t:TA):TE:=λσ H Q=>t σ H λxs H1=>xs.length<=av/\∀p,H1 p=none->Q (.ref p) (upd H1 p (.tup xs))
def gF(t:TA):TE:=λσ H Q=>t σ H λxs H1=>xs.length<=av/\∀p,H1 p=none->Q (.ref p) (upd H1 p (.lst xs))
def T9{x1}(h:PA X es t):PE X (.Tuple es x1 pos) (gc t):=by
 intro pins s σ H Q I hq;refine wpAny_Tuple_spliced (fk (h pos pins s σ H _ I hq) λus s1 ⟨xs,H1,I1,r,z,q⟩=>⟨by rw[<-r.length];exact z,?_⟩);have hf:H1 s1.heap.objs.size=none:=I1.hok.fresh (aD _);refine⟨.ref s1.heap.objs.size,upd H1 s1.heap.objs.size (.tup xs),I1.laid (t':=s1.toks) (λb u e=>az _ e) (aD _) ?_,rfl,q _ hf⟩;exact⟨z,us,r,⟨_,aZ _ rfl,⟨rfl,rfl⟩,_,rfl⟩⟩
def TZ(h:PA X es t):PE X (.List es pos) (gF t):=by
 intro pins s σ H Q I hq;refine wpAny_List_spliced (fk (h pos pins s σ H _ I hq) λus s1 ⟨xs,H1,I1,r,z,q⟩=>⟨by rw[<-r.length];exact z,?_⟩);have hf:H1 s1.heap.objs.size=none:=I1.hok.fresh (aD _);refine⟨.ref s1.heap.objs.size,upd H1 s1.heap.objs.size (.lst xs),I1.laid (t':=s1.toks) (λb u e=>az _ e) (aD _) ?_,rfl,q _ hf⟩;exact⟨z,us,0,r,aZ _ rfl⟩
end
abbrev Sp:=List V->Hp->VK->XK->Prop
abbrev MF:=List Env->Hp->aq->XK->aa->aq->Prop
structure Hs(P:aW)(w:bK)(K:Fg)(mg:Str->Option aa)(base:Heap)(A:bj)(outer:List Env)(s:aq)(H:Hp):Prop where
 frames:A.frames=some outer
 mod:Mod K mg base
 bs:∀b o,base.get? b=some o->s.heap.get? b=some o/\H b=none
 bsz:base.objs.size<=s.heap.objs.size
 funs:s.heap.FunFrames base outer
 frf:∀b∈E2 outer,H b=none
 hok:rp P w H s.heap
 bare:lQ s.gens
def CE(outer:List Env)(P:aW)(w:bK)(H:Hp)(s:aq)(Q:VK)(u:aa)(s':aq):Prop:=
 ∃v H',s'.os=s.os/\lQ s'.gens/\Un (E2 outer) [] H H' s.heap s'.heap/\rp P w H' s'.heap/\dA v u/\Q v H'
def CR(CX:MF)(outer:List Env)(P:aW)(w:bK)(H:Hp)(s:aq)(Q:VK)(E:XK)(r:Result)(s':aq):Prop:=
 match r with
 |.ok (.ret u)=>CE outer P w H s Q u s'
 |.ok _=>False
 |.error e=>CX outer H s E e s'
structure pO(P:aW)(w:bK)(K:Fg)(mg:Str->Option aa)(base:Heap)(CX:MF)(k:Nat)(f:ar)(fd:dY)(ps:List Str)(sp:Sp):Prop where
 len:∀vs H Q E,sp vs H Q E->vs.length=ps.length
 run:∀(A:bj) (outer:List Env) (s:aq) (H:Hp) (args:Args) (us:List aa) (vs:List V) (Q:VK) (E:XK),gB k A->Hs P w K mg base A outer s H->sR s fd args (ps.zip us)->c8 vs us->sp vs H Q E->
  ig (model P w) A (.call (.ref f) args) (CR CX outer P w H s Q E) s
def Hs.make{P:aW}{w:bK}{K:Fg}{mg:Str->Option aa}{base:Heap}{A:bj}{outer:List Env}{s:aq}{H:Hp}(e:Hs P w K mg base A outer s H)(C:ar)(us:List aa)(kw:List (Str×aa)) :
  Hs P w K mg base (A.under (.builtin "type.__call__" ⟨.ref C::us,kw⟩)) outer s H:=⟨by first|exact e.frames|(simpa[bj.under,Code.envs,Code.isFrame,pushEnvs] using e.frames),e.mod,e.bs,e.bsz,e.funs,e.frf,e.hok,e.bare⟩
section
variable{X:Cx}{pins:List (ar×Obj)}{σ:St}{H:Hp}{s s':aq}
def bY.env0(I:bY X pins σ H s):Hs X.prog X.w X.K X.mg X.base X.A X.stack s H:=
 ⟨I.ok.frames,I.ok.mod,I.bs,b9 I.ok.bsz I.sz,I.stack,I.stkFree,I.hok,I.bare⟩
def bY.after{Q:VK}{u:aa}(I:bY X pins σ H s)(h:CE X.stack X.prog X.w H s Q u s'):EP X pins σ Q u s':=by
 obtain⟨v,H',os,bare,un,hok,r,q⟩:=h;obtain⟨hh,g,d,t,os'⟩:=s';obtain rfl:os'=s.os:=os;exact⟨v,H',I.call (h':=hh) (g':=g) (d':=d) (t':=t) (ch:=[]) un hok bare (λb z=>absurd z (by simp)),r,q⟩
end
def bF(sp:Sp)(dvs:List V)(E:XK)(t:TA):TE:=λσ H Q=>t σ H λvs H1=>sp (vs++dvs) H1 Q E
def rF(K:Fg)(fd:dY)(ps:List Str)(ds:List aa):Prop:=
 ∀(s:aq) (us:List aa),K.In s.heap->(us++ds).length=ps.length->sR s fd ⟨us,[]⟩ (ps.zip (us++ds))
def rF.all{K:Fg}{fd:dY}{ps:List Str}(h:∀us:List aa,us.length=ps.length->bindArgs fd ⟨us,[]⟩=pure (ps.zip us)):rF K fd ps []:=λs us _ hl=>by
 rw[dU] at hl ⊢;exact .of_eq (h us hl)
def uC(CX:MF)(X:Cx)(E:XK):Prop:=∀(pins:List (ar×Obj)) (σ:St) (H:Hp) (s:aq) (e:aa) (s':aq),bY X pins σ H s->CX X.stack H s E e s'->X.xe e s'
section
variable{X:Cx}{CX:MF}{k:Nat}{f C:ar}{fd:dY}{ps:List Str}{sp:Sp}{dvs:List V}{ds:List aa}{E:XK}{x m:Str}{p pos apos:Pos}{e o:Expr}{es:List Expr}{ta:TE}{t:TA}
def UD{pins:List (ar×Obj)}{σ:St}{H:Hp}{s:aq}{Q:VK}{us:List aa}{vs:List V}(F:pO X.prog X.w X.K X.mg X.base CX k f fd ps sp)(hr:gB k X.A)(hb:rF X.K fd ps ds)(hd:c8 dvs ds)(hx:uC CX X E)
  (I:bY X pins σ H s) (r:c8 vs us) (h:sp (vs++dvs) H Q E):aO (model X.prog X.w) X.A (call (.ref f) us) (EP X pins σ Q) X.xe s:=by
 have r2:c8 (vs++dvs) (us++ds):=r.append hd;have hl:(us++ds).length=ps.length:=by rw[<-r2.length];exact F.len _ _ _ _ h
 refine iw (gj (F.run X.A X.stack s H ⟨us,[]⟩ (us++ds) (vs++dvs) Q E hr I.env0 (hb s us I.kIn hl) r2 h) λr s' hq=>?_);cases r with
 |error e=>exact hx pins σ H s e s' I hq
 |ok fl=>
  cases fl with
  |ret u=>exact I.after hq
  |next=>exact False.elim hq
  |brk=>exact False.elim hq
  |cont=>exact False.elim hq
def Ka(F:pO X.prog X.w X.K X.mg X.base CX k f fd ps sp)(hr:gB k X.A)(hg:Gl X x)(hm:X.mg x=some (.ref f))(hk:cV X.K (.ref f)=true)(hb:rF X.K fd ps ds)(hd:c8 dvs ds)(hx:uC CX X E)
  (ha:PA X (e::es) t) (hdb:(x==("__debug__":Str))=false:=by decide) (he:aR (e::es) X.env=(false,eval e X.env)::aR es X.env:=by rfl) (hpl:(eV pos (aR es X.env)).any (·.1)=false:=by rfl) :
  PE X (.Call (.Name x p) (e::es) [] pos) (bF sp dvs E t):=by
 intro pins s σ H Q I h;refine eA (pT I hg hm ?_ hdb);refine mz (h₀:=X.base) I.ok.mod.kin hk (fk (ha pos pins s σ H _ I h) λus s1 ⟨vs,H1,I1,r,q⟩=>⟨I1.kIn,?_⟩) he hpl;exact UD F hr hb hd hx I1 r q
end
def PK(X:Cx)(kws:List lS)(t:TA):Prop:=
 ∀(pos:Pos) (pins:List (ar×Obj)) (s:aq) (σ:St) (H:Hp) (Q:List V->Hp->Prop),bY X pins σ H s->t σ H Q->aO (model X.prog X.w) X.A (evalAll ((rC pos (kQ kws X.env)).map (·.2))) (AP X pins σ Q) X.xe s
section
variable{X:Cx}{CX:MF}{k:Nat}{f C:ar}{fd:dY}{ps ks:List Str}{sp:Sp}{E:XK}{x m:Str}{p pos apos kpos:Pos}{e o:Expr}{es:List Expr}{kws:List lS}{te ta:TE}{t tk:TA}{nm:Option Str}
def Uj:PK X [] aJ:=λ_ _ _ _ H Q I h=>wpAny_evalAll_nil ⟨[],H,I,.nil,h⟩
def Q4(ha:PE X e te)(hr:PK X kws t):PK X (⟨nm,e,kpos⟩::kws) (ai te t):=by
 intro pos pins s σ H Q I h;show aO _ _ (evalAll ((do let v <-eval e X.env;standAt pos;pure v)::(rC pos (kQ kws X.env)).map (·.2))) _ _ s;refine wpAny_evalAll_cons (ag (fk (ha pins s σ H _ I h) λu s1 ⟨x,H1,I1,r1,q1⟩=>ag (hV (aC ?_))));exact fk (hr pos pins s1 σ H1 _ I1 q1) λus s2 ⟨xs,H2,I2,r2,q2⟩=>⟨x::xs,H2,I2,.cons r1 r2,q2⟩
variable{g:List aa->List aa->List aa}{gV:List V->List V->List V}
end
structure lV(N P:List Str)(sc:Scope):Prop where
 kind:sc.kind=.function
 co:sc.isCoroutine=false
 gen:sc.isGenerator=false
 nd:N.Nodup
 pre:N.take P.length=P
 par:∀x∈P,sc.names.lookup x=some .local\/sc.names.lookup x=some .cell
 nofree:∀y∈sc.names,y.2≠.free
def CL{kindOf:Str->Option cu}{x:Str}:∀{binds:List (Str×aa)} {m:Str->Option aa},(∀v,(x,v)∉binds)->bindL kindOf binds m x=m x
 |[],_,_=>rfl
 |(n,v)::r,m,h=>by
  unfold bindL;rw[CL λw hw=>h w (bq _ hw)];split
  ·have:x≠n:=by rintro rfl;exact h v bZ
   simp[this]
  ·rfl
def CJ{kindOf:Str->Option cu}{x:Str}:∀{binds:List (Str×aa)} {m:Str->Option aa},(∀v,(x,v)∉binds)->bindC kindOf binds m x=m x
 |[],_,_=>rfl
 |(n,v)::r,m,h=>by
  unfold bindC;rw[CJ λw hw=>h w (bq _ hw)];split
  ·rfl
  ·have:x≠n:=by rintro rfl;exact h v bZ
   simp[this]
def CK{kindOf:Str->Option cu}{x:Str}{v:aa}:∀{P:List Str} {vs:List aa} {i:Nat} {m:Str->Option aa},P.Nodup->P[i]?=some x->vs[i]?=some v->kindOf x=some .local->
  bindL kindOf (P.zip vs) m x=some v
 |[],_,_,_,_,h,_,_=>by simp at h
 |_::_,[],_,_,_,_,h,_=>by simp at h
 |p::P,w::vs,0,m,nd,h1,h2,hk=>by
  simp at h1 h2;subst h1;subst h2;show bindL kindOf ((p,w)::P.zip vs) m p=_;unfold bindL;rw[CL λv hv=>(dw.mp nd).1 (qw hv).1,if_pos hk];simp
 |p::P,w::vs,i+1,m,nd,h1,h2,hk=>by
  show bindL kindOf ((p,w)::P.zip vs) m x=_;unfold bindL;exact CK (i:=i) (dw.mp nd).2 (by simpa using h1) (by simpa using h2) hk
def CI{kindOf:Str->Option cu}{x:Str}{v:aa}:∀{P:List Str} {vs:List aa} {i:Nat} {m:Str->Option aa},P.Nodup->P[i]?=some x->vs[i]?=some v->kindOf x≠some .local->
  bindC kindOf (P.zip vs) m x=some v
 |[],_,_,_,_,h,_,_=>by simp at h
 |_::_,[],_,_,_,_,h,_=>by simp at h
 |p::P,w::vs,0,m,nd,h1,h2,hk=>by
  simp at h1 h2;subst h1;subst h2;show bindC kindOf ((p,w)::P.zip vs) m p=_;unfold bindC;rw[CJ λv hv=>(dw.mp nd).1 (qw hv).1,if_neg hk];simp
 |p::P,w::vs,i+1,m,nd,h1,h2,hk=>by
  show bindC kindOf ((p,w)::P.zip vs) m x=_;unfold bindC;exact CI (i:=i) (dw.mp nd).2 (by simpa using h1) (by simpa using h2) hk
def cI(N:List Str)(vs:List V):St:=vs.map some++bG (N.length-vs.length) none
def tH(CX:MF)(P:aW)(w:bK)(K:Fg)(mg:Str->Option aa)(base:Heap)(N:List Str)(qual:Str)(scope:Scope)(f:ar)(cd:aa)(A:bj)(outer:List Env)(s:aq)(H:Hp)(E:XK):Cx where
 prog:=P
 w:=w
 K:=K
 mg:=mg
 base:=base
 A:=A.deeper (hZ qual scope s.heap.objs.size f cd)
 N:=N
 s₀:=s
 H₀:=H
 env:=hZ qual scope s.heap.objs.size f cd
 outer:=outer
 stack:=hZ qual scope s.heap.objs.size f cd::outer
 ex:=[]
 calm:=true
 fn:=λ_=>true
 pn:=[]
 xe:=λe s'=>aO (model P w) (A.deeper (hZ qual scope s.heap.objs.size f cd)) (leaving (hZ qual scope s.heap.objs.size f cd) e) (λ_ s''=>CX outer H s E e s'') (λe' s''=>CX outer H s E e' s'') s'
def Fx{sc:Scope}{n:Nat}{x:Str}(h:sc.names.lookup x=some .cell):∃c,(cellsFrom n sc.names []).lookup x=some c:=by
 have q:=PySem.W.cellsFrom_some sc.names n [] (.inl h);exact gA.mp q
def Lw{CX:MF}{P:aW}{w:bK}{K:Fg}{mg:Str->Option aa}{base:Heap}{N ps:List Str}{qual:Str}{scope:Scope}{f:ar}{cd:aa}{A:bj}{outer:List Env}{s s1:aq}{H:Hp}{E:XK}{us:List aa}{vs:List V}
  (S:lV N ps scope) (hd:A.handled=none) (e0:Hs P w K mg base A outer s H) (hl:vs.length=ps.length) (r:c8 vs us)
  (x:InCallC s s.heap.objs.size (bindL (hZ qual scope s.heap.objs.size f cd).kindOf (ps.zip us) λ_=>none) (cellsFrom (s.heap.objs.size+1) scope.names []) (bindC (hZ qual scope s.heap.objs.size f cd).kindOf (ps.zip us) λ_=>none) s1) :
  bY (tH CX P w K mg base N qual scope f cd A outer s H E) [] (cI N vs) H s1:=by
 have hpl:ps.length<=N.length:=by have:=congrArg gP S.pre;rw[a8] at this;lia
 obtain⟨h1,tk,rfl,hk⟩:=x.done;have noA:∀b:ar,b∉(tH CX P w K mg base N qual scope f cd A outer s H E).ex:=λb z=>absurd (show b∈([]:List ar) from z) (by simp);refine⟨⟨e0.mod,S.kind,rfl,rfl,aD _,λy z c h1 h2=>?_,λy hy=>?_,λy c _ h=>?_,λ_=>hd,bj.frames_deeper e0.frames,.inr ⟨rfl,rfl⟩,λb z=>absurd z (noA b),e0.bs,e0.bsz,λb _ _=>noA b,λb z=>absurd z (noA b),e0.funs,e0.frf⟩,
  rfl,e0.bare,Un.kept hk,⟨_,x.toInCall.ns,λi y v h1 h2 h3=>?_⟩,λy c h=>⟨_,x.cell y c h⟩,e0.hok.fresh (aD _),λy c h=>?_,λp hp=>absurd (show p∈([]:List (ar×Obj)) from hp) (by simp),e0.hok.kept hk,?_⟩
 ·exact name_of_addr x.apart (dB h1) (dB h2)
 ·have hy:scope.names.lookup y=some .cell\/scope.names.lookup y=some .free:=hy;rcases hy with hy|hy
  ·exact Fx hy
  ·exact absurd rfl (S.nofree _ (dB hy))
 ·exact cT (x.above y c (dB h))
 ·have hi:i<vs.length:=by
   unfold cI at h2;by_cases hi:i<vs.length
   ·exact hi
   ·rw[bT (by simpa using hi)] at h2;rw[gL] at h2;split at h2<;>cases h2
  have ha:vs[i]?=some v:=by
   unfold cI at h2;rw[cE (by simpa using hi),aQ] at h2;cases e:vs[i]? with
   |none=>rw[e] at h2;cases h2
   |some a=>rw[e] at h2;cases h2;rfl
  obtain⟨u,hu,rv⟩:=r.get ha;have hp:ps[i]?=some y:=by
   rw[<-S.pre,iW (by lia)];exact h1
  have ndP:ps.Nodup:=by rw[<-S.pre];exact S.nd.sublist (jM _ _)
  refine⟨u,rv,?_⟩;rcases S.par y (aF hp) with k|k
  ·exact .inl ⟨k,CK ndP hp hu k⟩
  ·obtain⟨c,e⟩:=Fx (n:=s.heap.objs.size+1) k;refine .inr ⟨.inl k,c,e,?_⟩;have q:=x.cell y c e;rw[CI ndP hp hu (by show scope.names.lookup y≠_;rw[k];decide)] at q;exact q
 ·exact e0.hok.fresh (cT (x.above y c (dB h)))
 ·unfold cI;show _=N.length;rw[aG,ae,c9];lia
def NA{CX:MF}{P:aW}{w:bK}{K:Fg}{mg:Str->Option aa}{base:Heap}{k:Nat}{f:ar}{name qual:Str}{params:Arguments}{body:List Stmt}{scope:Scope}{dV kV doc pm cdv ct oc:aa}{an od:Option ar}
  {osl:Array (Option aa)} {N ps:List Str} {sp:Sp} (lk:K.lookup f=some ⟨oc,od,.func (dv name qual params body scope dV kV doc pm an cdv ct),osl⟩) (hcd:eN K cdv qual=true) (S:lV N ps scope)
  (len:∀vs H Q E,sp vs H Q E->vs.length=ps.length)
  (hbody:∀(A:bj) (outer:List Env) (s:aq) (H:Hp) (vs:List V) (Q:VK) (E:XK),gB k (A.deeper (hZ qual scope s.heap.objs.size f cdv))->sp vs H Q E->
   ∃t,DT (tH CX P w K mg base N qual scope f cdv A outer s H E) body t/\t {nx:=λ_ H'=>Q .non H',rt:=Q} (cI N vs) H) :
  pO P w K mg base CX (k+1) f (dv name qual params body scope dV kV doc pm an cdv ct) ps sp:=by
 refine⟨len,λA outer s H args us vs Q E hr e0 hb r hsp=>?_⟩;have hl:=len _ _ _ _ hsp;have KX:K.In s.heap:=e0.mod.kin.keeps λb o e=>(e0.bs b o e).1;have lim:s.heap.NoLimit:=e0.mod.nolimit.keeps λb o e=>(e0.bs b o e).1;have hkind:∀y∈ps.zip us,scope.names.lookup y.1=some .local\/(scope.names.lookup y.1=some .cell/\((cellsFrom (s.heap.objs.size+1) scope.names []).lookup y.1).isSome=true):=λ⟨n,v⟩ hy=>by
  rcases S.par n (qw hy).1 with q|q
  ·exact .inl q
  ·exact .inr ⟨q,PySem.W.cellsFrom_some _ _ _ (.inl q)⟩
 refine codeAny_call_function hr.depth (KX _ _ lk) rfl S.co S.gen rfl (PySem.W.codeRec_of KX hcd) (hb _ _ _ _ ?_);refine wpAny_newFunctionEnv_cells S.kind hkind λenv he s1 x=>?_;subst he;refine⟨lim.keeps x.toInCall.keep,codeAny_func ?_⟩;obtain⟨t,ht,hq⟩:=hbody A outer s H vs Q E (hr.deeper _) hsp;have I:bY (tH CX P w K mg base N qual scope f cdv A outer s H E) [] (cI N vs) H s1:=Lw S hr.hd e0 hl r x;refine dh (ht [] s1 (cI N vs) H _ I hq) (λfl s' hs=>?_) λe s' hs=>hs;have fin:∀{σ':St} {H':Hp} {v:V} {u:aa},bY (tH CX P w K mg base N qual scope f cdv A outer s H E) [] σ' H' s'->dA v u->Q v H'->CE outer P w H s Q u s':=
  λ{σ' H' v u} J rv q=>⟨v,H',J.os,J.bare,J.base,J.hok,rv,q⟩
 cases fl with
 |ret u=>
  obtain⟨v,σ',H',J,rv,q⟩:=hs;exact fin J rv q
 |next=>
  obtain⟨σ',H',J,q⟩:=hs;exact fin (v:=V.non) (u:=aa.none) J rfl q
 |brk=>
  obtain⟨_,_,_,q⟩:=hs;exact False.elim q
 |cont=>
  obtain⟨_,_,_,q⟩:=hs;exact False.elim q
section
variable{X:Cx}{x:Str}{p pos:Pos}{e:Expr}{es:List Expr}{t:TA}{id T:String}{r:List V->Hp->VK->Prop}
def fj(r:List V->Hp->VK->Prop)(t:TA):TE:=λσ H Q=>t σ H λvs H1=>r vs H1 Q
def Oc(hc:iY X (.builtin id) r)(hg:Gl X x)(hm:X.mg x=none)(hv:e8 x=some (.builtin id))(ha:PA X (e::es) t)(hn:x≠"__name__":=by decide)(hdb:(x==("__debug__":Str))=false:=by decide)
  (he:aR (e::es) X.env=(false,eval e X.env)::aR es X.env:=by rfl) (hpl:(eV pos (aR es X.env)).any (·.1)=false:=by rfl):PE X (.Call (.Name x p) (e::es) [] pos) (fj r t):=by
 intro pins s σ H Q I h;refine eA (og I hg hm hv ?_ hn hdb);exact PyProof.Rows.callWith_builtin1 (fk (ha pos pins s σ H _ I h) λus s1 ⟨vs,H1,I1,r1,q1⟩=>hc pins s1 σ H1 vs us Q I1 r1 q1) he hpl
def LW(hc:iY X (.type T) r)(hg:Gl X x)(hm:X.mg x=none)(hv:e8 x=some (.type T))(ha:PA X (e::es) t)(hn:x≠"__name__":=by decide)(hdb:(x==("__debug__":Str))=false:=by decide)
  (he:aR (e::es) X.env=(false,eval e X.env)::aR es X.env:=by rfl) (hpl:(eV pos (aR es X.env)).any (·.1)=false:=by rfl):PE X (.Call (.Name x p) (e::es) [] pos) (fj r t):=by
 intro pins s σ H Q I h;refine eA (og I hg hm hv ?_ hn hdb);exact dN (fk (ha pos pins s σ H _ I h) λus s1 ⟨vs,H1,I1,r1,q1⟩=>hc pins s1 σ H1 vs us Q I1 r1 q1) he hpl
end
end L2
namespace HT
open PySem PyProof.Rows
section
open PySem.SeqAt
open PySem.AutoSeq1 (wpAny_loadPart')
open PySem.MeetsSeq PySem.MeetsSeq2 PySem.MeetsSeq3
end
section
variable{prog:aW}{w:bK}{A:bj}{E:ZF}{s:aq}
def cat_tup{t b:ar}{vs ws:List aa}{Q:ZF}(ht:IsTup s.heap t vs.toArray)(hb:IsTup s.heap b ws.toArray)(hv:vs≠[])
  (h1:ws=[]->Q (.ref t) s) (h2:ws≠[]->Q (.ref s.heap.objs.size) {s with heap:=s.heap.push {cls:=.type "tuple",data:=.seq (vs++ws).toArray}})
  (hsz:vs.length+ws.length<=av):aO (model prog w) A (fc .Add (.ref t) (.ref b)) Q E s:=by
 obtain⟨⟨cls,dd,data,sl⟩,ho,hc,n,hd⟩:=id ht;obtain⟨⟨cls2,dd2,data2,sl2⟩,ho2,hc2,n2,hd2⟩:=id hb;simp only at hc hd hc2 hd2;subst hc hd hc2 hd2;have e:vs.toArray++ws.toArray=(vs++ws).toArray:=by simp
 by_cases hw:ws=[]
 ·exact concat_meets ⟨_,ho,rfl⟩ ⟨_,ho2,rfl⟩ noFill_tuple_add seq_tuple_add PySem.F.slot_tuple_add PySem.F.entry_tuple_add (PySem.F.args_tuple_add_2 _ _)
   (tuple_addW1 t b vs.toArray ws.toArray n n2 dd dd2 sl sl2 (by simpa using hv) (by simp[hw])) ⟨ho,ho2,h1 hw⟩
 ·refine concat_meets ⟨_,ho,rfl⟩ ⟨_,ho2,rfl⟩ noFill_tuple_add seq_tuple_add PySem.F.slot_tuple_add PySem.F.entry_tuple_add (PySem.F.args_tuple_add_2 _ _)
   (tuple_addW2 t b vs.toArray ws.toArray n n2 dd dd2 sl sl2 (by simpa using hv) (by simpa using hw) (by rw[aA,aA];exact hsz)) ⟨ho,ho2,?_⟩
  rw[e];exact h2 hw
def sIx(n d:Nat):Option Int->Nat
 |none=>d
 |some v=>if v<0 then(v+(n:Int)).toNat else min v.toNat n
def sIx_none(n d:Nat):sIx n d none=d:=rfl
def sIx_nat(n d k:Nat):sIx n d (some (k:Int))=min k n:=by
 show(if(k:Int)<0 then((k:Int)+(n:Int)).toNat else min (k:Int).toNat n)=min k n;rw[if_neg (by lia),dJ]
def UE(n d:Nat)(hd:d<=n)(o:Option Int):sIx n d o<=n:=by
 cases o with
 |none=>exact hd
 |some v=>
  show(if v<0 then(v+(n:Int)).toNat else min v.toNat n)<=n;by_cases hv:v<0
  ·rw[if_pos hv];lia
  ·rw[if_neg hv];exact Nat.min_le_right _ _
def JU(v:Int)(n d:Nat):(if v<0 then max (v+(n:Int)) 0 else min v (n:Int))=((sIx n d (some v):Nat):Int):=by
 show(if v<0 then max (v+(n:Int)) 0 else min v (n:Int))=(((if v<0 then(v+(n:Int)).toNat else min v.toNat n):Nat):Int);by_cases hv:v<0
 ·simp only[if_pos hv];lia
 ·simp only[if_neg hv];lia
def HR(lo hi:Option Int)(n:Nat):Builtin.Slice.sliceAdjust lo hi 1 (n:Int)=(((sIx n 0 lo:Nat):Int),((sIx n n hi:Nat):Int)):=by
 have h1:¬((1:Int)<0):=by lia
 unfold Builtin.Slice.sliceAdjust;simp only[h1,if_false];refine Prod.ext ?_ ?_
 ·cases lo with
  |none=>rfl
  |some v=>exact JU v n 0
 ·cases hi with
  |none=>rfl
  |some v=>exact JU v n n
def IS(i j:Nat):Builtin.Slice.slicePlaces (i:Int) (j:Int) 1=j-i:=by
 unfold Builtin.Slice.slicePlaces;have h1:(1:Int)>0:=by lia
 simp only[h1,if_true,Int.ediv_one];split<;>lia
def AL{v:aa}{o:Option Int}{Q:Option Int->aq->Prop}(p:pH v o)(h:Q o s):aO (model prog w) A (Builtin.Slice.slicePartIndex v) Q E s:=by
 cases p with
 |none=>exact slicePart_none h
 |int i t=>exact slicePart_int h
def pe{sl:ar}{vl vu:aa}{lo hi:Option Int}{n:Nat}{Q:Int×Int×Nat->aq->Prop}(hs:s.heap.IsSliceOf sl vl vu .none)(pl:pH vl lo)(pu:pH vu hi)
  (h:Q (((sIx n 0 lo:Nat):Int),1,sIx n n hi-sIx n 0 lo) s):aO (model prog w) A (Builtin.Slice.sliceApplied (.ref sl) (pure (n:Int))) Q E s:=by
 obtain⟨os,hos,hcs,hds⟩:=id hs;unfold Builtin.Slice.sliceApplied Builtin.Slice.sliceFields;refine ag (ag (ff hos hds (x:=vl) rfl (ag (ff hos hds (x:=vu) rfl (ag (ff hos hds (x:=.none) rfl (aC ?_)))))));refine ag (slicePart_none ?_);show aO _ _ (if((1:Int)==0)=true then _ else _) _ _ s;rw[if_neg (by decide)];refine ag (AL pl (ag (AL pu (ag (aC ?_)))));show aO _ _ (match Builtin.Slice.sliceAdjust lo hi 1 (n:Int) with|(lo,hi)=>pure (lo,(1:Int),Builtin.Slice.slicePlaces lo hi 1)) _ _ s
 rw[HR lo hi n];show aO _ _ (pure (((sIx n 0 lo:Nat):Int),(1:Int),Builtin.Slice.slicePlaces ((sIx n 0 lo:Nat):Int) ((sIx n n hi:Nat):Int) 1)) _ _ s;rw[IS];exact aC h
def Ol(xs:Array aa)(i k:Nat):((cK k).filterMap λ(m:Nat)=>xs[((i:Int)+(m:Int)*1).toNat]?).toArray=((xs.toList.drop i).take k).toArray:=by
 have e:(λ(m:Nat)=>xs[((i:Int)+(m:Int)*1).toNat]?)=λm=>xs[i+m]?:=by
  funext m;have:((i:Int)+(m:Int)*1).toNat=i+m:=by lia
  rw[this]
 rw[e];have:=pick_run xs i k;rw[List.filterMap_map] at this;have e2:((λx=>xs[x]?) ∘ λx=>i+x)=λm=>xs[i+m]?:=rfl;rw[e2] at this;rw[this]
def getItem_tuple_cut{t sl:ar}{items:Array aa}{vl vu:aa}{lo hi:Option Int}{Q:ZF}(ht:IsTup s.heap t items)(hs:s.heap.IsSliceOf sl vl vu .none)(pl:pH vl lo)(pu:pH vu hi)
  (hw:¬(sIx items.size 0 lo=0/\sIx items.size items.size hi=items.size))
  (h:Q (.ref s.heap.objs.size) {s with heap:=s.heap.push {cls:=.type "tuple",data:=.seq ((items.toList.drop (sIx items.size 0 lo)).take (sIx items.size items.size hi-sIx items.size 0 lo)).toArray}})
  (hsz:items.size<=av):aO (model prog w) A (lT (.ref t) (.ref sl)) Q E s:=by
 have htake:sizeOk (.seq ((items.toList.drop (sIx items.size 0 lo)).take (sIx items.size items.size hi-sIx items.size 0 lo)).toArray):=by
  show((items.toList.drop (sIx items.size 0 lo)).take (sIx items.size items.size hi-sIx items.size 0 lo)).toArray.size<=av;rw[aA,a8,dW,bg];lia
 have hj:sIx items.size items.size hi<=items.size:=UE _ _ (aD _) hi;obtain⟨os,hos,hcs,hds⟩:=id hs;have hTs:s.TypeIs (.ref sl) "slice":=⟨os,hos,hcs⟩;unfold lT
 try with_reducible refine cw ?_
 first|refine ag (aC ?_)|skip
 refine ag (wpAny_sequenceKey ht.typeIs (by decide) ?_);refine ag (eD (name:=Str.ofString "__getitem__") ht.typeIs eW
  (fQ eW ht.typeIs entry_tuple_getitem ?_ (args_tuple_getitem _ _)))
 show aO _ _ (Builtin.Tuple.tupleItemsOf (.ref t) >>= _) _ _ s;refine ag (tupleItemsOf_ ht ?_);refine ag (pL hTs ?_);rw[if_pos (by decide)];refine ag (pe hs pl pu ?_);have hno:¬((((sIx items.size 0 lo:Nat):Int)==0&&(1:Int)==1&&(sIx items.size items.size hi-sIx items.size 0 lo)==items.size)=true):=by
  intro q;rw[Bool.and_eq_true,Bool.and_eq_true] at q;have q1:((sIx items.size 0 lo:Nat):Int)=0:=eq_of_beq q.1.1;have q2:sIx items.size items.size hi-sIx items.size 0 lo=items.size:=eq_of_beq q.2;exact hw ⟨by lia,by lia⟩
 show aO _ _ (if(((sIx items.size 0 lo:Nat):Int)==0&&(1:Int)==1&&(sIx items.size items.size hi-sIx items.size 0 lo)==items.size)=true then _ else _) _ _ s;rw[if_neg hno,Ol]
 first
  |exact ag (m:=Builtin.Tuple.tupleExact _) (d6 (aC ⟨_,rfl,aC h⟩) htake)
  |exact ag (m:=Builtin.Tuple.tupleExact _) (d6 (ag (aC (aC ⟨_,rfl,aC h⟩))) htake)
  |exact ag (ag (m:=Builtin.Tuple.tupleExact _) (d6 (aC (aC ⟨_,rfl,aC h⟩)) htake))
  |exact ag (ag (m:=Builtin.Tuple.tupleExact _) (d6 (aC ⟨_,rfl,aC h⟩) htake))
end
end HT
namespace L2
open PySem PySem.Spec PyProof.Rows
abbrev TO:=St->Hp->(Option Int->Hp->Prop)->Prop
def PO(X:Cx)(e:Option Expr)(t:TO):Prop:=
 ∀(pins:List (ar×Obj)) (s:aq) (σ:St) (H:Hp) (Q:Option Int->Hp->Prop),bY X pins σ H s->t σ H Q->
  aO (model X.prog X.w) X.A (evalPart e X.env) (λu s'=>∃o H',bY X pins σ H' s'/\pH u o/\Q o H') X.xe s
def dP:TO:=λ_ H Q=>Q none H
def fX(t:TE):TO:=λσ H Q=>t σ H λx H1=>∃i,x=.int i/\Q (some i) H1
section
variable{X:Cx}{e:Expr}{te:TE}{lo hi:Option Expr}{tl th:TO}{pos p2:Pos}
def Q5:PO X none dP:=by
 intro pins s σ H Q I h;rw[evalPart_none];exact aC ⟨none,H,I,.none,h⟩
def Q6(h:PE X e te):PO X (some e) (fX te):=by
 intro pins s σ H Q I hw;rw[evalPart_some];refine fk (h pins s σ H _ I hw) λu s1 ⟨x,H1,I1,r1,q1⟩=>?_;obtain⟨i,rfl,q⟩:=q1;obtain⟨t,rfl⟩:=r1;exact⟨some i,H1,I1,.int i t,q⟩
def KS(X:Cx)(r:V->Option Int->Option Int->Hp->VK->Prop):Prop:=
 ∀(pins:List (ar×Obj)) (s:aq) (σ:St) (H:Hp) (x:V) (v vl vu:aa) (lo hi:Option Int) (sl:ar) (Q:VK),bY X pins σ H s->dA x v->s.heap.IsSliceOf sl vl vu .none->pH vl lo->pH vu hi->r x lo hi H Q->
  ∃T id,pK (.type T) "__getitem__"=pure (some (.builtin id))/\s.TypeIs v T/\aO (model X.prog X.w) X.A (lT v (.ref sl)) (EP X pins σ Q) X.xe s
def KS.or{r r':V->Option Int->Option Int->Hp->VK->Prop}(h:KS X r)(h':KS X r'):KS X (λx lo hi H Q=>r x lo hi H Q\/r' x lo hi H Q):=by
 intro pins s σ H x v vl vu lo hi sl Q I rx hs pl pu q;rcases q with q|q
 ·exact h pins s σ H x v vl vu lo hi sl Q I rx hs pl pu q
 ·exact h' pins s σ H x v vl vu lo hi sl Q I rx hs pl pu q
def uT(r:V->Option Int->Option Int->Hp->VK->Prop)(te:TE)(tl th:TO):TE:=λσ H Q=>te σ H λx H1=>tl σ H1 λl H2=>th σ H2 λu H3=>r x l u H3 Q
def Oh{r:V->Option Int->Option Int->Hp->VK->Prop}(hr:KS X r)(he:PE X e te)(hl:PO X lo tl)(hu:PO X hi th):PE X (.Subscript e (.Slice lo hi none p2) pos) (uT r te tl th):=by
 intro pins s σ H Q I h;refine Subscript_ (fk (he pins s σ H _ I h) λv s1 ⟨x,H1,I1,r1,q1⟩=>?_);refine wpAny_Slice (fk (hl pins s1 σ H1 _ I1 q1) λvl s2 ⟨l,H2,I2,pl,q2⟩=>fk (hu pins s2 σ H2 _ I2 q2) λvu s3 ⟨u,H3,I3,pu,q3⟩=>?_);rw[evalPart_none];refine aC ?_;have I4:bY X pins σ H3 {s3 with heap:=s3.heap.push {cls:=.type "slice",data:=.fields #[vl,vu,.none]}}:=I3.kept (t':=s3.toks) λb ob q=>az _ q;obtain⟨T,id,hT,ht,hg⟩:=hr pins {s3 with heap:=s3.heap.push {cls:=.type "slice",data:=.fields #[vl,vu,.none]}} σ H3 x v vl vu l u s3.heap.objs.size Q I4 r1 (Heap.IsSliceOf.new ..) pl pu q3;show aO (model X.prog X.w) X.A (subscriptTail e (.Slice lo hi none p2) v (.ref s3.heap.objs.size)) (EP X pins σ Q) X.xe {s3 with heap:=s3.heap.push {cls:=.type "slice",data:=.fields #[vl,vu,.none]}};exact tail_any (ops:=[.ref s3.heap.objs.size,v]) ht hT hg (by with_unfolding_all rfl)
def nZ(xs:List V)(lo hi:Option Int):List V:=(xs.drop (HT.sIx xs.length 0 lo)).take (HT.sIx xs.length xs.length hi-HT.sIx xs.length 0 lo)
def xF(xs:List V)(lo hi:Option Int):(nZ xs lo hi).length<=xs.length:=by
 unfold nZ;rw[a8,dW];lia
def VP(K:Fg):V->Option Int->Option Int->Hp->VK->Prop:=λx lo hi H Q=>∃a xs,x=.ref a/\eO K H a xs/\
 ¬(HT.sIx xs.length 0 lo=0/\HT.sIx xs.length xs.length hi=xs.length)/\∀p,H p=none->Q (.ref p) (upd H p (.tup (nZ xs lo hi)))
def UI:KS X (VP X.K):=by
 intro pins s σ H x v vl vu lo hi sl Q I rx hs pl pu h;obtain⟨a,xs,rfl,hx,hw,q⟩:=h;cases rx;obtain⟨its,r,ht,hz⟩:=I.tuple hx;have hlen:its.toArray.size=xs.length:=by rw[aA];exact r.length.symm
 refine⟨"tuple",_,eW.lookup,ht.typeIs,?_⟩;refine HT.getItem_tuple_cut ht hs pl pu (by rw[hlen];exact hw) ?_ (by rw[hlen];exact hz);rw[hlen];refine⟨.ref s.heap.objs.size,_,I.laid (t':=s.toks) (o:=.tup (nZ xs lo hi)) (λb ob q=>az _ q) (aD _) ?_,rfl,q _ (I.hok.fresh (aD _))⟩;exact⟨b9 (xF xs lo hi) hz,_,(r.drop (HT.sIx xs.length 0 lo)).take (HT.sIx xs.length xs.length hi-HT.sIx xs.length 0 lo),nR.new _ _⟩
def Sk(K:Fg):R2:=λx y H Q=>∃a b xs ys,x=.ref a/\y=.ref b/\eO K H a xs/\eO K H b ys/\xs≠[]/\xs.length+ys.length<=av/\
 (ys=[]->Q (.ref a) H)/\(ys≠[]->∀p,H p=none->Q (.ref p) (upd H p (.tup (xs++ys))))
def c8.nil_iff{xs:List V}{us:List aa}(r:c8 xs us):us=[]↔xs=[]:=by
 cases r with
 |nil=>simp
 |cons _ _=>simp
def QC:jE X (fc .Add) (Sk X.K):=by
 intro pins s σ H x y v u Q I rx ry h;obtain⟨a,b,xs,ys,rfl,rfl,ha,hb,hx,hz,q1,q2⟩:=h;cases rx;cases ry;obtain⟨its,r1,p1,_⟩:=I.tuple ha;obtain⟨its2,r2,p2,_⟩:=I.tuple hb;refine HT.cat_tup p1 p2 (λz=>hx (r1.nil_iff.mp z)) (λz=>⟨.ref a,H,I,rfl,q1 (r2.nil_iff.mp z)⟩) (λz=>?_) (by rw[<-r1.length,<-r2.length];exact hz);refine⟨.ref s.heap.objs.size,_,I.laid (t':=s.toks) (o:=.tup (xs++ys)) (λb ob q=>az _ q) (aD _) ?_,rfl,q2 (λw=>z (r2.nil_iff.mpr w)) _ (I.hok.fresh (aD _))⟩;exact⟨by rw[aG];exact hz,_,r1.append r2,nR.new _ _⟩
end
def Pq(n:Nat)(i:Int):Option Nat:=if 0<=i then(if i<n then some i.toNat else none) else if -(n:Int)<=i then some (i+n).toNat else none
def Pp{α:Type}(xs:List α)(i:Int):Option α:=(Pq xs.length i).bind λj=>xs[j]?
def J2{n:Nat}{i:Int}{j:Nat}(h:Pq n i=some j):seqIndex? i n=some j/\j<n/\-(n:Int)<=i/\i<n:=by
 unfold Pq at h;by_cases h0:0<=i
 ·rw[if_pos h0] at h;by_cases h1:i<n
  ·rw[if_pos h1] at h;have e:i.toNat=j:=Option.some.inj h;exact⟨by rw[seqIndex_of h0 h1,e],by lia,by lia,h1⟩
  ·rw[if_neg h1] at h;cases h
 ·rw[if_neg h0] at h;by_cases h1:-(n:Int)<=i
  ·rw[if_pos h1] at h;have e:(i+n).toNat=j:=Option.some.inj h;exact⟨by rw[seqIndex_neg (by lia) h1,e],by lia,h1,by lia⟩
  ·rw[if_neg h1] at h;cases h
def D0{α:Type}{xs:List α}{i:Int}{v:α}(h:Pp xs i=some v):∃j,seqIndex? i xs.length=some j/\xs[j]?=some v/\j<xs.length/\-(xs.length:Int)<=i/\i<xs.length:=by
 unfold Pp at h;cases e:Pq xs.length i with
 |none=>rw[e] at h;cases h
 |some j=>
  rw[e] at h;obtain⟨h1,h2,h3,h4⟩:=J2 e;exact⟨j,h1,h,h2,h3,h4⟩
def DV(b:Expr):Prop:=∀o i,subscripted b false o i=operate [o,i] (lT o i)
def Pn(X:Cx)(r:R2):Prop:=
 ∀(value slice:Expr) (pins:List (ar×Obj)) (s:aq) (σ:St) (H:Hp) (x y:V) (v u:aa) (Q:VK),bY X pins σ H s->dA x v->dA y u->r x y H Q->
  subscripted slice false v u=operate [v,u] (lT v u)->aO (model X.prog X.w) X.A (subscriptTail value slice v u) (EP X pins σ Q) X.xe s
def US(X:Cx)(id:String)(r:V->List V->Hp->VK->Prop):Prop:=
 ∀(pins:List (ar×Obj)) (s:aq) (σ:St) (H:Hp) (x:V) (xs:List V) (v:aa) (us:List aa) (Q:VK),bY X pins σ H s->dA x v->c8 xs us->r x xs H Q->
  aO (model X.prog X.w) X.A (call (.builtin id) (v::us)) (EP X pins σ Q) X.xe s
section
variable{X:Cx}{a b:Expr}{ta tb:TE}{pos:Pos}
def Pn.or{r r':R2}(h:Pn X r)(h':Pn X r'):Pn X (λx y H Q=>r x y H Q\/r' x y H Q):=by
 intro value slice pins s σ H x y v u Q I rx ry q hs;rcases q with q|q
 ·exact h value slice pins s σ H x y v u Q I rx ry q hs
 ·exact h' value slice pins s σ H x y v u Q I rx ry q hs
def Vr{r:R2}(hr:Pn X r)(ha:PE X a ta)(hb:PE X b tb)(hs:DV b):PE X (.Subscript a b pos) (a9 r ta tb):=by
 intro pins s σ H Q I h;exact Subscript_ (SO ha hb I h λv u s2 x y H2 I2 rx ry q=>hr a b pins s2 σ H2 x y v u Q I2 rx ry q (hs _ _))
def VE(K:Fg):R2:=λx y H Q=>∃p xs i v,x=.ref p/\y=.int i/\cB K H p xs/\Pp xs i=some v/\Q v H
def VH(K:Fg):R2:=λx y H Q=>∃p xs i v,x=.ref p/\y=.int i/\eO K H p xs/\Pp xs i=some v/\Q v H
def VG:R2:=λx y H Q=>∃z i c,x=.str z/\y=.int i/\z.length<=av/\Pp z.cps.toList i=some c/\Q (.str ⟨#[c]⟩) H
def Qm:Pn X (VE X.K):=by
 intro value slice pins s σ H x y v u Q I rx ry h hs;obtain⟨p,xs,i,z,rfl,rfl,hq,he,q⟩:=h;cases rx;obtain⟨t,rfl⟩:=ry;obtain⟨its,r,pl,hz⟩:=I.list hq;obtain⟨j,h1,h2,h3,h4,h5⟩:=D0 he;obtain⟨w,ew,rw'⟩:=r.get h2;have hl:=r.length;have hn:=wL;have fin:EP X pins σ Q w s:=⟨z,H,I,rw',q⟩;by_cases h0:0<=i
 ·have hj:i.toNat=j:=by
   rw[seqIndex_of h0 h5] at h1;exact Option.some.inj h1
  exact item_listR pl.isList h0 (by lia) (by rw[hj];simpa using ew) fin hs
 ·have hj:(i+(its.toArray.size:Int)).toNat=j:=by
   rw[seqIndex_neg (by lia) h4] at h1;rw[aA,<-hl];exact Option.some.inj h1
  exact subscriptTail_builtinR (x:=w) pl.isList.typeIs slot_list_getitem.lookup
   (wpAny_getItem_list_neg (Q:=λr s'=>r=w/\EP X pins σ Q r s') pl.isList (by lia) (by rw[aA]<;>lia) (by lia) (by rw[hj];simpa using ew) ⟨rfl,fin⟩) hs
def Tg:Pn X (VH X.K):=by
 intro value slice pins s σ H x y v u Q I rx ry h hs;obtain⟨p,xs,i,z,rfl,rfl,hq,he,q⟩:=h;cases rx;obtain⟨t,rfl⟩:=ry;obtain⟨its,r,pl,hz⟩:=I.tuple hq;obtain⟨j,h1,h2,h3,h4,h5⟩:=D0 he;obtain⟨w,ew,rw'⟩:=r.get h2;have hl:=r.length;have hn:=wL;have fin:EP X pins σ Q w s:=⟨z,H,I,rw',q⟩;exact subscriptTail_builtinR (x:=w) pl.typeIs slot_tuple_getitem.lookup
  (getItem_tuple (j:=j) (Q:=λr s'=>r=w/\EP X pins σ Q r s') pl (by lia) (by lia) (by rw[aA,<-hl];exact h1) (by simpa using ew) ⟨rfl,fin⟩) hs
def Tf:Pn X VG:=by
 intro value slice pins s σ H x y v u Q I rx ry h hs;obtain⟨z,i,c,rfl,rfl,hz,he,q⟩:=h;obtain⟨t,rfl⟩:=rx;obtain⟨t',rfl⟩:=ry;obtain⟨j,h1,h2,h3,h4,h5⟩:=D0 he;have hl:z.cps.toList.length=z.length:=by simp[Str.length]
 rw[hl] at h1 h4 h5;have hn:=wL;exact tail_any (typeIs_str s z t) slot_str_getitem.lookup (getItem_str (c:=c) (by
  have e1:decide (i < -(2 ^ 63:Int))=false:=decide_eq_false (by lia);have e2:decide (i >= 2 ^ 63)=false:=decide_eq_false (by lia);rw[e1,e2,Bool.or_false]) (by rw[h1];simpa using h2) ⟨.str ⟨#[c]⟩,H,I.tok _,⟨_,rfl⟩,q⟩) hs
def cJ(K:Fg):R2:=λx y H Q=>VE K x y H Q\/VH K x y H Q\/VG x y H Q
def Te:Pn X (cJ X.K):=Qm.or (Tg.or Tf)
def IE(its:List aa)(n j:Nat)(u:aa):Obj.mapSeq (·.setIfInBounds j u) {cls:=.type "list",data:=.seq its.toArray n}={cls:=.type "list",data:=.seq (its.set j u).toArray n}:=by
 simp[Obj.mapSeq]
def bY.lst{pins:List (ar×Obj)}{σ:St}{H:Hp}{s:aq}{p:ar}{xs:List V}(I:bY X pins σ H s)(h:H p=some (.lst xs)) :
  ∃(its:List aa) (n:Nat),c8 xs its/\s.heap.get? p=some {cls:=.type "list",data:=.seq its.toArray n}/\xs.length<=av:=by
 obtain⟨z,its,n,r,e⟩:=I.hok p _ h;exact⟨its,n,r,e,z⟩
def bY.lstUpd{pins:List (ar×Obj)}{σ:St}{H:Hp}{s:aq}{p:ar}{xs ys:List V}{its its':List aa}{n n':Nat}{f:Obj->Obj}(I:bY X pins σ H s)(h:H p=some (.lst xs))
  (ho:s.heap.get? p=some {cls:=.type "list",data:=.seq its.toArray n}) (hf:f {cls:=.type "list",data:=.seq its.toArray n}={cls:=.type "list",data:=.seq its'.toArray n'}) (r:c8 ys its') (hz:ys.length<=av) (t:Nat) :
  bY X pins σ (upd H p (.lst ys)) {s with heap:=s.heap.update p f,toks:=t}:=by
 have e:(s.heap.update p f).get? p=some {cls:=.type "list",data:=.seq its'.toArray n'}:=by
  rw[dE f ho (by rw[hf]<;>rfl),hf]
 refine I.write (x:=p) (e:=p) (by rw[h];trivial) (.inl rfl) (λb u hb q=>(cx _ _ (Ne.symm hb)).trans q) ⟨_,e⟩ ?_;exact⟨hz,its',n',r,e⟩
def qG:V->V->V->Hp->(Hp->Prop)->Prop:=λo i v H Q=>∃p xs k j,o=.ref p/\i=.int k/\H p=some (.lst xs)/\Pq xs.length k=some j/\Q (upd H p (.lst (xs.set j v)))
def jY:PP X qG:=by
 intro pins s σ H o i v ov iv u Q I ro ri rv h;obtain⟨p,xs,k,j,rfl,rfl,hp,hj,q⟩:=h;cases ro;obtain⟨t,rfl⟩:=ri;obtain⟨its,n,r,ho,hz⟩:=I.lst hp;obtain⟨h1,h2,h3,h4⟩:=J2 hj;have hl:=r.length;have hn:=wL;have I':bY X pins σ (upd H p (.lst (xs.set j v))) {s with heap:=s.heap.update p (Obj.mapSeq (·.setIfInBounds j u))}:=
  I.lstUpd hp ho (IE its n j u) (r.set rv j) (by rw[fG];exact hz) s.toks
 by_cases h0:0<=k
 ·have hk:k.toNat=j:=by
   rw[seqIndex_of h0 h4] at h1;exact Option.some.inj h1
  exact PySem.W.ki_setAt ho h0 (by lia) (by rw[aA,<-hl];exact h4) (by rw[hk];exact⟨_,I',q⟩)
 ·have hk:(k+(its.toArray.size:Int)).toNat=j:=by
   rw[seqIndex_neg (by lia) h3] at h1;rw[aA,<-hl];exact Option.some.inj h1
  exact PySem.W.ki_setBack ho (by lia) (by rw[aA,<-hl];exact h3) (by lia) (by rw[hk];exact⟨_,I',q⟩)
def EH(lo hi:Option Int)(n:Nat):(jt lo hi none n).1=((HT.sIx n 0 lo:Nat):Int)/\(jt lo hi none n).2.1=((HT.sIx n n hi:Nat):Int)/\(jt lo hi none n).2.2=1:=by
 refine⟨?_,?_,rfl⟩
 ·cases lo with
  |none=>simp[jt,HT.sIx]
  |some i=>
   simp only[jt,HT.sIx,oG,show(1:Int)>0 by decide,if_true];by_cases h:i<0
   ·simp only[h,if_true]<;>lia
   ·simp only[h,if_false]<;>lia
 ·cases hi with
  |none=>simp[jt,HT.sIx]
  |some i=>
   simp only[jt,HT.sIx,oG,show(1:Int)>0 by decide,if_true];by_cases h:i<0
   ·simp only[h,if_true]<;>lia
   ·simp only[h,if_false]<;>lia
def B0(its:List aa)(lo hi:Option Int):slicePick its.toArray lo hi none=((its.drop (HT.sIx its.length 0 lo)).take (HT.sIx its.length its.length hi-HT.sIx its.length 0 lo)).toArray:=by
 obtain⟨h1,h2,h3⟩:=EH lo hi its.toArray.size;unfold slicePick;rw[h1,h2,h3];simp only[sliceRange_one,pick_run,aA]<;>rfl
def VN(K:Fg):V->Option Int->Option Int->Hp->VK->Prop:=λx lo hi H Q=>∃a xs,x=.ref a/\cB K H a xs/\∀p,H p=none->Q (.ref p) (upd H p (.lst (nZ xs lo hi)))
def RJ:KS X (VN X.K):=by
 intro pins s σ H x v vl vu lo hi sl Q I rx hs pl pu h;obtain⟨a,xs,rfl,hx,q⟩:=h;cases rx;obtain⟨its,r,ht,hz⟩:=I.list hx;have hlen:=r.length;refine⟨"list",_,slot_list_getitem.lookup,ht.isList.typeIs,?_⟩;refine wpAny_getItem_list_slice ht.isList hs pl pu .none (by simp) ?_ (by rw[aA]<;>lia);rw[B0,<-hlen];refine⟨.ref s.heap.objs.size,_,I.laid (t':=s.toks) (o:=.lst (nZ xs lo hi)) (λb ob q=>az _ q) (aD _) ?_,rfl,q _ (I.hok.fresh (aD _))⟩;exact⟨b9 (xF xs lo hi) hz,_,0,(r.drop (HT.sIx xs.length 0 lo)).take (HT.sIx xs.length xs.length hi-HT.sIx xs.length 0 lo),aZ _ rfl⟩
def kh:V->Bool
 |.non=>true
 |.bl _=>true
 |.int _=>true
 |.str _=>true
 |_=>false
def Ho:V->V->Bool
 |.non,.non=>true
 |.bl a,.bl b=>a==b
 |.bl a,.int b=>(if a then 1 else 0)==b
 |.int a,.bl b=>a==(if b then 1 else 0)
 |.int a,.int b=>a==b
 |.str a,.str b=>a==b
 |_,_=>false
def Ig{A:bj}{s:aq}{y x:V}{u v:aa}(ry:dA y u)(rx:dA x v)(fy:kh y=true)(fx:kh x=true):SeqAt.EqAt A s u v (Ho y x):=by
 cases y with
 |non=>
  cases ry;cases x with
  |non=>cases rx;exact SeqAt.EqAt.same _
  |bl b=>cases rx;exact SeqAt.EqAt.none_bool b
  |int b=>obtain⟨t,rfl⟩:=rx;exact SeqAt.EqAt.none_int b t
  |str b=>obtain⟨t,rfl⟩:=rx;exact SeqAt.EqAt.none_str b t
  |_=>exact absurd (show false=true from fx) Bool.false_ne_true
 |bl a=>
  cases ry;cases x with
  |non=>cases rx;exact SeqAt.EqAt.bool_none a
  |bl b=>cases rx;exact SeqAt.EqAt.bool_bool a b
  |int b=>obtain⟨t,rfl⟩:=rx;exact SeqAt.EqAt.bool_int a b t
  |str b=>obtain⟨t,rfl⟩:=rx;exact SeqAt.EqAt.bool_str a b t
  |_=>exact absurd (show false=true from fx) Bool.false_ne_true
 |int a=>
  obtain⟨t',rfl⟩:=ry;cases x with
  |non=>cases rx;exact SeqAt.EqAt.int_none a t'
  |bl b=>cases rx;exact SeqAt.EqAt.int_bool a t' b
  |int b=>obtain⟨t,rfl⟩:=rx;exact SeqAt.EqAt.int_int a t' b t
  |str b=>obtain⟨t,rfl⟩:=rx;exact SeqAt.EqAt.int_str a t' b t
  |_=>exact absurd (show false=true from fx) Bool.false_ne_true
 |str a=>
  obtain⟨t',rfl⟩:=ry;cases x with
  |non=>cases rx;exact SeqAt.EqAt.str_none a t'
  |bl b=>cases rx;exact SeqAt.EqAt.str_bool a t' b
  |int b=>obtain⟨t,rfl⟩:=rx;exact SeqAt.EqAt.str_int a t' b t
  |str b=>obtain⟨t,rfl⟩:=rx;exact SeqAt.EqAt.str_str a t' b t
  |_=>exact absurd (show false=true from fx) Bool.false_ne_true
 |_=>exact absurd (show false=true from fy) Bool.false_ne_true
def Ii(x:V)(u:aa):Bool:=match u with
 |.none=>Ho .non x
 |.bool b=>Ho (.bl b) x
 |.int i _=>Ho (.int i) x
 |.str z _=>Ho (.str z) x
 |_=>false
def Nt{x y:V}{u:aa}(r:dA y u)(f:kh y=true):Ii x u=Ho y x:=by
 cases y with
 |non=>cases r;rfl
 |bl b=>cases r;rfl
 |int i=>obtain⟨t,rfl⟩:=r;rfl
 |str z=>obtain⟨t,rfl⟩:=r;rfl
 |_=>exact absurd (show false=true from f) Bool.false_ne_true
def vd{x:V}:∀{xs:List V} {us:List aa},c8 xs us->xs.all kh=true->us.any (Ii x)=xs.any λy=>Ho y x
 |_,_,.nil,_=>rfl
 |y::xs,u::us,.cons r t,f=>by
  rw[List.all_cons,Bool.and_eq_true] at f;rw[kI,kI,Nt r f.1,vd t f.2]
def r8{A:bj}{s:aq}{x:V}{v:aa}(rx:dA x v)(fx:kh x=true):∀{xs:List V} {us:List aa},c8 xs us->xs.all kh=true->∀u∈us,SeqAt.EqAt A s u v (Ii x u)
 |_,_,.nil,_=>λu hu=>by cases hu
 |y::xs,u::us,.cons r t,f=>λu' hu=>by
  rw[List.all_cons,Bool.and_eq_true] at f;rcases aE.mp hu with rfl|hu
  ·rw[Nt r f.1];exact Ig r rx f.1 fx
  ·exact r8 rx fx t f.2 u' hu
def lY(x:V)(xs:List V):Bool:=xs.any λy=>Ho y x
def E3(K:Fg)(neg:Bool):R2:=λx y H Q=>∃p xs,y=.ref p/\(cB K H p xs\/eO K H p xs)/\kh x=true/\xs.all kh=true/\Q (.bl (if neg then !lY x xs else lY x xs)) H
def gO:jE X (bP .In) (E3 X.K false):=by
 intro pins s σ H x y v u Q I rx ry h;obtain⟨p,xs,rfl,hq,fx,fs,q⟩:=h;cases ry;rcases hq with hq|hq
 ·obtain⟨its,r,pl,hz⟩:=I.list hq;refine SeqAt.in_listAt (Ii x) pl.isList (λw hw=>r8 rx fx r fs w (by simpa using hw)) ⟨.bl _,H,I,rfl,?_⟩;rw[show its.toArray.any (Ii x)=its.any (Ii x) by simp,vd r fs];exact q
 ·obtain⟨its,r,pl,hz⟩:=I.tuple hq;refine SeqAt.in_tupleAt (Ii x) pl (λw hw=>r8 rx fx r fs w (by simpa using hw)) ⟨.bl _,H,I,rfl,?_⟩;rw[show its.toArray.any (Ii x)=its.any (Ii x) by simp,vd r fs];exact q
def jV:jE X (bP .NotIn) (E3 X.K true):=by
 intro pins s σ H x y v u Q I rx ry h;obtain⟨p,xs,rfl,hq,fx,fs,q⟩:=h;cases ry;rcases hq with hq|hq
 ·obtain⟨its,r,pl,hz⟩:=I.list hq;refine SeqAt.notIn_listAt (Ii x) pl.isList (λw hw=>r8 rx fx r fs w (by simpa using hw)) ⟨.bl _,H,I,rfl,?_⟩;rw[show its.toArray.any (Ii x)=its.any (Ii x) by simp,vd r fs];exact q
 ·obtain⟨its,r,pl,hz⟩:=I.tuple hq;refine SeqAt.notIn_tupleAt (Ii x) pl (λw hw=>r8 rx fx r fs w (by simpa using hw)) ⟨.bl _,H,I,rfl,?_⟩;rw[show its.toArray.any (Ii x)=its.any (Ii x) by simp,vd r fs];exact q
def jQ:iY X (.type "list") (λxs H Q=>∃p ys,xs=[.ref p]/\(cB X.K H p ys\/eO X.K H p ys)/\∀l,H l=none->Q (.ref l) (upd H l (.lst ys))):=by
 intro pins s σ H xs us Q I r h;obtain⟨p,ys,rfl,hq,q⟩:=h;obtain⟨u,rfl,rx⟩:=mU r;cases rx;have fin:∀(its:List aa),c8 ys its->ys.length<=av->∀(h':Heap) (c':Nat),(∀b o',s.heap.get? b=some o'->h'.get? b=some o')->
   h'.get? s.heap.objs.size=some {cls:=.type "list",dict:=none,data:=.seq its.toArray c',slots:=#[]}->EP X pins σ Q (.ref s.heap.objs.size) {s with heap:=h'}:=λits r' hz h' c' kp e=>
  ⟨.ref s.heap.objs.size,_,I.laid (t':=s.toks) kp (aD _) (show fg X.prog X.w _ h' _ (.lst ys) from⟨hz,its,c',r',e⟩),rfl,q _ (I.hok.fresh (aD _))⟩
 rcases hq with hq|hq
 ·obtain⟨its,r',pl,hz⟩:=I.list hq;have hlen:=r'.length;obtain⟨o,ho,hc,n,hd⟩:=pl.isList;exact call_list_seq p (.inl rfl) ho hc hd (λh' c' kp e=>fin its r' hz h' c' kp e) (by simp only[aA]<;>lia)
 ·obtain⟨its,r',pl,hz⟩:=I.tuple hq;have hlen:=r'.length;obtain⟨o,ho,hc,n,hd⟩:=pl;exact call_list_seq p (.inr rfl) ho hc hd (λh' c' kp e=>fin its r' hz h' c' kp e) (by simp only[aA]<;>lia)
def eK:iY X (.type "tuple") (λxs H Q=>∃p ys,xs=[.ref p]/\((cB X.K H p ys/\∀l,H l=none->Q (.ref l) (upd H l (.tup ys)))\/(eO X.K H p ys/\Q (.ref p) H))):=by
 intro pins s σ H xs us Q I r h;obtain⟨p,ys,rfl,h⟩:=h;obtain⟨u,rfl,rx⟩:=mU r;cases rx;rcases h with⟨hq,q⟩|⟨hq,q⟩
 ·obtain⟨its,r',pl,hz⟩:=I.list hq;have hlen:=r'.length;refine call_tuple_list pl.isList (λh' kp=>?_) (by simp only[aA]<;>lia);have I1:bY X pins σ H {s with heap:=h'}:=I.kept (t':=s.toks) kp;have I2:bY X pins σ (upd H h'.objs.size (.tup ys)) {s with heap:=h'.push {cls:=.type "tuple",data:=.seq its.toArray}}:=
   I1.laid (t':=s.toks) (λb o e=>az _ e) (aD _) (show fg X.prog X.w _ _ _ (.tup ys) from⟨hz,its,r',nR.new _ _⟩)
  exact⟨.ref h'.objs.size,_,I2,rfl,q _ (I1.hok.fresh (aD _))⟩
 ·obtain⟨its,r',pl,hz⟩:=I.tuple hq;exact call_tuple_same pl ⟨.ref p,H,I,rfl,q⟩
def Wm(K:Fg)(T:String)(x:V)(H:Hp):Prop:=match x with
 |.str _=>T="str"
 |.int _=>T="int"
 |.ref p=>(T="list"/\∃xs,cB K H p xs)\/(T="tuple"/\∃o,K.lookup p=some o/\o.cls=.type "tuple"/\o.dict=none)\/
   (T="dict"/\((∃kvs,H p=some (.dK kvs))\/∃kvs,H p=some (.dT kvs)))\/(T="set"/\∃S n,H p=some (.set S n))
 |_=>False
def Jy{pins:List (ar×Obj)}{σ:St}{H:Hp}{s:aq}{T:String}{x:V}{v:aa}(I:bY X pins σ H s)(r:dA x v)(ty:Wm X.K T x H) :
  s.TypeIs v T/\∀a,v=.ref a->∃ob,s.heap.get? a=some ob/\ob.dict=none:=by
 cases x with
 |str z=>
  obtain⟨t,rfl⟩:=r;cases(show T="str" from ty);exact⟨typeIs_str s z t,λ_ e=>nomatch e⟩
 |int i=>
  obtain⟨t,rfl⟩:=r;cases(show T="int" from ty);exact⟨typeIs_int s i t,λ_ e=>nomatch e⟩
 |ref p=>
  cases r;rcases ty with⟨rfl,xs,hq⟩|⟨rfl,o,hk,hc,hd⟩|⟨rfl,hk⟩|⟨rfl,S,n,hk⟩
  ·obtain⟨its,_,pl,_⟩:=I.list hq;refine⟨pl.isList.typeIs,λa e=>?_⟩;cases e;obtain⟨o,n,e,c,hd,_⟩:=pl;exact⟨o,e,hd⟩
  ·refine⟨⟨o,I.kIn p o hk,hc⟩,λa e=>?_⟩;cases e;exact⟨o,I.kIn _ o hk,hd⟩
  ·have z:∃o,s.heap.get? p=some o/\o.ExactDict:=by
    rcases hk with⟨kvs,hk⟩|⟨kvs,hk⟩
    ·obtain⟨_,_,_,_,o,_,_,e,ex,_⟩:=I.hok p _ hk;exact⟨o,e,ex⟩
    ·obtain⟨_,_,_,_,o,_,_,e,ex,_⟩:=I.hok p _ hk;exact⟨o,e,ex⟩
   obtain⟨o,e,ex⟩:=z;refine⟨⟨o,e,ex.1⟩,λa e2=>?_⟩;cases e2;exact⟨o,e,ex.2.1⟩
  ·obtain⟨o,_,_,_,e,ex,_⟩:=I.hok p _ hk;refine⟨⟨o,e,ex.1⟩,λa e2=>?_⟩;cases e2;exact⟨o,e,ex.2.1⟩
 |_=>exact False.elim ty
def UL(K:Fg)(T:String)(r:V->List V->Hp->VK->Prop)(to:TE):TE:=λσ H Q=>to σ H λx H1=>Wm K T x H1/\r x [] H1 Q
def sE(K:Fg)(T:String)(r:V->List V->Hp->VK->Prop)(to:TE)(t:TA):TE:=λσ H Q=>to σ H λx H1=>Wm K T x H1/\t σ H1 λxs H2=>r x xs H2 Q
variable{o e:Expr}{es:List Expr}{to:TE}{t:TA}{name:Str}{apos cpos:Pos}{T id:String}{r:V->List V->Hp->VK->Prop}
def TR(pa:uw T)(slot:Slot T name id)(hty:typeOf (.builtin id)=pure (.type "method_descriptor"))(hm:US X id r)(ho:PE X o to)
  (hbase:e7 o name X.env (eval o X.env)=eval o X.env:=by rfl) (hline:(apos.endLine==cpos.line)=true:=by rfl):PE X (.Call (.Attribute o name apos) [] [] cpos) (UL X.K T r to):=by
 intro pins s σ H Q I h;refine wpAny_Call_method0_late hbase hline (fk (ho pins s σ H _ I h) λv s1 ⟨x,H1,I1,r1,ty,q1⟩=>?_);obtain⟨h1,h2⟩:=Jy I1 r1 ty;exact⟨T,id,pa,slot,hty,h1,h2,Calls.callWith_builtin rfl (PySem.evalArgs_none (hm pins s1 σ H1 x [] v [] Q I1 r1 .nil q1))⟩
def Vp(pa:uw T)(slot:Slot T name id)(hty:typeOf (.builtin id)=pure (.type "method_descriptor"))(hm:US X id r)(ho:PE X o to)(ha:PA X (e::es) t)
  (hbase:e7 o name X.env (eval o X.env)=eval o X.env:=by rfl)
  (hfew:((eV cpos (aR (e::es) X.env)).all (λx=>!x.1)&&(rC cpos (kQ [] X.env)).all (λx=>x.1.isSome)
   && decide ((e::es).length+([]:List lS).length+(if([]:List lS).isEmpty then 0 else 1)<30))=true:=by rfl)
  (hline:(apos.endLine==cpos.line)=true:=by rfl) (hs:aR (e::es) X.env=(false,eval e X.env)::aR es X.env:=by rfl) (hplain:(eV cpos (aR es X.env)).any (·.1)=false:=by rfl) :
  PE X (.Call (.Attribute o name apos) (e::es) [] cpos) (sE X.K T r to t):=by
 intro pins s σ H Q I h;refine wpAny_Call_method_late hbase hfew hline rfl (fk (ho pins s σ H _ I h) λv s1 ⟨x,H1,I1,r1,ty,q1⟩=>?_);obtain⟨h1,h2⟩:=Jy I1 r1 ty;refine⟨T,id,pa,slot,hty,h1,h2,?_⟩;have hA:=ha cpos pins s1 σ H1 _ I1 q1;rw[hs] at hA ⊢;refine Calls.callWith_builtin (by show(false || (eV cpos (aR es X.env)).any (·.1))=false;rw[hplain]<;>rfl) (Calls.evalArgs_plain ?_);exact fk hA λus s2 ⟨vs,H2,I2,r2,q2⟩=>hm pins s2 σ H2 x vs v us Q I2 r1 r2 q2
end
def V4(X:Cx)(id:String)(r:V->List V->Hp->VK->Prop):Prop:=
 ∀(pins:List (ar×Obj)) (s:aq) (σ:St) (H:Hp) (x:V) (xs:List V) (v:aa) (us:List aa) (Q:VK),bY X pins σ H s->dA x v->c8 xs us->r x xs H Q->
  aO (model X.prog X.w) X.A (call (.builtin id) (v::us)) (EP X pins σ Q) X.xe s
def c8.one:∀{x:V} {us:List aa},c8 [x] us->∃u,us=[u]/\dA x u
 |_,_,.cons r .nil=>⟨_,rfl,r⟩
def c8.zero:∀{us:List aa},c8 [] us->us=[]
 |_,.nil=>rfl
def c8.dropLast{xs:List V}{us:List aa}(h:c8 xs us):c8 xs.dropLast us.dropLast:=by
 induction h with
 |nil=>exact .nil
 |cons r t ih=>
  cases t with
  |nil=>exact .nil
  |cons q t'=>exact .cons r ih
def c8.rep{xs:List V}{us:List aa}(h:c8 xs us):∀k:Nat,c8 (bG k xs).flatten (bG k us).flatten
 |0=>.nil
 |k+1=>by
  rw[eU,eU,cH,cH];exact c8.append h (c8.rep h k)
def Ij{α:Type}(l:List α):l.eraseIdx (l.length-1)=l.dropLast:=by
 induction l with
 |nil=>rfl
 |cons a r ih=>
  cases r with
  |nil=>rfl
  |cons b r=>
   have e:(a::b::r).length-1=((b::r).length-1)+1:=by
    have h1:(a::b::r).length=r.length+2:=rfl;have h2:(b::r).length=r.length+1:=rfl;lia
   rw[e,List.eraseIdx_cons_succ,ih]
   all_goals rfl
def CS(its:List aa):∀(k:Nat) (acc:List aa),
  y0 (λx1 x2=>x1++x2) acc.toArray (bG k its.toArray)=(acc++(bG k its).flatten).toArray
 |0,acc=>by simp
 |k+1,acc=>by
  have e:acc.toArray++its.toArray=(acc++its).toArray:=by simp
  have e2:(acc++its)++(bG k its).flatten=acc++(bG (k+1) its).flatten:=by
   rw[eU,cH,fq]
  rw[<-e2,<-CS its k (acc++its),<-e,eU,ja]
section
variable{X:Cx}{pins:List (ar×Obj)}{σ:St}{H:Hp}{s:aq}{l b:ar}{xs ys zs:List V}
def bY.lset{its its':List aa}{n:Nat}{f:Array aa->Array aa}{t':Nat}(I:bY X pins σ H s)(hH:H l=some (.lst xs))
  (e:s.heap.get? l=some {cls:=.type "list",data:=.seq its.toArray n}) (hf:f its.toArray=its'.toArray) (hv:c8 ys its') (hz:ys.length<=av) :
  bY X pins σ (upd H l (.lst ys)) {s with heap:=s.heap.update l (Obj.mapSeq f),toks:=t'}:=by
 have q:=PySem.IsL.update e f;rw[hf] at q;refine I.write (x:=l) (e:=l) (by rw[hH];exact trivial) (.inl rfl) (λb' u hb hu=>(cx s.heap (Obj.mapSeq f) (Ne.symm hb)).trans hu) ⟨_,q⟩ ?_;exact⟨hz,its',_,hv,q⟩
def bY.lnew{its:List aa}{t':Nat}(I:bY X pins σ H s)(hv:c8 ys its)(hz:ys.length<=av) :
  bY X pins σ (upd H s.heap.objs.size (.lst ys)) {s with heap:=s.heap.push {cls:=.type "list",data:=.seq its.toArray},toks:=t'}:=
 I.laid (λ_ _ q=>az _ q) (aD _) ⟨hz,its,0,hv,aZ _ rfl⟩
def bY.fresh(I:bY X pins σ H s):H s.heap.objs.size=none:=I.hok.fresh (aD _)
def bY.lstM(I:bY X pins σ H s)(hH:H l=some (.lst xs)):xs.length<=av/\∃(its:List aa) (n:Nat),c8 xs its/\xs.length=its.length/\s.heap.get? l=some {cls:=.type "list",data:=.seq its.toArray n}:=by
 obtain⟨z,its,n,r,e⟩:=I.hok l _ hH;exact⟨z,its,n,r,r.length,e⟩
def N6{n:Nat}(h:n<=av):Builtin.List.listTooLong n=false:=by
 unfold Builtin.List.listTooLong;exact decide_eq_false (by lia)
end
section
variable{X:Cx}
def gZ:V->List V->Hp->VK->Prop:=λx vs H Q=>∃l xs y,x=.ref l/\vs=[y]/\H l=some (.lst xs)/\xs.length<av/\Q .non (upd H l (.lst (xs++[y])))
def C6:V4 X "list.append" gZ:=by
 intro pins s σ H x vs v us Q I rx rv h;obtain⟨l,xs,y,rfl,rfl,hH,hz,q⟩:=h;cases rx;obtain⟨u,rfl,ru⟩:=rv.one;obtain⟨z,its,n,r,hl,e⟩:=I.lstM hH;refine gR F.slot_list_append ⟨_,e,rfl⟩ F.entry_list_append (F.args_list_append_2 _ _) (PySem.list_append l its.toArray n u (by rw[aA];lia)) ⟨e,?_⟩;refine⟨.non,_,I.lset (its':=its++[u]) hH e (by simp) (r.append (.cons ru .nil)) ?_,rfl,q⟩;rw[aG,cM];lia
def Kc:V->List V->Hp->VK->Prop:=λx vs H Q=>∃l b xs zs,x=.ref l/\vs=[.ref b]/\H l=some (.lst xs)/\H b=some (.lst zs)/\xs.length+zs.length<=av/\Q .non (upd H l (.lst (xs++zs)))
def LO:V4 X "list.extend" Kc:=by
 intro pins s σ H x vs v us Q I rx rv h;obtain⟨l,b,xs,zs,rfl,rfl,hH,hB,hz,q⟩:=h;cases rx;obtain⟨u,rfl,ru⟩:=rv.one;cases ru;obtain⟨z,its,n,r,hl,e⟩:=I.lstM hH;obtain⟨z2,its2,n2,r2,hl2,e2⟩:=I.lstM hB;have hsz:its.toArray.size+its2.toArray.size<=av:=by rw[aA,aA];lia
 have hlong:¬(!its.toArray.isEmpty&&Builtin.List.listTooLong (its.toArray.size+its2.toArray.size))=true:=by
  rw[N6 hsz,Bool.and_false];exact Bool.false_ne_true
 refine gR F.slot_list_extend ⟨_,e,rfl⟩ F.entry_list_extend (F.args_list_extend_2 _ _)
  (AutoSeq1.list_extend_list_list_0 l its.toArray n b its2.toArray n2 hlong (by rw[aA];lia) (by lia)) ⟨e,e2,?_⟩
 refine⟨.non,_,I.lset (its':=its++its2) hH e (by simp) (r.append r2) ?_,rfl,q⟩;rw[aG];lia
def VM:V->List V->Hp->VK->Prop:=λx vs H Q=>∃l xs y,x=.ref l/\vs=[]/\H l=some (.lst xs)/\xs[xs.length-1]?=some y/\Q y (upd H l (.lst xs.dropLast))
def Tt:V4 X "list.pop" VM:=by
 intro pins s σ H x vs v us Q I rx rv h;obtain⟨l,xs,y,rfl,rfl,hH,hy,q⟩:=h;cases rx;have hus:=rv.zero;subst hus;obtain⟨z,its,n,r,hl,e⟩:=I.lstM hH;obtain⟨u,hu,ru⟩:=r.get hy;have hy':its.toArray[its.toArray.size-1]?=some u:=by
  show its.toArray[its.length-1]?=some u;rw[<-dD,<-hl];exact hu
 refine gR F.slot_list_pop ⟨_,e,rfl⟩ F.entry_list_pop (F.args_list_pop_1 _) (MeetsSeq.list_pop_last l its.toArray n u hy' (by rw[aA];lia)) ⟨e,?_⟩;refine⟨y,_,I.lset (its':=its.dropLast) hH e ?_ r.dropLast ?_,ru,q⟩
 ·show its.toArray.eraseIdxIfInBounds (its.toArray.size-1)=its.dropLast.toArray;rw[aA,List.eraseIdxIfInBounds_toArray,Ij]
 ·rw[List.length_dropLast];lia
def VA:R2:=λx y H Q=>∃l b xs zs,x=.ref l/\y=.ref b/\H l=some (.lst xs)/\H b=some (.lst zs)/\xs.length+zs.length<=av/\∀p,H p=none->Q (.ref p) (upd H p (.lst (xs++zs)))
def Tv:jE X (fc .Add) VA:=by
 intro pins s σ H x y v u Q I rx ry h;obtain⟨l,b,xs,zs,rfl,rfl,hH,hB,hz,q⟩:=h;cases rx;cases ry;obtain⟨z,its,n,r,hl,e⟩:=I.lstM hH;obtain⟨z2,its2,n2,r2,hl2,e2⟩:=I.lstM hB;refine PySem.P.add_list e e2 ?_ (by rw[aA,aA];lia);have ea:its.toArray++its2.toArray=(its++its2).toArray:=by simp
 rw[ea];exact⟨.ref _,_,I.lnew (t':=s.toks) (r.append r2) (by rw[aG];lia),rfl,q _ I.fresh⟩
def Qu{α:Type}(xs:List α)(k:Nat):(bG k xs).flatten.length=k*xs.length:=by
 induction k with
 |zero=>simp
 |succ k ih=>rw[eU,cH,aG,ih,Nat.succ_mul,Nat.add_comm]
end
section
variable{prog:aW}{w:bK}{A:bj}{E:ZF}{s:aq}
set_option maxRecDepth 100000 in
end
section
variable{X:Cx}
end
end L2
namespace Att
open PySem PySem.W PySem.Calls PyProof.Rows
def yB{P:Params}{h:Heap}:∀(ns:List Int) (vs:List aa),WellAll P h vs (ns.map WData.int)->lR vs ns:=by
 intro ns
 induction ns with
 |nil=>
  intro vs w;rw[de] at w;cases w;exact .nil
 |cons n ns ih=>
  intro vs w;rw[aV] at w;cases w with
  |cons a b=>
   cases a;exact .cons _ _ (ih _ b)
def Ml{l:OpenLaw}{n:Nat}(hn:l.most=some n){P:Params}{h:Heap}{args:List WData}{vals:List aa}
  (hpre:l.row.toRowW.claim.pre args=true) (hwl:WellAll P h vals args) :
  ∃a vs ns,vals=[aa.ref a]/\args=[WData.list (ns.map WData.int)]/\h.get? a=some {cls:=.type "list",data:=.seq vs.toArray}/\lR vs ns/\ns.length<=n:=by
 have hsh:WShape.hasAll [] args [.list .int]=true:=(pre_splitW hpre).1;have hc:l.pre.holds [] {args:=args}=true:=(pre_splitW hpre).2;obtain⟨d,r,rfl,h1,h2⟩:=hasAllW_cons hsh;obtain rfl:=hasAllW_nil h2;obtain⟨xs,rfl,h3⟩:=hasW_list h1;obtain⟨ns,rfl⟩:=items_int h3;have hlen:ns.length<=n:=by
  unfold OpenLaw.pre at hc;have h4:(WTm.not (.lt (.lit (.int (n:Int))) (.len (.arg 0)))).holds [] {args:=[.list (ns.map .int)]}=true:=by
   have h4:=(holds_andW hc).1;rw[hn] at h4;exact h4
  have h5:=condW_of h4 (w_not (w_lt w_lit (w_len_list (w_arg rfl))));rw[ae] at h5;refine Nat.le_of_not_lt λq=>?_;have q':(n:Int)<((ns.length:Nat):Int):=by lia
  first
   |(rw[decide_eq_true q'] at h5;exact absurd h5 (by decide))
   |(simp at h5;lia)
 cases hwl with
 |cons w1 w2=>
  cases w2;cases w1 with
  |list ho hall=>exact⟨_,_,ns,rfl,rfl,ho,yB ns _ hall,hlen⟩
def L4(l:OpenLaw)(args:List WData):l.row.toRowW.claim.post args (.bool true) args=true:=
 postW_of (r:=l.row.toRowW) (X:=(true==true))
  (show WShape.has [] (.bool true) .bool=true by first|rfl|decide|simp[WShape.has,WShape.arms,WShape.armsAll])
  (show(WTm.eq .res (.lit (.bool true))).value [] {args:=args,res:=some (.bool true),after:=args}=some (.bool (true==true)) from w_eq_bool (w_res rfl) w_lit) rfl
def attach_call{l:OpenLaw}{n:Nat}{q:aW}{loose:List Str}{XP:(Str->Option aa)->Heap->Prop}{YP:bK->Heap->Prop}{d:DefRec}
  (hn:l.most=some n) (hdf:d.params.defaults=[])
  (call:∀(w:bK) (s₀ s₁:aq) (mg mb:Str->Option aa) (fa:ar) (o:Obj) (pm cd doc:aa) (a:ar) (vs:List aa) (ns:List Int),
   Ground q loose [] XP w s₀ mg mb s₁.heap->YP w s₁.heap->
   s₁.heap.get? fa=some o->o.data=.func (docDef d.name d.params d.body d.scope pm cd doc)->s₁.heap.CodeRec cd d.name->mg d.name=some (.ref fa)->
   s₁.heap.get? a=some {cls:=.type "list",data:=.seq vs.toArray}->lR vs ns->ns.length<=n->s₁.gens=#[]->
   ig (model l.prog w) sS (.call (.ref fa) ⟨[.ref a],[]⟩) (λr s'=>r=.ok (.ret (.bool true))/\OldK s₁.heap s'.heap/\s'.os=s₁.os/\lQ s'.gens) s₁) :
  WalkO q loose XP YP l.row.toRowW d [] (λf vs=>y9 f vs):=by
 intro w s₀ s₁ mg mb G Y fa o pm cd doc dV kV ho hd hcd hD hmg hg args vals as hpre hlay hrd hwl hlo;obtain rfl:dV=.none:=Dflts.none hD hdf;obtain rfl:kV=.none:=Dflts.noKw hD;obtain⟨a,vs,ns,rfl,rfl,hobj,hints,hlen⟩:=Ml hn hpre hwl;refine enter_call (gj (call w s₀ s₁ mg mb fa o pm cd doc a vs ns G Y ho (fd_plain hd) hcd hmg hobj hints hlen hg) λr s' hq=>?_);obtain⟨rfl,h2,h3,h4⟩:=hq;exact⟨.inl ⟨.bool true,.bool true,[],rfl,λ_=>rfl,.bool true,L4 l _,λ_=>⟨List.Pairwise.nil,λ_ hm=>(nomatch hm)⟩⟩,h2,h3,h4⟩
section
variable{prog:aW}{w:bK}{A:bj}{E:ZF}{s:aq}{K:Frag}
end
end Att
namespace L2
open PySem PySem.Spec PyProof.Rows
def DG:∀{vs:List aa} {ns:List Int},lR vs ns->c8 (ns.map V.int) vs
 |_,_,.nil=>.nil
 |_,_,.cons n t h=>.cons ⟨t,rfl⟩ (DG h)
def PJ(H:Hp):Prop:=∀b,H b=none\/∃o xs,H b=some (.frz o (.lst xs))
def NP{P:aW}{w:bK}{K:Fg}{mg mb:Str->Option aa}{CX:MF}{k:Nat}{fa a:ar}{fd:dY}{x:Str}{sp:Sp}{s₁:aq}{vs:List aa}{ns:List Int}
  (KX:K.In s₁.heap) (hns:s₁.heap.Ns aX mg) (hb:s₁.heap.Ns builtinsNs mb) (hbb:∀x:Str,x≠"__name__"->mb x=e8 x) (hlim:s₁.heap.NoLimit) (hg:s₁.gens=#[])
  (ha:s₁.heap.get? a=some {cls:=.type "list",data:=.seq vs.toArray}) (hi:lR vs ns) (hl:ns.length<=av) (hr:gB k sS)
  (F:∀base:Heap,K.In base->base.Ns aX mg->pO P w K mg base CX k fa fd [x] sp) (hbind:∀(s:aq) (u:aa),sR s fd ⟨[u],[]⟩ [(x,u)])
  (hsp:∀H:Hp,PJ H->cB K H a (ns.map V.int)->sp [.ref a] H (λv _=>v=.bl true) λ_ _ _=>False)
  (hCX:∀H e s',CX [] H s₁ (λ_ _ _=>False) e s'->False) :
  ig (model P w) sS (.call (.ref fa) ⟨[.ref a],[]⟩) (λr s'=>r=.ok (.ret (.bool true))/\OldK s₁.heap s'.heap/\s'.os=s₁.os/\lQ s'.gens) s₁:=by
 have rv:=DG hi;have lenV:=hi.length;have core:∀H:Hp,PJ H->cB K H a (ns.map V.int)->rp P w H s₁.heap->(∀b,H b≠none->b=a)->(H a≠none->K.lookup a=none)->
   ig (model P w) sS (.call (.ref fa) ⟨[.ref a],[]⟩) (λr s'=>r=.ok (.ret (.bool true))/\OldK s₁.heap s'.heap/\s'.os=s₁.os/\lQ s'.gens) s₁:=by
  intro H hO hS hok hA hK;have base_of:∀{b:ar} {o:Obj},s₁.heap.get? b=some o->H b=none->(El s₁.heap H).get? b=some o:=λe n=>NH e n;have noA:∀{b:ar} {o:Obj} {es:Array DictEntry} {ep:Nat},s₁.heap.get? b=some o->o.data=.dict es ep->H b=none:=λ{b o es ep} e d=>by
   cases q:H b with
   |none=>rfl
   |some u=>
    have e':b=a:=hA b (by rw[q];simp);subst e';rw[ha] at e;cases e;have d':Data.seq vs.toArray _=Data.dict es ep:=d;cases d'
  have nsK:∀{b:ar} {m:Str->Option aa},s₁.heap.Ns b m->(El s₁.heap H).Ns b m:=λ{b m} ⟨o,es,ep,e,d,r⟩=>⟨o,es,ep,base_of e (noA e d),d,r⟩;have hKb:K.In (El s₁.heap H):=λb o e=>base_of (KX b o e) (by
   cases q:H b with
   |none=>rfl
   |some u=>
    have e':b=a:=hA b (by rw[q];simp);subst e';rw[hK (by rw[q];simp)] at e;cases e)
  have hM:Mod K mg (El s₁.heap H):=⟨hKb,nsK hns,⟨mb,nsK hb,hbb⟩,let⟨mc,h1,h2⟩:=hlim;⟨mc,nsK h1,h2⟩⟩;have e0:Hs P w K mg (El s₁.heap H) sS [] s₁ H:=⟨rfl,hM,λb o e=>Qz e,Nat.le_of_eq (Lr _ _),trivial,λb hb=>absurd (show b∈([]:List ar) from hb) (by simp),hok,.of_eq hg⟩;refine gj ((F _ hKb (nsK hns)).run sS [] s₁ H ⟨[.ref a],[]⟩ [.ref a] [.ref a] _ _ hr e0 (hbind s₁ (.ref a)) (.cons rfl .nil) (hsp H hO hS)) λr s' h=>?_;cases r with
  |error e=>exact(hCX H e s' h).elim
  |ok fl=>
   cases fl with
   |next=>exact False.elim h
   |brk=>exact False.elim h
   |cont=>exact False.elim h
   |ret u=>
    obtain⟨v,H',os,bare,un,hok',r',q⟩:=h;have q':v=.bl true:=q;subst q';obtain rfl:u=aa.bool true:=r';refine⟨rfl,OldK.of_keep λb o e=>?_,os,bare⟩;cases q:H b with
    |none=>exact un.keep b o e q (by intro z;exact absurd (show b∈([]:List ar) from z) (by simp)) (by simp)
    |some u=>
     rcases hO b with z|⟨ob,xs,z⟩
     ·rw[q] at z;cases z
     ·have z2:=un.frzs b ob _ z;obtain⟨e1,_⟩:=hok b _ z;obtain⟨e2,_⟩:=hok' b _ z2;rw[e] at e1;cases e1;exact e2
 cases hk:K.lookup a with
 |some o=>
  have e:=KX a o hk;rw[ha] at e;cases e;refine core (λ_=>none) (λ_=>.inl rfl) (.inr ⟨_,vs.toArray,_,hk,rfl,rfl,rfl,by rw[aA,lenV];exact hl,by simpa using rv⟩) (λb u z=>by have z':(none:Option HO)=some u:=z;cases z') (λb z=>absurd rfl z) λz=>absurd rfl z
 |none=>
  refine core (λb=>if b=a then some (.frz {cls:=.type "list",data:=.seq vs.toArray} (.lst (ns.map V.int))) else none) (λb=>?_) (.inl (.inr ⟨{cls:=.type "list",data:=.seq vs.toArray},if_pos rfl⟩)) (λb u z=>?_) (λb z=>?_) λ_=>hk
  ·by_cases hb:b=a
   ·exact .inr ⟨_,_,if_pos hb⟩
   ·exact .inl (if_neg hb)
  ·by_cases hb:b=a
   ·have z':=(if_pos hb).symm.trans z;cases z';subst hb;exact⟨ha,by rw[ae];exact hl,vs,_,rv,ha⟩
   ·have z':=(if_neg hb).symm.trans z;cases z'
  ·by_cases hb:b=a
   ·exact hb
   ·exact absurd (if_neg hb) z
def walk_of{l:PySem.W.OpenLaw}{n k:Nat}{q:aW}{loose:List Str}{XP:(Str->Option aa)->Heap->Prop}{YP:bK->Heap->Prop}{d:DefRec}{K:Params->Fg}{CX:bK->MF}{sp:bK->Sp}{x:Str}
  (hn:l.most=some n) (hn2:n<=av) (hdf:d.params.defaults=[]) (hr:gB k sS)
  (hY:∀(w:bK) (h:Heap),YP w h->(K w.params).In h)
  (F:∀(w:bK) (mg:Str->Option aa) (fa:ar) (h:Heap),(K w.params).In h->h.Ns aX mg->mg d.name=some (.ref fa)->
   ∃fd:dY,(∀(s:aq) (u:aa),sR s fd ⟨[u],[]⟩ [(x,u)])/\
    ∀base:Heap,(K w.params).In base->base.Ns aX mg->pO l.prog w (K w.params) mg base (CX w) k fa fd [x] (sp w))
  (hsp:∀(w:bK) (H:Hp) (a:ar) (ns:List Int),ns.length<=n->PJ H->cB (K w.params) H a (ns.map V.int)->sp w [.ref a] H (λv _=>v=.bl true) λ_ _ _=>False)
  (hCX:∀(w:bK) (H:Hp) (s:aq) (e:aa) (s':aq),CX w [] H s (λ_ _ _=>False) e s'->False) :
  PySem.W.WalkO q loose XP YP l.row.toRowW d [] (λf vs=>y9 f vs):=by
 refine Att.attach_call hn hdf λw s₀ s₁ mg mb fa o pm cd doc a vs ns G Y ho hd hcd hmg hobj hints hlen hg=>?_;have KX:=hY w _ Y;obtain⟨fd,hb,hF⟩:=F w mg fa _ KX G.T.g hmg;exact NP KX G.T.g G.T.b G.T.builtins G.T.nolimit hg hobj hints (b9 hlen hn2) hr hF hb (λH hO hS=>hsp w H a ns hlen hO hS) λH e s'=>hCX w H s₁ e s'
def ij(s:Stmt):Arguments:=match s with
 |.FunctionDef _ a _ _ _ _ _ _ _ _=>a
 |_=>{posonlyargs:=[],args:=[],vararg:=none,kwonlyargs:=[],kw_defaults:=[],kwarg:=none,defaults:=[]}
def e9(s:Stmt):List Stmt:=match s with
 |.FunctionDef _ _ b _ _ _ _ _ _ _=>b
 |_=>[]
def bU(s:Stmt):Scope:=match s with
 |.FunctionDef _ _ _ _ _ _ sc _ _ _=>sc
 |_=>{kind:=.function,names:=[],isGenerator:=false,isCoroutine:=false}
abbrev EZ:MF:=λ_ _ _ _ _ _=>False
abbrev E0:XK:=λ_ _ _=>False
def Vn{X:Cx}:uC EZ X E0:=λ_ _ _ _ _ _ _ h=>h.elim
structure RY(K:Fg)(x qual:Str)(st:Stmt)(f:ar)(fd:dY):Prop where
 ex:∃(oc:aa) (od:Option ar) (kV doc pm:aa) (an:Option ar) (cdv ct:aa) (osl:Array (Option aa)),
  fd=dv x qual (ij st) (e9 st) (bU st) .none kV doc pm an cdv ct/\K.lookup f=some ⟨oc,od,.func fd,osl⟩/\eN K cdv qual=true
 kp:cV K (.ref f)=true
section
variable{P:aW}{w:bK}{K:Fg}{mg:Str->Option aa}{base:Heap}
def RY.ok{x qual:Str}{st:Stmt}{f:ar}{fd:dY}{N ps:List Str}{k:Nat}{sp:Sp}(F:RY K x qual st f fd)(S:lV N ps (bU st))(len:∀vs H Q E,sp vs H Q E->vs.length=ps.length)
  (hbody:∀(cdv:aa) (A:bj) (outer:List Env) (s:aq) (H:Hp) (vs:List V) (Q:VK) (E:XK),gB k (A.deeper (hZ qual (bU st) s.heap.objs.size f cdv))->sp vs H Q E->
   ∃t,DT (tH EZ P w K mg base N qual (bU st) f cdv A outer s H E).nox (e9 st) t/\t {nx:=λ_ H'=>Q .non H',rt:=Q} (cI N vs) H):pO P w K mg base EZ (k+1) f fd ps sp:=by
 obtain⟨oc,od,kV,doc,pm,an,cdv,ct,osl,rfl,lk,hcd⟩:=F.ex;refine NA lk hcd S len λA outer s H vs Q E hr hsp=>?_;obtain⟨t,h,q⟩:=hbody cdv A outer s H vs Q E hr hsp;exact⟨t,h.nox,q⟩
def RY.binds{x qual:Str}{st:Stmt}{f:ar}{fd:dY}{ps:List Str}(F:RY K x qual st f fd)
  (h:∀(kV doc pm:aa) (an:Option ar) (cdv ct:aa) (us:List aa),us.length=ps.length->bindArgs (dv x qual (ij st) (e9 st) (bU st) .none kV doc pm an cdv ct) ⟨us,[]⟩=pure (ps.zip us)):rF K fd ps []:=by
 obtain⟨oc,od,kV,doc,pm,an,cdv,ct,osl,rfl,lk,hcd⟩:=F.ex;exact .all (h kV doc pm an cdv ct)
def zS{x qual:Str}{st:Stmt}{f:ar}{oc:aa}{od an:Option ar}{osl:Array (Option aa)}{kV doc pm cdv ct:aa}(l:K.lookup f=some ⟨oc,od,.func (dv x qual (ij st) (e9 st) (bU st) .none kV doc pm an cdv ct),osl⟩)
  (c:eN K cdv qual=true) (k:cV K (.ref f)=true):RY K x qual st f (dv x qual (ij st) (e9 st) (bU st) .none kV doc pm an cdv ct):=⟨⟨oc,od,kV,doc,pm,an,cdv,ct,osl,rfl,l,c⟩,k⟩
end
def R7{A:bj}{k:Nat}(hr:gB k A):A.units+1<cLine:=jg (Nat.add_le_add_left (by decide:1<=64) _) hr.units
section
variable{X:Cx}
def pv(i:Nat){x:Str}{pos:Pos}(hN:X.N[i]?=some x:=by rfl)(hv:U6 X.env.scope x:=by first|exact Or.inl rfl|exact Or.inr (Or.inl rfl)|exact Or.inr (Or.inr rfl))(hd:(x==("__debug__":Str))=false:=by decide)
  (hcd:(x==("__classdict__":Str))=false:=by decide):PE X (.Name x pos) (ao i):=Ua hN hv hd hcd
end
def f6{A B:Prop}(h:B):if false=true then A else B:=by
 rw[if_neg Bool.false_ne_true];exact h
def ky{A B:Prop}(h:A):if true=true then A else B:=by
 rw[if_pos rfl];exact h
def Sa{c A B:Prop}[Decidable c](hc:c)(h:B):if(!decide c)=true then A else B:=by
 rw[decide_eq_true hc];exact f6 h
def aL(H H':Hp):Prop:=∀b o,H b=some o->H' b=some o
def aL.refl(H:Hp):aL H H:=λ_ _ h=>h
def aL.trans{H H1 H2:Hp}(a:aL H H1)(b:aL H1 H2):aL H H2:=λc o h=>b c o (a c o h)
def aL.free{H H':Hp}(e:aL H H'){l:ar}(h:H' l=Option.none):H l=Option.none:=by
 cases q:H l with
 |none=>rfl
 |some o=>
  rw[e l o q] at h;cases h
section
variable{κ:Type}[DecidableEq κ]
def iN(kvs:List (κ×V))(k:κ):Option V:=(kvs.find? λkv=>decide (kv.1=k)).map (·.2)
def ma(kvs:List (κ×V))(k:κ)(v:V):List (κ×V):=
 if(kvs.any λkv=>decide (kv.1=k))=true then kvs.map (λkv=>if kv.1=k then(kv.1,v) else kv) else kvs++[(k,v)]
def Hh{k:κ}:iN ([]:List (κ×V)) k=none:=rfl
def iI{p:κ×V}{r:List (κ×V)}{k:κ}(e:p.1=k):iN (p::r) k=some p.2:=by simp[iN,gg,e]
def iH{p:κ×V}{r:List (κ×V)}{k:κ}(e:¬p.1=k):iN (p::r) k=iN r k:=by simp[iN,gg,e]
def sQ(k:κ):∀kvs:List (κ×V),(kvs.any λkv=>decide (kv.1=k))=(iN kvs k).isSome
 |[]=>rfl
 |p::r=>by
  rw[kI];by_cases e:p.1=k
  ·simp only[iI e,decide_eq_true e,Bool.true_or,Option.isSome_some]
  ·rw[iH e,decide_eq_false e,Bool.false_or];exact sQ k r
def Hg(k j:κ)(y:V):∀kvs:List (κ×V),iN (kvs.map λkv=>if kv.1=k then(kv.1,y) else kv) j=(iN kvs j).map λx=>if j=k then y else x
 |[]=>rfl
 |p::r=>by
  have ih:=Hg k j y r;rw[aV];by_cases h:p.1=k
  ·rw[if_pos h];by_cases e:p.1=j
   ·rw[iI (p:=(p.1,y)) e,iI e,cv,if_pos (e.symm.trans h)]
   ·rw[iH (p:=(p.1,y)) e,iH e,ih]
  ·rw[if_neg h];by_cases e:p.1=j
   ·rw[iI (p:=p) e,iI e,cv,if_neg (λz=>h (e.trans z))]
   ·rw[iH (p:=p) e,iH e,ih]
def DD(k j:κ)(y:V):∀kvs:List (κ×V),iN kvs k=none->iN (kvs++[(k,y)]) j=if j=k then some y else iN kvs j
 |[],_=>by
  by_cases e:k=j
  ·rw[if_pos e.symm];exact iI (p:=(k,y)) e
  ·rw[if_neg (λz=>e z.symm)];exact iH (p:=(k,y)) e
 |p::r,hn=>by
  rw[List.cons_append];have hk:¬p.1=k:=λz=>by rw[iI z] at hn;cases hn
  rw[iH hk] at hn;have ih:=DD k j y r hn;by_cases e:p.1=j
  ·rw[iI e,iI e,if_neg (λz=>hk (e.trans z))]
  ·rw[iH e,iH e,ih]
def Pe(kvs:List (κ×V))(k j:κ)(y:V):iN (ma kvs k y) j=if j=k then some y else iN kvs j:=by
 unfold ma;by_cases a:(kvs.any λkv=>decide (kv.1=k))=true
 ·rw[if_pos a,Hg];rw[sQ] at a;by_cases e:j=k
  ·obtain⟨x,hx⟩:=gA.mp a;rw[if_pos e,e,hx,cv,if_pos rfl]
  ·rw[if_neg e];cases iN kvs j with
   |none=>rfl
   |some x=>rw[cv,if_neg e]
 ·rw[if_neg a];refine DD k j y kvs ?_;rw[sQ] at a;cases q:iN kvs k with
  |none=>rfl
  |some x=>rw[q] at a;exact(a rfl).elim
def rX(kvs:List (κ×V))(k:κ)(v:V):(ma kvs k v).length<=kvs.length+1:=by
 unfold ma;split
 ·rw[ae];lia
 ·rw[aG,aI,lz];lia
def Aq{kvs:List (κ×V)}{k:κ}(v:V)(h:iN kvs k=none):ma kvs k v=kvs++[(k,v)]:=by
 unfold ma;rw[sQ,h];exact if_neg (by decide)
def rP.isSome_eq{o:Option V}{u:Option aa}(r:rP o u):o.isSome=u.isSome:=by
 cases o with
 |none=>cases u with
  |none=>rfl
  |some _=>exact(show False from r).elim
 |some _=>cases u with
  |none=>exact(show False from r).elim
  |some _=>rfl
def KV.val{kvs:List (κ×V)}{vs:List (κ×aa)}(r:KV kvs vs)(k:κ):rP (iN kvs k) (sW vs k):=by
 unfold KV at r
 induction r with
 |nil=>exact True.intro
 |@cons p q ps qs h t ih=>
  obtain⟨h1,h2⟩:=h;by_cases e:p.1=k
  ·have e':q.1=k:=h1.symm.trans e;have b:sW (q::qs) k=some q.2:=by simp[sW,gg,e']
   rw[iI e,b];exact h2
  ·have e':¬q.1=k:=λz=>e (h1.trans z);have b:sW (q::qs) k=sW qs k:=by simp[sW,gg,e']
   rw[iH e,b];exact ih
def KV.any{kvs:List (κ×V)}{vs:List (κ×aa)}(r:KV kvs vs)(k:κ):(kvs.any λkv=>decide (kv.1=k))=vs.any λkv=>decide (kv.1=k):=by
 unfold KV at r
 induction r with
 |nil=>rfl
 |cons h t ih=>rw[kI,kI,ih,h.1]
def KV.repl{kvs:List (κ×V)}{vs:List (κ×aa)}(r:KV kvs vs)(k:κ){y:V}{u:aa}(ry:dA y u) :
  KV (kvs.map λkv=>if kv.1=k then(kv.1,y) else kv) (vs.map λkv=>if kv.1=k then(kv.1,u) else kv):=by
 unfold KV at r ⊢
 induction r with
 |nil=>exact .nil
 |@cons p q ps qs h t ih=>
  rw[aV,aV];refine .cons ?_ ih;obtain⟨h1,h2⟩:=h;by_cases e:p.1=k
  ·rw[if_pos e,if_pos (h1.symm.trans e)];exact⟨h1,ry⟩
  ·rw[if_neg e,if_neg (λz=>e (h1.trans z))];exact⟨h1,h2⟩
def KV.put{kvs:List (κ×V)}{vs:List (κ×aa)}(r:KV kvs vs)(k:κ){y:V}{u:aa}(ry:dA y u):KV (ma kvs k y) (stored vs k u):=by
 unfold ma stored;rw[r.any k];by_cases e:(vs.any λkv=>decide (kv.1=k))=true
 ·rw[if_pos e,if_pos e];exact r.repl k ry
 ·rw[if_neg e,if_neg e];exact Paired.snoc r ⟨rfl,ry⟩
def KV.keys{kvs:List (κ×V)}{vs:List (κ×aa)}(r:KV kvs vs):kvs.map (·.1)=vs.map (·.1):=by
 unfold KV at r
 induction r with
 |nil=>rfl
 |cons h t ih=>rw[aV,aV,ih,h.1]
def KV.length{kvs:List (κ×V)}{vs:List (κ×aa)}(r:KV kvs vs):kvs.length=vs.length:=Paired.length r
end
def C3{P:aW}{w:bK}{k:g8}{u:aa}(r:dA (kV k) u):(fL P w).is k u=true:=by
 cases k with
 |inl i=>obtain⟨t,e⟩:=(show ∃t,u=aa.int i t from r);subst e;exact F8 P w i t
 |inr x=>obtain⟨t,e⟩:=(show ∃t,u=aa.str x t from r);subst e;exact F9 P w x t
def C2{P:aW}{w:bK}:∀{ks:List g8} {us:List aa},c8 (ks.map kV) us->ItemsAre (fL P w) ks us
 |[],_,r=>by rw[de] at r;cases r;exact .nil
 |k::ks,_,r=>by
  rw[aV] at r;cases r with
  |cons h t=>exact .cons (C3 h) (C2 t)
abbrev KT(H:Hp):List (List g8×V)->List (List g8×ar×aa)->Prop:=Paired λp q=>p.1=q.1/\H q.2.1=some (.tup (p.1.map kV))/\dA p.2 q.2.2
def KT.val{H:Hp}{kvs:List (List g8×V)}{xs:List (List g8×ar×aa)}(r:KT H kvs xs)(k:List g8):rP (iN kvs k) ((atKey xs k).map (·.2)):=by
 induction r with
 |nil=>exact True.intro
 |@cons p q ps qs h t ih=>
  obtain⟨h1,_,h2⟩:=h;by_cases e:p.1=k
  ·have e':q.1=k:=h1.symm.trans e;have b:atKey (q::qs) k=some q.2:=by simp[atKey,gg,e']
   rw[iI e,b];exact h2
  ·have e':¬q.1=k:=λz=>e (h1.trans z);have b:atKey (q::qs) k=atKey qs k:=by simp[atKey,gg,e']
   rw[iH e,b];exact ih
def KT.repl{H:Hp}{kvs:List (List g8×V)}{xs:List (List g8×ar×aa)}(r:KT H kvs xs)(k:List g8){y:V}{u:aa}(ry:dA y u) :
  KT H (kvs.map λkv=>if kv.1=k then(kv.1,y) else kv) (xs.map (putAt k u)):=by
 induction r with
 |nil=>exact .nil
 |@cons p q ps qs h t ih=>
  rw[aV,aV];refine .cons ?_ ih;obtain⟨h1,h2,h3⟩:=h;unfold putAt;by_cases e:p.1=k
  ·rw[if_pos e,if_pos (h1.symm.trans e)];exact⟨h1,h2,ry⟩
  ·rw[if_neg e,if_neg (λz=>e (h1.trans z))];exact⟨h1,h2,h3⟩
def KT.put{H:Hp}{kvs:List (List g8×V)}{xs:List (List g8×ar×aa)}(r:KT H kvs xs)(k:List g8){b:ar}{y:V}{u:aa}(hb:H b=some (.tup (k.map kV)))(ry:dA y u) :
  KT H (ma kvs k y) (storedH xs k b u):=by
 have e:(kvs.any λkv=>decide (kv.1=k))=(atKey xs k).isSome:=by
  rw[sQ,(r.val k).isSome_eq,mY]
 unfold ma storedH;rw[e];by_cases q:(atKey xs k).isSome=true
 ·rw[if_pos q,if_pos q];exact r.repl k ry
 ·rw[if_neg q,if_neg q];exact Paired.snoc r ⟨rfl,hb,ry⟩
def KT.keeps{H H':Hp}{kvs:List (List g8×V)}{xs:List (List g8×ar×aa)}(r:KT H kvs xs)(ht:∀b ys,H b=some (.tup ys)->H' b=some (.tup ys)):KT H' kvs xs:=
 Paired.mapP r λ_ _ z=>⟨z.1,ht _ _ z.2.1,z.2.2⟩
section
variable{P:aW}{w:bK}{H:Hp}{h:Heap}{a:ar}
def Ss{u:HO}(ok:rp P w H h)(e:Rd H a u):fg P w H h a u:=e.ok ok
def CP{kvs:List (g8×V)}(ok:rp P w H h)(e:Rd H a (.dK kvs)):kvs.length<=av/\(a==iu)=false/\∃vs,KV kvs vs/\h.DictOf (fL P w) a vs:=
 show fg P w H h a (.dK kvs) from Ss ok e
def FK{kvs:List (g8×V)}(ok:rp P w H h)(e:H a=some (.dK kvs)):kvs.length<=av/\(a==iu)=false/\∃vs,KV kvs vs/\h.DictOf (fL P w) a vs:=CP ok (.inl e)
def Ab{ks:List g8}(ok:rp P w H h)(e:H a=some (.tup (ks.map kV))):(sV (fL P w)).is h ks a:=by
 obtain⟨_,its,r,o,h1,h2,n,h3⟩:=(show fg P w H h a (.tup (ks.map kV)) from ok a _ e);exact⟨o,its.toArray,n,h1,h2.1,h3,by simpa using C2 r⟩
def FL{kvs:List (List g8×V)}(ok:rp P w H h)(e:Rd H a (.dT kvs)):kvs.length<=av/\(a==iu)=false/\
  ∃xs,KT H kvs xs/\h.DictOfH (sV (fL P w)) a xs:=by
 obtain⟨z,y,xs,r,o,es,ep,h1,h2,h3,h4,h5⟩:=(show fg P w H h a (.dT kvs) from Ss ok e);refine⟨z,y,xs,r,o,es,ep,h1,h2,h3,h4,λx hx=>?_,h5⟩;have all:∀{l:List (List g8×V)} {m:List (List g8×ar×aa)},KT H l m->∀x∈m,(sV (fL P w)).is h x.1 x.2.1:=by
  intro l m q
  induction q with
  |nil=>intro x hx;exact nomatch hx
  |@cons p q ps qs hq t ih=>
   intro x hx;rcases aE.mp hx with e|hx
   ·subst e;exact Ab ok (by rw[<-hq.1];exact hq.2.1)
   ·exact ih x hx
 exact all r x hx
def Va{kvs:List (List g8×V)}(ok:rp P w H h)(e:H a=some (.dT kvs)):kvs.length<=av/\(a==iu)=false/\
  ∃xs,KT H kvs xs/\h.DictOfH (sV (fL P w)) a xs:=FL ok (.inl e)
end
def uZ(H:Hp)(a:ar)(y:V)(r:Option V):Prop:=
 (∃kvs k,Rd H a (.dK kvs)/\y=kV k/\r=iN kvs k)\/∃kvs k b,Rd H a (.dT kvs)/\y=.ref b/\H b=some (.tup (k.map kV))/\r=iN kvs k
def E7(H:Hp)(a:ar)(y v:V)(H':Hp):Prop:=
 (∃kvs k,H a=some (.dK kvs)/\y=kV k/\kvs.length<av/\H'=upd H a (.dK (ma kvs k v)))\/
 ∃kvs k b,H a=some (.dT kvs)/\y=.ref b/\H b=some (.tup (k.map kV))/\kvs.length<av/\H'=upd H a (.dT (ma kvs k v))
def uZ.k{H:Hp}{a:ar}{kvs:List (g8×V)}{k:g8}(e:H a=some (.dK kvs)):uZ H a (kV k) (iN kvs k):=.inl ⟨kvs,k,.inl e,rfl,rfl⟩
def E7.k{H:Hp}{a:ar}{kvs:List (g8×V)}{k:g8}{v:V}(e:H a=some (.dK kvs))(hl:kvs.length<av):E7 H a (kV k) v (upd H a (.dK (ma kvs k v))):=.inl ⟨kvs,k,e,rfl,hl,rfl⟩
section
variable{X:Cx}{pins:List (ar×Obj)}{σ:St}{H:Hp}{s:aq}{a:ar}{y v:V}{u r:aa}{o:Option V}{A:bj}{E:ZF}
def bY.big(I:bY X pins σ H s):iu<s.heap.objs.size:=by
 have h:aX<s.heap.objs.size:=(I.mod.glob.keeps I.bk).lt;exact pN (by decide) h
def La{Q:ZF}(hu:A.units+1<cLine)(I:bY X pins σ H s)(g:uZ H a y (some v))(ry:dA y u)(h:∀w' s',bY X pins σ H s'->dA v w'->Q w' s') :
  aO (model X.prog X.w) A (lT (.ref a) u) Q E s:=by
 rcases g with⟨kvs,k,e,ey,l⟩|⟨kvs,k,b,e,ey,eb,l⟩
 ·subst ey;obtain⟨z,hd,vs,rel,dd⟩:=CP I.hok e;obtain⟨w',hw,rw'⟩:=rP.some_of (v:=v) (o:=sW vs k) (by rw[l];exact rel.val k);exact wpAny_getItem_of (C3 ry) dd.mapOf hw (h w' _ (I.tok _) rw')
 ·subst ey;cases(show u=aa.ref b from ry);obtain⟨z,hd,xs,rel,dd⟩:=FL I.hok e;obtain⟨w',hw,rw'⟩:=rP.some_of (v:=v) (o:=(atKey xs k).map (·.2)) (by rw[l];exact rel.val k);obtain⟨p,hp,hp2⟩:=b4.mp hw;refine wpAny_getItem_heap (je hu) (Ab I.hok eb) dd hp ?_;rw[hp2];exact h w' _ (I.tok _) rw'
def Wc{Q:ZF}(hu:A.units+1<cLine)(I:bY X pins σ H s)(g:uZ H a y o)(ry:dA y u)(h:∀s',bY X pins σ H s'->Q (.bool o.isSome) s') :
  aO (model X.prog X.w) A (bP .In u (.ref a)) Q E s:=by
 rcases g with⟨kvs,k,e,ey,l⟩|⟨kvs,k,b,e,ey,eb,l⟩
 ·subst ey;obtain⟨z,hd,vs,rel,dd⟩:=CP I.hok e;refine wpAny_in_of (C3 ry) hd dd.mapOf ?_;rw[<-(rel.val k).isSome_eq,<-l];exact h _ (I.tok _)
 ·subst ey;cases(show u=aa.ref b from ry);obtain⟨z,hd,xs,rel,dd⟩:=FL I.hok e;refine wpAny_in_heap (je hu) (Ab I.hok eb) hd dd ?_;have q:=(rel.val k).isSome_eq;rw[mY] at q;rw[<-q,<-l];exact h _ (I.tok _)
def P6{Q:ZF}(hu:A.units+1<cLine)(I:bY X pins σ H s)(g:uZ H a y o)(ry:dA y u)(h:∀s',bY X pins σ H s'->Q (.bool (!o.isSome)) s') :
  aO (model X.prog X.w) A (bP .NotIn u (.ref a)) Q E s:=by
 rcases g with⟨kvs,k,e,ey,l⟩|⟨kvs,k,b,e,ey,eb,l⟩
 ·subst ey;obtain⟨z,hd,vs,rel,dd⟩:=CP I.hok e;refine wpAny_notIn_of (C3 ry) hd dd.mapOf ?_;rw[<-(rel.val k).isSome_eq,<-l];exact h _ (I.tok _)
 ·subst ey;cases(show u=aa.ref b from ry);obtain⟨z,hd,xs,rel,dd⟩:=FL I.hok e;refine wpAny_notIn_heap (je hu) (Ab I.hok eb) hd dd ?_;have q:=(rel.val k).isSome_eq;rw[mY] at q;rw[<-q,<-l];exact h _ (I.tok _)
def Ei{h':Heap}{t':Nat}{ob:HO}(I:bY X pins σ H s)(mu:U0 (H a))(hs:Heap.SameBut a s.heap h')(he:∃q,h'.get? a=some q)(new:fg X.prog X.w (upd H a ob) h' a ob) :
  bY X pins σ (upd H a ob) {s with heap:=h',toks:=t'}:=
 I.write (x:=a) (e:=a) mu (.inl rfl) (λb q hb z=>(hs.2 b hb).trans z) he new
def Nq{P:aW}{w:bK}{H':Hp}{h':Heap}{kvs:List (g8×V)}{vs:List (g8×aa)}(z:kvs.length<=av)(hd:(a==iu)=false)(rel:KV kvs vs)(dd:h'.DictOf (fL P w) a vs) :
  fg P w H' h' a (.dK kvs):=⟨z,hd,vs,rel,dd⟩
def Lh{H':Hp}{Q:Unit->aq->Prop}(hu:A.units+1<cLine)(I:bY X pins σ H s)(g:E7 H a y v H')(ry:dA y u)(rv:dA v r)(h:∀s',bY X pins σ H' s'->Q () s') :
  aO (model X.prog X.w) A (setItem (.ref a) u r) Q E s:=by
 rcases g with⟨kvs,k,e,ey,l,eH⟩|⟨kvs,k,b,e,ey,eb,l,eH⟩
 ·subst ey eH;obtain⟨z,hd,vs,rel,dd⟩:=FK I.hok e;have hz:vs.length<=av:=by rw[<-rel.length];exact z
  have hl:(ma kvs k v).length<=av:=by have:=rX kvs k v;lia
  refine wpAny_setItem_pairs (hsz:=hz) (C3 ry) dd λh' dd' hs=>h _ ?_;have he:∃q,h'.get? a=some q:=let⟨q,_,_,hq,_⟩:=dd';⟨q,hq⟩;exact Ei I (by rw[e];exact True.intro) hs he (Nq hl hd (rel.put k rv) dd')
 ·subst ey eH;cases(show u=aa.ref b from ry);obtain⟨z,hd,xs,rel,dd⟩:=Va I.hok e;have hz:xs.length<=av:=by rw[<-Paired.length rel];exact z
  have hl:(ma kvs k v).length<=av:=by have:=rX kvs k v;lia
  refine wpAny_setItem_heap (hsz:=hz) (je hu) (Ab I.hok eb) dd λh' dd' hs=>h _ ?_;obtain⟨q,es,ep,hq,h2,h3,h4,_,h5⟩:=dd';refine Ei I (by rw[e];exact True.intro) hs ⟨q,hq⟩ ⟨hl,hd,_,(rel.put k eb rv).keeps λc ys ec=>?_,q,es,ep,hq,h2,h3,h4,h5⟩;rw[aK (Sf ec e (λz=>nomatch z))];exact ec
end
section
variable{X:Cx}{pins:List (ar×Obj)}{σ:St}{H:Hp}{s:aq}{a:ar}{kvs:List (g8×V)}{k:g8}{u:aa}{A:bj}{E:ZF}
end
def SG(i:Expr):Prop:=∀ov iv,subscripted i false ov iv=operate [ov,iv] (lT ov iv)
def RN{prog:aW}{w:bK}{A:bj}{E:ZF}{s:aq}{env:Env}{value slice:Expr}{pos:Pos}{T id:String}{Q:ZF}
  (hl:pK (.type T) "__getitem__"=pure (some (.builtin id))) (hs:SG slice)
  (h:aO (model prog w) A (eval value env) (λo s₁=>aO (model prog w) A (eval slice env) (λi s₂=>s₂.TypeIs o T/\aO (model prog w) A (lT o i) Q E s₂) E s₁) E s) :
  aO (model prog w) A (eval (.Subscript value slice pos) env) Q E s:=by
 refine Subscript_ (dh h (λo s₁ h₁=>dh h₁ (λi s₂ h₂=>?_) λ_ _ x=>x) λ_ _ x=>x);obtain⟨hT,h₂⟩:=h₂;unfold subscriptTail;refine ag ?_;rw[getitemInPython_of_ne hT.not_modules];refine ag (wpAny_specialOf hT hl ?_);have fin:aO (model prog w) A (subscripted slice false o i) (λr s₃=>aO (model prog w) A (letTemporaryGo value o r >>= λ_=>pure r) Q E s₃) E s₂:=by
  rw[hs o i];exact wpAny_operating (dh h₂ (λr s₃ h₃=>ag (wpAny_letTemporaryGo (aC h₃))) λ_ _ x=>x)
 first
  |exact aC (ag fin)
  |exact ag (aC (ag fin))
  |exact ag fin
def FI{X:Cx}{pins:List (ar×Obj)}{σ:St}{H:Hp}{s:aq}{a:ar}{y:V}{o:Option V}(I:bY X pins σ H s)(g:uZ H a y o):s.TypeIs (.ref a) "dict":=by
 rcases g with⟨kvs,k,e,_,_⟩|⟨kvs,k,b,e,_,_,_⟩
 ·obtain⟨_,_,vs,_,dd⟩:=CP I.hok e;exact dd.typeIs
 ·obtain⟨_,_,xs,_,dd⟩:=FL I.hok e;exact dd.typeIs
def OX(td ty:TE):TE:=λσ H Q=>td σ H λx H1=>ty σ H1 λy H2=>∃a v,x=.ref a/\uZ H2 a y (some v)/\Q v H2
section
variable{X:Cx}{o i e value:Expr}{pos pos' tpos:Pos}{td ty tv:TE}
def QP(hu:X.A.units+1<cLine)(ho:PE X o td)(hi:PE X i ty)(hs:SG i):PE X (.Subscript o i pos) (OX td ty):=by
 intro pins s σ H Q I h;refine RN PySem.F.slot_dict_getitem.lookup hs (fk (ho pins s σ H _ I h) λu s1 ⟨x,H1,I1,rx,q1⟩=>fk (hi pins s1 σ H1 _ I1 q1) λiv s2 ⟨y,H2,I2,ry,a,v,ex,g,q2⟩=>?_);subst ex;obtain rfl:u=aa.ref a:=rx;exact⟨FI I2 g,La hu I2 g ry λw' s3 I3 rw'=>⟨v,H2,I3,rw',q2⟩⟩
end
def FJ{P:aW}{w:bK}{H:Hp}(h:Heap)(hb:iu<h.objs.size):fg P w H (h.push {cls:=.type "dict",data:=.dict #[]}) h.objs.size (.dK []):=
 ⟨cA _,beq_eq_false_iff_ne.mpr (Ne.symm (bu hb)),[],.nil,Heap.DictOf.new h⟩
def AU:TE:=λ_ H Q=>∀p,H p=none->Q (.ref p) (upd H p (.dK []))
section
variable{X:Cx}{pos:Pos}
def Oe:PE X (.Dict [] [] pos) AU:=λpins s σ H Q I h=>
 wpAny_Dict_empty ⟨.ref s.heap.objs.size,_,I.laid (a:=s.heap.objs.size) (o:=.dK []) (t':=s.toks) (λ_ _ q=>az _ q) (aD _) (FJ s.heap I.big),rfl,h _ (I.hok.fresh (aD _))⟩
end
def Jj:List (TE×TE)->St->Hp->(List (V×V)->Hp->Prop)->Prop
 |[],_,H,Q=>Q [] H
 |(tk,tv)::r,σ,H,Q=>tk σ H λx H1=>tv σ H1 λy H2=>Jj r σ H2 λps H3=>Q ((x,y)::ps) H3
abbrev VV:List (V×V)->List (aa×aa)->Prop:=Paired λp q=>dA p.1 q.1/\dA p.2 q.2
def U2(X:Cx)(pos:Pos)(keys:List (Option Expr))(values:List Expr)(trs:List (TE×TE)):Prop:=
 ∀(pins:List (ar×Obj)) (s:aq) (σ:St) (H:Hp) (Q:List (V×V)->Hp->Prop),bY X pins σ H s->Jj trs σ H Q->
  aO (model X.prog X.w) X.A (evalPairs (pairTrees keys values X.env pos)) (λvs s'=>∃ps H',bY X pins σ H' s'/\VV ps vs/\Q ps H') X.xe s
def Q7{X:Cx}{pos:Pos}:U2 X pos [] [] []:=λpins s σ H Q I h=>pairTrees_nil_walk ⟨[],H,I,.nil,h⟩
def On{X:Cx}{pos:Pos}{k v:Expr}{ks:List (Option Expr)}{vs:List Expr}{tk tv:TE}{trs:List (TE×TE)}(hk:PE X k tk)(hv:PE X v tv)(hr:U2 X pos ks vs trs) :
  U2 X pos (some k::ks) (v::vs) ((tk,tv)::trs):=λpins s σ H Q I h=>
 pairTrees_cons_walk (fk (hk pins s σ H _ I h) λu s1 ⟨x,H1,I1,rx,q1⟩=>fk (hv pins s1 σ H1 _ I1 q1) λw2 s2 ⟨y,H2,I2,ry,q2⟩=>
  fk (hr pins s2 σ H2 _ I2 q2) λws s3 ⟨ps,H3,I3,rel,q3⟩=>⟨(x,y)::ps,H3,I3,.cons ⟨rx,ry⟩ rel,q3⟩)
def sd(kvs more:List (g8×V)):List (g8×V):=more.foldl (λacc kv=>ma acc kv.1 kv.2) kvs
def KV.merge:∀{more:List (g8×V)} {rs:List (g8×aa)} {kvs:List (g8×V)} {vs:List (g8×aa)},KV more rs->KV kvs vs->KV (sd kvs more) (merged vs rs):=by
 intro more rs kvs vs r;unfold KV at r
 induction r generalizing kvs vs with
 |nil=>intro q;exact q
 |@cons p q ps qs h t ih=>
  intro r0;have e:KV (ma kvs p.1 p.2) (stored vs q.1 q.2):=by
   have:=r0.put p.1 h.2;rw[<-h.1];exact this
  exact ih e
def tT:∀(more kvs:List (g8×V)),(sd kvs more).length<=kvs.length+more.length
 |[],kvs=>by show kvs.length<=kvs.length+0;lia
 |p::r,kvs=>by
  have h1:=tT r (ma kvs p.1 p.2);have h2:=rX kvs p.1 p.2;show(sd (ma kvs p.1 p.2) r).length<=_;rw[aI];lia
def zH{P:aW}{w:bK}:∀{kvs:List (g8×V)} {ws:List (aa×aa)},VV (kvs.map λkv=>(kV kv.1,kv.2)) ws->∃rs,Carries (fL P w) ws rs/\KV kvs rs
 |[],_,r=>by rw[de] at r;cases r;exact⟨[],True.intro,.nil⟩
 |p::kvs,_,r=>by
  rw[aV] at r;cases r with
  |@cons a b as bs h t=>
   obtain⟨rs,c,q⟩:=zH (P:=P) (w:=w) t;obtain⟨b1,b2⟩:=b;exact⟨(p.1,b2)::rs,⟨C3 h.1,rfl,c⟩,.cons ⟨rfl,h.2⟩ q⟩
def OY(trs:List (TE×TE)):TE:=λσ H Q=>∀p,H p=none->Jj trs σ (upd H p (.dK [])) λps H2=>H2 p=some (.dK [])/\∃kvs:List (g8×V),ps=kvs.map (λkv=>(kV kv.1,kv.2))/\kvs.length<=15/\Q (.ref p) (upd H2 p (.dK (sd [] kvs)))
def QQ{X:Cx}{pos:Pos}{keys:List (Option Expr)}{values:List Expr}{trs:List (TE×TE)}(h:U2 X pos keys values trs)(hall:keys.all (·.isSome)=true)(hl:keys.length=values.length)(h0:keys≠[])
  (h15:keys.length<=15):PE X (.Dict keys values pos) (OY trs):=by
 intro pins s σ H Q I q;have hn:=I.hok.fresh (aD s.heap.objs.size);have I1:=I.laid (a:=s.heap.objs.size) (o:=.dK []) (h':=s.heap.push {cls:=.type "dict",data:=.dict #[]}) (t':=s.toks) (λ_ _ q=>az _ q) (aD _) (FJ s.heap I.big);refine wpAny_Dict_walk (knd:=fL X.prog X.w) hall hl h0 h15 (fk (h pins _ σ _ _ I1 (q _ hn)) λws s2 ⟨ps,H2,I2,rel,e,kvs,ep,lk,q2⟩=>?_);subst ep;obtain⟨rs,c,rk⟩:=zH (P:=X.prog) (w:=X.w) rel;obtain⟨z,hd,vs0,r0,dd⟩:=FK I2.hok e;cases r0;refine⟨rs,c,dd,λh' dd' hs=>⟨.ref s.heap.objs.size,_,?_,rfl,q2⟩⟩;have hz:(sd [] kvs).length<=av:=by
  have h1:=tT kvs [];rw[lz] at h1;rw[gk];lia
 have he:∃q,h'.get? s.heap.objs.size=some q:=let⟨q,_,_,hq,_⟩:=dd';⟨q,hq⟩;exact Ei I2 (by rw[e];exact True.intro) hs he (Nq hz hd (rk.merge .nil) dd')
section
variable{X:Cx}{pins:List (ar×Obj)}{σ:St}{H:Hp}{s:aq}{a:ar}{y d:V}{u r:aa}{o:Option V}{A:bj}{E:ZF}
end
section
variable{X:Cx}{o e f:Expr}{apos cpos:Pos}{td ty tx:TE}
end
section
variable{X:Cx}{pins:List (ar×Obj)}{σ:St}{H:Hp}{s:aq}{a:ar}{kvs:List (g8×V)}{A:bj}{E:ZF}
end
section
variable{X:Cx}{pins:List (ar×Obj)}{σ:St}{H:Hp}{s:aq}{a:ar}{y:V}{u:aa}{A:bj}{E:ZF}
end
section
variable{X:Cx}
end
section
variable{κ:Type}[DecidableEq κ]
def yR:∀{l:List κ} {k:κ},l.Nodup->¬k∈l->(l++[k]).Nodup
 |[],k,_,_=>by simp
 |a::r,k,h,hk=>by
  obtain⟨h1,h2⟩:=dw.mp h;show(a::(r++[k])).Nodup;refine dw.mpr ⟨λm=>?_,yR h2 λm=>hk (aE.mpr (Or.inr m))⟩;rcases aT.mp m with q|q
  ·exact h1 q
  ·exact hk (aE.mpr (Or.inl (aw.mp q).symm))
end
structure SD(fs:List ar)(e T:ar)(fl:aa)(T':ar)(h h':Heap):Prop where
 keep:∀b o,h.get? b=some o->b≠e->b≠T->b∉fs->h'.get? b=some o
 slot:∀b o,h.get? b=some o->b≠e->b≠T->∃sl,h'.get? b=some {o with slots:=sl}
 exc:∀o,h.get? e=some o->h'.get? e=some (Obj.mapFields (·.setIfInBounds 1 (.ref T')) o)
 old:T≠e->∀o,h.get? T=some o->∃o' us,h'.get? T=some o'/\o'.data=.fields us/\us[3]?=some .none
 new:h.objs.size<=T'
 tb:∃oT ts,h'.get? T'=some oT/\oT.data=.fields ts/\ts[3]?=some fl
section
variable{M:Model}{A:bj}{E:ZF}{s:aq}{base:Heap}{env:Env}{outer:List Env}{L e T:ar}{oe:Obj}{vs:Array aa}
def Hd{head:aa}{hn:Bool}{Q:Unit->aq->Prop}(hfr:A.frames=some (env::outer))(hl:s.heap.FunFrames base (env::outer))(hf:env.frame=some L)
  (he:s.heap.get? e=some oe) (hd:oe.data=.fields vs) (hz:1<vs.size) (h:∀h' T',SD (E2 (env::outer)) e e (mi L) T' s.heap h'->Q () {s with heap:=h'}) :
  aO M A (frameOf env >>= λa=>entryPlaceOf L hn >>= λpl=>EntryCells.newEntry head a .none (mi L) .none pl >>= λb=>setField (.ref e) 1 b) Q E s:=by
 have nf:e∉E2 (env::outer):=λz=>by
  obtain⟨_,o,q,k⟩:=hl.mem z;rw[he] at q;cases q;exact k vs hd
 refine ag (wpAny_frameOf_fun hfr hl hf λh1 s1=>ag (wpAny_entryPlaceOf λpl ip=>?_));unfold EntryCells.newEntry newFields;refine ag (d6 ?_ (ip.sizeOk5 _ _ _ _ _));have e1:h1.get? e=some oe:=(s1.2.1 e nf).trans he;refine mw (az _ e1) hd hz (h _ h1.objs.size ?_);have te:h1.objs.size≠e:=jN (aP e1);have dd:=Obj.data_mapFields hd (·.setIfInBounds 1 (aa.ref h1.objs.size));have kk:∀(on:Obj) b o,b≠e->h1.get? b=some o->((h1.push on).update e (Obj.mapFields (·.setIfInBounds 1 (aa.ref h1.objs.size)))).get? b=some o:=λon b o n q=>by
  rw[cx _ _ (Ne.symm n)];exact az _ q
 refine⟨λb o q n _ nb=>kk _ b o n ((s1.2.1 b nb).trans q),λb o q n _=>?_,λo q=>?_,λn=>absurd rfl n,Nat.le_of_eq s1.1.symm,?_⟩
 ·obtain⟨sl,z⟩:=s1.2.2 b o q;exact⟨sl,kk _ b _ n z⟩
 ·rw[he] at q;cases q;exact dE _ (az _ e1) (Obj.isFreed_of_fields dd)
 ·refine⟨_,_,(cx _ _ (Ne.symm te)).trans (aZ h1 rfl),rfl,?_⟩;rcases ip with rfl|⟨_,_,_,_,_,_,_,rfl⟩<;>simp
def IJ{Q:Unit->aq->Prop}(hfr:A.frames=some (env::outer))(hl:s.heap.FunFrames base (env::outer))(hf:env.frame=some L)
  (he:s.heap.get? e=some oe) (hd:oe.data=.fields vs) (h1:vs[1]?=some .none) (h:∀h' T',SD (E2 (env::outer)) e e (mi L) T' s.heap h'->Q () {s with heap:=h'}) :
  aO M A (jq (.ref e) env) Q E s:=by
 unfold jq;simp only[hf];refine ag (ff he hd h1 ?_);rw[if_neg (by decide)];exact Hd hfr hl hf he hd (bN.mp h1).1 h
def LS{oT:Obj}{ts:Array aa}{Q:Unit->aq->Prop}(hfr:A.frames=some (env::outer))(hl:s.heap.FunFrames base (env::outer))(hf:env.frame=some L)
  (he:s.heap.get? e=some oe) (hd:oe.data=.fields vs) (h1:vs[1]?=some (.ref T)) (hT:s.heap.get? T=some oT) (hdT:oT.data=.fields ts) (h3:ts[3]?=some .none) (hne:T≠e)
  (h:∀h' T',SD (E2 (env::outer)) e T (mi L) T' s.heap h'->Q () {s with heap:=h'}):aO M A (jq (.ref e) env) Q E s:=by
 unfold jq;simp only[hf];refine ag (ff he hd h1 ?_);rw[if_pos (show(aa.ref T != aa.none)=true from by simp)];refine ag (ff hT hdT h3 ?_);rw[if_neg (show ¬((aa.none==mi L)=true) from by simp[mi])];refine ag (mw hT hdT (bN.mp h3).1 ?_);have ot:∀b,b≠T->(s.heap.update T (Obj.mapFields (·.setIfInBounds 3 aa.none))).get? b=s.heap.get? b:=λb n=>cx _ _ (Ne.symm n);have nT:∀b o,s.heap.get? b=some o->(∀ws,o.data≠.fields ws)->b≠T:=λb o q k z=>by
  rw[z,hT] at q;cases q;exact k ts hdT
 have dT:=Obj.data_mapFields hdT (·.setIfInBounds 3 aa.none);have gT:=dE (Obj.mapFields (·.setIfInBounds 3 aa.none)) hT (Obj.isFreed_of_fields dT);refine Hd (s:={s with heap:=s.heap.update T (Obj.mapFields (·.setIfInBounds 3 aa.none))}) hfr (hl.of_keeps λb o q k=>⟨o,(ot b (nT b o q k)).trans q,rfl⟩) hf ((ot e (Ne.symm hne)).trans he) hd
  (bN.mp h1).1 λh' T' x=>h h' T' ⟨λb o q n m nb=>?_,λb o q n m=>?_,λo q=>?_,λ_ o q=>?_,?_,x.tb⟩
 ·exact x.keep b o ((ot b m).trans q) n n nb
 ·exact x.slot b o ((ot b m).trans q) n n
 ·exact x.exc o ((ot e (Ne.symm hne)).trans q)
 ·obtain⟨sl,z⟩:=x.slot T _ gT hne hne;exact⟨_,_,z,dT,by simp[(bN.mp h3).1]⟩
 ·have:=x.new
  rwa [show(s.heap.update T (Obj.mapFields (·.setIfInBounds 3 aa.none))).objs.size=s.heap.objs.size from Heap.size_after_update ..] at this
def Ek{oT:Obj}{ts:Array aa}{Q:Unit->aq->Prop}(he:s.heap.get? e=some oe)(hd:oe.data=.fields vs)(h1:vs[1]?=some (.ref T))(hT:s.heap.get? T=some oT)(hdT:oT.data=.fields ts)(h3:3<ts.size)
  (h:∀h',(∀b,b≠T->h'.get? b=s.heap.get? b)->h'.objs.size=s.heap.objs.size->(∃o us,h'.get? T=some o/\o.data=.fields us/\us[3]?=some .none)->Q () {s with heap:=h'}):aO M A (sU (.ref e) none) Q E s:=by
 refine wpAny_setFlight_none he hd h1 hT hdT h3 (h _ (λb n=>cx _ _ (Ne.symm n)) (Heap.size_after_update ..) ?_);have dT:=Obj.data_mapFields hdT (·.setIfInBounds 3 aa.none);exact⟨_,_,dE _ hT (Obj.isFreed_of_fields dT),dT,by simp[h3]⟩
def SD.land{fs:List ar}{fl:aa}{T':ar}{h h1 h2:Heap}(x:SD fs e T fl T' h h1)(hT:∃o,h.get? T=some o)(he:∃o,h.get? e=some o)(k:∀b,b≠T'->h2.get? b=h1.get? b)(t:∃o us,h2.get? T'=some o/\o.data=.fields us/\us[3]?=some .none):SD fs e T .none T' h h2:=by
 have lt:∀b o,h.get? b=some o->b≠T':=λb o q z=>by
  have:=aP q;have:=x.new;rw[z] at *;exact absurd (bh ‹T'<_› ‹_›) (cQ _)
 refine⟨λb o q n m f=>(k b (lt b o q)).trans (x.keep b o q n m f),λb o q n m=>?_,λo q=>(k e (lt e o q)).trans (x.exc o q),λn o q=>?_,x.new,t⟩
 ·obtain⟨sl,z⟩:=x.slot b o q n m;exact⟨sl,(k b (lt b o q)).trans z⟩
 ·obtain⟨o',us,z,y⟩:=x.old n o q;exact⟨o',us,(k T (lt T o q)).trans z,y⟩
end
open Builtin Builtin.ObjectAttr
abbrev HV:List aa:=[.type "ValueError",.type "Exception",.type "BaseException",.type "object"]
section
variable{prog:aW}{w:bK}{A:bj}{E:ZF}{h:Heap}{g:Array rB}{d:Drawn}{t:Nat}{os:OsState}
variable{nm q:Str}{C N B:ar}{bs:List aa}{hdct:Bool}{sn:List Str}{sub:List aa}{ab:Bool}{col:Option Bool}{dd:Option ar}{k0 k1 k2 k3 k5:Option aa}
abbrev Jz(nm q:Str)(C N B:ar)(bs:List aa)(hdct:Bool)(sn:List Str)(sub:List aa)(ab:Bool)(col:Option Bool)(dd:Option ar)(k0 k1 k2 k3 k5:Option aa):Obj:=
 jo nm q C N bs (.ref B::HV) hdct sn sub ab col dd k0 k1 k2 k3 k5 "ValueError.__new__"
def JB(v:aa)(hv:HV.contains v=true):(aa.ref C::aa.ref B::HV).contains v=true:=by
 rw[gW,gW,hv,Bool.or_true,Bool.or_true]
def Pg(T:String)(hv:HV.contains (.type T)=false):(aa.ref C::aa.ref B::HV).contains (.type T)=false:=by
 rw[gW,gW,hv];rfl
def Pm{M:Model}{rest:List aa}{Q:Unit->aq->Prop}(hC:h.get? C=some (Jz nm q C N B bs hdct sn sub ab col dd k0 k1 k2 k3 k5))(hq:Q () ⟨h,g,d,t,os⟩) :
  aO M A (gH "ValueError.__new__" ⟨.ref C::rest,[]⟩) Q E ⟨h,g,d,t,os⟩:=by
 have F:=iy;have c1:=JB (C:=C) (B:=B) (.type "ValueError") rfl;have st:=F.noStar;simp only[gH,F.newKind,F.newSplit,F.newRow]
 repeat (first|refine d5 hC ?_|(refine fJ hC ?_;rw[c1])|refine wpAny_staticBase_exc hC ?_|refine wpAny_madeBy_exc hC ?_|simp only[bne_self_eq_false,Bool.false_eq_true,if_false]|wp_step)
 exact hq
def UP{R:Result->aq->Prop}{rest:List aa}(hC:h.get? C=some (Jz nm q C N B bs hdct sn sub ab col dd k0 k1 k2 k3 k5))(hz:rest.length<=av)
  (hq:R (.ok (.ret (.ref (h.objs.size+1)))) ⟨(h.push {cls:=.type "tuple",data:=.seq rest.toArray}).push {cls:=.ref C,data:=.fields #[.ref h.objs.size,.none,.none,.none,.bool false,.none]},g,d,t,os⟩) :
  ig (model prog w) A (.builtin "ValueError.__new__" ⟨.ref C::rest,[]⟩) R ⟨h,g,d,t,os⟩:=by
 have F:=iy;have en:=F.ends;have c1:=JB (C:=C) (B:=B) (.type "ValueError") rfl;have c2:=Pg (C:=C) (B:=B) "AttributeError" rfl;have c3:=Pg (C:=C) (B:=B) "NameError" rfl;refine codeAny_builtinAt F.entry ?_;unfold Builtin.«BaseException.__new__»;refine PySem.wpAt_bind ?_;show PySem.wpAt _ _ _ (stack >>= _) _ _ _;refine PySem.wpAt_bind (PySem.wpAt_stack λp below=>PySem.wpAt_of_wpAny ?_)
 wp_walk
 refine PySem.wpAt_of_wpAny ?_;rw[F.owner]
 repeat (first|with_reducible refine wpAny_madeHere_exc F.canon hC ?_|with_reducible refine d5 hC ?_|(with_reducible refine fJ hC ?_;first|rw[c1]|rw[c2]|rw[c3])|wp_step)
 show R _ _;rw[d7];exact hq
abbrev JA(C t:ar):Obj:={cls:=.ref C,data:=.fields #[.ref t,.none,.none,.none,.bool false,.none]}
def RT{rest:List aa}{fI:ar}{oI:Obj}{Q:ZF}(hC:h.get? C=some (Jz nm q C N B bs hdct sn sub ab col dd k0 k1 k2 k3 k5))
  (hi:∀h',(∀b o,h.get? b=some o->h'.get? b=some o)->PySem.W.Looks (model prog w) h' (pK (.ref C) "__init__") (some (.ref fI))) (hf:h.get? fI=some oI) (hfc:oI.cls=.type "function") (hz:rest.length<=av)
  (hq:aO (model prog w) (A.under (.builtin "type.__call__" ⟨.ref C::rest,[]⟩)) (call (.ref fI) (.ref (h.objs.size+1)::rest)) (λr s'=>r=.none/\Q (.ref (h.objs.size+1)) s') E
   ⟨(h.push {cls:=.type "tuple",data:=.seq rest.toArray}).push (JA C h.objs.size),g,d,t,os⟩) :
  aO (model prog w) A (call (.ref C) rest) Q E ⟨h,g,d,t,os⟩:=by
 have F:=iy;have f1:=tc_lookup;have f2:=tc_bind (.ref C);have hT:(⟨h,g,d,t,os⟩:aq).TypeIs (.ref C) "type":=⟨_,hC,rfl⟩;refine iw (lq ?_);show aO _ _ (callAny (.ref C) _) _ _ _
 repeat (any_goals (first|assumption|with_reducible refine d5 hC ?_|wp_step))
 refine⟨rfl,?_⟩;refine codeAny_call_builtin_at (Code.quiet_builtin _ (by decide +kernel)) entry_typeCall (wpAny_check_type_call_sub hC ?_)
 repeat (first|with_reducible refine d5 hC ?_|with_reducible refine wpAny_madeBy_exc hC ?_|wp_step)
 refine codeAny_call_builtin_code (Code.quiet_builtin _ F.quiet) (Pm hC ?_);refine UP hC hz ?_;show aO _ _ _ _ _ _;have kp:∀b o,h.get? b=some o->((h.push {cls:=.type "tuple",data:=.seq rest.toArray}).push (JA C h.objs.size)).get? b=some o:=λb o e=>az _ (az _ e);have hC1:=kp _ _ hC;have gx:((h.push {cls:=.type "tuple",data:=.seq rest.toArray}).push (JA C h.objs.size)).get? (h.objs.size+1)=some {cls:=.ref C,data:=.fields #[.ref h.objs.size,.none,.none,.none,.bool false,.none]}:=by heap_get
 have cC:(aa.ref C::aa.ref B::HV).contains (.ref C)=true:=by simp
 unfold pJ
 repeat (first|with_reducible refine d5 gx ?_|wp_step)
 refine fJ hC1 ?_;rw[cC]
 repeat wp_step
 show aO _ _ (pK (.ref C) _) _ _ _;refine(hi _ kp).here ?_;refine cw (ag ?_);unfold bindSpecial;refine ag (pL (T:="function") ⟨_,kp _ _ hf,hfc⟩ ?_);rw[if_pos (by decide)];refine aC (ag (dh hq (λr s' hr=>?_) λ_ _ x=>x));obtain⟨rfl,hQ⟩:=hr
 wp_walk
 exact hQ
def Ph{M:Model}{env:Env}{s:aq}{x:Sem aa}{Q:Flow->aq->Prop}(hh:A.handled=none)
  (hx:aO M A x (λv s1=>∃(e:ar) (od:Option ar) (u:ar) (sl:Array (Option aa)) (C:ar) (nm q:Str) (N B:ar) (bs:List aa) (hdct:Bool) (sn:List Str) (sub:List aa) (ab:Bool) (col:Option Bool) (dd:Option ar) (k0 k1 k2 k3 k5:Option aa),v=.ref e/\s1.heap.get? C=some (Jz nm q C N B bs hdct sn sub ab col dd k0 k1 k2 k3 k5)/\
   s1.heap.get? e=some ⟨.ref C,od,.fields #[.ref u,.none,.none,.none,.bool false,.none],sl⟩/\E (.ref e) s1) E s):aO M A (raiseStmt env (some x) none) Q E s:=by
 unfold raiseStmt;refine ag (dh hx (λv s1 h1=>?_) λ_ _ x=>x);obtain⟨e,od,u,sl,C,nm,q,N,B,bs,hdct,sn,sub,ab,col,dd,k0,k1,k2,k3,k5,rfl,hC,he,hE⟩:=h1;have c1:=JB (C:=C) (B:=B) (.type "BaseException") rfl;obtain⟨hp,g,d,tk,os⟩:=s1
 repeat (first|with_reducible refine d5 he ?_|with_reducible refine d5 hC ?_|(with_reducible refine fJ hC ?_;rw[c1])|wp_step)
 exact wpAny_raiseNew_none hh hE
end
end L2
end
section
namespace L2
open PySem PySem.Spec PyProof.Rows PySem.W
section
variable{prog:aW}{w:bK}{A:bj}{E:ZF}{s:aq}{K:Fg}{x C D:ar}{ox od:Obj}{odo:Option Obj}{name:Str}
abbrev SY:aa:=.builtin "BaseException.__getattribute__"
def MB{tk:Tok}{A:bj}{E:ZF}{Q:Unit->aq->Prop}(X:K.In s.heap)(I:InstAt s.heap x ox C odo)(hb:mroIn K C (.type "BaseException")=some true)(hq:Q () s) :
  aO (model prog w) A (gH "BaseException.__getattribute__" ⟨[.ref x,.str name tk],[]⟩) Q E s:=by
 have L0:=I.type (M:=model prog w);have LI:Looks (model prog w) s.heap (pJ (.ref x) (.type "BaseException")) true:=L0.andThen (looks_mroIn X hb);have hk:builtinKind "BaseException.__getattribute__"=some .slot:=by decide +kernel
 have hsplit:splitId "BaseException.__getattribute__"=some ("BaseException","__getattribute__"):=by decide +kernel
 have ha:=F.args_bexc_ga (.ref x) (.str name tk);simp only[gH,hk,hsplit];refine ag ?_;refine LI.here ?_
 repeat (any_goals (first|assumption|wp_step))
def Pk{tk:Tok}{fill expr:Bool}{v:aa}{s2:aq}{Q:ZF}(X:K.In s.heap)(I:InstAt s.heap x ox C odo)(ga:findIn K (.ref C) "__getattribute__"=some (some SY))(gh:findIn K (.ref C) "__getattr__"=some none)(hb:mroIn K C (.type "BaseException")=some true)
  (hv:handedIn v=true) (h:∀A',aO (model prog w) A' (Builtin.«object.__getattribute__» ⟨[.ref x,.str name tk],[]⟩) (λfin s'=>fin=.done (.ret v)/\s'=s2) (λ_ _=>False) s) (q:Q v s2) :
  aO (model prog w) A (getAttrBy (.ref x) (.str name tk) fill expr) Q E s:=by
 have L0:=I.type (M:=model prog w);have L1:=looks_findIn (M:=model prog w) X ga;have L2:=looks_findIn (M:=model prog w) X gh;have hx2:(SY==aa.builtin "object.__getattribute__")=false:=by decide +kernel
 unfold getAttrBy;refine cw (ag (L0.here (ag (L1.here ?_))));show aO _ _ (if(onTheHeap (.ref C)&&(SY==aa.builtin "object.__getattribute__"))=true then _ else _) _ _ _;rw[if_neg (by rw[hx2,Bool.and_false];exact Bool.noConfusion)];unfold getAttrByItsOwn hookBefore callGetattribute boundAndCalled;refine ag ?_;show aO _ _ (pK (.ref C) "__getattr__") _ _ _;refine L2.here ?_;refine ag (nJ (cw ?_));rw[if_neg (by cases expr<;>exact Bool.noConfusion)];refine ag (kR (F.attr_ValueError.ga.bind _) ?_);refine dh (Q:=λu s'=>u=v/\s'=s2) (E:=λ_ _=>False) (iw (gi F.attr_ValueError.ga.plain F.entry_bexc_ga (MB X I hb (dh (h _) (λfin s' z=>?_) λ_ _ z=>z.elim)))) (λu s' z=>?_) λ_ _ z=>z.elim
 ·obtain⟨rfl,rfl⟩:=z;exact⟨rfl,rfl⟩
 ·obtain⟨rfl,rfl⟩:=z;show aO _ _ (handedOut u) _ _ _;rw[handedOut_of hv];exact aC q
def MC{tk:Tok}{v:aa}{A':bj}{E:ZF}(X:K.In s.heap)(I:InstAt s.heap x ox C odo)(hf:findObj K C odo name=some (.value v)) :
  aO (model prog w) A' (Builtin.«object.__getattribute__» ⟨[.ref x,.str name tk],[]⟩) (λfin s'=>fin=.done (.ret v)/\s'=s) E s:=by
 have L0:=I.type (M:=model prog w);have L1:=looks_find (M:=model prog w) X I hf;unfold Builtin.«object.__getattribute__»;refine ag (kR (show slotArgs _ _ _=pure (.ref x,[.str name tk]) from rfl) ?_);refine ag (aC (ag (L0.here (ag (L1.here ?_)))));exact aC ⟨rfl,rfl⟩
def JC{v:aa}{expr:Bool}{Q:ZF}(X:K.In s.heap)(I:InstAt s.heap x ox C odo)(ga:findIn K (.ref C) "__getattribute__"=some (some SY))(gh:findIn K (.ref C) "__getattr__"=some none)(hb:mroIn K C (.type "BaseException")=some true)
  (hf:findObj K C odo name=some (.value v)) (hh:handedIn v=true) (h:Q v {s with toks:=s.toks+1}):aO (model prog w) A (getAttr (.ref x) name expr) Q E s:=by
 unfold getAttr;refine ag (wpAny_mkText ?_);exact Pk (s:={s with toks:=s.toks+1}) X I ga gh hb hh (λA'=>MC (s:={s with toks:=s.toks+1}) X I hf) h
def Pj{tk:Tok}{g a v:aa}{A':bj}{E:ZF}(X:K.In s.heap)(I:InstAt s.heap x ox C odo)(hf:findObj K C odo name=some (.bind g a))
  (h:∀A',aO (model prog w) A' (call g [a,.ref x,.ref C]) (λu s'=>u=v/\s'=s) E s) :
  aO (model prog w) A' (Builtin.«object.__getattribute__» ⟨[.ref x,.str name tk],[]⟩) (λfin s'=>fin=.done (.ret v)/\s'=s) E s:=by
 have L0:=I.type (M:=model prog w);have L1:=looks_find (M:=model prog w) X I hf;unfold Builtin.«object.__getattribute__»;refine ag (kR (show slotArgs _ _ _=pure (.ref x,[.str name tk]) from rfl) ?_);refine ag (aC (ag (L0.here (ag (L1.here ?_)))));show aO _ _ (holding [a] (call g [a,.ref x,.ref C]) >>= ret) _ _ _;exact ag (cw (dh (h _) (λu s' z=>by obtain⟨rfl,rfl⟩:=z;exact aC ⟨rfl,rfl⟩) λ_ _ z=>z))
def JD{Q:Option aa->aq->Prop}(hdct:hasDictIn K D=true)(ha:findIn K (.ref D) "__class__"=some (some (.builtin "object.__class__")))
  (hn:specialIn K (.builtin "object.__class__") "__get__"=some (some (.builtin "getset_descriptor.__get__"))) (htk:takesIn K (.builtin "object.__class__")=some true) (hm:mroIn K D (.type "object")=some true)
  (ga:findIn K (.ref D) "__getattribute__"=some (some SY)) (gh:findIn K (.ref D) "__getattr__"=some none) (hb:mroIn K D (.type "BaseException")=some true)
  (X:K.In s.heap) (I:InstAt s.heap x ox D (some od)) (h:Q (some (.ref D)) {s with toks:=s.toks+1}):aO (model prog w) A (getAttr? (.ref x) "__class__") Q E s:=by
 have hf:findObj K D (some od) "__class__"=some (.bind (.builtin "getset_descriptor.__get__") (.builtin "object.__class__")):=findObj_data (by obtain⟨cd,hc,_⟩:=any_some hdct;rw[hc];rfl) ha hn htk;unfold getAttr? getAttrBy?;refine ag (wpAny_mkText (ag (nJ ?_)));refine dh (Pk (Q:=λu s'=>u=.ref D/\s'={s with toks:=s.toks+1}) (E:=λ_ _=>False) (v:=.ref D) (s2:={s with toks:=s.toks+1}) (s:={s with toks:=s.toks+1}) X I ga gh hb rfl (λA'=>Pj (s:={s with toks:=s.toks+1}) X I hf λA''=>iw (class_get (s:={s with toks:=s.toks+1}) (ox:=ox) (od:=some od) X I hm ⟨rfl,rfl⟩)) ⟨rfl,rfl⟩) (λu s' z=>?_) λ_ _ z=>z.elim;obtain⟨rfl,rfl⟩:=z;exact aC h
def Hm{c:aa}{dep:Int}{tk:Tok}{Q:PySem.Fin->aq->Prop}(hdct:hasDictIn K D=true)(ha:findIn K (.ref D) "__class__"=some (some (.builtin "object.__class__")))
  (hn:specialIn K (.builtin "object.__class__") "__get__"=some (some (.builtin "getset_descriptor.__get__"))) (htk:takesIn K (.builtin "object.__class__")=some true) (hm:mroIn K D (.type "object")=some true)
  (ga:findIn K (.ref D) "__getattribute__"=some (some SY)) (gh:findIn K (.ref D) "__getattr__"=some none) (hb:mroIn K D (.type "BaseException")=some true)
  (X:K.In s.heap) (I:InstAt s.heap x ox D (some od)) (hty:Looks (model prog w) s.heap (typeOf c) (.type "type")) (his:Looks (model prog w) s.heap (isType c) true)
  (hne:(aa.ref D==c)=false) (hsub:Looks (model prog w) s.heap (isSubtype (.ref D) c) false) (h:Q (.done (.ret (.bool false))) {s with toks:=s.toks+1}) :
  aO (model prog w) A (Builtin.«isinstance.nested» ⟨[.ref x,c,.int dep tk],[]⟩) Q E s:=by
 obtain⟨cdD,hcD,_⟩:=any_some hdct;have typ:Looks (model prog w) s.heap (isType (.ref D)) true:=by
  unfold clsIn at hcD;split at hcD
  ·rename_i ho;intro A' Q' E' s' k q;unfold isType loadHead;exact ag (mq (k _ _ (X _ _ ho)) (aC q))
  ·cases hcD
 obtain⟨h0,g,d,tt,os⟩:=s;have L0:=I.type (M:=model prog w);have LI:Looks (model prog w) h0 (pJ (.ref x) c) false:=L0.andThen hsub;unfold Builtin.«isinstance.nested»;refine ag (L0.at ?_);rw[if_neg (λq=>by rw[hne] at q;exact Bool.noConfusion q)];refine ag (hty.at ?_);rw[if_pos (by decide)]
 k_delta "plainIsInstance"
 refine ag (ag (his.at ?_));simp only[Bool.not_true,Bool.false_eq_true,if_false];refine ag (LI.at ?_);simp only[Bool.false_eq_true,if_false];refine ag (JD hdct ha hn htk hm ga gh hb X I ?_);refine ag (typ.at ?_);simp only[Bool.not_true,Bool.false_eq_true,if_false];refine ag (mr ?_);refine hsub.at ?_
 first
  |exact aC h
  |exact aC (aC h)
  |exact ag (aC (aC h))
end
end L2
end
section
namespace L2
open PySem PySem.Spec PyProof.Rows
open Builtin Builtin.ObjectAttr
def KB{P:aW}{w:bK}{fs:List ar}{H H':Hp}{h h':Heap}(ws:List ar)(hok:rp P w H h)(hw:∀b∈ws,∃φ,H b=some (.ext φ))(frf:∀b∈fs,H b=none)
  (keep:∀b u,b∉ws->b∉fs->h.get? b=some u->h'.get? b=some u) (slot:∀b u,b∉ws->b∈fs->h.get? b=some u->∃sl,h'.get? b=some {u with slots:=sl})
  (thr:∀b∈ws,∃u,h'.get? b=some u) (same:∀b,b<h.objs.size->b∉ws->H' b=H b) (new:∀b,(h.objs.size<=b\/b∈ws)->∀o,H' b=some o->fg P w H' h' b o) :
  Un fs [] H H' h h'/\rp P w H' h':=by
 have nw:∀b,H b=none->b∉ws:=λb n z=>by obtain⟨φ,e⟩:=hw b z;rw[n] at e;cases e
 have st:∀b o,H b=some o->(∀φ,o≠.ext φ)->H' b=some o/\b∉ws:=λb o e n=>by
  have nb:b∉ws:=λz=>by obtain⟨φ,q⟩:=hw b z;rw[e] at q;cases q;exact n φ rfl
  exact⟨(same b (hok.lt e) nb).trans e,nb⟩
 refine⟨⟨λb o q n f _=>keep b o (nw b n) f q,λb o q n f _=>slot b o (nw b n) f q,λb o q n _=>(same b (aP q) (nw b n)).trans n,λb o q _=>?_,λb xs e=>(st b _ e λ_ z=>by cases z).1,λb o u e=>(st b _ e λ_ z=>by cases z).1,
  λb ps e=>⟨#[],by rw[Array.append_empty];exact(st b _ e λ_ z=>by cases z).1⟩⟩,λa o e=>?_⟩
 ·by_cases hb:b∈ws
  ·exact thr b hb
  ·by_cases hf:b∈fs
   ·obtain⟨sl,z⟩:=slot b o hb hf q;exact⟨_,z⟩
   ·exact⟨o,keep b o hb hf q⟩
 ·by_cases hz:h.objs.size<=a
  ·exact new a (.inl hz) o e
  ·by_cases hb:a∈ws
   ·exact new a (.inr hb) o e
   ·have e':H a=some o:=(same a (Nat.lt_of_not_le hz) hb).symm.trans e;refine(hok a o e').stay (λc u hc q=>?_) (λc q=>(st c _ q λ_ z=>by cases z).1) λc xs q=>(st c _ q λ_ z=>by cases z).1;rcases hc with rfl|hc
    ·exact keep c u hb (λz=>by rw[frf c z] at e';cases e') q
    ·exact keep c u (st c _ hc λ_ z=>by cases z).2 (λz=>by rw[frf c z] at hc;cases hc) q
def Ej{P:aW}{w:bK}{H:Hp}{h:Heap}{a:ar}{o:Obj}{φ:Heap->Prop}(p:φ h)(e:h.get? a=some o)(st:∀h1 h2:Heap,φ h1->(∀o,h1.get? a=some o->h2.get? a=some o)->φ h2):fg P w H h a (.ext φ):=⟨p,⟨o,e⟩,st⟩
def XF(x C:ar)(od:Option ar):HO:=.ext λh=>∃u,h.get? x=some ⟨.ref C,od,.fields #[.ref u,.none,.none,.none,.bool false,.none],#[]⟩
def XL(x C:ar)(od:Option ar):HO:=.ext λh=>∃vs sl,h.get? x=some ⟨.ref C,od,.fields vs,sl⟩
def TB(T:ar):HO:=.ext λh=>∃o ts,h.get? T=some o/\o.data=.fields ts/\ts[3]?=some .none
def XD(dx:ar)(fs:List (Str×V)):HO:=.ext λh=>fs.length<=1000/\∃mA,h.Ns1 dx mA/\(∀f,rP (fs.lookup f) (mA f))/\PySem.Within mA (fs.map (·.1))
section
variable{P:aW}{w:bK}{H:Hp}{h:Heap}{x C T dx:ar}{od:Option ar}{fs:List (Str×V)}
def XF.ok{u:ar}(e:h.get? x=some ⟨.ref C,od,.fields #[.ref u,.none,.none,.none,.bool false,.none],#[]⟩):fg P w H h x (XF x C od):=
 Ej ⟨u,e⟩ e λh1 h2 ⟨u,q⟩ k=>⟨u,k _ q⟩
def XL.ok{vs:Array aa}{sl:Array (Option aa)}(e:h.get? x=some ⟨.ref C,od,.fields vs,sl⟩):fg P w H h x (XL x C od):=
 Ej ⟨vs,sl,e⟩ e λh1 h2 ⟨vs,sl,z⟩ k=>⟨vs,sl,k _ z⟩
def TB.ok{o:Obj}{ts:Array aa}(e:h.get? T=some o)(d:o.data=.fields ts)(q:ts[3]?=some .none):fg P w H h T (TB T):=
 Ej ⟨o,ts,e,d,q⟩ e λh1 h2 ⟨o,ts,z,y⟩ k=>⟨o,ts,k _ z,y⟩
def XD.ok{mA:Str->Option aa}(z:fs.length<=1000)(n:h.Ns1 dx mA)(r:∀f,rP (fs.lookup f) (mA f))(wi:PySem.Within mA (fs.map (·.1))):fg P w H h dx (XD dx fs):=by
 obtain⟨o,es,ep,e,c⟩:=id n;refine Ej ⟨z,mA,n,r,wi⟩ e λh1 h2 ⟨z,mA,⟨o,es,ep,e,c⟩,r,wi⟩ k=>⟨z,mA,⟨o,es,ep,k _ e,c⟩,r,wi⟩
def XF.get(ok:rp P w H h)(e:H x=some (XF x C od)):∃u,h.get? x=some ⟨.ref C,od,.fields #[.ref u,.none,.none,.none,.bool false,.none],#[]⟩:=(show fg P w H h x (XF x C od) from ok x _ e).1
def XL.get(ok:rp P w H h)(e:H x=some (XL x C od)):∃vs sl,h.get? x=some ⟨.ref C,od,.fields vs,sl⟩:=(show fg P w H h x (XL x C od) from ok x _ e).1
def E8(h:Heap)(x C:ar)(od:Option ar)(T:ar):Prop:=∃vs sl,h.get? x=some ⟨.ref C,od,.fields vs,sl⟩/\vs[1]?=some (.ref T)
def TB.get(ok:rp P w H h)(e:H T=some (TB T)):∃o ts,h.get? T=some o/\o.data=.fields ts/\ts[3]?=some .none:=(show fg P w H h T (TB T) from ok T _ e).1
def XD.get(ok:rp P w H h)(e:H dx=some (XD dx fs)):fs.length<=1000/\∃mA,h.Ns1 dx mA/\(∀f,rP (fs.lookup f) (mA f))/\PySem.Within mA (fs.map (·.1)):=(show fg P w H h dx (XD dx fs) from ok dx _ e).1
end
structure xE(K:Fg)(C:ar):Prop where
 ex:∃(nm q:Str) (N B:ar) (bs:List aa) (sn:List Str) (sub:List aa) (ab:Bool) (col:Option Bool) (dd:Option ar) (k0 k1 k2 k3 k5:Option aa),K.lookup C=some (Jz nm q C N B bs true sn sub ab col dd k0 k1 k2 k3 k5)
 ga:b5 K (.ref C) "__getattribute__"=some (some SY)
 gh:b5 K (.ref C) "__getattr__"=some none
 sa:b5 K (.ref C) "__setattr__"=some (some (.builtin "object.__setattr__"))
section
variable{prog:aW}{w:bK}{A:bj}{E:ZF}{K:Fg}{C x:ar}{s:aq}{R:Result->aq->Prop}
def xE.cls(c:xE K C):∃cd B,nM K C=some cd/\cd.mro=.ref C::.ref B::HV/\cd.hasDict=true:=by
 obtain⟨nm,q,N,B,bs,sn,sub,ab,col,dd,k0,k1,k2,k3,k5,e⟩:=c.ex;exact⟨_,B,by unfold nM;rw[e],rfl,rfl⟩
def xE.base(c:xE K C):cY K C (.type "BaseException")=some true:=by
 obtain⟨cd,B,e,m,_⟩:=c.cls;unfold cY;rw[e,fS,m];rfl
def xE.hd(c:xE K C):PySem.W.hasDictIn K C=true:=by
 obtain⟨cd,B,e,_,d⟩:=c.cls;unfold PySem.W.hasDictIn;rw[e];exact d
def VU{ox:Obj}{od:Option Obj}{f:Str}{tk:Tok}{v:aa}(X:K.In s.heap)(J:PySem.W.InstAt s.heap x ox C od)(c:xE K C)(n:mD K C f)
  (h:∀b,aO (model prog w) A.in1 (storeInOwnDict (.ref x) (.ref C) (.str f tk) f v b) (λfin s'=>match fin with|.done f=>R (.ok f) s'|.again c'=>c'.quiet=true/\ig (model prog w) A c' R s') (λe s'=>R (.error e) s') s) :
  ig (model prog w) A (.call (.builtin "object.__setattr__") ⟨[.ref x,.str f tk,v],[]⟩) R s:=by
 obtain⟨cd,B,hc,hm,hdd⟩:=c.cls;have SF:=PySem.F.store_object;have VF:=PySem.F.store_ValueError;have lm:PySem.W.Looks (model prog w) s.heap (mroOf (.ref C)) cd.mro:=(lP X hc).andThen .now;have sb:PySem.W.Looks (model prog w) s.heap (pJ (.ref x) (.type "object")) true:=J.type.andThen (PySem.W.looks_mroIn X (by unfold cY;rw[hc,fS,hm];rfl));refine gi SF.slot.plain SF.entry (@PySem.W.check_slot (model prog w) _ _ s "object.__setattr__" "object" "__setattr__" (.ref x) [.str f tk,v] [] _ SF.kind SF.split sb (SF.args (.ref x) (.str f tk) v) ?_);rw[PySem.W.osa_eq,refuse_eq];refine ag (ag (J.type.here (ag (lm.here ?_))));rw[hm,refuseLoop_ref,refuseLoop_ref,VF.passes];refine aC (ag (J.type.here (ag ((PySem.W.looks_findIn X n).here (ag ?_)))));exact aC (h _)
end
def Eu{H:Hp}{x:ar}{φ:Heap->Prop}(e:H x=some (.ext φ)):∀b∈[x],∃φ,H b=some (.ext φ):=λb hb=>by
 cases aw.mp hb;exact⟨φ,e⟩
def Ew{h:Heap}{x:ar}{o:Obj}(e:h.get? x=some o):∀b∈[x],∃u,h.get? b=some u:=λb hb=>by
 cases aw.mp hb;exact⟨o,e⟩
section
variable{X:Cx}{pins:List (ar×Obj)}{σ:St}{H:Hp}{s:aq}{x C dx:ar}{fs:List (Str×V)}{f:Str}{v y:V}{u:aa}{A:bj}{E:ZF}
def Gy{y:V}{u:aa}{fs:List (Str×V)}{mA:Str->Option aa}(f:Str)(ry:dA y u)(r:∀f,rP (fs.lookup f) (mA f)):∀g,rP ((oh f y fs).lookup g) (if g=f then some u else mA g):=λg=>by
 rw[xM];by_cases q:g=f
 ·rw[if_pos q,if_pos q];exact ry
 ·rw[if_neg q,if_neg q];exact r g
def Bm{y:V}{u:aa}{fs:List (Str×V)}{mA:Str->Option aa}(f:Str)(wi:PySem.Within mA (fs.map (·.1))):PySem.Within (λg=>if g=f then some u else mA g) ((oh f y fs).map (·.1)):=λg hg=>by
 by_cases q:g=f
 ·rw[q];exact(wK f y fs).1
 ·refine(wK f y fs).2 g (wi g λz=>hg ?_);show(if g=f then some u else mA g)=none;rw[if_neg q];exact z
def JE{Q:Unit->aq->Prop}(I:bY X pins σ H s)(e:H x=some (XF x C none))(c:xE X.K C)(n:mD X.K C f)(ry:dA y u)
  (h:∀s' dx,H dx=none->dx≠x->bY X pins σ (upd (upd H dx (XD dx [(f,y)])) x (XF x C (some dx))) s'->Q () s'):aO (model X.prog X.w) A (setAttr (.ref x) f u) Q E s:=by
 obtain⟨a,hx⟩:=XF.get I.hok e;obtain⟨cd,B,hc,hm,hdd⟩:=c.cls;refine PySem.W.set_plain I.kIn (od:=none) ⟨hx,rfl,rfl,True.intro⟩ c.sa (VU (s:={s with toks:=s.toks+1}) (od:=none) I.kIn ⟨hx,rfl,rfl,True.intro⟩ c n λb=>?_);have ne:x≠s.heap.objs.size:=bu (aP hx);refine ag (aC (ag (ag (mq hx (ag (PySem.W.Looks.here (s:={s with toks:=s.toks+1}) (lP I.kIn hc) ?_))))));rw[hdd];show aO _ _ (alloc fu >>= λd=>(update x λo=>{cls:=o.cls,dict:=some d,data:=o.data,slots:=o.slots}) >>= λ_=>dictMade (.ref C) x d) _ _ _;have hx1:(s.heap.push fu).get? x=_:=az _ hx;refine ag (wpAny_alloc (ag (wpAny_update hx1 ?_)));refine aC ?_;have gd:((s.heap.push fu).update x λo=>{cls:=o.cls,dict:=some s.heap.objs.size,data:=o.data,slots:=o.slots}).get? s.heap.objs.size=some fu:=
  (Heap.get?_update_ne _ _ _ _ (Ne.symm ne)).trans (Heap.get?_push_at rfl rfl)
 have gx:((s.heap.push fu).update x λo=>{cls:=o.cls,dict:=some s.heap.objs.size,data:=o.data,slots:=o.slots}).get? x=some ⟨.ref C,some s.heap.objs.size,.fields #[.ref a,.none,.none,.none,.bool false,.none],#[]⟩:=
  dE _ hx1 rfl
 have nd:((s.heap.push fu).update x λo=>{cls:=o.cls,dict:=some s.heap.objs.size,data:=o.data,slots:=o.slots}).Ns s.heap.objs.size (λ_=>none):=⟨_,#[],_,gd,rfl,(λe he=>absurd he (by simp)),λ_=>rfl⟩;refine ag (aC (ag ?_));refine wpAny_nsSet1 (s:={s with heap:=(s.heap.push fu).update x λo=>{cls:=o.cls,dict:=some s.heap.objs.size,data:=o.data,slots:=o.slots},toks:=s.toks+1}) (Heap.Ns1.of_empty nd) λh' hn2 hs2=>?_;obtain⟨oD,esD,epD,hoD,hdD,hcD⟩:=hn2.count (PySem.Within.cons f u PySem.Within.nil);refine ag (wpAny_lookBehind hoD (by rw[hdD];exact pastItsLine_dict (b9 hcD (by rw[aI,lz,gk];lia))) ?_);have gx2:=(hs2.2 x ne).trans gx;have fr:=I.hok.fresh (aD s.heap.objs.size);obtain⟨un,ok⟩:=KB (P:=X.prog) (w:=X.w) (fs:=[]) (H':=upd (upd H s.heap.objs.size (XD s.heap.objs.size [(f,y)])) x (XF x C (some s.heap.objs.size))) (h':=h') [x] I.hok (Eu e) (λb z=>absurd z (by simp))
  (λb v nb _ q=>by
   have lt:=aP q;rw[hs2.2 b (bu lt)];exact(Heap.get?_update_ne _ _ _ _ λz=>nb (aw.mpr z)).trans (az _ q)) (λb u _ z=>absurd z (by simp)) (Ew gx2) (λb lt nb=>by
   rw[aK (λz=>nb (aw.mpr z)),aK (bu lt)]) (λb hb o q=>by
   by_cases k:b=x
   ·subst k;rw[aj] at q;cases q;exact XF.ok gx2
   ·rw[aK k] at q;by_cases k2:b=s.heap.objs.size
    ·subst k2;rw[aj] at q;cases q;exact XD.ok (fs:=[(f,y)]) (mA:=λg=>if g=f then some u else none) (by show 1<=1000;decide) hn2 (Gy (fs:=[]) (mA:=λ_=>none) f ry λ_=>True.intro) (Bm (fs:=[]) (mA:=λ_=>none) f λg hg=>absurd rfl hg)
    ·rw[aK k2] at q;rcases hb with hb|hb
     ·rw[I.hok.fresh hb] at q;cases q
     ·exact absurd (aw.mp hb) k)
 exact aC (h _ _ fr (Ne.symm ne) (I.un (t':=s.toks+1+1) (un.mono (λb z=>absurd z (by simp)) λb z=>z) ok))
def MD{Q:Unit->aq->Prop}(I:bY X pins σ H s)(e:H x=some (XF x C (some dx)))(ne:dx≠x)(ed:H dx=some (XD dx fs))(c:xE X.K C)(n:mD X.K C f)(hl:fs.length<1000)(ry:dA y u)
  (h:∀s',bY X pins σ (upd H dx (XD dx (oh f y fs))) s'->Q () s'):aO (model X.prog X.w) A (setAttr (.ref x) f u) Q E s:=by
 obtain⟨a,hx⟩:=XF.get I.hok e;obtain⟨z,mA,ns,r,wi⟩:=XD.get I.hok ed;obtain⟨od,ho,hlk⟩:=wN ns;obtain⟨cd,B,hc,hm,hdd⟩:=c.cls;refine PySem.W.set_plain I.kIn (od:=some od) ⟨hx,rfl,rfl,ho⟩ c.sa (VU (s:={s with toks:=s.toks+1}) (od:=some od) I.kIn ⟨hx,rfl,rfl,ho⟩ c n λb=>?_);refine ag (aC (ag (ag (mq hx (ag (PySem.W.Looks.here (s:={s with toks:=s.toks+1}) (lP I.kIn hc) ?_))))));rw[hdd];refine aC (a:=some dx) (ag (aC (ag ?_)));refine wpAny_nsSet1 (s:={s with toks:=s.toks+1}) ns λh' hn2 hs2=>?_;obtain⟨oD,esD,epD,hoD,hdD,hcD⟩:=hn2.count (PySem.Within.cons f u wi);refine ag (wpAny_lookBehind hoD (by rw[hdD];exact pastItsLine_dict (b9 hcD (by rw[aI,ae,gk];lia))) ?_);obtain⟨un,ok⟩:=KB (P:=X.prog) (w:=X.w) (fs:=[]) (H':=upd H dx (XD dx (oh f y fs))) (h':=h') [dx] I.hok (Eu ed) (λb z=>absurd z (by simp))
  (λb u nb _ q=>(hs2.2 b λz=>nb (aw.mpr z)).trans q) (λb u _ z=>absurd z (by simp)) (Ew hoD) (λb _ nb=>aK λz=>nb (aw.mpr z)) (λb hb o q=>by
   by_cases k:b=dx
   ·subst k;rw[aj] at q;cases q;exact XD.ok (by have:=xK f y fs;lia) hn2 (Gy f ry r) (Bm f wi)
   ·rw[aK k] at q;rcases hb with hb|hb
    ·rw[I.hok.fresh hb] at q;cases q
    ·exact absurd (aw.mp hb) k)
 exact aC (h _ (I.un (t':=s.toks+1+1) (un.mono (λb z=>absurd z (by simp)) λb z=>z) ok))
def Wp{b:Bool}{Q:ZF}(I:bY X pins σ H s)(ea:H x=some (XF x C (some dx))\/H x=some (XL x C (some dx)))(ed:H dx=some (XD dx fs))(c:xE X.K C)(n:mD X.K C f)(l:fs.lookup f=some v)
  (h:∀u s',bY X pins σ H s'->dA v u->Q u s'):aO (model X.prog X.w) A (getAttr (.ref x) f b) Q E s:=by
 obtain⟨z,mA,ns,r,wi⟩:=XD.get I.hok ed;obtain⟨od,ho,hlk⟩:=wN ns;obtain⟨u,hu,ru⟩:=rP.some_of (v:=v) (o:=mA f) (by rw[<-l];exact r f);have J:∃ox,PySem.W.InstAt s.heap x ox C (some od):=by
  rcases ea with ea|ea
  ·obtain⟨a,hx⟩:=XF.get I.hok ea;exact⟨_,hx,rfl,rfl,ho⟩
  ·obtain⟨vs,sl,hx⟩:=XL.get I.hok ea;exact⟨_,hx,rfl,rfl,ho⟩
 obtain⟨ox,J⟩:=J;exact JC I.kIn J c.ga c.gh c.base (PySem.W.findObj_own c.hd n rfl (by rw[hlk,hu])) (Lo ru) (h u _ (I.tok _) ru)
end
def Hq(P:aW)(w:bK):MF:=λouter H s E e s'=>∃x C od T H',e=.ref x/\s'.os=s.os/\lQ s'.gens/\Un (E2 outer) [] H H' s.heap s'.heap/\rp P w H' s'.heap/\
 H' x=some (XL x C od)/\H' T=some (TB T)/\E8 s'.heap x C od T/\T≠x/\od≠some x/\E (.ref C) od H'
def nq(E:ar->XK):XK:=λcls od H'=>∀x C T',cls=.ref C->H' x=some (XL x C od)->od≠some x->H' T'=none->T'≠x->E x cls od (upd H' T' (TB T'))
def RP{H:Hp}{x:ar}{o:HO}(h:H x=some o):upd H x o=H:=by
 funext b;by_cases c:b=x
 ·rw[c,aj,h]
 ·rw[aK c]
section
variable{X:Cx}{pins:List (ar×Obj)}{σ:St}{H:Hp}{s:aq}{x C T T':ar}{od:Option ar}{M:Model}{E:ZF}
def J4{T0:ar}{φ:Heap->Prop}{h':Heap}{vs:Array aa}{sl:Array (Option aa)}(I:bY X pins σ H s)(hx:H x=some (.ext φ))(hT:T0=x\/H T0=some (TB T0))(hg:s.heap.get? x=some ⟨.ref C,od,.fields vs,sl⟩)(hz:1<vs.size)
  (L:SD (E2 X.stack) x T0 .none T' s.heap h'):bY X pins σ (upd (upd H T' (TB T')) x (XL x C od)) {s with heap:=h'}/\E8 h' x C od T':=by
 have nx:T'≠x:=λz=>by
  have:=aP hg;have:=L.new;rw[z] at this;exact absurd (bh ‹x<_› this) (cQ _)
 have hT0:∃φ,H T0=some (.ext φ):=by
  rcases hT with rfl|z
  ·exact⟨φ,hx⟩
  ·exact⟨_,z⟩
 have me:∀b,b∈[x,T0]↔b=x\/b=T0:=λb=>by simp
 obtain⟨un,ok⟩:=KB (P:=X.prog) (w:=X.w) (fs:=E2 X.stack) (H':=upd (upd H T' (TB T')) x (XL x C od)) (h':=h') [x,T0] I.hok (λb hb=>by
   rcases(me b).mp hb with rfl|rfl
   ·exact⟨φ,hx⟩
   ·exact hT0) I.stkFree (λb u nb nf q=>L.keep b u q (λz=>nb ((me b).mpr (.inl z))) (λz=>nb ((me b).mpr (.inr z))) nf)
  (λb u nb nf q=>L.slot b u q (λz=>nb ((me b).mpr (.inl z))) (λz=>nb ((me b).mpr (.inr z)))) (λb hb=>by
   rcases(me b).mp hb with rfl|rfl
   ·exact⟨_,L.exc _ hg⟩
   ·rcases hT with rfl|z
    ·exact⟨_,L.exc _ hg⟩
    ·by_cases c:b=x
     ·subst c;exact⟨_,L.exc _ hg⟩
     ·obtain⟨o,ts,q,_⟩:=TB.get I.hok z;obtain⟨o',us,q',_⟩:=L.old c o q;exact⟨o',q'⟩)
  (λb lt nb=>by
   rw[aK (λz=>nb ((me b).mpr (.inl z))),aK (λz=>by rw[z] at lt;exact absurd (bh lt L.new) (cQ _))])
  (λb hb o e=>by
   by_cases c:b=x
   ·subst c;rw[aj] at e;cases e;exact XL.ok (vs:=vs.setIfInBounds 1 (.ref T')) (sl:=sl) (L.exc _ hg)
   ·rw[aK c] at e;by_cases c2:b=T'
    ·subst c2;rw[aj] at e;cases e;obtain⟨oT,ts,e1,e2,e3⟩:=L.tb;exact TB.ok e1 e2 e3
    ·rw[aK c2] at e;rcases hb with hb|hb
     ·rw[I.hok.fresh hb] at e;cases e
     ·rcases(me b).mp hb with z|z
      ·exact absurd z c
      ·subst z;rcases hT with z|z
       ·exact absurd z c
       ·rw[z] at e;cases e;obtain⟨o,ts,q,_⟩:=TB.get I.hok z;obtain⟨o',us,q',d',z'⟩:=L.old c o q;exact TB.ok q' d' z')
 exact⟨I.call' (s':={s with heap:=h'}) (ch:=[]) rfl un ok I.bare (λb z=>absurd z (by simp)),vs.setIfInBounds 1 (.ref T'),sl,L.exc _ hg,by simp[hz]⟩
def LR{Q:Unit->aq->Prop}(I:bY X pins σ H s)(hst:X.stack=X.env::X.outer)(hfm:X.env.frame=some X.env.locals)(hx:H x=some (XF x C od))
  (h:∀s' T',H T'=none->T'≠x->bY X pins σ (upd (upd H T' (TB T')) x (XL x C od)) s'->E8 s'.heap x C od T'->Q () s') :
  aO M X.A (jq (.ref x) X.env) (λ_ s2=>aO M X.A (sU (.ref x) none) Q E s2) E s:=by
 obtain⟨u,hg⟩:=XF.get I.hok hx;have hfr:X.A.frames=some (X.env::X.outer):=by rw[I.ok.frames,hst]
 have hfu:s.heap.FunFrames X.base (X.env::X.outer):=by rw[<-hst];exact I.stack
 refine IJ hfr hfu hfm hg rfl rfl λh1 T' L=>?_;have nx:T'≠x:=λz=>by
  have:=aP hg;have:=L.new;rw[z] at this;exact absurd (bh ‹x<_› this) (cQ _)
 obtain⟨oT,ts,t1,t2,t3⟩:=L.tb;refine Ek (s:={s with heap:=h1}) (L.exc _ hg) rfl (T:=T') (by simp) t1 t2 (bN.mp t3).1 λh2 k _ t=>?_;have L2:=L.land ⟨_,hg⟩ ⟨_,hg⟩ k t;rw[<-hst] at L2;have r:=J4 (s:=s) (h':=h2) I hx (.inl rfl) hg (by simp) L2;exact h {s with heap:=h2} T' (I.hok.fresh L.new) nx r.1 r.2
def Gc{Q:Unit->aq->Prop}(I:bY X pins σ H s)(hst:X.stack=X.env::X.outer)(hfm:X.env.frame=some X.env.locals)(hx:H x=some (XL x C od))(hT:H T=some (TB T))(hfl:E8 s.heap x C od T)(ne:T≠x)
  (h:∀s' T',H T'=none->T'≠x->bY X pins σ (upd H T' (TB T')) s'->E8 s'.heap x C od T'->Q () s') :
  aO M X.A (jq (.ref x) X.env) (λ_ s2=>aO M X.A (sU (.ref x) none) Q E s2) E s:=by
 obtain⟨vs,sl,hg,h1⟩:=hfl;obtain⟨oT,ts,q1,q2,q3⟩:=TB.get I.hok hT;have hz:1<vs.size:=(bN.mp h1).1;have hfr:X.A.frames=some (X.env::X.outer):=by rw[I.ok.frames,hst]
 have hfu:s.heap.FunFrames X.base (X.env::X.outer):=by rw[<-hst];exact I.stack
 refine LS hfr hfu hfm hg rfl h1 q1 q2 q3 ne λh1 T' L=>?_;have nx:T'≠x:=λz=>by
  have:=aP hg;have:=L.new;rw[z] at this;exact absurd (bh ‹x<_› this) (cQ _)
 obtain⟨oT,ts,t1,t2,t3⟩:=L.tb;refine Ek (s:={s with heap:=h1}) (L.exc _ hg) rfl (T:=T') (by simp[hz]) t1 t2 (bN.mp t3).1 λh2 k _ t=>?_;have L2:=L.land ⟨_,q1⟩ ⟨_,hg⟩ k t;rw[<-hst] at L2;have r:=J4 (s:=s) (h':=h2) I hx (.inr hT) hg hz L2;rw[RP (show(upd H T' (TB T')) x=some (XL x C od) by rw[aK (Ne.symm nx)];exact hx)] at r;exact h {s with heap:=h2} T' (I.hok.fresh L.new) nx r.1 r.2
end
section
variable{P:aW}{w:bK}{K:Fg}{mg:Str->Option aa}{base:Heap}{N:List Str}{qual:Str}{scope:Scope}{f:ar}{cd:aa}{A:bj}{outer:List Env}{s:aq}{H:Hp}{E:XK}
def jh:uC (Hq P w) (tH (Hq P w) P w K mg base N qual scope f cd A outer s H E) (nq λ_=>E):=by
 rintro pins σ H1 s1 e s' I ⟨x,C,od,T,H',rfl,os,bare,un,hok,hx,hT,hfl,ne,ndx,q⟩;have I1:=I.call' (ch:=[]) os un hok bare λb z=>absurd z (by simp);refine ag (Gc I1 rfl rfl hx hT hfl ne λs2 T' nT nx I2 fl2=>?_);exact⟨x,C,od,T',_,rfl,I2.os,I2.bare,I2.base,I2.hok,by rw[aK (Ne.symm nx)];exact hx,aj,fl2,nx,ndx,q x C T' rfl hx ndx nT nx⟩
def Iz{pins:List (ar×Obj)}{σ:St}{H1:Hp}{s1:aq}{x C:ar}{od:Option ar}(I:bY (tH (Hq P w) P w K mg base N qual scope f cd A outer s H E) pins σ H1 s1)(hx:H1 x=some (XF x C od))(ndx:od≠some x)
  (q:∀T',H1 T'=none->T'≠x->E (.ref C) od (upd (upd H1 T' (TB T')) x (XL x C od))):(tH (Hq P w) P w K mg base N qual scope f cd A outer s H E).xe (.ref x) s1:=by
 refine ag (LR I rfl rfl hx λs2 T' nT nx I2 fl2=>?_);exact⟨x,C,od,T',_,rfl,I2.os,I2.bare,I2.base,I2.hok,aj,by rw[aK nx,aj],fl2,nx,ndx,q T' nT nx⟩
end
structure V3(K:Fg)(C f:ar):Prop where
 cl:xE K C
 init:b5 K (.ref C) "__init__"=some (some (.ref f))
 fn:uU K (.ref f)=true
 kp:cV K (.ref C)=true
def uM(C:ar)(sp:Sp)(t:TA):TE:=λσ H Q=>t σ H λvs H1=>∀x,H1 x=none->sp (.ref x::vs) (upd H1 x (XF x C none)) (λv H2=>v=.non/\Q (.ref x) H2) E0
def Df(K:Fg)(ta tv:TE)(f:Str):TS:=λD σ H=>tv σ H λy H1=>ta σ H1 λx H2=>∃a C,x=.ref a/\xE K C/\mD K C f/\
 ((H2 a=some (XF a C none)/\∀dx,H2 dx=none->dx≠a->D.nx σ (upd (upd H2 dx (XD dx [(f,y)])) a (XF a C (some dx))))\/
  ∃dx fs,H2 a=some (XF a C (some dx))/\dx≠a/\H2 dx=some (XD dx fs)/\fs.length<1000/\D.nx σ (upd H2 dx (XD dx (oh f y fs))))
def OZ(K:Fg)(ta:TE)(f:Str):TE:=λσ H Q=>ta σ H λx H1=>∃a C dx fs v,x=.ref a/\(H1 a=some (XF a C (some dx))\/H1 a=some (XL a C (some dx)))/\H1 dx=some (XD dx fs)/\xE K C/\mD K C f/\fs.lookup f=some v/\Q v H1
def uN(K:Fg)(E:XK)(te:TE):TS:=λ_ σ H=>te σ H λv H1=>∃x C od,v=.ref x/\xE K C/\H1 x=some (XF x C od)/\od≠some x/\∀T',H1 T'=none->T'≠x->E (.ref C) od (upd (upd H1 T' (TB T')) x (XL x C od))
def Hx(X:Cx)(E:XK):Prop:=∀(pins:List (ar×Obj)) (σ:St) (H1:Hp) (s1:aq) (x C:ar) (od:Option ar),bY X pins σ H1 s1->H1 x=some (XF x C od)->od≠some x->
 (∀T',H1 T'=none->T'≠x->E (.ref C) od (upd (upd H1 T' (TB T')) x (XL x C od)))->X.xe (.ref x) s1
section
variable{X:Cx}{k:Nat}{f C:ar}{fd:dY}{ps:List Str}{sp:Sp}{x:Str}{p pos apos:Pos}{e o value:Expr}{es:List Expr}{ta tv:TE}{t:TA}
def Mj{pins:List (ar×Obj)}{σ:St}{H:Hp}{s:aq}{Q:VK}{us:List aa}{vs:List V}(M:V3 X.K C f)(F:pO X.prog X.w X.K X.mg X.base EZ k f fd ps sp)(hr:gB (k+1) X.A)(hb:rF X.K fd ps [])(hz:ps.length<=1000)
  (I:bY X pins σ H s) (r:c8 vs us) (h:∀x,H x=none->sp (.ref x::vs) (upd H x (XF x C none)) (λv H2=>v=.non/\Q (.ref x) H2) E0) :
  aO (model X.prog X.w) X.A (call (.ref C) us) (EP X pins σ Q) X.xe s:=by
 have hq:=h (s.heap.objs.size+1) (I.hok.fresh (kS _));obtain⟨nm,q,N,B,bs,sn,sub,ab,col,dd,k0,k1,k2,k3,k5,lk⟩:=M.cl.ex;have lf:∃oI,s.heap.get? f=some oI/\oI.cls=.type "function":=by
  have:=beq_iff_eq.mp M.fn;obtain⟨oI,e1,e2⟩:=b4.mp this;exact⟨oI,I.kIn _ _ e1,e2⟩
 obtain⟨oI,lf1,lf2⟩:=lf;have kp:∀b u,s.heap.get? b=some u->((s.heap.push {cls:=.type "tuple",data:=.seq us.toArray}).push (JA C s.heap.objs.size)).get? b=some u:=λb u q=>az _ (az _ q);have gx:((s.heap.push {cls:=.type "tuple",data:=.seq us.toArray}).push (JA C s.heap.objs.size)).get? (s.heap.objs.size+1)=some (JA C s.heap.objs.size):=by heap_get
 have I2:bY X pins σ (upd H (s.heap.objs.size+1) (XF (s.heap.objs.size+1) C none)) {s with heap:=(s.heap.push {cls:=.type "tuple",data:=.seq us.toArray}).push (JA C s.heap.objs.size)}:=
  I.laid (t':=s.toks) kp (kS _) (XF.ok gx)
 have r2:c8 (V.ref (s.heap.objs.size+1)::vs) (aa.ref (s.heap.objs.size+1)::us):=.cons rfl r;have hl:(aa.ref (s.heap.objs.size+1)::us).length=ps.length:=by
  have e:=r2.length;rw[F.len _ _ _ _ hq] at e;exact e.symm
 have hl2:us.length<=av:=by
  have:us.length+1=ps.length:=hl;rw[gk];lia
 obtain⟨hh,g,d,tk,os⟩:=s;refine RT (I.kIn _ _ lk) (λh' k'=>PySem.W.looks_findIn (λb o q=>k' b o (I.kIn b o q)) M.init) lf1 lf2 hl2 ?_;have hbi:=hb ⟨_,g,d,tk,os⟩ (aa.ref (hh.objs.size+1)::us) I2.kIn (by rw[dU];exact hl);rw[dU] at hbi;refine iw (gj (F.run _ X.stack _ _ ⟨aa.ref (hh.objs.size+1)::us,[]⟩ (aa.ref (hh.objs.size+1)::us) _ _ E0 (hr.make C us []) (I2.env0.make C us []) hbi r2 hq) λr s' hq'=>?_);cases r with
 |error e=>exact False.elim hq'
 |ok fl=>
  cases fl with
  |ret u=>
   obtain⟨v,H',I3,rv,ev,q3⟩:=I2.after hq';subst ev;exact⟨rv,⟨V.ref (hh.objs.size+1),H',I3,rfl,q3⟩⟩
  |next=>exact False.elim hq'
  |brk=>exact False.elim hq'
  |cont=>exact False.elim hq'
def Of(M:V3 X.K C f)(F:pO X.prog X.w X.K X.mg X.base EZ k f fd ps sp)(hr:gB (k+1) X.A)(hg:Gl X x)(hm:X.mg x=some (.ref C))(hb:rF X.K fd ps [])(hz:ps.length<=1000)
  (ha:PA X (e::es) t) (hdb:(x==("__debug__":Str))=false:=by decide) (he:aR (e::es) X.env=(false,eval e X.env)::aR es X.env:=by rfl) (hpl:(eV pos (aR es X.env)).any (·.1)=false:=by rfl) :
  PE X (.Call (.Name x p) (e::es) [] pos) (uM C sp t):=by
 intro pins s σ H Q I h;refine eA (pT I hg hm ?_ hdb);refine mz (h₀:=X.base) I.ok.mod.kin M.kp (fk (ha pos pins s σ H _ I h) λus s1 ⟨vs,H1,I1,r,q⟩=>⟨I1.kIn,?_⟩) he hpl;exact Mj M F hr hb hz I1 r q
def Rc{fl:Str}{pos':Pos}(ha:PE X o ta)(hv:PE X value tv)(hs:gI value (some (.Attribute o fl pos')) pos.line X.env=pure false):PS X (.Assign [.Attribute o fl pos'] value pos) (Df X.K ta tv fl):=by
 intro pins s σ H D I h;refine plainObj_wpAny_Assign_Attribute (fk (hv pins s σ H _ I h) λu s1 ⟨y,H1,I1,ry,q⟩=>fk (ha pins s1 σ H1 _ I1 q) λov s2 ⟨x,H2,I2,rx,a,C,ex,c,n,q2⟩=>?_) hs;subst ex;obtain rfl:ov=aa.ref a:=rx;rcases q2 with⟨ea,q2⟩|⟨dx,fs,ea,ne,ed,l,q2⟩
 ·exact JE I2 ea c n ry λs3 dx hd hn I3=>⟨σ,_,I3,q2 dx hd hn⟩
 ·exact MD I2 ea ne ed c n l ry λs3 I3=>⟨σ,_,I3,q2⟩
def QR{fl:Str}(he:PE X e ta)(hb:e7 e fl X.env (eval e X.env)=eval e X.env):PE X (.Attribute e fl pos) (OZ X.K ta fl):=by
 intro pins s σ H Q I h;refine PX hb (fk (he pins s σ H _ I h) λu s1 ⟨x,H1,I1,rx,a,C,dx,fs,v,ex,ea,ed,c,n,l,q⟩=>?_);subst ex;obtain rfl:u=aa.ref a:=rx;exact Wp I1 ea ed c n l λu' s2 I2 ru=>⟨v,H1,I2,ru,q⟩
def Oo{E:XK}{te:TE}(hl:Hx X E)(hh:X.A.handled=none)(he:PE X e te):PS X (.Raise (some e) none pos) (uN X.K E te):=by
 intro pins s σ H D I h;rw[arm_exec_Raise];refine ag (hV ?_);refine Ph hh (ag (fk (he pins s σ H _ I h) λu s1 ⟨v,H1,I1,rv,x,C,od,ev,c,hx,ndx,q⟩=>ag (hV (aC ?_))));subst ev;obtain rfl:u=aa.ref x:=rv;obtain⟨nm,q',N,B,bs,sn,sub,ab,col,dd,k0,k1,k2,k3,k5,lk⟩:=c.ex;obtain⟨w0,hg⟩:=XF.get I1.hok hx;exact⟨x,od,w0,_,C,nm,q',N,B,bs,true,sn,sub,ab,col,dd,k0,k1,k2,k3,k5,rfl,I1.kIn _ _ lk,hg,hl pins σ H1 s1 x C od I1 hx ndx q⟩
end
abbrev Cx.tryIn(X:Cx)(pl:List (ar×Obj))(E:ZF):Cx:={X with pn:=X.pn++pl,xe:=E}
abbrev Cx.inSuite(X:Cx)(x:ar):Cx:={X with A:=X.A.mark (some (.ref x)),calm:=false,xe:=λ_ _=>False}
section
variable{X:Cx}{pins pins':List (ar×Obj)}{σ:St}{H:Hp}{s:aq}{E:ZF}{x:ar}
def Cx.Ok.tryIn(ok:X.Ok)(pl:List (ar×Obj))(E:ZF):(X.tryIn pl E).Ok:=
 ⟨ok.mod,ok.kind,ok.glob,ok.blt,ok.above,ok.inj,ok.has,ok.cab,ok.hd,ok.frames,ok.stk,ok.exf,ok.bs,ok.bsz,ok.noex,ok.exfs,ok.funs,ok.frf⟩
def Cx.Ok.unTry{pl:List (ar×Obj)}(ok:(X.tryIn pl E).Ok):X.Ok:=
 ⟨ok.mod,ok.kind,ok.glob,ok.blt,ok.above,ok.inj,ok.has,ok.cab,ok.hd,ok.frames,ok.stk,ok.exf,ok.bs,ok.bsz,ok.noex,ok.exfs,ok.funs,ok.frf⟩
def bY.tryIn(I:bY X pins σ H s)(E:ZF):bY (X.tryIn pins E) [] σ H s:=
 ⟨I.ok.tryIn pins E,I.os,I.bare,I.base,I.loc,I.cell,I.free,I.freeC,λp hp=>I.pin p (by rw[dU] at hp;exact hp),I.hok,I.len⟩
def bY.unTry(I:bY (X.tryIn pins E) pins' σ H s):bY X pins σ H s:=
 ⟨I.ok.unTry,I.os,I.bare,I.base,I.loc,I.cell,I.free,I.freeC,λp hp=>I.pin p (bR _ hp),I.hok,I.len⟩
def SP.unTry{D:rn}{f:Flow}{s':aq}(h:SP (X.tryIn pins E) pins' D f s'):SP X pins D f s':=by
 cases f with
 |next=>obtain⟨σ',H',I,q⟩:=h;exact⟨σ',H',I.unTry,q⟩
 |brk=>obtain⟨σ',H',I,q⟩:=h;exact⟨σ',H',I.unTry,q⟩
 |cont=>obtain⟨σ',H',I,q⟩:=h;exact⟨σ',H',I.unTry,q⟩
 |ret u=>obtain⟨v,σ',H',I,r,q⟩:=h;exact⟨v,σ',H',I.unTry,r,q⟩
def bY.inSuite(I:bY X pins σ H s)(x:ar):bY (X.inSuite x) pins σ H s:=
 ⟨⟨I.ok.mod,I.ok.kind,I.ok.glob,I.ok.blt,I.ok.above,I.ok.inj,I.ok.has,I.ok.cab,(λz=>by cases z),I.ok.frames,I.ok.stk,I.ok.exf,I.ok.bs,I.ok.bsz,I.ok.noex,I.ok.exfs,I.ok.funs,I.ok.frf⟩,
  I.os,I.bare,I.base,I.loc,I.cell,I.free,I.freeC,I.pin,I.hok,I.len⟩
def bY.unSuite(I:bY (X.inSuite x) pins σ H s)(hd:X.calm=true->X.A.handled=none):bY X pins σ H s:=
 ⟨⟨I.ok.mod,I.ok.kind,I.ok.glob,I.ok.blt,I.ok.above,I.ok.inj,I.ok.has,I.ok.cab,hd,I.ok.frames,I.ok.stk,I.ok.exf,I.ok.bs,I.ok.bsz,I.ok.noex,I.ok.exfs,I.ok.funs,I.ok.frf⟩,
  I.os,I.bare,I.base,I.loc,I.cell,I.free,I.freeC,I.pin,I.hok,I.len⟩
def DC{M:Model}{A:bj}{E:ZF}{i:Nat}{n:Str}{pos:Pos}{Q:Unit->aq->Prop}(I:bY X pins σ H s)(hN:X.N.Nodup)(hi:X.N[i]?=some n)(hk:X.env.kindOf n=some .local)
  (h:∀s',bY X pins (σ.set i none) H s'->Q () s'):aO M A (do bindName X.env n .none;unbindBehindTheSuite X.env n pos) Q E s:=by
 have hcls:(X.env.scope.kind==.class || (X.env.scope.kind==.module&&X.env.locals != X.env.globals))=false:=by rw[I.ok.kind];rfl
 refine ag (wpAny_bindName (vy (v:=.non) I hN hi (.inl hk) rfl (λs1 I1=>?_) (.inr hk)));obtain⟨m,hn,hl⟩:=id I1.loc;have hiσ:i<σ.length:=by rw[I.len];exact(ak.mp hi).1
 have hmn:m n=some .none:=by
  obtain⟨u,ru,q⟩:=hl i n .non hi (by rw[bI hiσ]) (.inl hk);obtain rfl:u=aa.none:=ru;rcases q with⟨_,q⟩|⟨k,_⟩
  ·exact q
  ·rw[hk] at k;rcases k with k|k<;>cases k
 unfold unbindBehindTheSuite;refine wpAny_onRaise ?_;unfold unbindName;refine ag (wpAny_point (ag ?_));unfold deleteName;simp only[hk,hcls];rw[if_neg (by decide)];refine ag (wpAny_nsDel_keeps hn λh2 v hn2 hs=>?_);rw[hmn];simp only[if_true,Option.isSome_some,Bool.not_true,Bool.false_eq_true,if_false];refine aC (wpAny_point (h _ ?_));obtain⟨oL,_,_,hoL,_⟩:=id hn;have hok:rp X.prog X.w H h2:=λb ob e=>by
  refine(I1.hok b ob e).stay (λc w' hc q=>(hs.2 c ?_).trans q) (λ_ q=>q) λ_ _ q=>q;rintro rfl;rcases hc with rfl|hc
  ·rw[I1.free] at e;cases e
  ·rw[I1.free] at hc;cases hc
 have neL:∀b o,X.s₀.heap.get? b=some o->b≠X.env.locals:=λb o e=>bu (bh (aP e) I1.ok.above);refine⟨I1.ok,I1.os,I1.bare,⟨λb o e nn hb hx=>?_,λb o e nn hb hx=>?_,I1.base.free,λb o e hx=>?_,I1.base.tups,I1.base.frzs,I1.base.tbls⟩,⟨_,hn2,λj y v' e1 e2 e3=>?_⟩,λy c e=>?_,I1.free,I1.freeC,λp hp=>?_,hok,by simpa using I.len⟩
 ·exact(hs.2 b (neL b o e)).trans (I1.base.keep b o e nn hb hx)
 ·obtain⟨sl,e1⟩:=I1.base.slot b o e nn hb hx;exact⟨sl,(hs.2 b (neL b o e)).trans e1⟩
 ·obtain⟨o',e1⟩:=I1.base.there b o e hx;exact⟨o',(hs.2 b (neL b o e)).trans e1⟩
 ·have hj:j≠i:=λz=>by
   subst z;rw[bI hiσ] at e2;cases e2
  rw[b8 (Ne.symm hj)] at e2;obtain⟨u',r',q⟩:=hl j y v' e1 (by rw[b8 (Ne.symm hj)];exact e2) e3;refine⟨u',r',?_⟩;rcases q with⟨k,e⟩|⟨k,c,e,z⟩
  ·refine .inl ⟨k,?_⟩;have:y≠n:=λe=>hj (Aj hN e1 (e ▸ hi));simp[this,e]
  ·exact .inr ⟨k,c,e,z.sameBut hs (I1.cne y c e)⟩
 ·obtain⟨w',z⟩:=I1.cell y c e;exact⟨w',z.sameBut hs (I1.cne y c e)⟩
 ·obtain⟨e,nn,ne,nf,d⟩:=I1.pin p hp;exact⟨(hs.2 p.1 ne).trans e,nn,ne,nf,d⟩
end
structure PU(K:Fg)(C0:ar):Prop where
 ex:∃(nm q:Str) (N:ar) (bs bm:List aa) (hdct:Bool) (sn:List Str) (sub:List aa) (ab:Bool) (col:Option Bool) (dd:Option ar) (k0 k1 k2 k3 k5:Option aa) (nid:String),K.lookup C0=some (jo nm q C0 N bs bm hdct sn sub ab col dd k0 k1 k2 k3 k5 nid)
 exc:cY K C0 (.type "BaseException")=some true
structure HN(K:Fg)(C C0:ar):Prop where
 cl:xE K C
 er:PU K C0
 sub:cY K C (.ref C0)=some true
section
variable{X:Cx}
def J6{K:Fg}{C:ar}{o:Obj}{cd:ClassData}{v:aa}{b:Bool}(lk:K.lookup C=some o)(ho:o.data=.cls cd)(e:cY K C v=some b):cd.mro.contains v=b:=by
 unfold cY nM at e;rw[lk] at e;obtain⟨oc,od,dt,sl⟩:=o;cases ho;rw[fS] at e;split at e
 ·cases e
 ·exact Option.some.inj e
def RV{C C0 N N0 x:ar}{nm q nm0 q0:Str}{bs bm bs0 bm0:List aa}{hdct hdct0:Bool}{sn sn0:List Str}{sub sub0:List aa}{ab ab0:Bool}{col col0:Option Bool}{dd dd0:Option ar}{k0 k1 k2 k3 k5 j0 j1 j2 j3 j5:Option aa}{nid nid0:String}{M:Model}{A:bj}{E:ZF}{h:Heap}{g:Array rB}{d:Drawn}{t:Nat}{os:OsState}{o:Obj}{Q:Bool->aq->Prop}
  (hC:h.get? C=some (jo nm q C N bs bm hdct sn sub ab col dd k0 k1 k2 k3 k5 nid)) (hC0:h.get? C0=some (jo nm0 q0 C0 N0 bs0 bm0 hdct0 sn0 sub0 ab0 col0 dd0 j0 j1 j2 j3 j5 nid0))
  (c1:(aa.ref C0::bm0).contains (.type "BaseException")=true) (c2:(aa.ref C::bm).contains (.ref C0)=true) (hx:h.get? x=some o) (hc:o.cls=.ref C) (hq:Q true ⟨h,g,d,t,os⟩):aO M A (excMatches (.ref x) (.ref C0)) Q E ⟨h,g,d,t,os⟩:=by
 have f:=tc_notTuple;unfold excMatches
 repeat (first|(with_reducible refine d5 hx ?_;rw[hc])|with_reducible refine d5 hC0 ?_|(with_reducible refine fJ hC0 ?_;rw[c1])|(with_reducible refine fJ hC ?_;rw[c2])|wp_step)
 exact hq
def UO{K:Fg}{C C0 x:ar}{M:Model}{A:bj}{E:ZF}{s:aq}{o:Obj}{Q:Bool->aq->Prop}(KX:K.In s.heap)(m:HN K C C0)(hx:s.heap.get? x=some o)(hc:o.cls=.ref C)(q:Q true s):aO M A (excMatches (.ref x) (.ref C0)) Q E s:=by
 obtain⟨nm,q',N,B,bs,sn,sub,ab,col,dd,k0,k1,k2,k3,k5,lk⟩:=m.cl.ex;obtain⟨nm0,q0,N0,bs0,bm0,hd0,sn0,sub0,ab0,col0,dd0,j0,j1,j2,j3,j5,nid0,lk0⟩:=m.er.ex;have c1:=J6 lk0 rfl m.er.exc;have c2:=J6 lk rfl m.sub;obtain⟨h,g,d,t,os⟩:=s;exact RV (KX _ _ lk) (KX _ _ lk0) c1 c2 hx hc q
end
def BA(K:Fg)(C D:ar):Bool->Prop
 |true=>PySem.W.isIn K (.ref C) D=true
 |false=>C≠D/\lB K D=true/\jO K (.ref D)=some (.type "type")/\tJ K (.ref C) (.ref D)=some false
def PV(K:Fg)(C:ar):Prop:=b5 K (.ref C) "__class__"=some (some (.builtin "object.__class__"))
section
variable{prog:aW}{w:bK}{A:bj}{E:ZF}{s:aq}{K:Fg}{x C D:ar}{ox od:Obj}
def RQ:m5 K (.builtin "object.__class__") "__get__"=some (some (.builtin "getset_descriptor.__get__")):=by unfold m5 jO;kernel_rfl
def RS:PySem.W.takesIn K (.builtin "object.__class__")=some true:=by unfold PySem.W.takesIn m5 jO;kernel_rfl
def xE.obj(c:xE K C):cY K C (.type "object")=some true:=by
 obtain⟨cd,B,e,m,_⟩:=c.cls;unfold cY;rw[e,fS,m];rfl
def Hk{dep:Int}{tk:Tok}{b:Bool}{Q:PySem.Fin->aq->Prop}(X:K.In s.heap)(J:PySem.W.InstAt s.heap x ox C (some od))(c:xE K C)(wy:PV K C)(i:BA K C D b)(h:∀t,Q (.done (.ret (.bool b))) {s with toks:=t}) :
  aO (model prog w) A (Builtin.«isinstance.nested» ⟨[.ref x,.ref D,.int dep tk],[]⟩) Q E s:=by
 cases b with
 |true=>exact PySem.W.isi_nested X J.type i (h s.toks)
 |false=>
  obtain⟨ne,cl,ty,sb⟩:=i;refine Hm c.hd wy RQ RS c.obj c.ga c.gh c.base X J (PySem.W.looks_typeIn X ty) ?_ (by rw[beq_eq_false_iff_ne];intro z;cases z;exact ne rfl) (PySem.W.looks_subIn X sb) (h _);unfold lB nM at cl;split at cl
  ·rename_i ho;intro A' Q' E' s' k q;unfold isType loadHead;exact ag (mq (k _ _ (X _ _ ho)) (aC q))
  ·cases cl
def Wn:typeOf (.type "ValueError")=pure (.type "type"):=by kernel_rfl
def RU{dep:Int}{tk:Tok}{Q:PySem.Fin->aq->Prop}(X:K.In s.heap)(J:PySem.W.InstAt s.heap x ox C (some od))(c:xE K C)(h:∀t,Q (.done (.ret (.bool true))) {s with toks:=t}) :
  aO (model prog w) A (Builtin.«isinstance.nested» ⟨[.ref x,.type "ValueError",.int dep tk],[]⟩) Q E s:=by
 have L0:=J.type (M:=model prog w);have L3:PySem.W.Looks (model prog w) s.heap (pJ (.ref x) (.type "ValueError")) true:=L0.andThen (PySem.W.looks_mroIn X (by
  obtain⟨cd,B,e,m,_⟩:=c.cls;unfold cY;rw[e,fS,m];rfl))
 obtain⟨hh,g,d,t,os⟩:=s;unfold Builtin.«isinstance.nested»;refine ag (L0.at ?_);rw[if_neg (λq=>by cases beq_iff_eq.mp q),Wn];refine ag (aC ?_);rw[if_pos (by decide)]
 k_delta "plainIsInstance"
 refine ag (ag (aC ?_));simp only[Bool.not_true,Bool.false_eq_true,if_false];refine ag (L3.at ?_);simp only[if_true];exact aC (aC (h t))
def Pl{tp:ar}{ot:Obj}{D1 D2:ar}{n:Nat}{tk:Tok}{b1 b2:Bool}{Q:PySem.Fin->aq->Prop}(X:K.In s.heap)(J:PySem.W.InstAt s.heap x ox C (some od))(c:xE K C)(wy:PV K C)(i1:BA K C D1 b1)(i2:BA K C D2 b2)(ne:C≠tp)
  (ht:s.heap.get? tp=some ot) (hc:ot.cls=.type "tuple") (hd:ot.data=.seq #[.ref D1,.ref D2] n) (h:∀t,Q (.done (.ret (.bool (b1 || b2)))) {s with toks:=t}) :
  aO (model prog w) A (Builtin.«isinstance.nested» ⟨[.ref x,.ref tp,.int 0 tk],[]⟩) Q E s:=by
 have L0:=J.type (M:=model prog w);have an:∀{D b},BA K C D b->Answers (λs=>K.In s.heap/\PySem.W.InstAt s.heap x ox C (some od)) (.ref x) (.ref D) b:=λ{D b} i dep tk=>λ_ _ _ _ s hs=>Hk hs.1.1 hs.1.2 c wy i hs.2;obtain⟨hh,g,d,t,os⟩:=s;have hT2:(⟨hh,g,d,t,os⟩:aq).TypeIs (.ref tp) "tuple":=⟨_,ht,hc⟩;have f1:=F.isi_sub_tuple;unfold Builtin.«isinstance.nested»;refine ag (L0.at ?_);rw[if_neg (λq=>by cases beq_iff_eq.mp q;exact ne rfl)]
 repeat (any_goals (first|assumption|wp_step))
 rw[hd];refine aC (ag ?_);show aO _ _ (forIn (#[aa.ref D1,aa.ref D2]:Array aa) _ _) _ _ _;rw[<-Array.forIn_toList];refine isinstance_items (P:=λs=>K.In s.heap/\PySem.W.InstAt s.heap x ox C (some od)) (dep:=0) (λs tk h=>h) [.ref D1,.ref D2] [b1,b2] _ _ ⟨an i1,an i2,True.intro⟩ ⟨X,J⟩ λtk'=>?_;have e:[b1,b2].any id=(b1 || b2):=by simp
 have h':=h tk';rw[<-e] at h';cases hv:[b1,b2].any id with
 |true=>
  simp only[if_true];rw[hv] at h'
  repeat (any_goals (first|assumption|wp_step))
 |false=>
  simp only[Bool.false_eq_true,if_false];rw[hv] at h'
  repeat (any_goals (first|assumption|wp_step))
end
section
variable{prog:aW}{w:bK}{A:bj}{R:Result->aq->Prop}{s:aq}
def Ed{elt target iter:Expr}{ifs:List Expr}{scope:Scope}{pos:Pos}{it acc:aa}{env:Env}(I:Nat->aq->Prop)
  (turn:∀n s,I n s->aO (model prog w) A (nI it) (λr s₁=>match r with
   |none=>R (.ok .next) s₁
   |some v=>aO (model prog w) A (lu target it v) (λ_ s₁=>aO (model prog w) A (assign target env v) (λ_ s₂=>
     aO (model prog w) A (forIn ifs true λc r=>if r=true then do let ok <-isTrue c env (eval c env);pure (ForInStep.yield ok) else pure (ForInStep.yield r)) (λok s₃=>
      if ok=true then aO (model prog w) A (eval elt env) (λx s₄=>
       aO (model prog w) A (call (.builtin "list.append") [acc,x]) (λ_ s₅=>∃m,m<n/\I m s₅) (λ_ _=>False) s₄) (λ_ _=>False) s₃
      else ∃m,m<n/\I m s₃) (λ_ _=>False) s₂) (λ_ _=>False) s₁) (λ_ _=>False) s₁) (λ_ _=>False) s)
  (n:Nat) (h:I n s) :
  ig (model prog w) A (.compLoop (.ListComp elt [⟨target,iter,ifs,0⟩] scope pos) 0 it acc env) R s:=by
 refine codeAny_loop rfl I (λn s hI=>?_) n h;show aO _ A ((compTurn (.ListComp elt [⟨target,iter,ifs,0⟩] scope pos) 0 it acc env).onRaise (λx=>do jq x env;theTreesLotGoes x)) _ _ s;refine wpAny_noted ?_;rw[compTurn_list];refine ag (hV (ag (dh (turn n s hI) (λr s₁ h₁=>?_) λ_ _ h'=>h'.elim)));cases r with
 |none=>exact aC h₁
 |some v=>
  refine ag (dh h₁ (λ_ s₁' h₁'=>?_) λ_ _ h'=>h'.elim);refine ag (dh h₁' (λ_ s₂ h₂=>ag (dh h₂ (λok s₃ h₃=>?_) λ_ _ h'=>h'.elim)) λ_ _ h'=>h'.elim);cases ok with
  |false=>exact aC ⟨rfl,h₃⟩
  |true=>
   exact ag (ag (dh h₃ (λx s₄ h₄=>ag (dh h₄ (λ_ s₅ h₅=>aC (aC ⟨rfl,h₅⟩)) λ_ _ h'=>h'.elim)) λ_ _ h'=>h'.elim))
end
def uE{env:Env}{f:Str×cu->List (Str×ar)->Sem (ForInStep (List (Str×ar)))}
  (hf:∀n k cs,f (n,k) cs=if(k==cu.free)=true then(do let c <-cellOf env n;pure (.yield ((n,c)::cs))) else pure (.yield cs)) :
  ∀(names:List (Str×cu)) (cs:List (Str×ar)),(∀x∈names,x.2=cu.free->∃c,env.cells.lookup x.1=some c)->(∀n c,cs.lookup n=some c->env.cells.lookup n=some c)->
   ∃cl,(forIn names cs f:Sem (List (Str×ar)))=pure cl/\(∀n c,cl.lookup n=some c->env.cells.lookup n=some c)/\(∀n,(cs.lookup n).isSome=true->(cl.lookup n).isSome=true)/\∀x∈names,x.2=cu.free->(cl.lookup x.1).isSome=true
 |[],cs,_,h2=>⟨cs,rfl,h2,λ_ h=>h,λ_ h=>nomatch h⟩
 |(n,k)::r,cs,h1,h2=>by
  have h1r:∀x∈r,x.2=cu.free->∃c,env.cells.lookup x.1=some c:=λx hx=>h1 x (bq _ hx);rw[List.forIn_cons,hf];by_cases hk:k=cu.free
  ·subst hk;obtain⟨c,hc⟩:=h1 (n,cu.free) bZ rfl;have h2':∀m d,((n,c)::cs).lookup m=some d->env.cells.lookup m=some d:=λm d hd=>by
    rw[fR] at hd;cases e:(m==n) with
    |true=>
     rw[e] at hd;have:m=n:=by simpa using e
     rw[this];cases hd;exact hc
    |false=>rw[e] at hd;exact h2 m d hd
   obtain⟨cl,e1,e2,e3,e4⟩:=uE hf r ((n,c)::cs) h1r h2';refine⟨cl,?_,e2,λm hm=>e3 m ?_,λx hx hk=>?_⟩
   ·rw[<-e1];have ec:cellOf env n=pure c:=by unfold cellOf;rw[hc]
    rw[ec];rfl
   ·rw[fR];cases e:(m==n) with
    |true=>rfl
    |false=>exact hm
   ·rcases aE.mp hx with rfl|hx
    ·exact e3 n (by rw[fR,beq_self_eq_true];rfl)
    ·exact e4 x hx hk
  ·have hb:(k==cu.free)=false:=by simpa using hk
   obtain⟨cl,e1,e2,e3,e4⟩:=uE hf r cs h1r h2;refine⟨cl,?_,e2,e3,λx hx hk'=>?_⟩
   ·rw[<-e1,hb];rfl
   ·rcases aE.mp hx with rfl|hx
    ·exact absurd hk' hk
    ·exact e4 x hx hk'
def zI{scope:Scope}{env:Env}(h1:∀x∈scope.names,x.2=cu.free->∃c,env.cells.lookup x.1=some c) :
  ∃cl,closureFor scope env=pure cl/\(∀n c,cl.lookup n=some c->env.cells.lookup n=some c)/\∀x∈scope.names,x.2=cu.free->(cl.lookup x.1).isSome=true:=by
 obtain⟨cl,e1,e2,_,e4⟩:=uE (env:=env) (f:=λ(x:Str×cu) cs=>if(x.2==cu.free)=true then(do let c <-cellOf env x.1;pure (.yield ((x.1,c)::cs))) else pure (.yield cs)) (λ_ _ _=>rfl) scope.names [] h1 (λ_ _ h=>nomatch h);refine⟨cl,Eq.trans (show closureFor scope env=((forIn scope.names ([]:List (Str×ar)) λ(x:Str×cu) cs=>if(x.2==cu.free)=true then(do let c <-cellOf env x.1;pure (.yield ((x.1,c)::cs))) else pure (.yield cs)) >>= λcs=>pure cs) from rfl) ?_,e2,e4⟩;rw[e1]
 all_goals rfl
def jU{env:Env}{x:Str}:∀(names:List (Str×cu)),
  (names.map λ(n,k)=>if(k==cu.free&&env.scope.kind==.function&&env.kindOf n==some .cell) then(n,cu.cell) else(n,k)).lookup x =
   (names.lookup x).map λk=>if(k==cu.free&&env.scope.kind==.function&&env.kindOf x==some .cell) then cu.cell else k
 |[]=>rfl
 |(n,k)::r=>by
  have ih:=jU (env:=env) (x:=x) r;show ix x ((if(k==cu.free&&env.scope.kind==.function&&env.kindOf n==some .cell)=true then(n,cu.cell) else(n,k))::_)=_;cases hx:x==n with
  |true=>
   have e:x=n:=by simpa using hx
   subst e;by_cases hc:(k==cu.free&&env.scope.kind==.function&&env.kindOf x==some .cell)=true
   ·rw[if_pos hc];simp only[fR,hx,cv,if_pos hc]
   ·rw[if_neg hc];simp only[fR,hx,cv,if_neg hc]
  |false=>
   by_cases hc:(k==cu.free&&env.scope.kind==.function&&env.kindOf n==some .cell)=true
   ·rw[if_pos hc];simp only[fR,hx];exact ih
   ·rw[if_neg hc];simp only[fR,hx];exact ih
def OK{scope:Scope}{env:Env}{x:Str}(hcell:∀y∈scope.names,y.2≠cu.cell)(h:(relabel scope env).names.lookup x=some .cell\/(relabel scope env).names.lookup x=some .free):scope.names.lookup x=some .free:=by
 have e:(relabel scope env).names.lookup x=_:=jU (env:=env) (x:=x) scope.names;rw[e] at h;cases q:scope.names.lookup x with
 |none=>rw[q] at h;rcases h with h|h<;>cases h
 |some k=>
  rw[q] at h;by_cases hk:k=cu.free
  ·rw[hk]
  ·have hb:(k==cu.free)=false:=by simpa using hk
   simp only[cv,hb,Bool.false_and,Bool.false_eq_true,if_false] at h;rcases h with h|h
   ·cases h;exact absurd rfl (hcell _ (dB q))
   ·exact h
def RE{scope:Scope}{env:Env}{x:Str}(h:(relabel scope env).names.lookup x≠none):scope.names.lookup x≠none:=by
 have e:(relabel scope env).names.lookup x=_:=jU (env:=env) (x:=x) scope.names;intro q;rw[e,q] at h;exact h rfl
structure ux(sc:Scope)(N:List Str)(scope:Scope)(NY:List Str)(js:List Nat):Prop where
 kind:scope.kind=.function
 cell:∀y∈scope.names,y.2≠cu.cell
 names:∀x∈scope.names,x.2=cu.local->scope.names.lookup x.1=some .local
 free:∀x∈scope.names,x.2=cu.free->sc.names.lookup x.1=some .cell\/sc.names.lookup x.1=some .free
 pre:NY.take N.length=N
 cap:∀p∈N.zipIdx,js.contains p.2=true\/scope.names.lookup p.1=none\/scope.names.lookup p.1=some .free
def Hn(js:List Nat)(k:Nat)(σ:St):St:=js.foldl (λs j=>s.set j none) σ++bG k none
def sY:∀(js:List Nat) (σ:St),(js.foldl (λs j=>s.set j none) σ).length=σ.length
 |[],_=>rfl
 |j::r,σ=>by rw[ja,sY r,fG]
def CO:∀(js:List Nat) (σ:St) (i:Nat) (v:V),(js.foldl (λs j=>s.set j none) σ)[i]?=some (some v)->σ[i]?=some (some v)/\js.contains i=false
 |[],σ,i,v,h=>⟨h,rfl⟩
 |j::r,σ,i,v,h=>by
  rw[ja] at h;obtain⟨h1,h2⟩:=CO r _ i v h;by_cases e:j=i
  ·subst e;by_cases hj:j<σ.length
   ·rw[bI hj] at h1;cases h1
   ·rw[dF (by rw[fG];lia)] at h1;cases h1
  ·rw[b8 e] at h1;refine⟨h1,?_⟩;rw[gW,h2];have:(i==j)=false:=by simpa using λz=>e z.symm
   rw[this];rfl
def Qa{js:List Nat}{k:Nat}{σ:St}{i:Nat}{v:V}(h:(Hn js k σ)[i]?=some (some v)):σ[i]?=some (some v)/\js.contains i=false:=by
 unfold Hn at h;by_cases hi:i<σ.length
 ·rw[cE (by rw[sY];exact hi)] at h;exact CO js σ i v h
 ·rw[bT (by rw[sY];lia),gL] at h;split at h<;>cases h
def Qb{js:List Nat}{k:Nat}{σ:St}:(Hn js k σ).length=σ.length+k:=by
 unfold Hn;rw[aG,sY,c9]
def eB(X:Cx)(NY:List Str)(scope:Scope)(cl:List (Str×ar))(C:ar)(s₀:aq)(H₀:Hp)(fp:List ar):Cx:=
 {X with N:=NY,s₀:=s₀,H₀:=H₀,env:=compEnvC scope cl C X.env,outer:=X.stack,ex:=fp,fn:=λ_=>false,pn:=[],xe:=λ_ _=>False}
def KM(X:Cx)(ifs:List Expr)(t:TT):Prop:=
 ∀(pins:List (ar×Obj)) (s:aq) (σ:St) (H:Hp) (Q:Bool->Hp->Prop),bY X pins σ H s->t σ H Q->
  aO (model X.prog X.w) X.A (forIn ifs true λc r=>if r=true then do let ok <-isTrue c X.env (eval c X.env);pure (ForInStep.yield ok) else pure (ForInStep.yield r)) (TP X pins σ Q) X.xe s
def kH:TT:=λ_ H Q=>Q true H
def Q1{X:Cx}:KM X [] kH:=λ_ _ _ H _ I h=>wpAny_tests_nil ⟨H,I,h⟩
def Q2{X:Cx}{c:Expr}{t:TT}(h:PT X c t):KM X [c] t:=λpins s σ H Q I q=>wpAny_tests_one (h pins s σ H Q I q)
def wX(D:ar)(tc:TT)(te:TE):TS:=λE σ H=>tc σ H λb H1=>if b=true then te σ H1 λy H2=>∃ys,H2 D=some (.lst ys)/\ys.length<av/\E.nx σ (upd H2 D (.lst (ys++[y]))) else E.nx σ H1
def fE(js:List Nat)(k:Nat)(wi:TI)(g:TG)(tc:TT)(te:TE):TE:=λσ H Q=>wi σ H λJ H1=>∀D,H1 D=none->
 ∃W:Nat->Nat->St->Hp->Prop,(∃m,W 0 m (Hn js k σ) (upd H1 D (.lst [])))/\∀i m σ H,W i m σ H->
  (J.stop i H/\Q (.ref D) H)\/(J.go i H/\∃N:St->Hp->Prop,(∀σ' H',N σ' H'->∃m',m'<m/\W (i+1) m' σ' H')/\∀x H',J.yld i H x H'->g x σ H' λσ2 H2=>wX D tc te {nx:=N,rt:=λ_ _=>False,ct:=N,bk:=λ_ H'=>Q (.ref D) H'} σ2 H2)
section
variable{X:Cx}{pins:List (ar×Obj)}{σ:St}{H2:Hp}{s₂:aq}{N NY:List Str}{sc scope:Scope}{cl:List (Str×ar)}{C:ar}{fp:List ar}{js:List Nat}{k:Nat}
def PY(I2:bY X pins σ H2 s₂)(hf:∀b∈fp,uy X pins H2 b)(hfl:∀b∈fp,∃o,s₂.heap.get? b=some o)(hkind:scope.kind=.function)(hcell:∀y∈scope.names,y.2≠cu.cell)
  (hcl1:∀n c,cl.lookup n=some c->X.env.cells.lookup n=some c) (hcl2:∀x∈scope.names,x.2=cu.free->(cl.lookup x.1).isSome=true) (hC:s₂.heap.objs.size<=C) :
  (eB X NY scope cl C s₂ H2 fp).Ok where
 mod:=I2.ok.mod
 kind:=hkind
 glob:=I2.ok.glob
 blt:=I2.ok.blt
 above:=hC
 inj:=λx y c h1 h2=>I2.ok.inj x y c (hcl1 x c h1) (hcl1 y c h2)
 has:=λx hx=>by
  have e:scope.names.lookup x=some .free:=OK (env:=X.env) hcell hx;exact gA.mp (hcl2 (x,.free) (dB e) rfl)
 cab:=λ_ _ h _=>nomatch h
 hd:=I2.ok.hd
 frames:=I2.ok.frames
 stk:=.inl rfl
 exf:=λb hb=>by
  obtain⟨o,ho⟩:=hfl b hb;exact⟨bu (bh (aP ho) hC),λx c h=>(hf b hb).2.2.2.2.1 x c (hcl1 x c h)⟩
 bs:=I2.bs
 bsz:=b9 I2.ok.bsz I2.sz
 noex:=λb o e hb=>by
  rcases(hf b hb).2.2.2.1 with z|z
  ·exact I2.ok.noex b o e z
  ·exact absurd (bh (aP e) (b9 I2.ok.bsz z)) (cQ _)
 exfs:=λb hb z=>by
  rcases aE.mp (I2.stkSub b z) with e|e
  ·exact(hf b hb).2.1 e
  ·exact(hf b hb).2.2.1 e
 funs:=I2.stack
 frf:=I2.stkFree
variable{elt iter target:Expr}{ifs:List Expr}{pos:Pos}{it:ar}{tn:Nat->Heap->Prop}{J:It}{g:TG}{tc:TT}{te:TE}{Q:VK}{RR:aa->ar->Result->aq->Prop}{E:ZF}
def zJ(ok:ux sc N scope NY js)(hsc:X.env.scope=sc)(hN:X.N=N)(hk:NY.length=N.length+k)(hc:X.calm=true)(I2:bY X pins σ H2 s₂)(T:DW X.prog X.w X.K target J fp it tn)(st2:tn 0 s₂.heap)(f2:∀b∈fp,uy X pins H2 b)
  (hcl1:∀n c,cl.lookup n=some c->X.env.cells.lookup n=some c) (hcl2:∀x∈scope.names,x.2=cu.free->(cl.lookup x.1).isSome=true)
  (hg:∀cl C s₀ H₀ fp,PG (eB X NY scope cl C s₀ H₀ fp) target g) (hi:∀cl C s₀ H₀ fp,KM (eB X NY scope cl C s₀ H₀ fp) ifs tc) (he:∀cl C s₀ H₀ fp,PE (eB X NY scope cl C s₀ H₀ fp) elt te)
  (loop:∀D,H2 D=none->
   ∃W:Nat->Nat->St->Hp->Prop,(∃m,W 0 m (Hn js k σ) (upd H2 D (.lst [])))/\∀i m σ H,W i m σ H->
    (J.stop i H/\Q (.ref D) H)\/(J.go i H/\∃N:St->Hp->Prop,(∀σ' H',N σ' H'->∃m',m'<m/\W (i+1) m' σ' H')/\∀x H',J.yld i H x H'->g x σ H' λσ2 H2=>wX D tc te {nx:=N,rt:=λ_ _=>False,ct:=N,bk:=λ_ H'=>Q (.ref D) H'} σ2 H2))
  (hRR:∀D C H' s' m,s'.heap.Ns C m->bY X pins σ H' s'->H' C=none->C≠X.env.locals->X.s₀.heap.objs.size<=C->(∀x c,X.env.cells.lookup x=some c->c≠C)->(∀p∈X.pn++pins,p.1≠C)->D≠C->Q (.ref D) H'->RR (.ref D) C (.ok .next) s') :
  aO (model X.prog X.w) X.A (newList []) (λacc s₃=>aO (model X.prog X.w) X.A (newFunctionEnv scope X.env.globals cl [] X.env.qual none .none (some X.env)) (λcenv s₄=>
   ig (model X.prog X.w) X.A (.compStart (.ListComp elt [⟨target,iter,ifs,0⟩] scope pos) 0 (.ref it) acc {cenv with scope:=relabel scope X.env}) (RR acc cenv.locals) s₄) E s₃) E s₂:=by
 refine d6 (wpAny_newFunctionEnv ok.cell (by intro y hy;simp at hy) (λh₁ hns₁ hsb₁=>?_) ok.kind);dsimp only at hns₁ hsb₁ ⊢;generalize hG:s₂.heap.push {cls:=.type "list",dict:=none,data:=.seq ([]:List aa).toArray}=G at hns₁ hsb₁ ⊢;have hC:G.objs.size=s₂.heap.objs.size+1:=by rw[<-hG,d7]
 have hDC:s₂.heap.objs.size≠G.objs.size:=by rw[hC];exact bu (ko _)
 have hCle:s₂.heap.objs.size<=G.objs.size:=by rw[hC];exact kS _
 have below:∀b,b<s₂.heap.objs.size->b≠G.objs.size:=λb hb=>by rw[hC];exact bu (gp hb)
 have old:∀b o,s₂.heap.get? b=some o->h₁.get? b=some o:=λb o e=>hsb₁.extBut b o (below b (aP e)) (az _ (hG ▸ az _ e));have hacc:h₁.get? s₂.heap.objs.size=some {cls:=.type "list",dict:=none,data:=.seq ([]:List aa).toArray}:=hsb₁.extBut _ _ hDC (az _ (hG ▸ aZ _ rfl));have hfl:∀b∈fp,∃o,s₂.heap.get? b=some o:=λb hb=>let⟨o,ho,_⟩:=T.obj 0 _ st2 b hb;⟨o,ho⟩;have fD:H2 s₂.heap.objs.size=none:=I2.hok.fresh (aD _);have fC:H2 G.objs.size=none:=I2.hok.fresh hCle;have I4:bY (eB X NY scope cl G.objs.size s₂ H2 fp) [] (Hn js k σ) (upd H2 s₂.heap.objs.size (.lst [])) {s₂ with heap:=h₁,toks:=s₂.toks+([]:List (Str×aa)).length}:=by
  refine⟨PY I2 f2 hfl ok.kind ok.cell hcl1 hcl2 hCle,rfl,I2.bare,Un.laid old (aD _) fD,⟨_,hns₁,λi y v h1 h2 h3=>?_⟩,λx c h=>?_,?_,λx c h=>?_,λp hp=>absurd (show p∈([]:List (ar×Obj)) from hp) (by simp),I2.hok.laid old (aD _) ⟨cA _,[],0,.nil,hacc⟩,?_⟩
  ·obtain⟨e1,e2⟩:=Qa h2;have hi:i<N.length:=by
    have:=(ak.mp e1).1;rw[I2.len,hN] at this;exact this
   have hy:N[i]?=some y:=by
    rw[<-ok.pre,iW hi];exact h1
   have hz:(y,i)∈N.zipIdx:=by
    rw[List.mem_zipIdx_iff_getElem?];exact hy
   have nn:scope.names.lookup y≠none:=RE (env:=X.env) (x:=y) (by
    rcases h3 with z|z|z
    ·intro q;rw[show(relabel scope X.env).names.lookup y=_ from z] at q;cases q
    ·intro q;rw[show(relabel scope X.env).names.lookup y=_ from z] at q;cases q
    ·intro q;rw[show(relabel scope X.env).names.lookup y=_ from z] at q;cases q)
   have hfr:scope.names.lookup y=some .free:=by
    rcases ok.cap (y,i) hz with z|z|z
    ·rw[e2] at z;cases z
    ·exact absurd z nn
    ·exact z
   have hX:=ok.free (y,.free) (dB hfr) rfl;rw[<-hsc] at hX;obtain⟨m,hn,hl⟩:=I2.loc;obtain⟨u,ru,lk⟩:=hl i y v (by rw[hN];exact hy) e1 (by
    rcases hX with z|z
    ·exact .inr (.inl z)
    ·exact .inr (.inr z))
   refine⟨u,ru,?_⟩;rcases lk with⟨lk,_⟩|⟨_,c,hc1,hc2⟩
   ·have lk:X.env.scope.names.lookup y=some .local:=lk;rcases hX with z|z<;>· rw[z] at lk;cases lk
   ·have hs:=hcl2 (y,.free) (dB hfr) rfl;obtain⟨c',hc'⟩:=gA.mp hs;have e3:=hcl1 y c' hc';rw[hc1] at e3;cases e3;refine .inr ⟨?_,c,hc',hc2.keeps old⟩;show(relabel scope X.env).names.lookup y=some .cell\/(relabel scope X.env).names.lookup y=some .free;have e:(relabel scope X.env).names.lookup y=_:=jU (env:=X.env) (x:=y) scope.names;rw[e,hfr,cv];split
    ·exact .inl rfl
    ·exact .inr rfl
  ·obtain⟨v,q⟩:=I2.cell x c (hcl1 x c h);exact⟨v,q.keeps old⟩
  ·show upd H2 s₂.heap.objs.size (.lst []) G.objs.size=none;rw[aK (Ne.symm hDC)];exact fC
  ·have q:=I2.freeC x c (hcl1 x c h);obtain⟨v,o,ho,_⟩:=I2.cell x c (hcl1 x c h);show upd H2 s₂.heap.objs.size (.lst []) c=none;rw[aK (bu (aP ho))];exact q
  ·show(Hn js k σ).length=NY.length;rw[Qb,I2.len,hN,hk]
 have st4:tn 0 h₁:=T.keep _ _ _ st2 λb _ o e=>old b o e;obtain⟨W,⟨m0,w0⟩,turn⟩:=loop s₂.heap.objs.size fD;have stat:∀{H':Hp},(∀b∈fp,H' b=none)->∀b∈fp,uy (eB X NY scope cl G.objs.size s₂ H2 fp) [] H' b:=λhn b hb=>by
  obtain⟨o,ho⟩:=hfl b hb;refine⟨hn b hb,below b (aP ho),λz=>?_,.inl hb,λx c h=>(f2 b hb).2.2.2.2.1 x c (hcl1 x c h),λp hp=>absurd (show p∈([]:List (ar×Obj)) from hp) (by simp)⟩;rcases aE.mp (I2.stkSub b z) with e|e
  ·exact(f2 b hb).2.1 e
  ·exact(f2 b hb).2.2.1 e
 have go:∀s₄:aq,s₄={s₂ with heap:=h₁,toks:=s₂.toks+([]:List (Str×aa)).length}->
   ig (model X.prog X.w) X.A (.compLoop (.ListComp elt [⟨target,iter,ifs,0⟩] scope pos) 0 (.ref it) (.ref s₂.heap.objs.size) (compEnvC scope cl G.objs.size X.env)) (RR (.ref s₂.heap.objs.size) G.objs.size) s₄:=by
  rintro s₄ rfl;refine Ed (λn s'=>∃i σ' H',bY (eB X NY scope cl G.objs.size s₂ H2 fp) [] σ' H' s'/\tn i s'.heap/\(∀b∈fp,H' b=none)/\W i n σ' H') ?_ m0
   ⟨0,_,_,I4,st4,λb hb=>by
    obtain⟨o,ho⟩:=hfl b hb;rw[aK (bu (aP ho))];exact(f2 b hb).1,w0⟩
  rintro n s3 ⟨i,σ3,H3,I3,st3,fr3,w3⟩;rcases turn i n σ3 H3 w3 with⟨stop,qn⟩|⟨go,Nx,hNx,step⟩
  ·refine fk (T.done (eB X NY scope cl G.objs.size s₂ H2 fp) rfl rfl rfl hc i [] s3 σ3 H3 _ I3 (stat fr3) st3 stop) λr s5 ⟨hr,I5⟩=>?_;subst hr;have IX:bY X pins σ H3 s5:=I2.call' (ch:=fp) I5.os I5.base I5.hok I5.bare λb hb=>⟨(f2 b hb).2.2.2.1,(f2 b hb).2.1,(f2 b hb).2.2.2.2.1,(f2 b hb).2.2.2.2.2⟩;obtain⟨m,hm,_⟩:=I5.loc;refine hRR _ _ H3 s5 m hm IX I5.free (λz=>?_) (b9 I2.sz hCle) (λx c h z=>?_) (λp hp z=>?_) hDC qn
   ·have:=I2.lt;rw[<-z] at this;exact cQ _ (bh this hCle)
   ·obtain⟨v,o,ho,_⟩:=I2.cell x c h;have:=aP ho;rw[z] at this;exact cQ _ (bh this hCle)
   ·have:=aP (I2.pin p hp).1;rw[z] at this;exact cQ _ (bh this hCle)
  ·refine fk (T.item (eB X NY scope cl G.objs.size s₂ H2 fp) rfl rfl rfl hc i [] s3 σ3 H3 _ I3 (stat fr3) st3 go) λr s5 ⟨u,hr,h5⟩=>?_;subst hr;refine fk h5 λ_ s6 ⟨x,H6,I6,r6,y6,st6,fr6⟩=>?_;have I6':=I6.pinned (stat fr6) (T.obj _ _ st6);have again:∀{σ7:St} {H7:Hp} {s7:aq},bY (eB X NY scope cl G.objs.size s₂ H2 fp) ([]++Ap fp s6.heap) σ7 H7 s7->Nx σ7 H7->∃m,m<n/\∃i σ' H',bY (eB X NY scope cl G.objs.size s₂ H2 fp) [] σ' H' s7/\tn i s7.heap/\(∀b∈fp,H' b=none)/\W i m σ' H':=λ{σ7 H7 s7} I7 n7=>by
    obtain⟨m',hm,w7⟩:=hNx σ7 H7 n7;refine⟨m',hm,i+1,σ7,H7,I7.unpinned,T.keep _ _ _ st6 λb hb o e=>(I7.pin (b,o) (bD _ (bD _ (pW hb e)))).1,λb hb=>?_,w7⟩;obtain⟨o,e,d⟩:=T.obj _ _ st6 b hb;exact(I7.pin (b,o) (bD _ (bD _ (pW hb e)))).2.1
   refine fk (hg cl G.objs.size s₂ H2 fp _ s6 σ3 H6 x u _ I6' r6 (step x H6 y6)) λ_ s7 ⟨σ7,H7,I7,q7⟩=>?_;refine fk (hi cl G.objs.size s₂ H2 fp _ s7 σ7 H7 _ I7 q7) λok s8 ⟨H8,I8,q8⟩=>?_;cases ok with
   |false=>
    rw[if_neg Bool.false_ne_true] at q8 ⊢;exact again I8 q8
   |true=>
    rw[if_pos rfl] at q8 ⊢;refine fk (he cl G.objs.size s₂ H2 fp _ s8 σ7 H8 _ I8 q8) λy s9 ⟨z,H9,I9,r9,ys,hD,hz,n9⟩=>?_;refine fk (C6 (X:=eB X NY scope cl G.objs.size s₂ H2 fp) _ s9 σ7 H9 (.ref s₂.heap.objs.size) [z] (.ref s₂.heap.objs.size) [y] (λ_ H'=>H'=upd H9 s₂.heap.objs.size (.lst (ys++[z]))) I9 rfl (.cons r9 .nil) ⟨_,ys,z,rfl,rfl,hD,hz,rfl⟩) λ_ s10 ⟨_,H10,I10,_,q10⟩=>?_;subst q10;exact again I10 n9
 exact codeAny_compStart_list (go _ rfl) (T.self _ 0 _ _ _ st4 (go _ rfl))
def QN{wi:TI}(ok:ux sc N scope NY js)(hsc:X.env.scope=sc)(hN:X.N=N)(hk:NY.length=N.length+k)(hc:X.calm=true)(hit:PI X target iter wi)
  (hg:∀cl C s₀ H₀ fp,PG (eB X NY scope cl C s₀ H₀ fp) target g) (hi:∀cl C s₀ H₀ fp,KM (eB X NY scope cl C s₀ H₀ fp) ifs tc) (he:∀cl C s₀ H₀ fp,PE (eB X NY scope cl C s₀ H₀ fp) elt te)
  (hs:∀x,eL iter X.env x=pure x:=by intro _;rfl):PE X (.ListComp elt [⟨target,iter,ifs,0⟩] scope pos) (fE js k wi g tc te):=by
 intro pins s σ H Q I h;obtain⟨cl,hclos,hcl1,hcl2⟩:=zI (scope:=scope) (env:=X.env) λx hx hf=>I.ok.has x.1 (by
  have:=ok.free x hx hf;rw[<-hsc] at this;exact this)
 rw[eval_ListComp];refine wpAny_comprehension_free (use:=none) rfl hs hclos ok.kind ok.names (fk (hit pins s σ H _ I h) λxv s₁ h₁=>fk h₁ λitv s₂ h₂=>?_);obtain⟨it,fp,tn,J,H2,rfl,I2,T,st2,f2,loop⟩:=h₂;refine zJ (RR:=λacc C=>compPost (model X.prog X.w) X.A X.xe none (EP X pins σ Q) acc C) (Q:=Q) ok hsc hN hk hc I2 T st2 f2 hcl1 hcl2 hg hi he loop ?_;intro D C H' s' m hm IX fC c1 c2 c3 c4 _ q;exact⟨m,hm,λh' hs'=>⟨.ref D,H',IX.turned (t':=s'.toks) (λb o hb e=>(hs'.2 b hb).trans e) fC c1 (.inr c2) c3 c4,rfl,q⟩⟩
def Ra{wi:TI}{i:Nat}{y:Str}{py spos:Pos}(ok:ux sc N scope NY js)(hsc:X.env.scope=sc)(hN:X.N=N)(hk:NY.length=N.length+k)(hc:X.calm=true)(hit:PI X target iter wi)
  (hg:∀cl C s₀ H₀ fp,PG (eB X NY scope cl C s₀ H₀ fp) target g) (hi:∀cl C s₀ H₀ fp,KM (eB X NY scope cl C s₀ H₀ fp) ifs tc) (he:∀cl C s₀ H₀ fp,PE (eB X NY scope cl C s₀ H₀ fp) elt te)
  (nd:X.N.Nodup) (hy:X.N[i]?=some y) (hl:MR X.env.scope y) (hsw:gI (.ListComp elt [⟨target,iter,ifs,0⟩] scope pos) (some (.Name y py)) spos.line X.env=pure true)
  (hs:∀x,eL iter X.env x=pure x:=by intro _;rfl) (hf:X.fn y=true\/X.env.scope.names.lookup y=some .local:=by first|exact .inl rfl|exact .inr rfl|assumption) :
  PS X (.Assign [.Name y py] (.ListComp elt [⟨target,iter,ifs,0⟩] scope pos) spos) (cb (fE js k wi g tc te) (aU i)):=by
 intro pins s σ H D I h;obtain⟨cl,hclos,hcl1,hcl2⟩:=zI (scope:=scope) (env:=X.env) λx hx hf=>I.ok.has x.1 (by
  have:=ok.free x hx hf;rw[<-hsc] at this;exact this)
 rw[exec_Assign_Name_used _ _ _ _ hsw];refine ag (hV (ag ?_));show aO _ X.A (do let _ <-comprehension (.ListComp elt [⟨target,iter,ifs,0⟩] scope pos) scope X.env _ (newList []) false (eval iter X.env) (some (assign (.Name y py) X.env))) _ _ s;refine ag (dh (wpAny_comprehension_free (use:=some (assign (.Name y py) X.env)) (Q:=λ_ s'=>SP X pins D .next s') rfl hs hclos ok.kind ok.names
  (fk (hit pins s σ H _ I h) λxv s₁ h₁=>fk h₁ λitv s₂ h₂=>?_)) (λ_ s' hq=>aC (aC hq)) λ_ _ e=>e)
 obtain⟨it,fp,tn,J,H2,rfl,I2,T,st2,f2,loop⟩:=h₂;refine zJ (RR:=λacc C=>compPost (model X.prog X.w) X.A X.xe (some (assign (.Name y py) X.env)) (λ_ s'=>SP X pins D .next s') acc C) (Q:=λx H1=>aU i x σ H1 D.nx) ok hsc hN hk hc I2 T st2 f2 hcl1 hcl2 hg hi he loop ?_;intro Da C H' s' m hm IX fC c1 c2 c3 c4 _ q;show aO _ X.A (assign (.Name y py) X.env (.ref Da)) _ _ _;refine wpAny_assign_Name (Dk IX nd hy hl (v:=.ref Da) rfl (λs2 IY ⟨a,sb,ha⟩=>?_) hf);have hne:C≠a:=by
  rcases ha with rfl|ha
  ·exact c1
  ·exact λz=>c3 y a ha z.symm
 exact⟨m,hm.sameBut sb hne,λh' hs'=>⟨_,H',IY.turned (t':=s2.toks) (λb o hb e=>(hs'.2 b hb).trans e) fC c1 (.inr c2) c3 c4,q⟩⟩
end
section
variable{X:Cx}{pins:List (ar×Obj)}{σ:St}{H:Hp}{s:aq}{h':Heap}
def bY.turnedL{t':Nat}{ch:List ar}(I:bY X pins σ H s)(k:∀b o,b∉ch->s.heap.get? b=some o->h'.get? b=some o)(hf:∀b∈ch,uy X pins H b) :
  bY X pins σ H {s with heap:=h',toks:=t'}:=by
 have nit:∀b u,H b=some u->b∉ch:=λb u e z=>by rw[(hf b z).1] at e;cases e
 refine I.step (g':=s.gens) (d':=s.drawn) (ch:=ch) (λb hb=>⟨(hf b hb).2.2.2.1,(hf b hb).2.1,(hf b hb).2.2.2.2.1,(hf b hb).2.2.2.2.2⟩) (λb o _ _ hc e _=>k b o hc e) (λb o _ _ hc e _=>⟨o.slots,k b o hc e⟩) (λ_ _ _ _ n=>n)
  (λb o hc e=>⟨o,k b o hc e⟩) (λ_ _ e=>e) (λ_ _ _ e=>e) (λb ps e=>⟨#[],by rw[e];simp⟩) (λm hm=>?_) (λb u e=>?_) I.bare
 ·obtain⟨o,es,ep,ho,r⟩:=hm;exact⟨o,es,ep,k _ o (λz=>(hf _ z).2.1 rfl) ho,r⟩
 ·refine(I.hok b u e).stay (λc v hc q=>k c v ?_ q) (λ_ q=>q) λ_ _ q=>q;rcases hc with z|z
  ·rw[z];exact nit b u e
  ·exact nit c _ z
def bY.adopt{T:ar}{o:HO}(I:bY X pins σ H s)(hf:uy X pins H T)(new:fg X.prog X.w (upd H T o) s.heap T o):bY X pins σ (upd H T o) s:=by
 have nT:∀b u,H b=some u->b≠T:=λb u e z=>by rw[z,hf.1] at e;cases e
 refine I.step (h':=s.heap) (H':=upd H T o) (g':=s.gens) (d':=s.drawn) (t':=s.toks) (ch:=[T]) (λb hb=>?_) (λb _ _ _ _ e _=>e) (λb ob _ _ _ e _=>⟨ob.slots,e⟩) (λb ob hb _ n=>?_)
  (λb ob _ e=>⟨ob,e⟩) (λb xs e=>?_) (λb ob u e=>?_) (λb ps e=>⟨#[],?_⟩) (λm hm=>hm) (λb u e=>?_) I.bare
 ·have e:b=T:=by simpa using hb
  subst e;exact⟨hf.2.2.2.1,hf.2.1,hf.2.2.2.2.1,hf.2.2.2.2.2⟩
 ·rw[aK (λz=>hb (by simp[z]))];exact n
 ·rw[aK (nT b _ e)];exact e
 ·rw[aK (nT b _ e)];exact e
 ·rw[aK (nT b _ e),e];simp
 ·by_cases hb:b=T
  ·subst hb;rw[aj] at e;cases e;exact new
  ·rw[aK hb] at e;exact(I.hok b u e).stay (λc v _ q=>q) (λc q=>by rw[aK (nT c _ q)];exact q) λc xs q=>by rw[aK (nT c _ q)];exact q
end
def UX(K:Fg)(a:ar):It:=
 ⟨λi H=>∃xs x,cB K H a xs/\xs[i]?=some x,λi H x H'=>∃p v,H p=none/\x=.ref p/\H'=upd H p (.tup [.int (i:Nat),v])/\∀xs,cB K H a xs->xs[i]?=some v,λi H=>∃xs,cB K H a xs/\xs.length<=i⟩
def UZ(K:Fg)(a b:ar):It:=
 ⟨λi H=>∃xs x ys y,cB K H a xs/\xs[i]?=some x/\cB K H b ys/\ys[i]?=some y,
  λi H x H'=>∃p v u,H p=none/\x=.ref p/\H'=upd H p (.tup [v,u])/\(∀xs,cB K H a xs->xs[i]?=some v)/\∀ys,cB K H b ys->ys[i]?=some u,
  λi H=>∃xs ys,cB K H a xs/\cB K H b ys/\(xs.length<=i\/ys.length<=i)⟩
def EV{X:Cx}{H:Hp}{h:Heap}{T:ar}{x y:V}{u v:aa}{n:Nat}(e:h.get? T=some {cls:=.type "tuple",data:=.seq #[u,v] n})(r1:dA x u)(r2:dA y v):fg X.prog X.w H h T (.tup [x,y]):=
 ⟨show 2<=av by decide,[u,v],.cons r1 (.cons r2 .nil),⟨_,e,⟨rfl,rfl⟩,_,rfl⟩⟩
def Qy{h:Heap}{it a:ar}{i:Nat}{l:ar}{items:Array aa}(p:h.IsList a items)(q:h.IsListIter it l i):a≠it:=by
 intro e;subst e;obtain⟨o,e1,c1,_⟩:=p;obtain⟨o',e2,c2,_⟩:=q;rw[e1] at e2;cases e2;rw[c1] at c2;injection c2 with c3;exact absurd c3 (by decide)
def My{P:aW}{w:bK}{K:Fg}{elts:List Expr}{k:Nat}{pos:Pos}(a e it:ar)(hne:e≠it) :
  DW P w K (.Tuple elts k pos) (UX K a) [e,it] e (λi h=>(∃old,IsEnum h e it (i:Nat) old)/\h.IsListIter it a i) where
 mem:=by simp
 obj:=λi h st b hb=>by
  obtain⟨⟨old,he⟩,⟨o,ho,c,d⟩⟩:=st;rcases aE.mp hb with rfl|hb
  ·exact⟨_,he,λv z=>by have z':Data.fields _=Data.cell v:=z;cases z'⟩
  ·rw[aw.mp hb];exact⟨o,ho,λv z=>by rw[d] at z;cases z⟩
 keep:=λi h h' st k=>⟨let⟨old,he⟩:=st.1;⟨old,k e (by simp) _ he⟩,st.2.at λo q=>k it (by simp) o q⟩
 item:=by
  intro X hP hw hK hc i pins s σ H E I hf st hg;subst hP hw hK;obtain⟨⟨old,he⟩,hit⟩:=st;obtain⟨xs,x,hq,hx⟩:=hg;obtain⟨its,rv,p,hz⟩:=I.list hq;obtain⟨u,hu,ru⟩:=rv.get hx;have hlt:i<its.toArray.size:=by have:=(ak.mp hu).1;simpa using this
  have na:a≠it:=Qy p.isList hit;have nb:e≠a:=by
   intro z;subst z;obtain⟨o,n,e1,c1,_⟩:=p;rw[he] at e1;cases e1;injection c1 with c3;exact absurd c3 (by decide)
  have Dw:=Draws.list (prog:=X.prog) (w:=X.w) (A:=X.A.in1) (show X.A.in1.handled=none from I.ok.hd hc) it a na its.toArray;refine wpAny_pyNext_enum_itemD Dw he ⟨hit,p.isList⟩ hlt hne (by simp[hne,nb]) λy h1 tk hP ho st1 hT hsz hk=>?_;have ey:y=u:=by
   have h1:its.toArray[i]?=some y:=hP;have h2:its[i]?=some y:=by simpa using h1
   rw[hu] at h2;exact(Option.some.inj h2).symm
  subst ey;refine⟨_,rfl,?_⟩;have fT:uy X pins H s.heap.objs.size:=I.fpOk (aD _) (I.hok.fresh (aD _));refine wpAny_letOwnedTupleGo_enum ho λh2 he2 hs2=>?_;have helt:e<s.heap.objs.size:=aP he;have I1:bY X pins σ H {s with heap:=h2,toks:=tk+1}:=I.turnedL (t':=tk+1) (ch:=[e,it]) (λb o hb q=>by
   have b1:b≠e:=λz=>hb (by simp[z]);have b2:b≠it:=λz=>hb (by simp[z]);exact(hs2.2 b b1).trans (hk b o b1 b2 q)) hf
  have gT:h2.get? s.heap.objs.size=some {cls:=.type "tuple",data:=.seq #[.int i tk,y]}:=(hs2.2 _ (jN helt)).trans hT;have I2:=I1.adopt (T:=s.heap.objs.size) (o:=.tup [.int (i:Nat),x]) fT (EV (X:=X) gT ⟨tk,rfl⟩ ru);refine⟨.ref s.heap.objs.size,_,I2,rfl,⟨s.heap.objs.size,x,fT.1,rfl,rfl,λys hy=>by rw[I.list_inj hy hq];exact hx⟩,⟨⟨y,?_⟩,?_⟩,λb hb=>?_⟩
  ·have e2:(((i+1:Nat):Nat):Int)=(i:Int)+1:=by lia
   show IsEnum h2 e it (((i+1:Nat):Nat):Int) y;rw[e2];exact he2
  ·obtain⟨o,q1,q2⟩:=st1.1;exact⟨o,(hs2.2 it (Ne.symm hne)).trans q1,q2⟩
  ·have nT:b≠s.heap.objs.size:=by
    rcases aE.mp hb with rfl|hb
    ·exact bu helt
    ·rw[aw.mp hb];obtain⟨o,ho,_⟩:=hit;exact bu (aP ho)
   rw[aK nT];exact(hf b hb).1
 done:=by
  intro X hP hw hK hc i pins s σ H E I hf st hg;subst hP hw hK;obtain⟨⟨old,he⟩,hit⟩:=st;obtain⟨xs,hq,hx⟩:=hg;obtain⟨its,rv,p,hz⟩:=I.list hq;have hl:=rv.length;have hT:s.TypeIs (.ref e) "enumerate":=⟨_,he,rfl⟩;unfold nI;refine ag (nJ (eD (name:=Str.ofString "__next__") hT F.slot_enumerate_next
   (fQ F.slot_enumerate_next hT F.entry_enumerate_next ?_ (F.args_enumerate_next_1 _))))
  show aO _ _ (field (.ref e) 2 >>= _) _ _ _;refine ag (ff he rfl (x:=.ref it) rfl ?_);refine ag (wpAny_nextOf_list_end (show X.A.in1.handled=none from I.ok.hd hc) hit p.isList (by simp;lia) λh1 x1 eb hx1=>?_);obtain⟨o,ho,hcl⟩:=hx1;refine ag (wpAny_isInstance (T:="StopIteration") (b:=true) ⟨o,ho,hcl⟩ isSubtype_stop ?_);exact aC ⟨rfl,I.turnedL (t':=s.toks) (ch:=[e,it]) (λb ob hb q=>eb b ob (λz=>hb (by simp[z])) q) hf⟩
 self:=λ_ _ _ _ _ st h=>let⟨_,he⟩:=st.1;jG he h
section
variable{X:Cx}{elts:List Expr}{k:Nat}{tpos:Pos}
def CZ(K:Fg)(tl:TA):TI:=λσ H R=>tl σ H λvs H1=>∃a,vs=[.ref a]/\(∃xs,cB K H1 a xs)/\R (UX K a) H1
def QZ{a:Expr}{ta:TA}{p pos:Pos}(hg:Gl X "enumerate")(hm:X.mg "enumerate"=none)(ha:PA X [a] ta)(hs:aR [a] X.env=[(false,eval a X.env)]:=by rfl) :
  PI X (.Tuple elts k tpos) (.Call (.Name "enumerate" p) [a] [] pos) (CZ X.K ta):=by
 intro pins s σ H R I h;refine Call_ (og I hg hm boot_enumerate (dN (fk (ha pos pins s σ H _ I h) λus s1 ⟨vs,H1,I1,r1,q1⟩=>?_) hs rfl));obtain⟨l,e,⟨xs,hq⟩,q⟩:=q1;subst e;cases r1 with
 |cons r rr=>
  cases rr;cases r;obtain⟨its,rv,pl,hz⟩:=I1.list hq;refine call_enumerate_list pl.isList λh1 he hit hsz hk=>?_;refine jG he ?_;have I2:bY X pins σ H1 {s1 with heap:=h1}:=I1.kept (t':=s1.toks) hk;refine⟨s1.heap.objs.size+1,[s1.heap.objs.size+1,s1.heap.objs.size],_,_,H1,rfl,I2,My l _ _ (Nat.succ_ne_self _),⟨⟨.none,he⟩,hit⟩,λb hb=>?_,q⟩;have hb':s1.heap.objs.size<=b:=by
   rcases aE.mp hb with rfl|hb
   ·lia
   ·rw[aw.mp hb];exact aD _
  exact I1.fpOk hb' (I1.hok.fresh hb')
end
def Pb{P:aW}{w:bK}{K:Fg}{elts:List Expr}{k:Nat}{pos:Pos}(z TI TO i1 i2 l1 l2:ar)(D:ZipApart z TI TO i1 i2 l1 l2) :
  DW P w K (.Tuple elts k pos) (UZ K l1 l2) [z,TI,TO,i1,i2] z (λi h=>IsZip h z TI TO .none/\IsPair h TI (.ref i1) (.ref i2)/\(∃a b,IsPair h TO a b)/\h.IsListIter i1 l1 i/\h.IsListIter i2 l2 i) where
 mem:=by simp
 obj:=λi h st b hb=>by
  obtain⟨hz,hTI,⟨a',b',hTO⟩,⟨o1,e1,c1,d1⟩,⟨o2,e2,c2,d2⟩⟩:=st;simp only[aE,bH,or_false] at hb;rcases hb with rfl|rfl|rfl|rfl|rfl
  ·exact⟨_,hz,λv q=>by have q':Data.fields _=Data.cell v:=q;cases q'⟩
  ·exact⟨_,hTI,λv q=>by have q':Data.seq _ _=Data.cell v:=q;cases q'⟩
  ·exact⟨_,hTO,λv q=>by have q':Data.seq _ _=Data.cell v:=q;cases q'⟩
  ·exact⟨o1,e1,λv q=>by rw[d1] at q;cases q⟩
  ·exact⟨o2,e2,λv q=>by rw[d2] at q;cases q⟩
 keep:=λi h h' st k=>by
  obtain⟨hz,hTI,⟨a',b',hTO⟩,h1,h2⟩:=st;exact⟨k z (by simp) _ hz,k TI (by simp) _ hTI,⟨a',b',k TO (by simp) _ hTO⟩,h1.at λo q=>k i1 (by simp) o q,h2.at λo q=>k i2 (by simp) o q⟩
 item:=by
  intro X hP hw hK hc i pins s σ H E I hf st hg;subst hP hw hK;obtain⟨hz,hTI,⟨a',b',hTO⟩,h1,h2⟩:=st;obtain⟨xs,x,ys,y,hq1,hx,hq2,hy⟩:=hg;obtain⟨its1,rv1,p1,_⟩:=I.list hq1;obtain⟨its2,rv2,p2,_⟩:=I.list hq2;obtain⟨u,hu,ru⟩:=rv1.get hx;obtain⟨v,hv,rv⟩:=rv2.get hy;refine wpAny_pyNext_zip_item D hz hTI hTO h1 h2 p1.isList p2.isList (x:=u) (y:=v) (by simpa using hu) (by simpa using hv) λh3 a1 a2 a3 a4 a5 a6 hk=>?_;refine⟨_,rfl,?_⟩;have fT:uy X pins H s.heap.objs.size:=I.fpOk (aD _) (I.hok.fresh (aD _));have lt:∀{c o},s.heap.get? c=some o->c≠s.heap.objs.size:=λe=>bu (aP e);refine wpAny_letOwnedTupleGo_zip a1 λh4 hz4 hs4=>?_;have I1:bY X pins σ H {s with heap:=h4,toks:=s.toks}:=I.turnedL (t':=s.toks) (ch:=[z,TI,TO,i1,i2]) (λb o hb q=>by
   have b1:b≠z:=λe=>hb (by simp[e]);exact(hs4.2 b b1).trans (hk b o b1 (λe=>hb (by simp[e])) (λe=>hb (by simp[e])) (λe=>hb (by simp[e])) q)) hf
  have gT:h4.get? s.heap.objs.size=some {cls:=.type "tuple",data:=.seq #[u,v]}:=(hs4.2 _ (Ne.symm (lt hz))).trans a5;have I2:=I1.adopt (T:=s.heap.objs.size) (o:=.tup [x,y]) fT (EV (X:=X) gT ru rv);have ext:∀c o,c≠z->h3.get? c=some o->h4.get? c=some o:=λc o hc q=>(hs4.2 c hc).trans q;refine⟨.ref s.heap.objs.size,_,I2,rfl,⟨s.heap.objs.size,x,y,fT.1,rfl,rfl,λzs hz=>by rw[I.list_inj hz hq1];exact hx,λzs hz=>by rw[I.list_inj hz hq2];exact hy⟩,
   ⟨hz4,ext _ _ D.TIz (hk _ _ D.TIz D.TITO D.TIi1 D.TIi2 hTI),⟨_,_,ext _ _ D.TOz a2⟩,a3.at λo q=>ext _ o D.i1z q,a4.at λo q=>ext _ o D.i2z q⟩,λb hb=>?_⟩
  have nT:b≠s.heap.objs.size:=by
   obtain⟨o1,e1,_⟩:=h1;obtain⟨o2,e2,_⟩:=h2;simp only[aE,bH,or_false] at hb;rcases hb with rfl|rfl|rfl|rfl|rfl
   ·exact lt hz
   ·exact lt hTI
   ·exact lt hTO
   ·exact lt e1
   ·exact lt e2
  rw[aK nT];exact(hf b hb).1
 done:=by
  intro X hP hw hK hc i pins s σ H E I hf st hg;subst hP hw hK;obtain⟨hz,hTI,⟨a',b',hTO⟩,h1,h2⟩:=st;obtain⟨xs,ys,hq1,hq2,hend⟩:=hg;obtain⟨its1,rv1,p1,_⟩:=I.list hq1;obtain⟨its2,rv2,p2,_⟩:=I.list hq2;have l1':=rv1.length;have l2':=rv2.length;refine wpAny_pyNext_zip_end (I.ok.hd hc) D hz hTI hTO h1 h2 p1.isList p2.isList (hend.imp (λh=>by simp;lia) λh=>by simp;lia) λh3 hk=>⟨rfl,?_⟩;exact I.turnedL (t':=s.toks) (ch:=[z,TI,TO,i1,i2]) (λb o hb q=>hk b o (λe=>hb (by simp[e])) (λe=>hb (by simp[e])) (λe=>hb (by simp[e])) (λe=>hb (by simp[e])) q) hf
 self:=λ_ _ _ _ _ st h=>wpAny_pyIter_zip st.1 h
section
variable{X:Cx}{elts:List Expr}{k:Nat}{tpos:Pos}
def S0(K:Fg)(tl:TA):TI:=λσ H R=>tl σ H λvs H1=>∃a b,vs=[.ref a,.ref b]/\(∃xs,cB K H1 a xs)/\(∃xs,cB K H1 b xs)/\R (UZ K a b) H1
def Uh{a b:Expr}{ta:TA}{p pos:Pos}(hg:Gl X "zip")(hm:X.mg "zip"=none)(ha:PA X [a,b] ta)(hs:aR [a,b] X.env=[(false,eval a X.env),(false,eval b X.env)]:=by rfl)(hs2:aR [b] X.env=[(false,eval b X.env)]:=by rfl) :
  PI X (.Tuple elts k tpos) (.Call (.Name "zip" p) [a,b] [] pos) (S0 X.K ta):=by
 intro pins s σ H R I h;refine Call_ (og I hg hm boot_zip (dN (fk (ha pos pins s σ H _ I h) λus s1 ⟨vs,H1,I1,r1,q1⟩=>?_) (by rw[hs,hs2]) (by rw[hs2];rfl)));obtain⟨l1,l2,e,⟨xs,hq1⟩,⟨ys,hq2⟩,q⟩:=q1;subst e;cases r1 with
 |cons r rr=>
  cases rr with
  |cons r' rr=>
   cases rr;cases r;cases r';obtain⟨its1,rv1,p1,_⟩:=I1.list hq1;obtain⟨its2,rv2,p2,_⟩:=I1.list hq2;have b1:l1<s1.heap.objs.size:=by obtain⟨o,e,_⟩:=p1.isList;exact aP e
   have b2:l2<s1.heap.objs.size:=by obtain⟨o,e,_⟩:=p2.isList;exact aP e
   refine call_zip_2 p1.isList p2.isList λh1 hz hTI hTO hi1 hi2 hsz hk=>?_;refine wpAny_pyIter_zip hz ?_;have I2:bY X pins σ H1 {s1 with heap:=h1}:=I1.kept (t':=s1.toks) hk;refine⟨_,_,_,_,H1,rfl,I2,Pb _ _ _ _ _ l1 l2 (zipApart_new b1 b2),⟨hz,hTI,⟨_,_,hTO⟩,hi1,hi2⟩,λb hb=>?_,q⟩;have hb':s1.heap.objs.size<=b:=by
    simp only[aE,bH,or_false] at hb;rcases hb with rfl|rfl|rfl|rfl|rfl<;>lia
   exact I1.fpOk hb' (I1.hok.fresh hb')
end
def vh{K:Fg}{a:ar}{xs:List V}{g:TG}{tb:TS}{D:rn}{σ:St}{H:Hp}(Pv:Nat->St->Hp->Prop)(h0:Pv 0 σ H)(hl:∀i σ H,i<=xs.length->Pv i σ H->cB K H a xs)
  (hs:∀i x σ H p,xs[i]?=some x->H p=none->Pv i σ H->g (.ref p) σ (upd H p (.tup [.int (i:Nat),x])) λσ2 H2=>tb {D with nx:=Pv (i+1),ct:=Pv (i+1),bk:=D.nx} σ2 H2) (hd:∀σ H,Pv xs.length σ H->D.nx σ H) :
  ∃W:Nat->Nat->St->Hp->Prop,(∃m,W 0 m σ H)/\∀i m σ H,W i m σ H->
   ((UX K a).stop i H/\D.nx σ H)\/((UX K a).go i H/\∃N:St->Hp->Prop,(∀σ' H',N σ' H'->∃m',m'<m/\W (i+1) m' σ' H')/\∀x H',(UX K a).yld i H x H'->g x σ H' λσ2 H2=>tb {D with nx:=N,ct:=N,bk:=D.nx} σ2 H2):=by
 refine⟨λi m σ H=>m=xs.length-i/\i<=xs.length/\Pv i σ H,⟨xs.length,by simp,cA _,h0⟩,?_⟩;rintro i m σ H ⟨rfl,hi,p⟩;have q:=hl i σ H hi p;by_cases hlt:i<xs.length
 ·refine .inr ⟨⟨xs,xs[i],q,by simp[hlt]⟩,Pv (i+1),λσ' H' p'=>⟨xs.length-(i+1),by lia,rfl,hlt,p'⟩,λx H' y=>?_⟩;obtain⟨pp,v,e1,rfl,rfl,y⟩:=y;exact hs i v σ H pp (y xs q) e1 p
 ·have e:i=xs.length:=by lia
  subst e;exact .inl ⟨⟨xs,q,aD _⟩,hd σ H p⟩
def Qf{K:Fg}{a b:ar}{xs ys:List V}{g:TG}{tb:TS}{D:rn}{σ:St}{H:Hp}(el:xs.length=ys.length)(Pv:Nat->St->Hp->Prop)(h0:Pv 0 σ H)(hl:∀i σ H,i<=xs.length->Pv i σ H->cB K H a xs/\cB K H b ys)
  (hs:∀i x y σ H p,xs[i]?=some x->ys[i]?=some y->H p=none->Pv i σ H->g (.ref p) σ (upd H p (.tup [x,y])) λσ2 H2=>tb {D with nx:=Pv (i+1),ct:=Pv (i+1),bk:=D.nx} σ2 H2) (hd:∀σ H,Pv xs.length σ H->D.nx σ H) :
  ∃W:Nat->Nat->St->Hp->Prop,(∃m,W 0 m σ H)/\∀i m σ H,W i m σ H->
   ((UZ K a b).stop i H/\D.nx σ H)\/((UZ K a b).go i H/\∃N:St->Hp->Prop,(∀σ' H',N σ' H'->∃m',m'<m/\W (i+1) m' σ' H')/\∀x H',(UZ K a b).yld i H x H'->g x σ H' λσ2 H2=>tb {D with nx:=N,ct:=N,bk:=D.nx} σ2 H2):=by
 refine⟨λi m σ H=>m=xs.length-i/\i<=xs.length/\Pv i σ H,⟨xs.length,by simp,cA _,h0⟩,?_⟩;rintro i m σ H ⟨rfl,hi,p⟩;obtain⟨q1,q2⟩:=hl i σ H hi p;by_cases hlt:i<xs.length
 ·have hlt2:i<ys.length:=by lia
  refine .inr ⟨⟨xs,xs[i],ys,ys[i],q1,by simp[hlt],q2,by simp[hlt2]⟩,Pv (i+1),λσ' H' p'=>⟨xs.length-(i+1),by lia,rfl,hlt,p'⟩,λx H' y=>?_⟩;obtain⟨pp,v,u,e1,rfl,rfl,y1,y2⟩:=y;exact hs i v u σ H pp (y1 xs q1) (y2 ys q2) e1 p
 ·have e:i=xs.length:=by lia
  subst e;exact .inl ⟨⟨xs,ys,q1,q2,.inl (aD _)⟩,hd σ H p⟩
end L2
namespace PySem
open Sem (wp)
open Builtin MeetsSeq MeetsSeq2 MeetsSeq3
def wO:fillsNumberSlot (.type "tuple") "mul"=pure false:=
 fillsNumberSlot_seq (id:="tuple.__mul__") (r:=some (.builtin "tuple.__rmul__")) F.slot_tuple_mul.lookup (by decide +kernel) F.slot_tuple_rmul.lookup (by decide +kernel)
def EF:seqRepeat? (.type "tuple")=pure (some (.builtin "tuple.__mul__")):=by
 unfold seqRepeat?;rw[seqSlot_of (T:="tuple") (name:="__mul__") (id:="tuple.__mul__") F.slot_tuple_mul.lookup (by decide +kernel),seqSlot_of (T:="tuple") (name:="__rmul__") (id:="tuple.__rmul__") F.slot_tuple_rmul.lookup (by decide +kernel)];rfl
def zV(a:Int)(t:Tok)(l:ar)(items:Array aa)(n:Nat)(dd:Option ar)(sl:Array (Option aa)) :
  Meets (Builtin.«int.__rmul__» ⟨[.int a t,.ref l],[]⟩) (λ_ R s=>s.heap.get? l=some {cls:=.type "tuple",dict:=dd,data:=.seq items n,slots:=sl}/\R (.ok (.ret aa.notImplemented)) s):=
 .of_wp λprog w A R s h=>by obtain⟨hp,g,d,tk,os⟩:=s;obtain⟨hl,h⟩:=h;wp_walk;exact⟨_,rfl,h⟩
def Bk(l:ar)(items:Array aa)(n:Nat)(dd:Option ar)(sl:Array (Option aa))(x:Int)(u:Tok)(hlo:-(2 ^ 63)<=x)(hhi:x<2 ^ 63)(he:items.isEmpty=false)(h1:¬x=1)(hp:0<x)(hsz:items.size*x.toNat<=av) :
  Meets (Builtin.«tuple.__mul__» ⟨[.ref l,.int x u],[]⟩) (λ_ R s=>s.heap.get? l=some {cls:=.type "tuple",dict:=dd,data:=.seq items n,slots:=sl}/\
   R (.ok (.ret (aa.ref s.heap.objs.size))) {s with heap:=s.heap.push {cls:=aa.type "tuple",data:=Data.seq (y0 (λx1 x2=>x1++x2) #[] (bG x.toNat items))},toks:=s.toks}):=
 .of_wp λprog w A R s h=>by
  obtain⟨hp,g,d,tk,os⟩:=s;obtain⟨hl,h⟩:=h;have z1:(decide (x < -(2 ^ 63)) || decide (x >= 2 ^ 63))=false:=by simp;lia
  have z2:(items.isEmpty || x==1)=false:=by simp[he,h1]
  have z3:(decide (x<=0) || items.isEmpty)=false:=by simp[he];lia
  have ex:(items.size:Int)*x=((items.size*x.toNat:Nat):Int):=by
   rw[Int.natCast_mul];congr 1;lia
  have z4:¬((items.size:Int)*x>(2 ^ 63-1) / 8):=by
   rw[ex];have:(av:Nat)<=(2 ^ 63-1) / 8:=by decide
   lia
  have z5:Tuple.tupleTooMany ((items.size:Int)*x)=false:=by
   unfold Tuple.tupleTooMany;rw[ex];exact decide_eq_false (by lia)
  have z6:(y0 (λ(x1 x2:Array aa)=>x1++x2) #[] (bG x.toNat items)).size<=av:=by
   have e:=AutoListH.size_joined items x.toNat #[];rw[e,Nat.mul_comm];simpa using hsz
  wp_walk
  refine wpAny_ite_false (by rw[z1];rfl) ?_
  wp_walk using AutoSeq1.wpAny_loadPart' hl
  refine wpAny_ite_false (decide_eq_false z4) ?_
  wp_walk
  refine wpAny_ite_false (by rw[z5];rfl) ?_
  wp_walk
  exact⟨_,rfl,h⟩
def Cs(l:ar)(items:Array aa)(n:Nat)(dd:Option ar)(sl:Array (Option aa))(u:Tok) :
  Meets (Builtin.«tuple.__mul__» ⟨[.ref l,.int 1 u],[]⟩) (λ_ R s=>s.heap.get? l=some {cls:=.type "tuple",dict:=dd,data:=.seq items n,slots:=sl}/\R (.ok (.ret (aa.ref l))) s):=
 .of_wp λprog w A R s h=>by
  obtain⟨hp,g,d,tk,os⟩:=s;obtain⟨hl,h⟩:=h;have z2:(items.isEmpty || (1:Int)==1)=true:=by simp
  wp_walk using AutoSeq1.wpAny_loadPart' hl
  first|exact⟨_,rfl,h⟩|trace_state
def Bl(l:ar)(items:Array aa)(n:Nat)(dd:Option ar)(sl:Array (Option aa))(u:Tok)(he:items.isEmpty=false) :
  Meets (Builtin.«tuple.__mul__» ⟨[.ref l,.int 0 u],[]⟩) (λ_ R s=>s.heap.get? l=some {cls:=.type "tuple",dict:=dd,data:=.seq items n,slots:=sl}/\
   R (.ok (.ret (aa.ref s.heap.objs.size))) {s with heap:=s.heap.push {cls:=aa.type "tuple",data:=Data.seq #[]},toks:=s.toks}):=
 .of_wp λprog w A R s h=>by
  obtain⟨hp,g,d,tk,os⟩:=s;obtain⟨hl,h⟩:=h;have z2:(items.isEmpty || (0:Int)==1)=false:=by simp[he]
  have z3:(decide ((0:Int)<=0) || items.isEmpty)=true:=by simp
  wp_walk using AutoSeq1.wpAny_loadPart' hl
  first|exact⟨_,rfl,h⟩|trace_state
end PySem
namespace L2
open PySem PySem.Spec PyProof.Rows
section
variable{X:Cx}
def Sq(K:Fg):R2:=λx y H Q=>∃(l:ar) (k:Nat) (xs:List V),x=.ref l/\y=.int (k:Nat)/\eO K H l xs/\xs≠[]/\xs.length*k<=av/\(k=1->Q (.ref l) H)/\
 (k≠1->∀p,H p=none->Q (.ref p) (upd H p (.tup (bG k xs).flatten)))
def QJ:jE X (fc .Mult) (Sq X.K):=by
 intro pins s σ H x y v u Q I rx ry h;obtain⟨l,k,xs,rfl,rfl,hq,hne,hz,q1,q2⟩:=h;cases rx;obtain⟨t,rfl⟩:=ry;obtain⟨its,r,⟨⟨cls,dd,data,sl⟩,e,hc,n,hd⟩,hl⟩:=I.tuple hq;simp only at hc hd;subst hc hd;have hlen:=r.length;have he:its.toArray.isEmpty=false:=by
  cases its with
  |nil=>simp at hlen;exact absurd hlen hne
  |cons a r'=>rfl
 have hs:its.toArray.size*k<=av:=by rw[aA,<-hlen];exact hz
 have road:aO (model X.prog X.w) X.A (call (.builtin "tuple.__mul__") [.ref l,.int (k:Nat) t]) (EP X pins σ Q) X.xe s->aO (model X.prog X.w) X.A (fc .Mult (.ref l) (.int (k:Nat) t)) (EP X pins σ Q) X.xe s:=λhcall=>
  wpAny_binaryOp_repeat_ref (T:="tuple") (U:="int") (by decide) ⟨_,e,rfl⟩ (λs'=>typeIs_int s' k t) wO F.fills_int_mul F.slot_int_rmul EF F.slot_int_index.lookup
   (gR F.slot_int_rmul (typeIs_int s k t) F.entry_int_rmul (F.args_int_rmul_2 _ _) (zV k t l its.toArray n dd sl) ⟨e,rfl,⟨_,e,rfl⟩,hcall⟩)
 refine road ?_;by_cases h1:k=1
 ·subst h1;exact gR F.slot_tuple_mul ⟨_,e,rfl⟩ F.entry_tuple_mul (F.args_tuple_mul_2 _ _) (Cs l its.toArray n dd sl t) ⟨e,⟨.ref l,H,I,rfl,q1 rfl⟩⟩
 ·have hn:H s.heap.objs.size=none:=I.hok.fresh (aD _);by_cases h0:k=0
  ·subst h0;refine gR F.slot_tuple_mul ⟨_,e,rfl⟩ F.entry_tuple_mul (F.args_tuple_mul_2 _ _) (Bl l its.toArray n dd sl t he) ⟨e,⟨.ref s.heap.objs.size,_,?_,rfl,q2 h1 _ hn⟩⟩;exact I.laid (t':=s.toks) (λb o e=>az _ e) (aD _) ⟨cA _,[],.nil,⟨_,aZ _ rfl,⟨rfl,rfl⟩,_,rfl⟩⟩
  ·have hk64:(k:Int)<2 ^ 63:=by
    have h3:1<=its.toArray.size:=by
     cases its with
     |nil=>simp at he
     |cons a r'=>simp
    have h4:k<=its.toArray.size*k:=Nat.le_mul_of_pos_left k h3;have h5:(av:Nat)<2 ^ 63:=by decide
    lia
   refine gR F.slot_tuple_mul ⟨_,e,rfl⟩ F.entry_tuple_mul (F.args_tuple_mul_2 _ _) (Bk l its.toArray n dd sl k t (by lia) hk64 he (by lia) (by lia) (by simpa using hs)) ⟨e,?_⟩;have f0:=CS its k [];rw[List.nil_append] at f0;have ek:((k:Nat):Int).toNat=k:=by simp
   rw[ek,f0];refine⟨.ref s.heap.objs.size,_,?_,rfl,q2 h1 _ hn⟩;refine I.laid (t':=s.toks) (λb o e=>az _ e) (aD _) ⟨?_,(bG k its).flatten,r.rep k,⟨_,aZ _ rfl,⟨rfl,rfl⟩,_,rfl⟩⟩;rw[Qu,Nat.mul_comm];exact hz
def Ea:iY X (.builtin "divmod") (λxs H Q=>∃i j,xs=[.int i,.int j]/\(0<j/\j<2 ^ 64)/\∀p,H p=none->Q (.ref p) (upd H p (.tup [.int (i / j),.int (i % j)]))):=by
 intro pins s σ H xs us Q I r h;obtain⟨i,j,rfl,⟨h1,h2⟩,q⟩:=h;obtain⟨u,w',rfl,⟨t,rfl⟩,⟨t',rfl⟩⟩:=DE r;have hb:j.natAbs.log2<9000:=by
  have h3:j.natAbs.log2<64:=(Nat.log2_lt (by lia)).mpr (by lia);lia
 refine divmod_int (by lia) ?_ (.inl (PyProof.noPylong_of_log2 hb));rw[Int.fdiv_eq_ediv_of_nonneg i (by lia),Int.fmod_eq_emod_of_nonneg i (by lia)];have hn:H s.heap.objs.size=none:=I.hok.fresh (aD _);refine⟨.ref s.heap.objs.size,_,?_,rfl,q _ hn⟩;refine I.laid (λb o e=>az _ e) (aD _) ⟨by simp only[aI,lz];rw[gk];decide,[.int (i / j) s.toks,.int (i % j) (s.toks+1)],.cons ⟨_,rfl⟩ (.cons ⟨_,rfl⟩ .nil),?_⟩;exact⟨_,aZ s.heap rfl,⟨rfl,rfl⟩,0,rfl⟩
inductive Bq(K:Fg)(H:Hp):V->String->Bool->Prop where
 |int_int (i:Int):Bq K H (.int i) "int" true
 |int_bool (i:Int):Bq K H (.int i) "bool" false
 |int_tuple (i:Int):Bq K H (.int i) "tuple" false
 |str_tuple (x:Str):Bq K H (.str x) "tuple" false
 |tup_tuple {a:ar} {xs:List V} (h:eO K H a xs):Bq K H (.ref a) "tuple" true
 |lst_list {a:ar} {xs:List V} (h:cB K H a xs):Bq K H (.ref a) "list" true
 |str_str (x:Str):Bq K H (.str x) "str" true
 |bl_bool (b:Bool):Bq K H (.bl b) "bool" true
def Ft:iY X (.builtin "isinstance") (λxs H Q=>∃x T b,xs=[x,.ty T]/\Bq X.K H x T b/\Q (.bl b) H):=by
 intro pins s σ H xs us Q I r h;obtain⟨x,T,b,rfl,hi,q⟩:=h;obtain⟨u,w',rfl,r1,r2⟩:=DE r;cases r2;cases hi with
 |int_int i=>obtain⟨t,rfl⟩:=r1;exact IsiPair.int_int ⟨.bl true,H,I,rfl,q⟩
 |int_bool i=>obtain⟨t,rfl⟩:=r1;exact IsiPair.int_bool ⟨.bl false,H,I.tok _,rfl,q⟩
 |int_tuple i=>obtain⟨t,rfl⟩:=r1;exact IsiPair.int_tuple ⟨.bl false,H,I.tok _,rfl,q⟩
 |str_tuple z=>obtain⟨t,rfl⟩:=r1;exact IsiPair.str_tuple ⟨.bl false,H,I.tok _,rfl,q⟩
 |tup_tuple hs=>
  cases r1;obtain⟨its,rv,⟨o,e,hc,_⟩,hz⟩:=I.tuple hs;exact IsiPair.tuple_tuple e hc ⟨.bl true,H,I,rfl,q⟩
 |lst_list hs=>
  cases r1;obtain⟨its,rv,pl,hz⟩:=I.list hs;obtain⟨o,e,hc,_⟩:=pl.isList;exact IsiPair.list_list e hc ⟨.bl true,H,I,rfl,q⟩
 |str_str z=>obtain⟨t,rfl⟩:=r1;exact IsiPair.str_str ⟨.bl true,H,I,rfl,q⟩
 |bl_bool z=>cases r1;exact IsiPair.bool_bool ⟨.bl true,H,I,rfl,q⟩
def HU(bs:List Bool):(cK bs.length).all (λi=>(bs[i]?).getD false)=bs.all id:=by
 rw[Bool.eq_iff_iff,eE,eE];constructor
 ·intro h b hb;obtain⟨i,hi,e⟩:=bV.mp hb;have:=h i (eM.mpr hi);rw[af hi,gM,e] at this;exact this
 ·intro h i hi;have hi:=eM.mp hi;rw[af hi,gM];exact h _ (ck hi)
def jx(hc:X.calm=true):iY X (.builtin "all") (λxs H Q=>∃(p:ar) (bs:List Bool),xs=[.ref p]/\cB X.K H p (bs.map V.bl)/\Q (.bl (bs.all id)) H):=by
 intro pins s σ H xs us Q I r h;obtain⟨p,bs,rfl,hq,q⟩:=h;obtain⟨u,rfl,rx⟩:=mU r;cases rx;obtain⟨its,rv,pl,hz⟩:=I.list hq;have hlen:=rv.length;rw[ae] at hlen;have hlt:p<s.heap.objs.size:=by obtain⟨o,e,_⟩:=pl.isList;exact aP e
 refine call_all_walk (jH pl.isList ?_);refine⟨_,_,_,_,_,_,λi=>(bs[i]?).getD false,rfl,Walks.list (A:=X.A.in1) (show X.A.in1.handled=none from I.ok.hd hc) s.heap.objs.size p (bu hlt) its.toArray,⟨⟨_,aZ _ rfl,rfl,rfl⟩,pl.isList.push _⟩,?_,λh' tk hk=>?_⟩
 ·intro i v s' Q' E' hP hQ;have hP':its[i]?=some v:=by
   have:its.toArray[i]?=some v:=hP;simpa using this
  have hi:i<bs.length:=by rw[hlen];exact(ak.mp hP').1
  obtain⟨u,hu,ru⟩:=rv.get (i:=i) (x:=V.bl bs[i]) (by rw[aQ,af hi];rfl);rw[hP'] at hu;cases hu;cases ru;have hQ':Q' ((bs[i]?).getD false) s':=hQ;rw[af hi,gM] at hQ';exact dI hQ'
 ·have e:its.toArray.size=bs.length:=by rw[aA,hlen]
  rw[e,HU];refine⟨.bl _,H,?_,rfl,q⟩;refine I.kept (t':=tk) λb o eb=>?_;refine hk b o (λz=>?_) (az _ eb);have e2:b=s.heap.objs.size:=by simpa using z
  have h2:=aP eb;rw[e2] at h2;exact cQ _ h2
def Ec(hc:X.calm=true):iY X (.builtin "sum") (λxs H Q=>∃(p:ar) (ns:List Int),xs=[.ref p]/\cB X.K H p (ns.map V.int)/\∀z:Int,Q (.int z) H):=by
 intro pins s σ H xs us Q I r h;obtain⟨p,ns,rfl,hq,q⟩:=h;obtain⟨u,rfl,rx⟩:=mU r;cases rx;obtain⟨its,rv,pl,hz⟩:=I.list hq;have intsOf:∀(ns:List Int) (its:List aa),c8 (ns.map V.int) its->∃xs:List (Int×Tok),its=xs.map λp=>aa.int p.1 p.2:=by
  intro ns
  induction ns with
  |nil=>intro its r;cases r;exact⟨[],rfl⟩
  |cons n ns ih=>
   intro its r;cases r with
   |cons r rr=>
    obtain⟨xs,rfl⟩:=ih _ rr;obtain⟨t,rfl⟩:=r;exact⟨(n,t)::xs,rfl⟩
 obtain⟨xs,rfl⟩:=intsOf ns its rv;refine sum_intListG (xs:=xs.toArray) (I.ok.hd hc) ?_ λh' tk t' hk=>⟨.int _,H,I.kept hk,⟨t',rfl⟩,q _⟩;have e:=pl.isList;simpa[oE] using e
end
section
variable{X:Cx}
def AS:∀{ys:List Str} {us:List aa},c8 (ys.map V.str) us->StrsAre us ys
 |[],_,r=>by cases r;exact .nil
 |y::ys,_,r=>by
  cases r with
  |cons r rr=>
   obtain⟨t,rfl⟩:=r;exact .cons _ _ (AS rr)
def ny(K:Fg):V->List V->Hp->VK->Prop:=λx vs H Q=>∃(sep:Str) (p:ar) (ys:List Str),x=.str sep/\vs=[.ref p]/\cB K H p (ys.map V.str)/\(ys.map (·.length)).sum+ys.length*sep.length<=16777216/\Q (.str (Txt.join sep ys)) H
def Qx:US X "str.join" (ny X.K):=by
 intro pins s σ H x vs v us Q I rx rv h;obtain⟨sep,p,ys,rfl,rfl,hq,hz,q⟩:=h;obtain⟨t,rfl⟩:=rx;obtain⟨u,rfl,ru⟩:=rv.one;cases ru;obtain⟨its,r,pl,_⟩:=I.list hq;exact join_list pl.isList (by simpa using AS r) hz λt' k=>⟨.str _,H,I.tok k,⟨t',rfl⟩,q⟩
end
section
variable{X:Cx}
def mV(xs ys:List V):Bool:=(cK (min xs.length ys.length)).all (λj=>Ho ((xs[j]?).getD .non) ((ys[j]?).getD .non))&&xs.length==ys.length
def Ry(K:Fg)(neg:Bool):R2:=λx y H Q=>∃p q xs ys,x=.ref p/\y=.ref q/\eO K H p xs/\eO K H q ys/\xs.all kh=true/\ys.all kh=true/\Q (.bl (if neg then !mV xs ys else mV xs ys)) H
def JS{A:bj}{s:aq}{xs ys:List V}{us vs:List aa}(r1:c8 xs us)(r2:c8 ys vs)(f1:xs.all kh=true)(f2:ys.all kh=true) :
  ∀j (h1:j<us.toArray.size) (h2:j<vs.toArray.size),SeqAt.EqAt A s us.toArray[j] vs.toArray[j] (Ho ((xs[j]?).getD .non) ((ys[j]?).getD .non)):=by
 intro j h1 h2;have l1:=r1.length;have l2:=r2.length;rw[aA] at h1 h2;have j1:j<xs.length:=by lia
 have j2:j<ys.length:=by lia
 obtain⟨u,hu,ru⟩:=r1.get (af j1);obtain⟨v,hv,rv⟩:=r2.get (af j2);have eu:us.toArray[j]=u:=by
  have:=af h1;rw[hu] at this;simpa using(Option.some.inj this).symm
 have ev:vs.toArray[j]=v:=by
  have:=af h2;rw[hv] at this;simpa using(Option.some.inj this).symm
 rw[eu,ev,af j1,af j2,gM,gM];exact Ig ru rv (eE.mp f1 _ (ck j1)) (eE.mp f2 _ (ck j2))
def Tz(hu:X.A.units<cLine):jE X (bP .Eq) (Ry X.K false):=by
 intro pins s σ H x y v u Q I rx ry h;obtain⟨p,q,xs,ys,rfl,rfl,h1,h2,f1,f2,qq⟩:=h;cases rx;cases ry;obtain⟨us,r1,t1,_⟩:=I.tuple h1;obtain⟨vs,r2,t2,_⟩:=I.tuple h2;refine SeqAt.eq_tupleAt (show s.heap.IsTuple p us.toArray from t1) (show s.heap.IsTuple q vs.toArray from t2) hu (JS r1 r2 f1 f2) ⟨.bl (mV xs ys),H,I,?_,qq⟩;show aa.bool _=aa.bool _;unfold mV;rw[aA,aA,r1.length,r2.length]
def Sm(K:Fg):R2:=λx y H Q=>∃p xs z,x=.ref p/\y=.str z/\eO K H p xs/\Q (.bl false) H
def QF(hu:X.A.units<cLine):jE X (bP .Eq) (Sm X.K):=by
 intro pins s σ H x y v u Q I rx ry h;obtain⟨p,xs,z,rfl,rfl,h1,qq⟩:=h;cases rx;obtain⟨t,rfl⟩:=ry;obtain⟨us,r1,t1,_⟩:=I.tuple h1;exact SeqAt.RcAt.tuple_str z t (show s.heap.IsTuple p us.toArray from t1) hu X.prog X.w X.xe _ ⟨.bl false,H,I,rfl,qq⟩
def TL(hu:X.A.units<cLine):jE X (bP .NotEq) (Ry X.K true):=by
 intro pins s σ H x y v u Q I rx ry h;obtain⟨p,q,xs,ys,rfl,rfl,h1,h2,f1,f2,qq⟩:=h;cases rx;cases ry;obtain⟨us,r1,t1,_⟩:=I.tuple h1;obtain⟨vs,r2,t2,_⟩:=I.tuple h2;refine SeqAt.RcNeAt.tuples (show s.heap.IsTuple p us.toArray from t1) (show s.heap.IsTuple q vs.toArray from t2) hu (JS r1 r2 f1 f2) X.prog X.w X.xe _ ⟨.bl (!mV xs ys),H,I,?_,qq⟩;show aa.bool _=aa.bool _;unfold mV;rw[aA,aA,r1.length,r2.length]
end
section
variable{X:Cx}
def Rx(K:Fg)(neg:Bool):R2:=λx y H Q=>∃p q xs ys,x=.ref p/\y=.ref q/\cB K H p xs/\cB K H q ys/\xs.all kh=true/\ys.all kh=true/\Q (.bl (if neg then !mV xs ys else mV xs ys)) H
def FN{xs ys:List V}(h:xs.length=ys.length):mV xs ys=(cK xs.length).all (λj=>Ho ((xs[j]?).getD .non) ((ys[j]?).getD .non)):=by
 unfold mV;rw[<-h,Nat.min_self];simp
def JZ{xs ys:List V}(h:¬xs.length=ys.length):mV xs ys=false:=by
 unfold mV;rw[Bool.and_eq_false_iff];right;simpa using h
def Tw(hu:X.A.units<cLine):jE X (bP .Eq) (Rx X.K false):=by
 intro pins s σ H x y v u Q I rx ry h;obtain⟨p,q,xs,ys,rfl,rfl,h1,h2,f1,f2,qq⟩:=h;cases rx;cases ry;obtain⟨us,r1,t1,_⟩:=I.list h1;obtain⟨vs,r2,t2,_⟩:=I.list h2;have l1:=r1.length;have l2:=r2.length;by_cases c:xs.length=ys.length
 ·refine SeqAt.eq_listAt t1.isList t2.isList (by rw[aA,aA];lia) hu (JS r1 r2 f1 f2) ⟨.bl (mV xs ys),H,I,?_,qq⟩;show aa.bool _=aa.bool _;rw[FN c,aA,l1]
 ·refine SeqAt.eq_list_lengthsAt t1.isList t2.isList (by rw[aA,aA];simp;lia) hu ⟨.bl (mV xs ys),H,I,?_,qq⟩;show aa.bool _=aa.bool _;rw[JZ c]
def TK(hu:X.A.units<cLine):jE X (bP .NotEq) (Rx X.K true):=by
 intro pins s σ H x y v u Q I rx ry h;obtain⟨p,q,xs,ys,rfl,rfl,h1,h2,f1,f2,qq⟩:=h;cases rx;cases ry;obtain⟨us,r1,t1,_⟩:=I.list h1;obtain⟨vs,r2,t2,_⟩:=I.list h2;have l1:=r1.length;have l2:=r2.length;by_cases c:xs.length=ys.length
 ·refine SeqAt.RcNeAt.lists t1.isList t2.isList (by rw[aA,aA];lia) hu (JS r1 r2 f1 f2) X.prog X.w X.xe _ ⟨.bl (!mV xs ys),H,I,?_,qq⟩;show aa.bool _=aa.bool _;rw[FN c,aA,l1]
 ·refine SeqAt.RcNeAt.lists_lengths t1.isList t2.isList (by rw[aA,aA];simp;lia) hu X.prog X.w X.xe _ ⟨.bl (!mV xs ys),H,I,?_,qq⟩;show aa.bool _=aa.bool _;rw[JZ c];rfl
end
section
variable{prog:aW}{w:bK}{A:bj}{E:ZF}
def zP{it t:ar}{items:Array aa}(hne:t≠it):∀(n i:Nat) (s:aq) (Q:List aa->aq->Prop),s.heap.IsListIter it t i->s.heap.IsList t items->i+n<=items.size->
  (∀h':Heap,h'.IsListIter it t (i+n)->Heap.SameBut it s.heap h'->Q ((items.toList.drop i).take n) {s with heap:=h'})->aO (model prog w) A (draw (.ref it) n) Q E s
 |0,i,s,Q,hit,_,_,hQ=>by
  show aO _ _ (pure []) Q E s;exact aC (by simpa using hQ s.heap hit (Heap.SameBut.refl ..))
 |n+1,i,s,Q,hit,ht,hle,hQ=>by
  have hlt:i<items.size:=by lia
  show aO _ _ (nI (.ref it) >>= _) Q E s;refine ag (wpAny_pyNext_list_item hit ht (x:=items[i]) (by simp[hlt]) λh₁ hit₁ hs₁=>?_);refine ag (cw (zP hne n (i+1) _ _ hit₁ (ht.extBut hs₁.extBut hne) (by lia) λh₂ hit₂ hs₂=>aC ?_));have hd:items.toList.drop i=items[i]::items.toList.drop (i+1):=by simp[iP,hlt]
  have:=hQ h₂ (by rw[show i+(n+1)=i+1+n by lia];exact hit₂) (hs₁.trans hs₂);rw[hd,List.take_succ_cons] at this;exact this
def vP{s:aq}{t:ar}{items:Array aa}{Q:List aa->aq->Prop}(hh:A.handled=none)(ht:s.heap.IsList t items)
  (hQ:∀h':Heap,Heap.ExtBut s.heap.objs.size s.heap h'->Q items.toList {s with heap:=h'}):aO (model prog w) A (unpackItems (.ref t) items.size none) Q E s:=by
 have hlt:t≠s.heap.objs.size:=by obtain⟨o,ho,_⟩:=ht;exact bu (aP ho)
 unfold unpackItems;refine ag ?_
 ·unfold notIterableAtAll;refine ag (wpAny_specialOf ht.typeIs slot_list_iter.lookup ?_);refine aC ?_;simp only[Bool.false_eq_true,if_false];refine ag (cw (jH ht ?_));refine ag (cw (zP hlt items.size 0 _ _ ⟨_,aZ _ rfl,rfl,rfl⟩ (ht.push _) (by lia) λh₁ hit₁ hs₁=>?_));have hall:List.take items.size (List.drop 0 items.toList)=items.toList:=by
   rw[my];exact bJ (by simp)
  rw[hall];rw[if_neg (by simp)];have ht₁:h₁.IsList t items:=(ht.push _).extBut hs₁.extBut hlt;refine ag (cw (wpAny_pyNext_list_end hh hit₁ ht₁ (by simp) λh₂ he₂=>?_));simp only[Option.isSome_none,Bool.false_eq_true,if_false];refine aC (hQ h₂ λb o hb e=>he₂ b o hb (hs₁.extBut b o hb (az _ e)))
end
section
variable{X:Cx}{pos:Pos}
def NC(K:Fg)(n:Nat)(t:KU):TG:=λv σ H Q=>∃a xs,v=.ref a/\cB K H a xs/\xs.length=n/\t xs σ H Q
def QX{es:List Expr}{k:Nat}{t:KU}{n:Nat}(hc:X.calm=true)(h:UT X es t)
  (hn:(eh es X.env).length=n:=by rfl) (hst:(eh es X.env).findIdx? (·.1)=none:=by rfl):PG X (.Tuple es k pos) (NC X.K n t):=by
 intro pins s σ H v u Q I r hw;obtain⟨a,xs,e1,hq,hl,hw⟩:=hw;subst e1;cases r;obtain⟨its,rv,ht,hz⟩:=I.list hq;rw[assign_Tuple];refine ag (hV ?_);unfold unpack;have e:(eh es X.env).length=its.toArray.size:=by simp[hn,<-hl,rv.length]
 rw[e,hst];refine ag (cw (vP (I.ok.hd hc) ht.isList λh' hx=>?_));have I1:bY X pins σ H {s with heap:=h'}:=I.kept (t':=s.toks) λb o e=>hx b o (bu (aP e)) e;exact h pins _ σ H xs _ Q I1 (by simpa using rv) hw
end
def VR:R2:=λx y H Q=>∃i j,x=.str i/\y=.str j/\i.length+j.length<=av/\Q (.str (i++j)) H
def cS(K:Fg):R2:=λx y H Q=>Kd (λi j=>.int (i+j)) x y H Q\/(VR x y H Q\/(VA x y H Q\/Sk K x y H Q))
def Gm:R2:=Kd λi j=>.int (i-j)
def lJ(K:Fg):R2:=λx y H Q=>rI Pt (λi j=>.int (i*j)) x y H Q\/Sq K x y H Q
def nA:R2:=rI (λ_ j=>0<j) λi j=>.int (i % j)
def IV:R2:=rI UV λi j=>.int (i / j)
def De:R2:=rI UW λi j=>.int (i ^ j.toNat)
def eC(K:Fg):R2:=λx y H Q=>Wx x y H Q\/(Ry K false x y H Q\/(Sm K x y H Q\/Rx K false x y H Q))
def BR(K:Fg):R2:=λx y H Q=>Wy x y H Q\/(Ry K true x y H Q\/Rx K true x y H Q)
def rz:R2:=Kd λi j=>.bl (decide (i<j))
def Az:R2:=Kd λi j=>.bl (decide (j<i))
def Uz:R2:=Kd λi j=>.bl (decide (j<=i))
def VC:R2:=λx y H Q=>y=.non/\Q (.bl (decide (x=.non))) H
def So:R2:=λx y H Q=>y=.non/\Q (.bl (!decide (x=.non))) H
def L8:V->Hp->VK->Prop:=rU λi=>.int (-i)
def vR(K:Fg):V->Option Int->Option Int->Hp->VK->Prop:=λx lo hi H Q=>VN K x lo hi H Q\/VP K x lo hi H Q
def eX(K:Fg):List V->Hp->VK->Prop:=λxs H Q=>∃x n,xs=[x]/\PH K x H n/\Q (.int n) H
def Rw:List V->Hp->VK->Prop:=λxs H Q=>∃i j,xs=[.int i,.int j]/\(0<j/\j<2 ^ 64)/\∀p,H p=none->Q (.ref p) (upd H p (.tup [.int (i / j),.int (i % j)]))
def VJ:List V->Hp->VK->Prop:=λxs H Q=>∃i j,xs=[.int i,.int j]/\Q (.int (if j>i then j else i)) H
def VL:List V->Hp->VK->Prop:=λxs H Q=>∃i j,xs=[.int i,.int j]/\Q (.int (if j<i then j else i)) H
def Wi(K:Fg):List V->Hp->VK->Prop:=λxs H Q=>∃(p:ar) (ns:List Int),xs=[.ref p]/\cB K H p (ns.map V.int)/\∀z:Int,Q (.int z) H
def Gh(K:Fg):List V->Hp->VK->Prop:=λxs H Q=>∃(p:ar) (bs:List Bool),xs=[.ref p]/\cB K H p (bs.map V.bl)/\Q (.bl (bs.all id)) H
def VD(K:Fg):List V->Hp->VK->Prop:=λxs H Q=>∃x T b,xs=[x,.ty T]/\Bq K H x T b/\Q (.bl b) H
def Oz:List V->Hp->VK->Prop:=λxs H Q=>(∃i,xs=[.int i]/\Q (.int i) H)\/∃k,xs=[.bl k]/\Q (.int (if k then 1 else 0)) H
def vo(K:Fg):List V->Hp->VK->Prop:=λxs H Q=>∃p ys,xs=[.ref p]/\(cB K H p ys\/eO K H p ys)/\∀l,H l=none->Q (.ref l) (upd H l (.lst ys))
def i5(K:Fg):List V->Hp->VK->Prop:=λxs H Q=>∃p ys,xs=[.ref p]/\((cB K H p ys/\∀l,H l=none->Q (.ref l) (upd H l (.tup ys)))\/(eO K H p ys/\Q (.ref p) H))
def iT(K:Fg)(tl:TE):TI:=λσ H R=>R8 K tl σ H R\/Vb K tl σ H R
section
variable{X:Cx}
def bQ:jE X (fc .Add) (cS X.K):=Tu.or (IK.or (Tv.or QC))
def iD:jE X (fc .Mult) (lJ X.K):=TJ.or QJ
def bX(hu:X.A.units<cLine):jE X (bP .Eq) (eC X.K):=Vk.or ((Tz hu).or ((QF hu).or (Tw hu)))
def pZ(hu:X.A.units<cLine):jE X (bP .NotEq) (BR X.K):=Vm.or ((TL hu).or (TK hu))
def fW:KS X (vR X.K):=RJ.or UI
def Ud{tg l:Expr}{tl:TE}(hl:PE X l tl):PI X tg l (iT X.K tl):=by
 intro pins s σ H R I h;rcases h with h|h
 ·exact Q0 hl pins s σ H R I h
 ·exact Ug hl pins s σ H R I h
end
structure cO(P:aW)(w:bK)(K:Fg)(mg:Str->Option aa)(base:Heap)(x:Str)(ps:List Str)(k:Nat)(sp:Sp):Prop where
 ex:∃(f:ar) (fd:dY),mg x=some (.ref f)/\cV K (.ref f)=true/\rF K fd ps []/\pO P w K mg base EZ k f fd ps sp
def Vq{X:Cx}{x:Str}{ps:List Str}{k:Nat}{sp:Sp}{e:Expr}{es:List Expr}{t:TA}{p pos:Pos}(c:cO X.prog X.w X.K X.mg X.base x ps k sp)(hr:gB k X.A)(hg:Gl X x)(ha:PA X (e::es) t)
  (hdb:(x==("__debug__":Str))=false:=by decide) (he:aR (e::es) X.env=(false,eval e X.env)::aR es X.env:=by rfl) (hpl:(eV pos (aR es X.env)).any (·.1)=false:=by rfl) :
  PE X (.Call (.Name x p) (e::es) [] pos) (bF sp [] E0 t):=by
 obtain⟨f,fd,hm,hk,hb,F⟩:=c.ex;exact Ka F hr hg hm hk hb .nil Vn ha hdb he hpl
structure kK(mg:Str->Option aa):Prop where
 len_:mg "len"=none
 range_:mg "range"=none
 divmod_:mg "divmod"=none
 max_:mg "max"=none
 min_:mg "min"=none
 sum_:mg "sum"=none
 all_:mg "all"=none
 isinstance_:mg "isinstance"=none
 int_:mg "int"=none
 bool_:mg "bool"=none
 list_:mg "list"=none
 tuple_:mg "tuple"=none
 enumerate_:mg "enumerate"=none
 zip_:mg "zip"=none
 sorted_:mg "sorted"=none
 set_:mg "set"=none
 dict_:mg "dict"=none
 str_:mg "str"=none
 any_:mg "any"=none
 reversed_:mg "reversed"=none
 abs_:mg "abs"=none
def iq(a:ar)(H H':Hp):Prop:=∀b o,b≠a->H b=some o->H' b=some o
def iq.refl(a:ar)(H:Hp):iq a H H:=λ_ _ _ h=>h
def iq.trans{a:ar}{H H1 H2:Hp}(x:iq a H H1)(y:iq a H1 H2):iq a H H2:=λc o n h=>y c o n (x c o n h)
def aL.but{a:ar}{H H':Hp}(x:aL H H'):iq a H H':=λb o _ h=>x b o h
def iq.upd_at{a:ar}{H:Hp}{o:HO}:iq a H (upd H a o):=λb u n h=>by rw[aK n];exact h
def iq.new{a p:ar}{H H1:Hp}{o:HO}(x:iq a H H1)(hp:H1 p=none):iq a H (upd H1 p o):=λb u n h=>by
 rw[aK (aB (x b u n h) hp)];exact x b u n h
def aL.new{p:ar}{H H1:Hp}{o:HO}(x:aL H H1)(hp:H1 p=none):aL H (upd H1 p o):=λb u h=>by
 rw[aK (aB (x b u h) hp)];exact x b u h
def iq.free{a p:ar}{H H':Hp}(x:iq a H H')(n:p≠a)(h:H' p=none):H p=none:=by
 cases q:H p with
 |none=>rfl
 |some o=>rw[x p o n q] at h;cases h
def zK{js:List Nat}{k:Nat}{lo:Int}{n:Nat}{g:TG}{tc:TT}{te:TE}{R:Hp->Prop}{σ:St}{H:Hp}{D:ar}(Pv:Nat->St->Hp->Prop)(h0:Pv 0 (Hn js k σ) (upd H D (.lst [])))
  (hs:∀i σ H,i<n->Pv i σ H->g (.int (lo+i)) σ H λσ2 H2=>wX D tc te {nx:=Pv (i+1),rt:=λ_ _=>False,ct:=Pv (i+1),bk:=λ_ H'=>R H'} σ2 H2) (hd:∀σ H,Pv n σ H->R H) :
  ∃W:Nat->Nat->St->Hp->Prop,(∃m,W 0 m (Hn js k σ) (upd H D (.lst [])))/\∀i m σ H,W i m σ H->
   ((Px lo n).stop i H/\R H)\/((Px lo n).go i H/\∃N:St->Hp->Prop,(∀σ' H',N σ' H'->∃m',m'<m/\W (i+1) m' σ' H')/\∀x H',(Px lo n).yld i H x H'->g x σ H' λσ2 H2=>wX D tc te {nx:=N,rt:=λ_ _=>False,ct:=N,bk:=λ_ H'=>R H'} σ2 H2):=
 jy (D:={nx:=λ_ H'=>R H',rt:=λ_ _=>False}) Pv h0 hs hd
def hW{js:List Nat}{k:Nat}{K:Fg}{a:ar}{xs:List V}{g:TG}{tc:TT}{te:TE}{R:Hp->Prop}{σ:St}{H:Hp}{D:ar}(Pv:Nat->St->Hp->Prop)(h0:Pv 0 (Hn js k σ) (upd H D (.lst [])))(hl:∀i σ H,i<=xs.length->Pv i σ H->cB K H a xs)
  (hs:∀i x σ H,xs[i]?=some x->Pv i σ H->g x σ H λσ2 H2=>wX D tc te {nx:=Pv (i+1),rt:=λ_ _=>False,ct:=Pv (i+1),bk:=λ_ H'=>R H'} σ2 H2) (hd:∀σ H,Pv xs.length σ H->R H) :
  ∃W:Nat->Nat->St->Hp->Prop,(∃m,W 0 m (Hn js k σ) (upd H D (.lst [])))/\∀i m σ H,W i m σ H->
   ((RZ K a).stop i H/\R H)\/((RZ K a).go i H/\∃N:St->Hp->Prop,(∀σ' H',N σ' H'->∃m',m'<m/\W (i+1) m' σ' H')/\∀x H',(RZ K a).yld i H x H'->g x σ H' λσ2 H2=>wX D tc te {nx:=N,rt:=λ_ _=>False,ct:=N,bk:=λ_ H'=>R H'} σ2 H2):=
 rS (D:={nx:=λ_ H'=>R H',rt:=λ_ _=>False}) Pv h0 hl hs hd
def zL{js:List Nat}{k:Nat}{K:Fg}{a:ar}{xs:List V}{g:TG}{tc:TT}{te:TE}{R:Hp->Prop}{σ:St}{H:Hp}{D:ar}(Pv:Nat->St->Hp->Prop)(h0:Pv 0 (Hn js k σ) (upd H D (.lst [])))(hl:∀i σ H,i<=xs.length->Pv i σ H->eO K H a xs)
  (hs:∀i x σ H,xs[i]?=some x->Pv i σ H->g x σ H λσ2 H2=>wX D tc te {nx:=Pv (i+1),rt:=λ_ _=>False,ct:=Pv (i+1),bk:=λ_ H'=>R H'} σ2 H2) (hd:∀σ H,Pv xs.length σ H->R H) :
  ∃W:Nat->Nat->St->Hp->Prop,(∃m,W 0 m (Hn js k σ) (upd H D (.lst [])))/\∀i m σ H,W i m σ H->
   ((R0 K a).stop i H/\R H)\/((R0 K a).go i H/\∃N:St->Hp->Prop,(∀σ' H',N σ' H'->∃m',m'<m/\W (i+1) m' σ' H')/\∀x H',(R0 K a).yld i H x H'->g x σ H' λσ2 H2=>wX D tc te {nx:=N,rt:=λ_ _=>False,ct:=N,bk:=λ_ H'=>R H'} σ2 H2):=
 pR (D:={nx:=λ_ H'=>R H',rt:=λ_ _=>False}) Pv h0 hl hs hd
def iq.through{a l:ar}{H H1 H2:Hp}{o:HO}(x:iq a H H1)(hl:H1 l=none)(y:iq l (upd H1 l o) H2):iq a H H2:=λb u n h=>by
 have h1:=x b u n h;have nl:b≠l:=aB h1 hl;exact y b u nl (by rw[aK nl];exact h1)
structure QE(X:Cx)(e:Expr)(t:TE):Prop where
 up:PE X e t
structure QT(X:Cx)(e:Expr)(t:TT):Prop where
 up:PT X e t
structure QW(X:Cx)(e:Expr)(t:TT):Prop where
 up:PW X e t
structure QA(X:Cx)(e:List Expr)(t:TA):Prop where
 up:PA X e t
structure QS(X:Cx)(e:Stmt)(t:TS):Prop where
 up:PS X e t
structure M3(X:Cx)(e:List Stmt)(t:TS):Prop where
 up:DT X e t
structure QG(X:Cx)(e:Expr)(t:TG):Prop where
 up:PG X e t
structure U3(X:Cx)(e:List Expr)(t:KU):Prop where
 up:UT X e t
structure QI(X:Cx)(a b:Expr)(t:TI):Prop where
 up:PI X a b t
structure QO(X:Cx)(e:Option Expr)(t:TO):Prop where
 up:PO X e t
structure KR(X:Cx)(e:List Expr)(t:TT):Prop where
 up:KM X e t
def qv(i:Nat){x:Str}{pos:Pos}(hN:X.N[i]?=some x:=by rfl)(hv:U6 X.env.scope x:=by first|exact Or.inl rfl|exact Or.inr (Or.inl rfl)|exact Or.inr (Or.inr rfl))(hd:(x==("__debug__":Str))=false:=by decide)(hcd:(x==("__classdict__":Str))=false:=by decide):QE X (.Name x pos) (ao i):=
 ⟨pv i hN hv hd hcd⟩
def au{i j pos}:QE X (.Constant (.int i) j pos) (tC (.int i)):=
 ⟨TY ⟩
def jW{b j pos}:QE X (.Constant (.bool b) j pos) (tC (.bl b)):=
 ⟨Vo ⟩
def lI{j pos}:QE X (.Constant .none j pos) (tC .non):=
 ⟨Og ⟩
def aM{x j pos}:QE X (.Constant (.str x) j pos) (tC (.str x)):=
 ⟨T8 ⟩
def bO{op:Operator}{r:R2}(ho:jE X (fc op) r)(ha:QE X a ta)(hb:QE X b tb):QE X (.BinOp a op b pos) (a9 r ta tb):=
 ⟨Vs ho ha.up hb.up⟩
def Dc{op:UnaryOp}{r:V->Hp->VK->Prop}(ho:VX X (unaryOp op) r)(ha:QE X a ta):QE X (.UnaryOp op a pos) (Sw r ta):=
 ⟨Vu ho ha.up⟩
def Uv(ha:QE X a ta):QE X (.UnaryOp .Not a pos) (O1 ta):=
 ⟨T4 ha.up⟩
def eR{op:CmpOp}{r:R2}(ho:jE X (bP op) r)(ha:QE X a ta)(hb:QE X b tb)(hm:nH op b=false):QE X (.Compare a [op] [b] pos) (a9 r ta tb):=
 ⟨QM ho ha.up hb.up hm⟩
def As{op op':CmpOp}{r r':R2}(ho:jE X (bP op) r)(ho':jE X (bP op') r')(ha:QE X a ta)(hb:QE X b tb)(hc:QE X c tc)(hm:lastMarks [op,op'] [b,c]=false:=by with_unfolding_all rfl):QE X (.Compare a [op,op'] [b,c] pos) (qm r r' ta tb tc):=
 ⟨Od ho ho' ha.up hb.up hc.up hm⟩
def Oy{op op':CmpOp}{r r':R2}(ho:jE X (bP op) r)(ho':jE X (bP op') r')(ha:QE X a ta)(hb:QE X b tb)(hc:QE X c tc)(hm:lastMarks [op,op'] [b,c]=false:=by with_unfolding_all rfl):QT X (.Compare a [op,op'] [b,c] pos) (bE (qm r r' ta tb tc)):=
 ⟨Ot ho ho' ha.up hb.up hc.up hm⟩
def jj{rest:List Expr}(ha:QE X a ta)(hb:QE X (.BoolOp .And (b::rest) pos) tb):QE X (.BoolOp .And (a::b::rest) pos) (ki ta tb):=
 ⟨TQ ha.up hb.up⟩
def Vz{rest:List Expr}(ha:QE X a ta)(hb:QE X (.BoolOp .Or (b::rest) pos) tb):QE X (.BoolOp .Or (a::b::rest) pos) (UM ta tb):=
 ⟨Vt ha.up hb.up⟩
def kB{op}{t:TE}(h:QE X a t):QE X (.BoolOp op [a] pos) t:=
 ⟨T7 h.up⟩
def dO{lo hi:Option Expr}{r:V->Option Int->Option Int->Hp->VK->Prop}(hr:KS X r)(he:QE X e te)(hl:QO X lo tl)(hu:QO X hi th):QE X (.Subscript e (.Slice lo hi none p2) pos) (uT r te tl th):=
 ⟨Oh hr he.up hl.up hu.up⟩
def Vy{r:R2}(hr:Pn X r)(ha:QE X a ta)(hb:QE X b tb)(hs:DV b):QE X (.Subscript a b pos) (a9 r ta tb):=
 ⟨Vr hr ha.up hb.up hs⟩
def cZ{x1}(h:QA X es t):QE X (.Tuple es x1 pos) (gc t):=
 ⟨T9 h.up⟩
def dG(h:QA X es t):QE X (.List es pos) (gF t):=
 ⟨TZ h.up⟩
def tU{id:String}(pa:uw T)(slot:Slot T name id)(hty:typeOf (.builtin id)=pure (.type "method_descriptor"))(hm:US X id r)(ho:QE X o to)(ha:QA X (e::es) t)(hbase:e7 o name X.env (eval o X.env)=eval o X.env:=by rfl)(hfew:((eV cpos (aR (e::es) X.env)).all (λx=>!x.1)&&(rC cpos (kQ [] X.env)).all (λx=>x.1.isSome)
   && decide ((e::es).length+([]:List lS).length+(if([]:List lS).isEmpty then 0 else 1)<30))=true:=by rfl) (hline:(apos.endLine==cpos.line)=true:=by rfl) (hs:aR (e::es) X.env=(false,eval e X.env)::aR es X.env:=by rfl) (hplain:(eV cpos (aR es X.env)).any (·.1)=false:=by rfl):QE X (.Call (.Attribute o name apos) (e::es) [] cpos) (sE X.K T r to t):=
 ⟨Vp pa slot hty hm ho.up ha.up hbase hfew hline hs hplain⟩
def Ut{id:String}(pa:uw T)(slot:Slot T name id)(hty:typeOf (.builtin id)=pure (.type "method_descriptor"))(hm:US X id r)(ho:QE X o to)(hbase:e7 o name X.env (eval o X.env)=eval o X.env:=by rfl)(hline:(apos.endLine==cpos.line)=true:=by rfl):QE X (.Call (.Attribute o name apos) [] [] cpos) (UL X.K T r to):=
 ⟨TR pa slot hty hm ho.up hbase hline⟩
def fh{id:String}(hc:iY X (.builtin id) r)(hg:Gl X x)(hm:X.mg x=none)(hv:e8 x=some (.builtin id))(ha:QA X (e::es) t)(hn:x≠"__name__":=by decide)(hdb:(x==("__debug__":Str))=false:=by decide)(he:aR (e::es) X.env=(false,eval e X.env)::aR es X.env:=by rfl)(hpl:(eV pos (aR es X.env)).any (·.1)=false:=by rfl):QE X (.Call (.Name x p) (e::es) [] pos) (fj r t):=
 ⟨Oc hc hg hm hv ha.up hn hdb he hpl⟩
def cN(hc:iY X (.type T) r)(hg:Gl X x)(hm:X.mg x=none)(hv:e8 x=some (.type T))(ha:QA X (e::es) t)(hn:x≠"__name__":=by decide)(hdb:(x==("__debug__":Str))=false:=by decide)(he:aR (e::es) X.env=(false,eval e X.env)::aR es X.env:=by rfl)(hpl:(eV pos (aR es X.env)).any (·.1)=false:=by rfl):QE X (.Call (.Name x p) (e::es) [] pos) (fj r t):=
 ⟨LW hc hg hm hv ha.up hn hdb he hpl⟩
def Vx{X:Cx}{x:Str}{ps:List Str}{k:Nat}{sp:Sp}{e:Expr}{es:List Expr}{t:TA}{p pos:Pos}(c:cO X.prog X.w X.K X.mg X.base x ps k sp)(hr:gB k X.A)(hg:Gl X x)(ha:QA X (e::es) t)(hdb:(x==("__debug__":Str))=false:=by decide)(he:aR (e::es) X.env=(false,eval e X.env)::aR es X.env:=by rfl)(hpl:(eV pos (aR es X.env)).any (·.1)=false:=by rfl):QE X (.Call (.Name x p) (e::es) [] pos) (bF sp [] E0 t):=
 ⟨Vq c hr hg ha.up hdb he hpl⟩
def Rk{wi:TI}(ok:ux sc N scope NY js)(hsc:X.env.scope=sc)(hN:X.N=N)(hk:NY.length=N.length+k)(hc:X.calm=true)(hit:QI X target iter wi)(hg:∀cl C s₀ H₀ fp,QG (eB X NY scope cl C s₀ H₀ fp) target g)(hi:∀cl C s₀ H₀ fp,KR (eB X NY scope cl C s₀ H₀ fp) ifs tc)(he:∀cl C s₀ H₀ fp,QE (eB X NY scope cl C s₀ H₀ fp) elt te)(hs:∀x,eL iter X.env x=pure x:=by intro _;rfl):QE X (.ListComp elt [⟨target,iter,ifs,0⟩] scope pos) (fE js k wi g tc te):=
 ⟨QN ok hsc hN hk hc hit.up (λcl C s₀ H₀ fp=>(hg cl C s₀ H₀ fp).up) (λcl C s₀ H₀ fp=>(hi cl C s₀ H₀ fp).up) (λcl C s₀ H₀ fp=>(he cl C s₀ H₀ fp).up) hs⟩
def Rv{wi:TI}{i:Nat}{y:Str}{py spos:Pos}(ok:ux sc N scope NY js)(hsc:X.env.scope=sc)(hN:X.N=N)(hk:NY.length=N.length+k)(hc:X.calm=true)(hit:QI X target iter wi)(hg:∀cl C s₀ H₀ fp,QG (eB X NY scope cl C s₀ H₀ fp) target g)(hi:∀cl C s₀ H₀ fp,KR (eB X NY scope cl C s₀ H₀ fp) ifs tc)(he:∀cl C s₀ H₀ fp,QE (eB X NY scope cl C s₀ H₀ fp) elt te)(nd:X.N.Nodup)(hy:X.N[i]?=some y)(hl:MR X.env.scope y)(hsw:gI (.ListComp elt [⟨target,iter,ifs,0⟩] scope pos) (some (.Name y py)) spos.line X.env=pure true)(hs:∀x,eL iter X.env x=pure x:=by intro _;rfl)(hf:X.fn y=true\/X.env.scope.names.lookup y=some .local:=by first|exact .inl rfl|exact .inr rfl|assumption):QS X (.Assign [.Name y py] (.ListComp elt [⟨target,iter,ifs,0⟩] scope pos) spos) (cb (fE js k wi g tc te) (aU i)):=
 ⟨Ra ok hsc hN hk hc hit.up (λcl C s₀ H₀ fp=>(hg cl C s₀ H₀ fp).up) (λcl C s₀ H₀ fp=>(hi cl C s₀ H₀ fp).up) (λcl C s₀ H₀ fp=>(he cl C s₀ H₀ fp).up) nd hy hl hsw hs hf⟩
def eS :QO X none dP:=
 ⟨Q5 ⟩
def ef(h:QE X e te):QO X (some e) (fX te):=
 ⟨Q6 h.up⟩
def kA :QA X [] aJ:=
 ⟨TM ⟩
def ay(ha:QE X e te)(hr:QA X es t)(hs:aR (e::es) X.env=(false,eval e X.env)::aR es X.env:=by rfl):QA X (e::es) (ai te t):=
 ⟨QK ha.up hr.up hs⟩
def aS{op:CmpOp}{r:R2}(ho:jE X (bP op) r)(ha:QE X a ta)(hb:QE X b tb)(hm:nH op b=false):QT X (.Compare a [op] [b] pos) (bE (a9 r ta tb)):=
 ⟨Rh ho ha.up hb.up hm⟩
def Ay(ha:QT X a tA):QT X (.UnaryOp .Not a pos) (Ji tA):=
 ⟨Up ha.up⟩
def eI{rest:List Expr}(ha:QT X a tA)(hb:QW X (.BoolOp .And (b::rest) pos) tB'):QW X (.BoolOp .And (a::b::rest) pos) (i6 tA tB'):=
 ⟨Ur ha.up hb.up⟩
def fO(ha:QT X a tA):QW X (.BoolOp .And [a] pos) tA:=
 ⟨Rj ha.up⟩
def qF{rest:List Expr}(ha:QT X a tA)(hb:QW X (.BoolOp .Or (b::rest) pos) tB'):QW X (.BoolOp .Or (a::b::rest) pos) (Kl tA tB'):=
 ⟨Vw ha.up hb.up⟩
def oi(ha:QT X a tA):QW X (.BoolOp .Or [a] pos) tA:=
 ⟨Us ha.up⟩
def QW.pt{X:Cx}{e:Expr}{t:TT}(h:QW X e t):QT X e t:=
 ⟨PW.pt h.up⟩
def gY{e:Expr}{t:TE}(h:QE X e t)(he:∀whole,isTrue e X.env whole=(do let v <-whole;standAt e.pos;holding [v] (truthy v)):=by intro _;rfl):QT X e (tB t):=
 ⟨Uq h.up he⟩
def iL{a:Expr}{ta:TA}{p pos:Pos}(hg:Gl X "range")(hm:X.mg "range"=none)(ha:QA X [a] ta)(hs:aR [a] X.env=[(false,eval a X.env)]:=by rfl):QI X tg (.Call (.Name "range" p) [a] [] pos) (rT ta):=
 ⟨LZ hg hm ha.up hs⟩
def yU{a:Expr}{ta:TA}{p pos:Pos}(hg:Gl X "enumerate")(hm:X.mg "enumerate"=none)(ha:QA X [a] ta)(hs:aR [a] X.env=[(false,eval a X.env)]:=by rfl):QI X (.Tuple elts k tpos) (.Call (.Name "enumerate" p) [a] [] pos) (CZ X.K ta):=
 ⟨QZ hg hm ha.up hs⟩
def Uw{a b:Expr}{ta:TA}{p pos:Pos}(hg:Gl X "zip")(hm:X.mg "zip"=none)(ha:QA X [a,b] ta)(hs:aR [a,b] X.env=[(false,eval a X.env),(false,eval b X.env)]:=by rfl)(hs2:aR [b] X.env=[(false,eval b X.env)]:=by rfl):QI X (.Tuple elts k tpos) (.Call (.Name "zip" p) [a,b] [] pos) (S0 X.K ta):=
 ⟨Uh hg hm ha.up hs hs2⟩
def fH{tg l:Expr}{tl:TE}(hl:QE X l tl):QI X tg l (iT X.K tl):=
 ⟨Ud hl.up⟩
def Rq{i:Nat}{x:Str}(hN:X.N.Nodup)(hi:X.N[i]?=some x)(hx:MR X.env.scope x)(hf:X.fn x=true\/X.env.scope.names.lookup x=some .local:=by first|exact .inl rfl|exact .inr rfl|assumption):QG X (.Name x pos) (aU i):=
 ⟨QV hN hi hx hf⟩
def qa{es:List Expr}{k:Nat}{t:KU}{n:Nat}(hc:X.calm=true)(h:U3 X es t)(hn:(eh es X.env).length=n:=by rfl)(hst:(eh es X.env).findIdx? (·.1)=none:=by rfl):QG X (.Tuple es k pos) (zT X.K n t):=
 ⟨Uc hc h.up hn hst⟩
def Rr{es:List Expr}{k:Nat}{t:KU}{n:Nat}(hc:X.calm=true)(h:U3 X es t)(hn:(eh es X.env).length=n:=by rfl)(hst:(eh es X.env).findIdx? (·.1)=none:=by rfl):QG X (.Tuple es k pos) (NC X.K n t):=
 ⟨QX hc h.up hn hst⟩
def kO :U3 X [] yA:=
 ⟨QY ⟩
def d8{e:Expr}{es:List Expr}{t:TG}{u:KU}(h1:QG X e t)(h2:U3 X es u)(hs:(eh (e::es) X.env).map (·.2)=assign e X.env::(eh es X.env).map (·.2):=by rfl):U3 X (e::es) (iB t u):=
 ⟨Oi h1.up h2.up hs⟩
def kC{o i:Expr}{to ti:TE}{t:PQ}(ho:QE X o to)(hi:QE X i ti)(hs:PP X t)(ha:∀v,assign (.Subscript o i pos) X.env v=(do
   let ov <-holding [v] (eval o X.env);let iv <-holding [v,ov] (eval i X.env)
   standAt pos
   holding [v,ov,iv] (setItem ov iv v)
   release [v,ov,iv] []):=by intro _;rfl):QG X (.Subscript o i pos) (tI to ti t):=
 ⟨Ub ho.up hi.up hs ha⟩
def Ux{i:Nat}{x:Str}{e:Expr}{te:TE}{pos':Pos}(hN:X.N.Nodup)(hi:X.N[i]?=some x)(hx:MR X.env.scope x)(he:QE X e te)(hs:gI e (some (.Name x pos')) pos.line X.env=pure false:=by rfl)(hf:X.fn x=true\/X.env.scope.names.lookup x=some .local:=by first|exact .inl rfl|exact .inr rfl|assumption):QS X (.Assign [.Name x pos'] e pos) (cb te (aU i)):=
 ⟨Uo hN hi hx he.up hs hf⟩
def jX{tg e:Expr}{te:TE}{g:TG}(he:QE X e te)(hg:QG X tg g)(hs:swapsWithSole [tg] e pos.line X.env=pure false:=by rfl)(hw:swappedStores [tg] e X.env=pure none:=by rfl)(h1:(eh [tg] X.env).map (·.2)=[assign tg X.env]:=by rfl):QS X (.Assign [tg] e pos) (cb te g):=
 ⟨Uk he.up hg.up hs hw h1⟩
def fM(he:QE X e te)(hs:gI e none pos.line X.env=pure false:=by rfl):QS X (.Expr e pos) (iQ te):=
 ⟨Rb he.up hs⟩
def bo(he:QE X e te):QS X (.Return (some e) pos) (cD te):=
 ⟨Um he.up⟩
def xR{c:Expr}{a b:List Stmt}{tc:TT}(hc:QT X c tc)(ha:M3 X a t)(hb:M3 X b u):QS X (.If c a b pos) (dq tc t u):=
 ⟨Vv hc.up ha.up hb.up⟩
def Ax{c:Expr}{body:List Stmt}{tc:TT}{tb:TS}(hp:cy (model X.prog X.w) X.A X.env X.xe)(hc:QT X c tc)(hb:M3 X body tb):QS X (.While c body [] pos) (AV tc tb):=
 ⟨Oq hp hc.up hb.up⟩
def fN{iter:Expr}{body:List Stmt}{wi:TI}{g:TG}{tb:TS}{pos:Pos}(hp:cy (model X.prog X.w) X.A X.env X.xe)(hc:X.calm=true)(hi:QI X tg iter wi)(hg:QG X tg g)(hb:M3 X body tb)(hs:∀x,eL iter X.env x=pure x:=by intro _;rfl):QS X (.For tg iter body [] pos) (kG wi g tb):=
 ⟨Ul hp hc hi.up hg.up hb.up hs⟩
def ax{st:Stmt}{rest:List Stmt}(h1:QS X st t)(h2:M3 X rest u):M3 X (st::rest) (bx t u):=
 ⟨Os h1.up h2.up⟩
def aY{st:Stmt}(h1:QS X st t):M3 X [st] t:=
 ⟨Rg h1.up⟩
def vn :M3 X [] b6:=
 ⟨Rf ⟩
def Ez{x:Str}{v:V}{u:aa}{pos:Pos}(hg:Gl X x)(hm:X.mg x=none)(hv:e8 x=some u)(r:dA v u)(hn:x≠"__name__":=by decide)(hd:(x==("__debug__":Str))=false:=by decide):QE X (.Name x pos) (tC v):=
 ⟨QL hg hm hv r hn hd⟩
def gr{X:Cx}:KR X [] kH:=
 ⟨Q1 ⟩
def yV{X:Cx}{c:Expr}{t:TT}(h:QT X c t):KR X [c] t:=
 ⟨Q2 h.up⟩
def IW(neg:Bool):R2:=λx y H Q=>∃a o,y=.ref a/\uZ H a x o/\Q (.bl (if neg then !o.isSome else o.isSome)) H
def Gk:V->V->V->Hp->(Hp->Prop)->Prop:=λo i v H Q=>∃a H',o=.ref a/\E7 H a i v H'/\Q H'
section
variable{X:Cx}
def TF(hu:X.A.units+1<cLine):jE X (bP .In) (IW false):=by
 intro pins s σ H x y v u Q I rx ry h;obtain⟨a,o,rfl,g,q⟩:=h;cases ry;exact Wc hu I g rx λs' I'=>⟨.bl o.isSome,H,I',rfl,q⟩
def tw(hu:X.A.units+1<cLine):jE X (bP .NotIn) (IW true):=by
 intro pins s σ H x y v u Q I rx ry h;obtain⟨a,o,rfl,g,q⟩:=h;cases ry;exact P6 hu I g rx λs' I'=>⟨.bl (!o.isSome),H,I',rfl,q⟩
def vw(hu:X.A.units+1<cLine):PP X Gk:=by
 intro pins s σ H o i v ov iv u Q I ro ri rv h;obtain⟨a,H',rfl,g,q⟩:=h;cases ro;exact Lh hu I g ri rv λs' I'=>⟨H',I',q⟩
def EX:∀{us:List aa} {ns:List Int},lR us ns->c8 (ns.map V.int) us:=by
 intro us ns h
 induction h with
 |nil=>exact .nil
 |cons n t _ ih=>exact .cons ⟨t,rfl⟩ ih
def zY{prog:aW}{w:bK}:∀{ns:List Int} {vs:List (g8×aa)} {us:List aa},vs.map (·.1)=ns.map Sum.inl->us.length=vs.length->(∀(j:Nat) v,us[j]?=some v->∃k x,vs[j]?=some (k,x)/\(fL prog w).is k v=true)->lR us ns
 |[],vs,us,h1,h2,_=>by
  have:vs=[]:=by cases vs with|nil=>rfl|cons a r=>cases h1
  subst this;have:us=[]:=di.mp h2;subst this;exact .nil
 |n::ns,vs,us,h1,h2,h3=>by
  cases vs with
  |nil=>cases h1
  |cons a vs=>
   cases us with
   |nil=>cases h2
   |cons u us=>
    obtain⟨k,x,e,hk⟩:=h3 0 u rfl;have e':a=(k,x):=Option.some.inj e;subst e';injection h1 with h1 h1';have h1:k=Sum.inl n:=h1;subst h1;obtain⟨t,rfl⟩:=aa.isInt_shape (k:=n) (v:=u) hk;refine .cons n t (zY (prog:=prog) (w:=w) h1' (by simpa using h2) λj v e=>?_);exact h3 (j+1) v (by simpa using e)
def OB:List V->Hp->VK->Prop:=λxs H Q=>∃(d:ar) (kvs:List (g8×V)) (ns:List Int),xs=[.ref d]/\H d=some (.dK kvs)/\kvs.map (·.1)=ns.map Sum.inl/\ns.length<64/\∀(l:ar) (ns':List Int),H l=none->ns'.Perm ns->ns'.Pairwise (·<=·)->Q (.ref l) (upd H l (.lst (ns'.map V.int)))
def HY(hc:X.calm=true):iY X (.builtin "sorted") OB:=by
 intro pins s σ H xs us Q I r h;obtain⟨d,kvs,ns,rfl,hd,hk,h64,q⟩:=h;obtain⟨u,rfl,rx⟩:=mU r;cases rx;obtain⟨z,lo,vs,rel,dd⟩:=FK I.hok hd;obtain⟨ep,hat⟩:=dd.dictAt;have hh:X.A.handled=none:=I.ok.hd hc;have kl:=rel.length;have hv:vs.map (·.1)=ns.map Sum.inl:=by rw[<-rel.keys];exact hk
 have vl:vs.length=ns.length:=by have:=congrArg gP hv;simpa using this
 refine Calls.call_function_entry kind_sorted plain_sorted entry_sorted (args_sorted1 _) ?_;unfold Builtin.«sorted»;refine ag (m:=checkCount "sorted" 1 1 _) (aC ?_);refine ag (PySem.W.kdu_collect (A:=X.A.in1) (PySem.W.kdl_dict (knd:=fL X.prog X.w) (kvs:=vs) (ep:=ep) lo) hh hat (by rw[<-kl];exact z) λh' tk acc hkp hacc=>?_);have hl:acc.toList.length=vs.length:=by rw[bg];exact hacc.1
 have hI:lR acc.toList ns:=zY (prog:=X.prog) (w:=X.w) hv hl λj v e=>hacc.2 j v (by rw[<-dD];exact e);refine ag (wpAny_newList ?_ (by rw[hl,<-kl];exact z));have hoL:(h'.push (seqObj "list" acc.toList.toArray 0)).get? h'.objs.size=some (seqObj "list" acc.toList.toArray 0):=aZ _ rfl;show aO _ _ _ _ _ {s with heap:=h'.push (seqObj "list" acc.toList.toArray 0),toks:=tk};refine ag (cw (fQ slot_list_sort ⟨_,hoL,rfl⟩ entry_list_sort (list_sort_tree hoL hI (by rw[hl,vl];exact h64) λout ns' a1 a2 a3=>⟨_,rfl,?_⟩) (args_list_sort _)));refine aC ⟨_,rfl,?_⟩;obtain⟨e,he⟩:=sortedHeap_at (n:=0) (out:=out) hoL;have hn:=EX a1;have hlen:ns'.length=ns.length:=a2.length_eq;have I1:bY X pins σ H {s with heap:=h',toks:=tk}:=I.kept hkp;refine⟨.ref h'.objs.size,_,I1.laid (t':=tk) (λb u q1=>?_) (aD _) (show fg X.prog X.w _ _ _ (.lst (ns'.map V.int)) from⟨?_,out.toList,e,hn,?_⟩),rfl,q _ _ (I1.hok.fresh (aD _)) a2 a3⟩
 ·have lt:=aP q1;rw[sortedHeap_old (bu lt) (by rw[size_push'];exact gp lt)];exact az _ q1
 ·rw[ae,hlen];exact b9 (cT h64) (by decide)
 ·rw[Array.toArray_toList];exact he
end
structure Pw(K:Fg)(x qual:Str)(st:Stmt)(dV:aa)(f:ar)(fd:dY):Prop where
 ex:∃(oc:aa) (od:Option ar) (kV doc pm:aa) (an:Option ar) (cdv ct:aa) (osl:Array (Option aa)),
  fd=dv x qual (ij st) (e9 st) (bU st) dV kV doc pm an cdv ct/\K.lookup f=some ⟨oc,od,.func fd,osl⟩/\eN K cdv qual=true
 kp:cV K (.ref f)=true
section
variable{P:aW}{w:bK}{K:Fg}{mg:Str->Option aa}{base:Heap}
def Pw.ok{x qual:Str}{st:Stmt}{dV:aa}{f:ar}{fd:dY}{N ps:List Str}{k:Nat}{sp:Sp}(F:Pw K x qual st dV f fd)(S:lV N ps (bU st))(len:∀vs H Q E,sp vs H Q E->vs.length=ps.length)
  (hbody:∀(cdv:aa) (A:bj) (outer:List Env) (s:aq) (H:Hp) (vs:List V) (Q:VK) (E:XK),gB k (A.deeper (hZ qual (bU st) s.heap.objs.size f cdv))->sp vs H Q E->
   ∃t,DT (tH EZ P w K mg base N qual (bU st) f cdv A outer s H E).nox (e9 st) t/\t {nx:=λ_ H'=>Q .non H',rt:=Q} (cI N vs) H):pO P w K mg base EZ (k+1) f fd ps sp:=by
 obtain⟨oc,od,kV,doc,pm,an,cdv,ct,osl,rfl,lk,hcd⟩:=F.ex;refine NA lk hcd S len λA outer s H vs Q E hr hsp=>?_;obtain⟨t,h,q⟩:=hbody cdv A outer s H vs Q E hr hsp;exact⟨t,h.nox,q⟩
def Qg{x qual:Str}{st:Stmt}{dV:aa}{f:ar}{oc:aa}{od an:Option ar}{osl:Array (Option aa)}{kV doc pm cdv ct:aa}(l:K.lookup f=some ⟨oc,od,.func (dv x qual (ij st) (e9 st) (bU st) dV kV doc pm an cdv ct),osl⟩)
  (c:eN K cdv qual=true) (k:cV K (.ref f)=true):Pw K x qual st dV f (dv x qual (ij st) (e9 st) (bU st) dV kV doc pm an cdv ct):=⟨⟨oc,od,kV,doc,pm,an,cdv,ct,osl,rfl,l,c⟩,k⟩
end
structure VW(X:Cx)(pos:Pos)(keys:List (Option Expr))(values:List Expr)(trs:List (TE×TE)):Prop where
 up:U2 X pos keys values trs
def Ru{X:Cx}{pos:Pos}:VW X pos [] [] []:=⟨Q7⟩
def Ox{X:Cx}{pos:Pos}{k v:Expr}{ks:List (Option Expr)}{vs:List Expr}{tk tv:TE}{trs:List (TE×TE)}(hk:QE X k tk)(hv:QE X v tv)(hr:VW X pos ks vs trs):VW X pos (some k::ks) (v::vs) ((tk,tv)::trs):=⟨On hk.up hv.up hr.up⟩
def Rm{X:Cx}{pos:Pos}{keys:List (Option Expr)}{values:List Expr}{trs:List (TE×TE)}(h:VW X pos keys values trs)(hall:keys.all (·.isSome)=true)(hl:keys.length=values.length)(h0:keys≠[])(h15:keys.length<=15):QE X (.Dict keys values pos) (OY trs):=⟨QQ h.up hall hl h0 h15⟩
def Au{X:Cx}{pos:Pos}:QE X (.Dict [] [] pos) AU:=⟨Oe⟩
end L2
end
section
namespace BgSet
open PySem
def Po(ps:Array Nat):Prop:=ps.toList.Pairwise (·<·)
def Po.at{ps:Array Nat}(hr:Po ps){i j a b:Nat}(hij:i<j)(ha:ps[i]?=some a)(hb:ps[j]?=some b):a<b:=by
 rw[<-dD] at ha hb;obtain⟨hi,rfl⟩:=ak.mp ha;obtain⟨hj,rfl⟩:=ak.mp hb;exact List.pairwise_iff_getElem.mp hr i j hi hj hij
def M8{ps:Array Nat}{j:Nat}(hr:Po ps):∀fl lo hi,hi-lo<=fl->hi<=ps.size->lo<=hi->
  (∀i a,i<lo->ps[i]?=some a->a<j)->(∀i a,hi<=i->ps[i]?=some a->j<=a)->
  bp.below.go ps j fl lo hi<=ps.size/\(∀i a,i<bp.below.go ps j fl lo hi->ps[i]?=some a->a<j)
   /\(∀i a,bp.below.go ps j fl lo hi<=i->ps[i]?=some a->j<=a):=by
 intro fl
 induction fl with
 |zero=>
  intro lo hi hf hs hl h1 h2;have:lo=hi:=by lia
  subst this;exact⟨hs,h1,h2⟩
 |succ fl ih=>
  intro lo hi hf hs hl h1 h2;unfold bp.below.go;by_cases hlt:lo<hi
  ·rw[if_pos hlt];have hm:(lo+hi) / 2<ps.size:=by lia
   have hg:ps[(lo+hi) / 2]?=some (ps.getD ((lo+hi) / 2) j):=by
    simp[Array.getD,hm]
   dsimp only;by_cases hc:ps.getD ((lo+hi) / 2) j<j
   ·rw[if_pos hc];refine ih _ _ (by lia) hs (by lia) (λi a hi' ha=>?_) h2;rcases pM i ((lo+hi) / 2) with hq|hq
    ·exact pN (hr.at hq ha hg) hc
    ·have:i=(lo+hi) / 2:=by lia
     subst this;rw[hg] at ha;cases ha;exact hc
   ·rw[if_neg hc];refine ih _ _ (by lia) (by lia) (by lia) h1 (λi a hi' ha=>?_);rcases pM ((lo+hi) / 2) i with hq|hq
    ·exact cT (jg (y4.mp hc) (hr.at hq hg ha))
    ·have:i=(lo+hi) / 2:=by lia
     subst this;rw[hg] at ha;cases ha;exact y4.mp hc
  ·rw[if_neg hlt];have:lo=hi:=by lia
   subst this;exact⟨hs,h1,h2⟩
def Fq{ps:Array Nat}(hr:Po ps)(j:Nat):bp.below ps j<=ps.size/\(∀i a,i<bp.below ps j->ps[i]?=some a->a<j)
  /\(∀i a,bp.below ps j<=i->ps[i]?=some a->j<=a):=by
 refine M8 hr ps.size 0 ps.size (aD _) (aD _) (cA _) (λi a h=>absurd h (bW _)) (λi a h ha=>?_);rw[Array.getElem?_eq_none h] at ha;cases ha
def Jd{ps:Array Nat}(hr:Po ps){j:Nat}(hn:∀i:Nat,ps[i]?≠some j):Po (bp.insertAt ps (bp.below ps j) j):=by
 obtain⟨h1,h2,h3⟩:=Fq hr j;unfold Po;rw[bp.toList_insertAt];have hlow:∀a∈ps.toList.take (bp.below ps j),a<j:=λa ha=>by
  obtain⟨i,hi⟩:=List.getElem?_of_mem ha;rw[List.getElem?_take] at hi;split at hi
  ·rename_i hlt;exact h2 i a hlt (by rw[<-dD];exact hi)
  ·cases hi
 have hhigh:∀a∈ps.toList.drop (bp.below ps j),j<a:=λa ha=>by
  obtain⟨i,hi⟩:=List.getElem?_of_mem ha;rw[List.getElem?_drop,dD] at hi;have:=h3 _ a (Nat.le_add_right _ _) hi;rcases Nat.lt_or_eq_of_le this with h|h
  ·exact h
  ·subst h;exact absurd hi (hn _)
 refine List.pairwise_append.mpr ⟨hr.sublist (jM _ _),List.pairwise_cons.mpr ⟨hhigh,hr.sublist (List.drop_sublist _ _)⟩,λa ha b hb=>?_⟩;rcases aE.mp hb with rfl|hb
 ·exact hlow a ha
 ·exact pN (hlow a ha) (hhigh b hb)
structure wj(led:Bool)(t:bp):Prop where
 led:t.led=led
 dum:t.dummies=#[]
 ris:t.plain=true->Po t.place
def wj.fresh(a b:Nat)(led:Bool):wj led (bp.fresh a b led):=⟨rfl,rfl,λ_=>List.Pairwise.nil⟩
def wj.standIn{led:Bool}{t:bp}(h:wj led t)(n:Nat):wj led (t.standIn n):=
 ⟨h.led,rfl,λhp=>by simp[bp.standIn] at hp⟩
def wj.orStandIn{led:Bool}{t:bp}(h:wj led t)(n:Nat):wj led (t.orStandIn n):=by
 unfold bp.orStandIn;split
 ·exact h
 ·exact h.standIn n
def FR(j:Nat):bp.has #[] j=false:=by
 unfold bp.has;simp
def Jg{t:bp}(hd:t.dummies=#[]){j:Nat}:t.slot j≠.dummy:=by
 unfold bp.slot;rw[hd,FR];dsimp only;split<;>simp
def IT{t:bp}(hd:t.dummies=#[]){f:Nat->Int}{h:Int}:∀fl (p:bp.Probe) (j:Nat) (d:Option Nat),p.dummy=none->
  bp.probe.go t f h fl p=some (.empty j d)->d=none/\t.slot j=.empty:=by
 intro fl
 induction fl with
 |zero=>intro p j d hp hq;unfold bp.probe.go at hq;cases hq
 |succ fl ih=>
  intro p j d hp hq;unfold bp.probe.go at hq;have hadv:(t.advance p).dummy=none:=by
   unfold bp.advance;split<;>exact hp
  cases hs:t.slot p.j with
  |empty=>rw[hs] at hq;simp only[Option.some.injEq,bp.Met.empty.injEq] at hq;obtain⟨rfl,rfl⟩:=hq;exact⟨hp,hs⟩
  |dummy=>exact absurd hs (Jg hd)
  |live i=>
   rw[hs] at hq;simp only at hq;split at hq
   ·cases hq
   ·exact ih _ j d hadv hq
def Lm{t:bp}(hd:t.dummies=#[]){h:Int}{sl:Nat}{wd:Bool}(hq:t.freeSlot h=some (sl,wd)):t.slot sl=.empty:=by
 unfold bp.freeSlot bp.probe at hq;split at hq
 ·rename_i j d he;obtain⟨rfl,hs⟩:=IT hd _ _ j d rfl he;simp only[oG,Option.some.injEq,Prod.mk.injEq] at hq;rw[<-hq.1];exact hs
 ·cases hq
def OV{t:bp}(hr:Po t.place){j:Nat}(hs:t.slot j=.empty):∀i:Nat,t.place[i]?≠some j:=by
 intro i hi;obtain⟨h1,h2,h3⟩:=Fq hr j;have hb:bp.below t.place j=i:=by
  rcases Nat.lt_trichotomy (bp.below t.place j) i with h|h|h
  ·have hlt:bp.below t.place j<t.place.size:=by
    have:=(bN.mp hi).1;lia
   have hq:=Array.getElem?_eq_getElem hlt;have a1:=h3 _ _ (aD _) hq;have a2:=hr.at h hq hi;lia
  ·exact h
  ·exact absurd (h2 i j h hi) (cQ _)
 unfold bp.slot at hs;rw[hb] at hs;dsimp only at hs;rw[hi] at hs;simp at hs
def wj.put{led:Bool}{t:bp}(h:wj led t){sl:Nat}(hs:t.slot sl=.empty):wj led (t.put sl).1:=by
 refine⟨h.led,?_,λhp=>?_⟩
 ·show(if bp.has t.dummies sl=true then _ else t.dummies)=#[];rw[h.dum,FR];rfl
 ·exact Jd (h.ris hp) (OV (h.ris hp) hs)
def wj.layNew{led:Bool}{t:bp}(h:wj led t)(es:Array (Int×aa))(hs:Int)(x:aa):wj led (layNew t es hs x).2.1:=by
 unfold PySem.layNew;split
 ·rename_i sl wd hq;exact(h.put (Lm h.dum hq)).orStandIn _
 ·exact h.standIn _
def wj.off{led:Bool}{t:bp}(h:wj led t):wj led {t with plain:=false}:=⟨h.led,h.dum,λhp=>by simp at hp⟩
def Ag(g:Nat->Option Nat):∀l:List Nat,((l.filterMap λj=>(g j).map (j,·)).map (·.1)).Sublist l
 |[]=>List.Sublist.refl _
 |j::l=>by
  rw[dc];cases hg:g j with
  |none=>simpa using(Ag g l).cons j
  |some b=>simpa using(Ag g l).cons_cons j
def wj.relaid{led:Bool}{t t':bp}{hs:Array Int}{n:Nat}{o:Array Nat}(h:wj led t)(hq:t.relaid hs n=some (t',o)):wj led t':=by
 unfold bp.relaid bp.laid at hq;cases ho:bp.layClean (bp.sizeAbove n-1) hs with
 |none=>rw[ho] at hq;simp at hq
 |some ow=>
  rw[ho] at hq;simp only[Option.bind_eq_bind,fS,Option.pure_def,Option.some.injEq,Prod.mk.injEq] at hq;rw[<-hq.1];refine⟨h.led,rfl,λ_=>?_⟩;unfold Po;rw[List.toList_toArray];exact(List.pairwise_lt_range).sublist (Ag (λj=>ow.getD j none) _)
def wj.relay{led:Bool}{t:bp}(h:wj led t)(es:Array (Int×aa))(n:Nat):wj led (jF t es n).2.1:=by
 unfold jF;split
 ·rename_i t' o hq;dsimp only;split
  ·exact h.relaid hq
  ·exact h.standIn _
 ·exact h.standIn _
def Gf{t:bp}(h:t.plain=false)(es:Array (Int×aa))(n:Nat):(jF t es n).2.1.plain=false:=by
 unfold jF;split
 ·rename_i t' o hq;dsimp only;split
  ·unfold bp.relaid bp.laid at hq;cases ho:bp.layClean (bp.sizeAbove n-1) (es.map (·.1)) with
   |none=>rw[ho] at hq;simp at hq
   |some ow=>
    rw[ho] at hq;simp only[Option.bind_eq_bind,fS,Option.pure_def,Option.some.injEq,Prod.mk.injEq] at hq;rw[<-hq.1];exact h
  ·rfl
 ·rfl
section
variable{prog:aW}{w:bK}{K:Type}[DecidableEq K]
def za(kd:KeyKind prog w K)(l:List (Int×aa)):Prop:=
 l.Pairwise λe e'=>∀k,kd.is k e.2=true->kd.is k e'.2=false
def za.perm{kd:KeyKind prog w K}{l l':List (Int×aa)}(h:za kd l)(p:l'.Perm l):za kd l':=by
 refine(p.pairwise_iff (λ{x y} hxy k hk=>?_)).mpr h;cases hx:kd.is k x.2 with
 |false=>rfl
 |true=>have:=hxy k hx;rw[hk] at this;cases this
def SetTb(kd:KeyKind prog w K)(h:Heap)(a:ar)(S:K->Bool)(n:Nat)(led np:Bool):Prop:=
 ∃o es ep t,h.get? a=some o/\o.ExactSet/\o.data=.set es ep t/\ElemsOf kd es.toList/\(∀k,S k=true↔∃e∈es.toList,kd.is k e.2=true)
  /\es.size<scanBound/\t.fits es.size=true/\es.size=n/\wj led t/\(np=true->n≠0->t.plain=false)/\za kd es.toList
variable{kd:KeyKind prog w K}{A:bj}{E:ZF}{s:aq}
def SetTb.congr{h:Heap}{a:ar}{S S':K->Bool}{n n':Nat}{led np:Bool}(hS:SetTb kd h a S n led np)(e:∀k,S k=S' k)(en:n=n'):SetTb kd h a S' n' led np:=by
 cases(funext e:S=S');cases en;exact hS
def SetTb.keep{h h':Heap}{a:ar}{S:K->Bool}{n:Nat}{led np:Bool}(hS:SetTb kd h a S n led np)(e:∀o,h.get? a=some o->h'.get? a=some o):SetTb kd h' a S n led np:=by
 obtain⟨o,es,ep,t,ho,r⟩:=hS;exact⟨o,es,ep,t,e o ho,r⟩
def SetTb.fresh{h:Heap}{a:ar}{led np:Bool}{x y:Nat}(hg:h.get? a=some {cls:=.type "set",dict:=none,data:=.set #[] 0 (.fresh x y led)}) :
  SetTb kd h a (λ_=>false) 0 led np:=
 ⟨_,#[],0,_,hg,⟨rfl,rfl,rfl⟩,rfl,λe he=>by simp at he,λk=>by simp,by decide,rfl,rfl,wj.fresh x y led,λ_ hn=>absurd rfl hn,List.Pairwise.nil⟩
structure Hw(kd:KeyKind prog w K)(S:K->Bool)(n:Nat)(led np:Bool)(es:Array (Int×aa))(t:bp):Prop where
 el:ElemsOf kd es.toList
 mem:∀k,S k=true↔∃e∈es.toList,kd.is k e.2=true
 few:es.size<scanBound
 fit:t.fits es.size=true
 many:es.size=n
 tab:wj led t
 off:np=true->t.plain=false
 apart:za kd es.toList
def Hw.relay{S:K->Bool}{n:Nat}{led np:Bool}{es:Array (Int×aa)}{t:bp}(h:Hw kd S n led np es t)(wn:Nat) :
  Hw kd S n led np (jF t es wn).1 (jF t es wn).2.1:=by
 have hp:=relayAll_perm t es wn;have hz:(jF t es wn).1.size=es.size:=by rw[<-bg,hp.length_eq,bg]
 exact⟨h.el.perm hp,λk=>(h.mem k).trans ⟨λ⟨e,he,q⟩=>⟨e,hp.mem_iff.mpr he,q⟩,λ⟨e,he,q⟩=>⟨e,hp.mem_iff.mp he,q⟩⟩,
  by rw[hz];exact h.few,relayAll_fits t es wn,by rw[hz];exact h.many,h.tab.relay es wn,λe=>Gf (h.off e) es wn,h.apart.perm hp⟩
def Hw.stored{S:K->Bool}{n:Nat}{led np:Bool}{es':Array (Int×aa)}{t':bp}(L:Hw kd S n led np es' t')
  {h:Heap} {a:ar} {o:Obj} {es:Array (Int×aa)} {ep:Nat} {t:bp} (ho:h.get? a=some o) (hex:o.ExactSet) (hd:o.data=.set es ep t) :
  (h.update a (Obj.putSet es' t')).get? a=some {o with data:=.set es' (ep+1) t'}/\SetTb kd (h.update a (Obj.putSet es' t')) a S n led np:=by
 have hg:=(SetOf_store (knd:=kd) ho hex hd L.el L.mem L.few L.fit).1;exact⟨hg,_,es',ep+1,t',hg,hex,rfl,L.el,L.mem,L.few,L.fit,L.many,L.tab,λe _=>L.off e,L.apart⟩
def Fo{g:Bool->Sem Unit}(hg:∀(b:Bool) (s₁:aq) (Q':Unit->aq->Prop),Q' () s₁->aO (model prog w) A (g b) Q' E s₁)
  {a:ar} {o:Obj} {es:Array (Int×aa)} {ep:Nat} {t:bp} (ho:s.heap.get? a=some o) (hex:o.ExactSet) (hd:o.data=.set es ep t)
  {es1:Array (Int×aa)} {t2:bp} {S:K->Bool} {n:Nat} {led np:Bool} (L:Hw kd S n led np es1 t2) {wd:Bool} {R:Option Bool->aq->Prop}
  (hR:∀h',Heap.SameBut a s.heap h'->SetTb kd h' a S n led np->R (some true) {s with heap:=h'}) :
  aO (model prog w) A (do
    storeSet a es1 t2
    if(!wd&&t2.tooFull)=true then do
      g (jF t2 es1 (bp.grown es1.size)).2.2
      storeSet a (jF t2 es1 (bp.grown es1.size)).1 (jF t2 es1 (bp.grown es1.size)).2.1
      pure (some true)
     else pure (some true)) R E s:=by
 refine ag (wpAny_storeSet_of ho hd ?_ (fits_of_scanBound L.few));obtain⟨g1,T1⟩:=L.stored ho hex hd;have sb:=Heap.SameBut.update s.heap a (Obj.putSet es1 t2);split
 ·have L2:=L.relay (bp.grown es1.size);refine ag (hg _ _ _ ?_);refine ag (wpAny_storeSet_of g1 rfl ?_ (fits_of_scanBound L2.few));obtain⟨-,T2⟩:=L2.stored g1 hex rfl;exact aC (hR _ (sb.trans (Heap.SameBut.update _ a _)) T2)
 ·exact aC (hR _ sb T1)
def RG{a:ar}{S:K->Bool}{n:Nat}{led np:Bool}{k:K}{x:aa}{Q:Bool->aq->Prop}(hkey:kd.is k x=true)(hsc:x.scannable=true)
  (hnp:np=true->mf x=false) (hS:SetTb kd s.heap a S n led np) (hroom:n+1<scanBound)
  (hQ:∀h',Heap.SameBut a s.heap h'->SetTb kd h' a (λk'=>S k' || decide (k'=k)) (if S k then n else n+1) led np->Q (!S k) {s with heap:=h'}) :
  aO (model prog w) A (setAddHashed a x (kd.hash k)) Q E s:=by
 obtain⟨o,es,ep,t,ho,hex,hd,hel,hmem,hb,hf,hn,htab,hoff,hap⟩:=hS;have hb1:es.size+1<scanBound:=by rw[hn];exact hroom
 unfold setAddHashed setAddHashedIn;refine cw (ag (wpAny_setState_of ho hd hf ?_));dsimp only;rw[byScan_of hsc hb hel];simp only[↓reduceIte];unfold setAddByScan;refine ag ?_;refine ag (mr ?_);refine ag (wpAny_setScan_of hkey ho hd hf hel ?_);cases hr:List.findIdx? (λe=>kd.is k e.2) es.toList with
 |some j=>
  dsimp only;obtain⟨hj,hpj,-⟩:=List.findIdx?_eq_some_iff_getElem.mp hr;have hk:S k=true:=(hmem k).mpr ⟨_,ck hj,hpj⟩;refine aC (aC ?_);have es0:s={s with heap:=s.heap}:=by cases s;rfl
  have done:=hQ s.heap (Heap.SameBut.refl a s.heap) (SetTb.congr (S:=S) (n:=n) ⟨o,es,ep,t,ho,hex,hd,hel,hmem,hb,hf,hn,htab,hoff,hap⟩
   (λk'=>by by_cases e:k'=k<;>simp[e,hk]) (by rw[hk];rfl))
  rw[hk] at done;rw[es0];exact done
 |none=>
  dsimp only;have hall:=List.findIdx?_eq_none_iff.mp hr;have hk:S k=false:=by
   cases hk:S k with
   |false=>rfl
   |true=>obtain⟨e,he,hp⟩:=(hmem k).mp hk;rw[hall e he] at hp;cases hp
  have hper:=layNew_perm t es (kd.hash k) x;have hfit:=layNew_fits t es (kd.hash k) x;have htb:=htab.layNew es (kd.hash k) x;generalize layNew t es (kd.hash k) x=L at hper hfit htb ⊢;obtain⟨es1,t1,wd,gv⟩:=L;dsimp only at hper hfit htb ⊢;rw[Array.toList_push] at hper;have hz:es1.size=n+1:=by rw[<-bg,hper.length_eq,aG,bg,hn];rfl
  have hap1:za kd es1.toList:=by
   refine za.perm (List.pairwise_append.mpr ⟨hap,List.pairwise_singleton _ _,λe he e' he' k' hk'=>?_⟩) hper;rw[aw] at he';subst he';cases hq:kd.is k' x with
   |false=>rfl
   |true=>cases kd.inj x k' k hq hkey;rw[hall e he] at hk';cases hk'
  have hL:∀t2:bp,t2.fits es1.size=true->wj led t2->(np=true->t2.plain=false)->Hw kd (λk'=>S k' || decide (k'=k)) (n+1) led np es1 t2:=
   λt2 f2 tb2 o2=>⟨(hel.push hkey hsc).perm hper,mem_push_iff hkey hmem hper,by rw[hz];exact hroom,f2,hz,tb2,o2,hap1⟩
  have hend:∀h',Heap.SameBut a s.heap h'->SetTb kd h' a (λk'=>S k' || decide (k'=k)) (n+1) led np->Q true {s with heap:=h'}:=by
   intro h' sb T;have q:=hQ h' sb;rw[hk] at q;exact q T
  have gw:∀(c:Bool) {s₁:aq} {Q₁:Unit->aq->Prop},Q₁ () s₁->
    aO (model prog w) A (match c with|true=>rule "set.scan.the-table-gave-way"|false=>pure ()) Q₁ E s₁:=λc s₁ Q₁ hq=>by
   cases c<;>first|exact aC hq|exact mr hq
  refine ag (gw _ ?_);split
  ·refine ag ?_;rw[hashByValue_scannable 8 hsc];refine aC ?_;refine Fo (n:=n+1) (led:=led) (np:=np) ?_ ho hex hd (hL _ ?_ ?_ ?_) ?_
   ·exact λb s₁ Q' hq=>gw b hq
   ·split
    ·exact hfit
    ·exact bp.fits_plain_off hfit
   ·split
    ·exact htb
    ·exact htb.off
   ·intro e;rw[hnp e];rfl
   ·intro h' sb T;dsimp only;exact aC (hend h' sb T)
  ·rename_i hpl;refine ag (aC ?_);simp only[↓reduceIte];refine Fo (n:=n+1) (led:=led) (np:=np) ?_ ho hex hd (hL _ hfit htb (λ_=>by simpa using hpl)) ?_
   ·exact λb s₁ Q' hq=>gw b hq
   ·intro h' sb T;dsimp only;exact aC (hend h' sb T)
end
def byText(w:bK):Bool:=w.params.followText "set-order"
section
variable{prog:aW}{w:bK}{A:bj}{E:ZF}{s:aq}
end
section
variable{prog:aW}{w:bK}{A:bj}{E:ZF}{s:aq}{I a:ar}{i n ep:Nat}{es:Array (Int×aa)}{t:bp}
end
end BgSet
end
section
namespace BgSet
open PySem PyProof.Rows
section
variable{prog:aW}{w:bK}{A:bj}{R:Result->aq->Prop}{I:ar}{fp wr:List ar}{G:Array rB->Array rB->Prop}{n:Nat}{P:Nat->aa->Prop}{St:Nat->aq->Prop}
variable{K:Type}[DecidableEq K]{kd:KeyKind prog w K}
def met(val:Nat->K)(i:Nat)(k:K):Bool:=decide (k∈(cK i).map val)
def N1(val:Nat->K)(i:Nat)(k:K):(met val i k || decide (k=val i))=met val (i+1) k:=by
 unfold met;rw[Bool.eq_iff_iff,Bool.or_eq_true,decide_eq_true_eq,decide_eq_true_eq,decide_eq_true_eq,lA,aN,aT];simp
def GE(W:WalksS prog w A.in1 I fp wr G n P St)(S:ar)(hSf:S∉fp)(val:Nat->K)(led np:Bool)
  (hval:∀i v,P i v->kd.is (val i) v=true/\v.scannable=true/\(np=true->mf v=false)) (hb:n+1<scanBound) :
  ∀(k i m:Nat) (s:aq),n-i=k->i<=n->m<=i->St i s->SetTb kd s.heap S (met val i) m led np->
   (∀s' m',Moved (S::wr) G s s'->m'<=n->SetTb kd s'.heap S (met val n) m' led np->R (.ok (.ret .none)) s')->
   ig (model prog w) A (.builtin "set.update.loop" ⟨[.ref S,.ref I],[]⟩) R s:=by
 have hSw:S∉wr:=λh=>hSf (W.sub _ h);have more:∀b∈wr,b∈S::wr:=λb hb=>bq _ hb;intro k
 induction k with
 |zero=>
  intro i m s hk hi hm st T hR;cases(by lia:i=n);refine fF PyProof.Rows.F.entry_set_update_loop ?_;rw[bj.under_plainId PyProof.Rows.F.plain_set_update_loop _];show aO _ A.in1 (nI (.ref I) >>= _) _ _ s;refine ag (W.done s _ _ st λs' mv=>?_);show aO _ A.in1 (ret aa.none) _ _ s';exact aC (hR s' m (mv.mono more) hm (T.keep λo e=>mv.heap S _ hSw e))
 |succ k ih=>
  intro i m s hk hi hm st T hR;have lt:i<n:=by lia
  refine fF PyProof.Rows.F.entry_set_update_loop ?_;rw[bj.under_plainId PyProof.Rows.F.plain_set_update_loop _];show aO _ A.in1 (nI (.ref I) >>= _) _ _ s;refine ag (W.item i s _ _ lt st λv s' hP st' mv=>?_);obtain⟨h1,h2,h3⟩:=hval i v hP;have T':=T.keep (h':=s'.heap) λo e=>mv.heap S _ hSw e;show aO _ A.in1 (holding [v] (setAdd S v) >>= _) _ _ s';refine ag (cw ?_);unfold setAdd;refine cw ?_;refine ag (kd.pyHash (k:=val i) h1 ?_);refine RG (s:={s' with toks:=s'.toks+1}) h1 h2 h3 T' (by lia) λh' sb T2=>?_;have hm2:(if met val i (val i)=true then m else m+1)<=i+1:=by split<;>lia
  refine aC ⟨iU PyProof.Rows.F.plain_set_update_loop _,ih (i+1) _ _ (by lia) lt hm2 (W.frame _ s' _ _ st' (kS _) λb hb o e=>?_)
   (T2.congr (λk'=>N1 val i k') rfl) λs'' m' mv2 hm' T3=>?_⟩
  ·rw[sb.2 b (λh:b=S=>hSf (by rw[<-h];exact hb))];exact e
  ·refine hR s'' m' (Moved.trans W.gtrans ((mv.mono more).then_heap (kS _) λb o hb e=>?_) mv2) hm' T3;rw[sb.2 b (λh:b=S=>hb (by rw[h];exact bZ))];exact e
end
section
variable{prog:aW}{w:bK}{A:bj}{E:ZF}{s:aq}{K:Type}[DecidableEq K]{kd:KeyKind prog w K}
def eP(w:bK):Obj:={cls:=.type "set",dict:=none,data:=.set #[] 0 (.fresh 0 0 (!byText w))}
def Kj(v:aa){Q:ZF}(h:Q (.ref s.heap.objs.size) {s with heap:=s.heap.push (eP w)}) :
  ig (model prog w) A (.call (.builtin "set.__new__") ⟨[.type "set",v],[]⟩) (wants Q E) s:=by
 refine lq ?_;show aO _ A.in1 (gH "set.__new__" ⟨[.type "set",v],[]⟩ >>= λ_=>again (.builtin "set.__new__" ⟨[.type "set",v],[]⟩)) _ _ s;refine ag (kR (PySem.F.newCall_set_1 v) (aC ⟨iU PySem.F.plain_set_new _,fF PySem.F.entry_set_new ?_⟩));rw[bj.under_plainId PySem.F.plain_set_new _];unfold Builtin.«set.__new__» Builtin.Frozenset.newClass;have hsub:=sub_set_self;obtain⟨hp,g,d,tk,os⟩:=s;dsimp only
 wp_walk
 refine wpAny_askSetting (aC ?_);dsimp only;simp only[newObj];refine ag (wpAny_alloc (aC ?_));exact aC h
end
section
variable{prog:aW}{w:bK}{A:bj}{E:ZF}{s:aq}{K:Type}[DecidableEq K][Inhabited K]{kd:KeyKind prog w K}
def set_of_list{l:ar}{its:Array aa}(ks:List K)(np:Bool){Q:ZF}(hh:A.handled=none)(hl:s.heap.IsList l its)(hk:ks.length=its.size)
  (hv:∀(i:Nat) k v,ks[i]?=some k->its[i]?=some v->kd.is k v=true/\v.scannable=true/\(np=true->mf v=false)) (hb:its.size+1<scanBound)
  (hQ:∀(h':Heap) (tk m:Nat),m<=its.size->SetTb kd h' s.heap.objs.size (λk=>decide (k∈ks)) m (!byText w) np->
   (∀b o,b<s.heap.objs.size->s.heap.get? b=some o->h'.get? b=some o)->Q (.ref s.heap.objs.size) {s with heap:=h',toks:=tk}) :
  aO (model prog w) A (call (.type "set") [.ref l]) Q E s:=by
 obtain⟨c,tl,mro⟩:=PySem.F.called_set.mro;have made:=PySem.F.called_set.made;have sub0:=PySem.F.called_set.sub;refine iw (lq ?_);show aO _ _ (callAny (.type "set") _) _ _ _;refine aC ⟨Code.quiet_builtin _ (by decide +kernel),fF PySem.F.entry_type_call ?_⟩;rw[bj.under_plain (weight_type_call_type "set" [.ref l] []) rfl];have f1:=PySem.F.called_set.notType;have f2:=PySem.F.called_set.canCreate;have f3:=PySem.F.typeCall_set_1 (.ref l)
 repeat (any_goals (first|assumption|wp_step))
 refine gj (Kj (.ref l) (E:=E) (Q:=λv s1=>v=.ref s.heap.objs.size/\s1={s with heap:=s.heap.push (eP w)}) ⟨rfl,rfl⟩) λr s1 hr=>?_;cases r with
 |error e=>exact hr
 |ok fl=>
  cases fl with
  |ret v=>
   obtain⟨rfl,rfl⟩:=hr;have gS:(s.heap.push (eP w)).get? s.heap.objs.size=some (eP w):=aZ _ rfl;have tS:aq.TypeIs {s with heap:=s.heap.push (eP w)} (.ref s.heap.objs.size) "set":=⟨_,gS,rfl⟩;have li:=PySem.F.called_set.init.lookup;have bi:=PySem.F.called_set.init.bind (.ref s.heap.objs.size)
   repeat (any_goals (first|assumption|wp_step))
   refine gj (gi (R:=wants (λr s2=>r=.none/\∃h' tk m,s2={s with heap:=h',toks:=tk}/\m<=its.size/\
     SetTb kd h' s.heap.objs.size (λk=>decide (k∈ks)) m (!byText w) np/\(∀b o,b<s.heap.objs.size->s.heap.get? b=some o->h'.get? b=some o)) E)
     PySem.F.called_set.init.plain PySem.F.entry_set_init (check_set_init_1 tS ?_)) λr2 s2 hr2=>?_
   ·obtain⟨ol,gl,hcl,nl,hdl⟩:=hl;obtain⟨ocls,odict,odata,oslots⟩:=ol;simp only at hcl hdl;subst hcl;subst hdl;have gl2:(s.heap.push (eP w)).get? l=some {cls:=.type "list",dict:=odict,data:=.seq its nl,slots:=oslots}:=az _ gl;have u1:=PySem.F.sub_list_set;have u2:=PySem.F.sub_list_frozenset;have u3:(aa.type "list"==aa.type "dict")=false:=by decide
    have hl1:(s.heap.push (eP w)).IsList l its:=⟨_,gl2,rfl,nl,rfl⟩;unfold Builtin.«set.__init__» noKeywords Builtin.Frozenset.updateFrom;generalize hPI:pyIter=PI
    wp_walk
    subst hPI;refine jH hl1 ?_;refine ag (wpAny_runValue ?_);have lt:l<s.heap.objs.size:=aP gl;have hh3:A.in1.in1.in1.handled=none:=by simp[hh]
    have ne:l≠(s.heap.push (eP w)).objs.size:=by
     rw[d7];exact bu (gp lt)
    have nf:s.heap.objs.size∉[(s.heap.push (eP w)).objs.size,l]:=by
     rw[d7];simp only[aE,bH,or_false,not_or];exact⟨bu (ko _),jN lt⟩
    have hval:∀(i:Nat) (v:aa),its[i]?=some v->kd.is (ks.getD i default) v=true/\v.scannable=true/\(np=true->mf v=false):=λi v hi=>by
     have hlt:i<ks.length:=by rw[hk];exact(bN.mp hi).1
     refine hv i _ v ?_ hi;rw[fU,af hlt];rfl
    refine GE ((Walks.list hh3 _ l ne its).toS) s.heap.objs.size nf (λi=>ks.getD i default) (!byText w) np hval hb (its.size-0) 0 0 _ (by lia) (cA _) (aD _)
     ⟨⟨_,aZ _ rfl,rfl,rfl⟩,(hl1.push _)⟩ (SetTb.congr (SetTb.fresh (x:=0) (y:=0) (az _ gS)) (λk=>rfl) rfl) λs' m mv hm T=>?_
    obtain⟨h',g',d',tk',os'⟩:=s';have eg:g'=s.gens:=mv.gens;have ed:d'=s.drawn:=mv.drawn;have eo:os'=s.os:=mv.os;subst eg;subst ed;subst eo;show aO _ _ _ _ _ _;refine aC ?_;show aO _ _ (ret aa.none) _ _ _;refine aC ⟨rfl,h',tk',m,rfl,hm,T.congr (λk=>?_) rfl,λb o hb e=>?_⟩
    ·unfold met;rw[Bool.eq_iff_iff,decide_eq_true_eq,decide_eq_true_eq];have:(cK its.size).map (λi=>ks.getD i default)=ks:=by
      refine mW λi=>?_;rw[aQ];rcases pM i its.size with h|h
      ·rw[iR h,af (by rw[hk];exact h)];simp[fU,hk,h]
      ·rw[dF (by simpa using h),dF (by rw[hk];exact h)];rfl
     rw[this]
    ·have n1:b≠s.heap.objs.size:=bu hb;have n2:b≠(s.heap.push (eP w)).objs.size:=by
      rw[d7];exact bu (gp hb)
     refine mv.heap b o ?_ (az _ (az _ e));simp only[aE,bH,or_false,not_or];exact⟨n1,n2⟩
   ·cases r2 with
    |error e=>exact hr2
    |ok fl2=>
     cases fl2 with
     |ret r=>
      obtain⟨rfl,h',tk,m,rfl,hm,T,kp⟩:=hr2
      repeat (any_goals (first|assumption|wp_step))
      exact hQ _ _ m hm T kp
     |_=>exact hr2.elim
  |_=>exact hr.elim
def set_of_tuple{l:ar}{its:Array aa}(ks:List K)(np:Bool){Q:ZF}(hh:A.handled=none)(hl:s.heap.IsTuple l its)(hk:ks.length=its.size)
  (hv:∀(i:Nat) k v,ks[i]?=some k->its[i]?=some v->kd.is k v=true/\v.scannable=true/\(np=true->mf v=false)) (hb:its.size+1<scanBound)
  (hQ:∀(h':Heap) (tk m:Nat),m<=its.size->SetTb kd h' s.heap.objs.size (λk=>decide (k∈ks)) m (!byText w) np->
   (∀b o,b<s.heap.objs.size->s.heap.get? b=some o->h'.get? b=some o)->Q (.ref s.heap.objs.size) {s with heap:=h',toks:=tk}) :
  aO (model prog w) A (call (.type "set") [.ref l]) Q E s:=by
 obtain⟨c,tl,mro⟩:=PySem.F.called_set.mro;have made:=PySem.F.called_set.made;have sub0:=PySem.F.called_set.sub;refine iw (lq ?_);show aO _ _ (callAny (.type "set") _) _ _ _;refine aC ⟨Code.quiet_builtin _ (by decide +kernel),fF PySem.F.entry_type_call ?_⟩;rw[bj.under_plain (weight_type_call_type "set" [.ref l] []) rfl];have f1:=PySem.F.called_set.notType;have f2:=PySem.F.called_set.canCreate;have f3:=PySem.F.typeCall_set_1 (.ref l)
 repeat (any_goals (first|assumption|wp_step))
 refine gj (Kj (.ref l) (E:=E) (Q:=λv s1=>v=.ref s.heap.objs.size/\s1={s with heap:=s.heap.push (eP w)}) ⟨rfl,rfl⟩) λr s1 hr=>?_;cases r with
 |error e=>exact hr
 |ok fl=>
  cases fl with
  |ret v=>
   obtain⟨rfl,rfl⟩:=hr;have gS:(s.heap.push (eP w)).get? s.heap.objs.size=some (eP w):=aZ _ rfl;have tS:aq.TypeIs {s with heap:=s.heap.push (eP w)} (.ref s.heap.objs.size) "set":=⟨_,gS,rfl⟩;have li:=PySem.F.called_set.init.lookup;have bi:=PySem.F.called_set.init.bind (.ref s.heap.objs.size)
   repeat (any_goals (first|assumption|wp_step))
   refine gj (gi (R:=wants (λr s2=>r=.none/\∃h' tk m,s2={s with heap:=h',toks:=tk}/\m<=its.size/\
     SetTb kd h' s.heap.objs.size (λk=>decide (k∈ks)) m (!byText w) np/\(∀b o,b<s.heap.objs.size->s.heap.get? b=some o->h'.get? b=some o)) E)
     PySem.F.called_set.init.plain PySem.F.entry_set_init (check_set_init_1 tS ?_)) λr2 s2 hr2=>?_
   ·obtain⟨ol,gl,hcl,nl,hdl⟩:=hl;obtain⟨ocls,odict,odata,oslots⟩:=ol;simp only at hcl hdl;subst hcl;subst hdl;have gl2:(s.heap.push (eP w)).get? l=some {cls:=.type "tuple",dict:=odict,data:=.seq its nl,slots:=oslots}:=az _ gl;have u1:=PySem.F.sub_tuple_set;have u2:=PySem.F.sub_tuple_frozenset;have u3:(aa.type "tuple"==aa.type "dict")=false:=by decide
    have hl1:(s.heap.push (eP w)).IsTuple l its:=⟨_,gl2,rfl,nl,rfl⟩;unfold Builtin.«set.__init__» noKeywords Builtin.Frozenset.updateFrom;generalize hPI:pyIter=PI
    wp_walk
    subst hPI;refine gU hl1 ?_;refine ag (wpAny_runValue ?_);have lt:l<s.heap.objs.size:=aP gl;have hh3:A.in1.in1.in1.handled=none:=by simp[hh]
    have ne:l≠(s.heap.push (eP w)).objs.size:=by
     rw[d7];exact bu (gp lt)
    have nf:s.heap.objs.size∉[(s.heap.push (eP w)).objs.size,l]:=by
     rw[d7];simp only[aE,bH,or_false,not_or];exact⟨bu (ko _),jN lt⟩
    have hval:∀(i:Nat) (v:aa),its[i]?=some v->kd.is (ks.getD i default) v=true/\v.scannable=true/\(np=true->mf v=false):=λi v hi=>by
     have hlt:i<ks.length:=by rw[hk];exact(bN.mp hi).1
     refine hv i _ v ?_ hi;rw[fU,af hlt];rfl
    refine GE ((Walks.tuple hh3 _ l ne its).toS) s.heap.objs.size nf (λi=>ks.getD i default) (!byText w) np hval hb (its.size-0) 0 0 _ (by lia) (cA _) (aD _)
     ⟨⟨_,aZ _ rfl,rfl,rfl⟩,(hl1.push _)⟩ (SetTb.congr (SetTb.fresh (x:=0) (y:=0) (az _ gS)) (λk=>rfl) rfl) λs' m mv hm T=>?_
    obtain⟨h',g',d',tk',os'⟩:=s';have eg:g'=s.gens:=mv.gens;have ed:d'=s.drawn:=mv.drawn;have eo:os'=s.os:=mv.os;subst eg;subst ed;subst eo;show aO _ _ _ _ _ _;refine aC ?_;show aO _ _ (ret aa.none) _ _ _;refine aC ⟨rfl,h',tk',m,rfl,hm,T.congr (λk=>?_) rfl,λb o hb e=>?_⟩
    ·unfold met;rw[Bool.eq_iff_iff,decide_eq_true_eq,decide_eq_true_eq];have:(cK its.size).map (λi=>ks.getD i default)=ks:=by
      refine mW λi=>?_;rw[aQ];rcases pM i its.size with h|h
      ·rw[iR h,af (by rw[hk];exact h)];simp[fU,hk,h]
      ·rw[dF (by simpa using h),dF (by rw[hk];exact h)];rfl
     rw[this]
    ·have n1:b≠s.heap.objs.size:=bu hb;have n2:b≠(s.heap.push (eP w)).objs.size:=by
      rw[d7];exact bu (gp hb)
     refine mv.heap b o ?_ (az _ (az _ e));simp only[aE,bH,or_false,not_or];exact⟨n1,n2⟩
   ·cases r2 with
    |error e=>exact hr2
    |ok fl2=>
     cases fl2 with
     |ret r=>
      obtain⟨rfl,h',tk,m,rfl,hm,T,kp⟩:=hr2
      repeat (any_goals (first|assumption|wp_step))
      exact hQ _ _ m hm T kp
     |_=>exact hr2.elim
  |_=>exact hr.elim
end
section
variable{prog:aW}{w:bK}{A:bj}{E:ZF}{s:aq}{a:ar}{es:Array (Int×aa)}{ep:Nat}{t:bp}
end
end BgSet
end
section
namespace PySem.W
open PySem PySem.Calls PyProof.Rows PyProof.V PySem.Spec
section
variable{prog:aW}{w:bK}{A:bj}{E:ZF}{s:aq}{r l:ar}
end
end PySem.W
namespace L2
open PySem PySem.Spec PyProof.Rows
section
variable{X:Cx}
end
end L2
end
section
namespace HT
open PySem PyProof.Rows
section
variable{prog:aW}{w:bK}{A:bj}{E:ZF}{s:aq}
def getItem_tuple_all{t sl:ar}{items:Array aa}{vl vu:aa}{lo hi:Option Int}{Q:ZF}(ht:IsTup s.heap t items)(hs:s.heap.IsSliceOf sl vl vu .none)(pl:pH vl lo)(pu:pH vu hi)
  (hw:sIx items.size 0 lo=0/\sIx items.size items.size hi=items.size) (h:Q (.ref t) s):aO (model prog w) A (lT (.ref t) (.ref sl)) Q E s:=by
 obtain⟨os,hos,hcs,hds⟩:=id hs;have hTs:s.TypeIs (.ref sl) "slice":=⟨os,hos,hcs⟩;unfold lT
 try with_reducible refine cw ?_
 first|refine ag (aC ?_)|skip
 refine ag (wpAny_sequenceKey ht.typeIs (by decide) ?_);refine ag (eD (name:=Str.ofString "__getitem__") ht.typeIs eW
  (fQ eW ht.typeIs entry_tuple_getitem ?_ (args_tuple_getitem _ _)))
 show aO _ _ (Builtin.Tuple.tupleItemsOf (.ref t) >>= _) _ _ s;refine ag (tupleItemsOf_ ht ?_);refine ag (pL hTs ?_);rw[if_pos (by decide)];refine ag (pe hs pl pu ?_);have hyes:(((sIx items.size 0 lo:Nat):Int)==0&&(1:Int)==1&&(sIx items.size items.size hi-sIx items.size 0 lo)==items.size)=true:=by
  rw[hw.1,hw.2];simp
 show aO _ _ (if(((sIx items.size 0 lo:Nat):Int)==0&&(1:Int)==1&&(sIx items.size items.size hi-sIx items.size 0 lo)==items.size)=true then _ else _) _ _ s;rw[if_pos hyes];refine ag (m:=Builtin.Tuple.tupleIsExact (.ref t)) ?_;unfold Builtin.Tuple.tupleIsExact;refine ag (pL ht.typeIs (aC ?_));rw[if_pos (by decide)];exact ag (mr (aC ⟨_,rfl,aC h⟩))
end
end HT
namespace L2
open PySem PySem.Spec PyProof.Rows
section
variable{X:Cx}
def Sr(K:Fg):V->Option Int->Option Int->Hp->VK->Prop:=λx lo hi H Q=>∃a xs,x=.ref a/\eO K H a xs/\(HT.sIx xs.length 0 lo=0/\HT.sIx xs.length xs.length hi=xs.length)/\Q (.ref a) H
def RL:KS X (Sr X.K):=by
 intro pins s σ H x v vl vu lo hi sl Q I rx hs pl pu h;obtain⟨a,xs,rfl,hx,hw,q⟩:=h;cases rx;obtain⟨its,r,ht,hz⟩:=I.tuple hx;have hlen:its.toArray.size=xs.length:=by rw[aA];exact r.length.symm
 refine⟨"tuple",_,eW.lookup,ht.typeIs,?_⟩;exact HT.getItem_tuple_all ht hs pl pu (by rw[hlen];exact hw) ⟨.ref a,H,I,rfl,q⟩
def VQ(K:Fg):V->Option Int->Option Int->Hp->VK->Prop:=λx lo hi H Q=>Sr K x lo hi H Q\/vR K x lo hi H Q
def RK:KS X (VQ X.K):=RL.or fW
end
end L2
end
section
namespace PySem
open Sem (wp)
namespace F
end F
def WA(tp:Bool)(h:Heap)(i l:ar)(k:Nat):Prop:=match tp with
 |true=>h.IsTupleIter i l k
 |false=>h.IsListIter i l k
def U4(tp:Bool)(h:Heap)(l:ar)(xs:Array aa):Prop:=match tp with
 |true=>h.IsTuple l xs
 |false=>h.IsList l xs
section
variable{prog:aW}{w:bK}{A:bj}{E:ZF}{s:aq}
end
section
variable{prog:aW}{w:bK}{A:bj}{E:ZF}{s:aq}{t1 t2:Bool}
end
section
variable{prog:aW}{w:bK}{A:bj}{E:ZF}{s:aq}{t1 t2:Bool}
end
section
variable{prog:aW}{w:bK}{A:bj}{R:Result->aq->Prop}{t1 t2:Bool}{K:Type}[DecidableEq K]{knd:KeyKind prog w K}
end
section
variable{prog:aW}{w:bK}{A:bj}{E:ZF}{s:aq}{t1 t2:Bool}{K:Type}[DecidableEq K]{knd:KeyKind prog w K}
end
end PySem
namespace L2
open PySem PySem.Spec PyProof.Rows
section
variable{X:Cx}
end
def cg(K:Fg)(x:Str):ar:=match bB K aX x with
 |some (some (.ref C))=>C
 |_=>0
def vf{K:Fg}{x:Str}{C:ar}(h:bB K aX x=some (some (.ref C))):cg K x=C:=by unfold cg;rw[h]
def R9(s:Stmt)(i:Nat):Stmt:=match s with
 |.ClassDef _ _ _ b _ _ _ _ _ _ _=>b.getD i (.Pass ⟨0,0,0,0⟩)
 |_=>.Pass ⟨0,0,0,0⟩
section
variable{X:Cx}{C:ar}{m x:Str}{ps:List Str}{k:Nat}{sp:Sp}{e o:Expr}{es:List Expr}{ta:TE}{t:TA}{p pos apos:Pos}
def Rl{d i:Expr}{td ty:TE}(hu:X.A.units+1<cLine)(ho:QE X d td)(hi:QE X i ty)(hs:SG i):QE X (.Subscript d i pos) (OX td ty):=⟨QP hu ho.up hi.up hs⟩
end
section
variable{X:Cx}
def FH{es:List Bool}{us vs:List aa}(h1:us.length=es.length)(h2:vs.length=es.length):((cK (min us.toArray.size vs.toArray.size)).all (λj=>(es[j]?).getD false)&&us.toArray.size==vs.toArray.size)=es.all id:=by
 rw[aA,aA,h1,h2,Nat.min_self,HU];simp
end
inductive Bp(K:Fg)(H:Hp):Nat->V->V->Bool->Prop where
 |flat {d:Nat} {x y:V} (hx:kh x=true) (hy:kh y=true):Bp K H d x y (Ho x y)
 |same {d:Nat} {a:ar}:Bp K H d (.ref a) (.ref a) true
 |lists {d:Nat} {a b:ar} {us vs:List V} {es:List Bool} (n:a≠b) (ha:cB K H a us) (hb:cB K H b vs) (l1:us.length=vs.length) (l2:es.length=us.length) (h:∀(j:Nat) x y e,us[j]?=some x->vs[j]?=some y->es[j]?=some e->Bp K H d x y e):Bp K H (d+1) (.ref a) (.ref b) (es.all id)
 |listsL {d:Nat} {a b:ar} {us vs:List V} (n:a≠b) (ha:cB K H a us) (hb:cB K H b vs) (l1:us.length≠vs.length):Bp K H (d+1) (.ref a) (.ref b) false
 |tups {d:Nat} {a b:ar} {us vs:List V} {es:List Bool} (n:a≠b) (ha:eO K H a us) (hb:eO K H b vs) (l1:us.length=vs.length) (l2:es.length=us.length) (h:∀(j:Nat) x y e,us[j]?=some x->vs[j]?=some y->es[j]?=some e->Bp K H d x y e):Bp K H (d+1) (.ref a) (.ref b) (es.all id)
section
variable{X:Cx}
def Qj{A:bj}{s:aq}{kb:List (g8×V)}{vb:List (g8×aa)}(rb:KV kb vb){ka:List (g8×V)}{va:List (g8×aa)}(ra:KV ka va):∀(f:Nat->V),(∀(j:Nat) k v,ka[j]?=some (k,v)->iN kb k=some (f j))->(∀(j:Nat) k v u w,ka[j]?=some (k,v)->dA v u->dA (f j) w->SeqAt.EqAt A s u w true)->PySem.W.KeqHits A s vb va true:=by
 induction ra with
 |nil=>intro f _ _;exact .nil
 |@cons p q ps qs r _ ih=>
  intro f h1 h2;obtain⟨k,v⟩:=p;obtain⟨k',u⟩:=q;obtain⟨e,rv⟩:=r;have e':k=k':=e;subst e';have hv:=h1 0 k v rfl;have rel:=rb.val k;rw[hv] at rel;obtain⟨w,hw,rw'⟩:=rP.some_of rel;have hh:=ih (λj=>f (j+1)) (λj k v e=>h1 (j+1) k v e) λj k v u w e=>h2 (j+1) k v u w e;exact .hit hw (h2 0 k v u w rfl rv rw') hh
def yO{A:bj}{s:aq}{xs ys:List V}{us vs:List aa}{es:List Bool}(r1:c8 xs us)(r2:c8 ys vs)(hl:xs.length=ys.length)(he:es.length=xs.length)
  (h:∀(j:Nat) a b e u v,xs[j]?=some a->ys[j]?=some b->es[j]?=some e->dA a u->dA b v->SeqAt.EqAt A s u v e) :
  ∀j (h1:j<us.toArray.size) (h2:j<vs.toArray.size),SeqAt.EqAt A s us.toArray[j] vs.toArray[j] ((es[j]?).getD false):=by
 intro j h1 h2;have l1:=r1.length;have l2:=r2.length;rw[aA] at h1 h2;have j1:j<xs.length:=by lia
 have j2:j<ys.length:=by lia
 have j3:j<es.length:=by lia
 obtain⟨u,hu',ru⟩:=r1.get (af j1);obtain⟨v,hv,rv⟩:=r2.get (af j2);have eu:us.toArray[j]=u:=by
  have:=af h1;rw[hu'] at this;simpa using(Option.some.inj this).symm
 have ev:vs.toArray[j]=v:=by
  have:=af h2;rw[hv] at this;simpa using(Option.some.inj this).symm
 rw[eu,ev,af j3,gM];exact h j _ _ _ _ _ (af j1) (af j2) (af j3) ru rv
def FM{es:List Bool}{us:List aa}(h1:us.length=es.length):(cK us.toArray.size).all (λj=>(es[j]?).getD false)=es.all id:=by
 rw[aA,h1,HU]
def Ih{pins:List (ar×Obj)}{σ:St}{H:Hp}{s:aq}(I:bY X pins σ H s){d:Nat}{x y:V}{b:Bool}(h:Bp X.K H d x y b):∀{A:bj} {u v:aa},A.units+d<cLine->dA x u->dA y v->SeqAt.EqAt A s u v b:=by
 induction h with
 |flat hx hy=>exact λ_ rx ry=>Ig rx ry hx hy
 |same=>
  intro A u v _ rx ry;cases rx;cases ry;exact SeqAt.EqAt.same _
 |@lists d a b us vs es n ha hb hl he h ih=>
  intro A u v hu rx ry;cases rx;cases ry;obtain⟨us',r1,t1,_⟩:=I.list ha;obtain⟨vs',r2,t2,_⟩:=I.list hb;have l1:=r1.length;have l2:=r2.length;have:=SeqAt.EqAt.of_refs n (SeqAt.RcAt.lists (A:=A) t1.isList t2.isList (by rw[aA,aA];lia) (by lia) (yO (A:=A.in1) r1 r2 hl he λj a b e u v e1 e2 e3 ru rv=>ih j a b e e1 e2 e3 (by show A.units+1+d<cLine;lia) ru rv));rw[FM (by lia)] at this;exact this
 |@listsL d a b us vs n ha hb hl=>
  intro A u v hu rx ry;cases rx;cases ry;obtain⟨us',r1,t1,_⟩:=I.list ha;obtain⟨vs',r2,t2,_⟩:=I.list hb;have l1:=r1.length;have l2:=r2.length;exact SeqAt.EqAt.of_refs n (SeqAt.RcAt.lists_lengths (A:=A) t1.isList t2.isList (by rw[aA,aA];simp;lia) (by lia))
 |@tups d a b us vs es n ha hb hl he h ih=>
  intro A u v hu rx ry;cases rx;cases ry;obtain⟨us',r1,t1,_⟩:=I.tuple ha;obtain⟨vs',r2,t2,_⟩:=I.tuple hb;have l1:=r1.length;have l2:=r2.length;have:=SeqAt.EqAt.of_refs n (SeqAt.RcAt.tuples (A:=A) (show s.heap.IsTuple a us'.toArray from t1) (show s.heap.IsTuple b vs'.toArray from t2) (by lia) (yO (A:=A.in1) r1 r2 hl he λj a b e u v e1 e2 e3 ru rv=>ih j a b e e1 e2 e3 (by show A.units+1+d<cLine;lia) ru rv));rw[FH (by lia) (by lia)] at this;exact this
def Uy(K:Fg)(neg:Bool):R2:=λx y H Q=>∃(p q:ar) (xs ys:List V),x=.ref p/\y=.ref q/\((cB K H p xs/\cB K H q ys)\/(eO K H p xs/\eO K H q ys/\xs.length=ys.length))/\
 ((xs.length≠ys.length/\Q (.bl neg) H)\/∃es:List Bool,xs.length=ys.length/\es.length=xs.length/\(∀(j:Nat) a b e,xs[j]?=some a->ys[j]?=some b->es[j]?=some e->Bp K H 4 a b e)/\Q (.bl (if neg then !es.all id else es.all id)) H)
def Tx(hu:X.A.units+5<cLine):jE X (bP .Eq) (Uy X.K false):=by
 intro pins s σ H x y v u Q I rx ry h;obtain⟨p,q,xs,ys,rfl,rfl,hk,hc⟩:=h;cases rx;cases ry;have hu':X.A.units<cLine:=by lia
 rcases hk with⟨h1,h2⟩|⟨h1,h2,hl0⟩
 ·obtain⟨us,r1,t1,_⟩:=I.list h1;obtain⟨vs,r2,t2,_⟩:=I.list h2;have l1:=r1.length;have l2:=r2.length;rcases hc with⟨hl,qq⟩|⟨es,hl,he,hE,qq⟩
  ·exact SeqAt.eq_list_lengthsAt t1.isList t2.isList (by rw[aA,aA];simp;lia) hu' ⟨.bl false,H,I,rfl,qq⟩
  ·refine SeqAt.eq_listAt t1.isList t2.isList (by rw[aA,aA];lia) hu' (yO (A:=X.A.in1) r1 r2 hl he λj a b e u v e1 e2 e3 ru rv=>Ih I (hE j a b e e1 e2 e3) (by show X.A.units+1+4<cLine;lia) ru rv) ⟨.bl (es.all id),H,I,?_,qq⟩;show aa.bool _=aa.bool _;rw[FM (by lia)]
 ·obtain⟨us,r1,t1,_⟩:=I.tuple h1;obtain⟨vs,r2,t2,_⟩:=I.tuple h2;have l1:=r1.length;have l2:=r2.length;rcases hc with⟨hl,_⟩|⟨es,hl,he,hE,qq⟩
  ·exact absurd hl0 hl
  ·refine SeqAt.eq_tupleAt (show s.heap.IsTuple p us.toArray from t1) (show s.heap.IsTuple q vs.toArray from t2) hu' (yO (A:=X.A.in1) r1 r2 hl he λj a b e u v e1 e2 e3 ru rv=>Ih I (hE j a b e e1 e2 e3) (by show X.A.units+1+4<cLine;lia) ru rv) ⟨.bl (es.all id),H,I,?_,qq⟩;show aa.bool _=aa.bool _;rw[FH (by lia) (by lia)]
def Sl(K:Fg)(neg:Bool):R2:=λx y H Q=>∃(a b:ar) (ka kb:List (g8×V)) (f:Nat->V),x=.ref a/\y=.ref b/\H a=some (.dK ka)/\H b=some (.dK kb)/\ka.length=kb.length/\(∀(j:Nat) k v,ka[j]?=some (k,v)->iN kb k=some (f j))/\(∀(j:Nat) k v,ka[j]?=some (k,v)->Bp K H 4 v (f j) true)/\Q (.bl (!neg)) H
def QD(hu:X.A.units+5<cLine):jE X (bP .Eq) (Sl X.K false):=by
 intro pins s σ H x y v u Q I rx ry h;obtain⟨a,b,ka,kb,f,rfl,rfl,ha,hb,hl,hf,hE,qq⟩:=h;cases rx;cases ry;obtain⟨_,la,va,ra,da⟩:=FK I.hok ha;obtain⟨_,lb,vb,rb,db⟩:=FK I.hok hb;refine PySem.W.keq_eq (r:=true) la lb da db (by lia) (λ_=>Qj rb ra f hf λj k v u w e ru rw'=>Ih I (hE j k v e) (by show X.A.units+1+4<cLine;lia) ru rw') ⟨.bl true,H,I,?_,qq⟩;show aa.bool _=aa.bool _;rw[<-ra.length,<-rb.length,hl];simp
def VB(K:Fg):R2:=λx y H Q=>Uy K false x y H Q\/(Sl K false x y H Q\/eC K x y H Q)
def TC(hu:X.A.units+5<cLine):jE X (bP .Eq) (VB X.K):=(Tx hu).or ((QD hu).or (bX (by lia)))
end
section
variable{X:Cx}{pins:List (ar×Obj)}{σ:St}{H:Hp}{s:aq}{d:ar}{kvs:List (g8×V)}{u u':HO}
def Qs{P:aW}{w:bK}{k:g8}{u:aa}(h:(fL P w).is k u=true):dA (kV k) u:=by
 cases k with
 |inl i=>
  obtain⟨t,rfl⟩:=aa.isInt_shape (k:=i) (v:=u) h;exact⟨t,rfl⟩
 |inr x=>
  obtain⟨t,rfl⟩:=aa.isStrOf_shape (x:=x) (v:=u) h;exact⟨t,rfl⟩
end
section
variable{X:Cx}{tg:Expr}
end
end L2
end
section
namespace PySem
open Sem (wp)
section
variable{prog:aW}{w:bK}{A:bj}{R:Result->aq->Prop}{K:Type}[DecidableEq K]{knd:KeyKind prog w K}
end
section
variable{prog:aW}{w:bK}{A:bj}{E:ZF}{s:aq}{K:Type}[DecidableEq K]{knd:KeyKind prog w K}
end
end PySem
end
section
namespace L2
open PySem PySem.Spec PyProof.Rows
section
variable{X:Cx}
def DF:∀{xs:List V} {us:List aa},us.length=xs.length->(∀(j:Nat) x u,xs[j]?=some x->us[j]?=some u->dA x u)->c8 xs us
 |[],[],_,_=>.nil
 |x::xs,u::us,hl,h=>.cons (h 0 x u rfl rfl) (DF (Nat.succ.inj hl) λj x u e1 e2=>h (j+1) x u e1 e2)
def OA:List V->Hp->VK->Prop:=λxs H Q=>∃(d:ar) (kvs:List (g8×V)),xs=[.ref d]/\Rd H d (.dK kvs)/\∀l,H l=none->Q (.ref l) (upd H l (.lst (kvs.map λkv=>kV kv.1)))
def HX(hc:X.calm=true):iY X (.type "list") OA:=by
 intro pins s σ H xs us Q I r h;obtain⟨d,kvs,rfl,hd,q⟩:=h;obtain⟨u,rfl,rx⟩:=mU r;cases rx;obtain⟨z,lo,vs,rel,dd⟩:=CP I.hok hd;obtain⟨ep,hat⟩:=dd.dictAt;have kl:=rel.length;refine PySem.W.kdl_call (PySem.W.kdl_dict (knd:=fL X.prog X.w) (kvs:=vs) (ep:=ep) lo) (I.ok.hd hc) hat (by rw[<-kl];exact z) λh' tk acc c hk hD hacc=>?_;have hl:acc.toList.length=vs.length:=by rw[bg];exact hacc.1
 have hv:c8 (kvs.map λkv=>kV kv.1) acc.toList:=DF (by rw[ae];lia) λj x v e1 e2=>by
  rw[aQ] at e1;cases ek:kvs[j]? with
  |none=>rw[ek] at e1;cases e1
  |some p=>
   rw[ek] at e1;have e1':kV p.1=x:=Option.some.inj e1;obtain⟨k,y,e3,his⟩:=hacc.2 j v (by rw[<-dD];exact e2);have:k=p.1:=by
    have a1:(vs.map (·.1))[j]?=some k:=by rw[aQ,e3];rfl
    rw[<-rel.keys,aQ,ek] at a1;exact(Option.some.inj a1).symm
   subst this;rw[<-e1'];exact Qs his
 have hn:H s.heap.objs.size=none:=I.hok.fresh (aD _);refine⟨.ref s.heap.objs.size,_,I.laid (t':=tk) (o:=.lst (kvs.map λkv=>kV kv.1)) hk (aD _) ⟨by rw[ae];exact z,acc.toList,c,hv,?_⟩,rfl,q _ hn⟩;rw[Array.toArray_toList];exact hD
end
section
variable{X:Cx}
end
section
variable{X:Cx}{tg:Expr}
end
section
variable{X:Cx}{tg l o e f:Expr}{tl td ty tx:TE}{apos cpos:Pos}
def SZ{A:bj}{k:Nat}(hr:gB k A):A.units+5<cLine:=jg (Nat.add_le_add_left (by decide:5<=64) _) hr.units
end
def Wr(K:Fg)(tp:Bool)(H:Hp)(a:ar)(xs:List V):Prop:=match tp with
 |true=>eO K H a xs
 |false=>cB K H a xs
def bY.seqB{X:Cx}{pins:List (ar×Obj)}{σ:St}{H:Hp}{s:aq}{tp:Bool}{a:ar}{xs:List V}(I:bY X pins σ H s)(h:Wr X.K tp H a xs):∃its:List aa,c8 xs its/\U4 tp s.heap a its.toArray:=by
 cases tp with
 |true=>obtain⟨its,r,p,_⟩:=I.tuple h;exact⟨its,r,p⟩
 |false=>obtain⟨its,r,p,_⟩:=I.list h;exact⟨its,r,p.isList⟩
section
variable{X:Cx}{elts:List Expr}{k:Nat}{tpos:Pos}
end
end L2
end
section
namespace PySem.SeqAt
open AutoSeq1 (wpAny_loadPart')
open MeetsSeq MeetsSeq2 MeetsSeq3 SeqRoads2
end PySem.SeqAt
namespace L2
open PySem PySem.Spec PyProof.Rows
section
variable{X:Cx}{o e:Expr}{es:List Expr}{to ta tb:TE}{t:TA}{apos cpos:Pos}
end
section
variable{X:Cx}{C:ar}{m x:Str}{ps:List Str}{k:Nat}{sp:Sp}{e:Expr}{es:List Expr}{t:TA}{p pos apos:Pos}
end
end L2
end
section
namespace Bg
open PySem L2
inductive bS where
 |num (x:Str) (z:Int)
 |op (x s a b:Str)
 |call (x:Str) (k:Nat) (as:List Str)
 |say (a:Str)
 |jump (to:Nat)
 |test (a:Str) (to:Nat)
 |give (a:Str)
structure eF where
 name:Str
 params:List Str
 rows:List bS
def yM:bS->Str
 |.num _ _=>"num"|.op _ _ _ _=>"op"|.call _ _ _=>"call"|.say _=>"say"|.jump _=>"jump"|.test _ _=>"test"|.give _=>"give"
def e6(H:Hp)(v:V):bS->Prop
 |.num x z=>∃p,v=.ref p/\H p=some (.tup [.str "num",.str x,.int z])
 |.op x s a b=>∃p,v=.ref p/\H p=some (.tup [.str "op",.str x,.str s,.str a,.str b])
 |.call x k as=>∃p q,v=.ref p/\H p=some (.tup [.str "call",.str x,.int (k:Nat),.ref q])/\H q=some (.tup (as.map V.str))
 |.say a=>∃p,v=.ref p/\H p=some (.tup [.str "say",.str a])
 |.jump to=>∃p,v=.ref p/\H p=some (.tup [.str "jump",.int (to:Nat)])
 |.test a to=>∃p,v=.ref p/\H p=some (.tup [.str "test",.str a,.int (to:Nat)])
 |.give a=>∃p,v=.ref p/\H p=some (.tup [.str "give",.str a])
def Tp(H H':Hp):Prop:=∀p xs,H p=some (.tup xs)->H' p=some (.tup xs)
def Tp.refl(H:Hp):Tp H H:=λ_ _ h=>h
def Tp.trans{H H1 H2:Hp}(x:Tp H H1)(y:Tp H1 H2):Tp H H2:=λp xs h=>y p xs (x p xs h)
def Tp.of_same{H H':Hp}(x:aL H H'):Tp H H':=λp xs h=>x p _ h
def Tp.of_but{a:ar}{ys:List V}{H H':Hp}(x:iq a H H')(ha:H a=some (.lst ys)):Tp H H':=λp xs h=>x p _ (by rintro rfl;rw[h] at ha;cases ha) h
def Tp.new{p:ar}{H H1:Hp}{o:HO}(x:Tp H H1)(hp:H1 p=none):Tp H (upd H1 p o):=λb xs h=>by
 rw[aK (aB (x b xs h) hp)];exact x b xs h
def Tp.lst{p:ar}{H H1:Hp}{ys:List V}{o:HO}(x:Tp H H1)(hp:H1 p=some (.lst ys)):Tp H (upd H1 p o):=λb xs h=>by
 have h1:=x b xs h;rw[aK (by rintro rfl;rw[h1] at hp;cases hp)];exact h1
def e6.mono{H H':Hp}{v:V}{r:bS}(h:e6 H v r)(t:Tp H H'):e6 H' v r:=by
 cases r with
 |num x z=>obtain⟨p,e,h⟩:=h;exact⟨p,e,t _ _ h⟩
 |op x s a b=>obtain⟨p,e,h⟩:=h;exact⟨p,e,t _ _ h⟩
 |call x k as=>obtain⟨p,q,e,h,h'⟩:=h;exact⟨p,q,e,t _ _ h,t _ _ h'⟩
 |say a=>obtain⟨p,e,h⟩:=h;exact⟨p,e,t _ _ h⟩
 |jump to=>obtain⟨p,e,h⟩:=h;exact⟨p,e,t _ _ h⟩
 |test a to=>obtain⟨p,e,h⟩:=h;exact⟨p,e,t _ _ h⟩
 |give a=>obtain⟨p,e,h⟩:=h;exact⟨p,e,t _ _ h⟩
def e6.ref{H:Hp}{v:V}{r:bS}(h:e6 H v r):∃p xs,v=.ref p/\H p=some (.tup (.str (yM r)::xs)):=by
 cases r with
 |num x z=>obtain⟨p,e,h⟩:=h;exact⟨p,_,e,h⟩
 |op x s a b=>obtain⟨p,e,h⟩:=h;exact⟨p,_,e,h⟩
 |call x k as=>obtain⟨p,q,e,h,h'⟩:=h;exact⟨p,_,e,h⟩
 |say a=>obtain⟨p,e,h⟩:=h;exact⟨p,_,e,h⟩
 |jump to=>obtain⟨p,e,h⟩:=h;exact⟨p,_,e,h⟩
 |test a to=>obtain⟨p,e,h⟩:=h;exact⟨p,_,e,h⟩
 |give a=>obtain⟨p,e,h⟩:=h;exact⟨p,_,e,h⟩
structure cR{α:Type}(R:V->α->Prop)(vs:List V)(rs:List α):Prop where
 len:vs.length=rs.length
 at_:∀(i:Nat) v r,vs[i]?=some v->rs[i]?=some r->R v r
def cR.nil{α:Type}{R:V->α->Prop}:cR R [] []:=⟨rfl,λi v r h=>by simp at h⟩
def cR.imp{α:Type}{R R':V->α->Prop}{vs:List V}{rs:List α}(h:cR R vs rs)(f:∀v r,R v r->R' v r):cR R' vs rs:=⟨h.len,λi v r a b=>f v r (h.at_ i v r a b)⟩
def cR.snoc{α:Type}{R:V->α->Prop}{vs:List V}{rs:List α}{v:V}{r:α}(h:cR R vs rs)(q:R v r):cR R (vs++[v]) (rs++[r]):=by
 refine⟨by simp[h.len],λi w t a b=>?_⟩;by_cases hi:i<vs.length
 ·rw[cE hi] at a;rw[cE (by rw[<-h.len];exact hi)] at b;exact h.at_ i w t a b
 ·rw[bT (by omega)] at a;rw[bT (by rw[<-h.len];omega)] at b;have e:i-vs.length=0:=by
   have:=(ak.mp a).1;simp at this;omega
  rw[e] at a;rw[<-h.len,e] at b;simp at a b;rw[<-a,<-b];exact q
def cR.set{α:Type}{R:V->α->Prop}{vs:List V}{rs:List α}{j:Nat}{v:V}{r:α}(h:cR R vs rs)(q:R v r):cR R (vs.set j v) (rs.set j r):=by
 refine⟨by simp[h.len],λi w t a b=>?_⟩;by_cases e:j=i
 ·subst e;have hj:j<vs.length:=by have:=(ak.mp a).1;rw[fG] at this;exact this
  rw[bI hj] at a;rw[bI (by rw[<-h.len];exact hj)] at b;cases a;cases b;exact q
 ·rw[b8 e] at a b;exact h.at_ i w t a b
def cR.get{α:Type}{R:V->α->Prop}{vs:List V}{rs:List α}(h:cR R vs rs){i:Nat}(hi:i<rs.length):∃v r,vs[i]?=some v/\rs[i]?=some r/\R v r:=by
 have h1:i<vs.length:=by rw[h.len];exact hi
 exact⟨vs[i],rs[i],af h1,af hi,h.at_ i _ _ (af h1) (af hi)⟩
def cR.of_v{α:Type}{R:V->α->Prop}{vs:List V}{rs:List α}(h:cR R vs rs){i:Nat}{v:V}(e:vs[i]?=some v):∃r,rs[i]?=some r/\R v r:=by
 have h1:=(ak.mp e).1;obtain⟨v',r,e1,e2,q⟩:=h.get (i:=i) (by rw[<-h.len];exact h1);rw[e] at e1;cases e1;exact⟨r,e2,q⟩
def mE(H:Hp)(v:V)(b:eF):Prop:=∃p q r rs,v=.ref p/\H p=some (.tup [.str b.name,.ref q,.ref r])/\H q=some (.tup (b.params.map V.str))/\H r=some (.tup rs)/\cR (e6 H) rs b.rows
def mE.mono{H H':Hp}{v:V}{b:eF}(h:mE H v b)(t:Tp H H'):mE H' v b:=by
 obtain⟨p,q,r,rs,e,h1,h2,h3,h4⟩:=h;exact⟨p,q,r,rs,e,t _ _ h1,t _ _ h2,t _ _ h3,h4.imp λ_ _ z=>z.mono t⟩
def m8(K:Fg)(H:Hp)(a:ar)(ns:List Int):Prop:=
 (∃o,H a=some (.frz o (.lst (ns.map V.int))))\/∃(o:Obj) (its:Array aa) (n:Nat),K.lookup a=some o/\o.cls=.type "list"/\o.dict=none/\o.data=.seq its n/\its.size<=av/\c8 (ns.map V.int) its.toList
def m8.sq{K:Fg}{H:Hp}{a:ar}{ns:List Int}(h:m8 K H a ns):cB K H a (ns.map V.int):=by
 rcases h with⟨o,h⟩|h
 ·exact .inl (.inr ⟨o,h⟩)
 ·exact .inr h
def Fz(H H':Hp):Prop:=∀p o u,H p=some (.frz o u)->H' p=some (.frz o u)
def Fz.of_but{a:ar}{ys:List V}{H H':Hp}(x:iq a H H')(ha:H a=some (.lst ys)):Fz H H':=λp o u h=>x p _ (by rintro rfl;rw[h] at ha;cases ha) h
def Fz.of_same{H H':Hp}(x:aL H H'):Fz H H':=λp o u h=>x p _ h
def m8.mono{K:Fg}{H H':Hp}{a:ar}{ns:List Int}(h:m8 K H a ns)(f:Fz H H'):m8 K H' a ns:=by
 rcases h with⟨o,h⟩|h
 ·exact .inl ⟨o,f _ _ _ h⟩
 ·exact .inr h
def lF(K:Fg)(H:Hp)(st:ar)(k:Nat):Prop:=∃scr ns c,H st=some (.lst [.ref scr,.int (k:Nat),.int c])/\m8 K H scr ns/\ns.length<=63
def lF.lst{K:Fg}{H:Hp}{st:ar}{k:Nat}(h:lF K H st k):∃ys,H st=some (.lst ys):=by
 obtain⟨scr,ns,c,e,_⟩:=h;exact⟨_,e⟩
def lF.mono{K:Fg}{H H':Hp}{a st:ar}{k:Nat}{ys:List V}(h:lF K H st k)(x:iq a H H')(ha:H a=some (.lst ys))(n:st≠a):lF K H' st k:=by
 obtain⟨scr,ns,c,e,q,l⟩:=h;exact⟨scr,ns,c,x _ _ n e,q.mono (.of_but x ha),l⟩
def lF.same{K:Fg}{H H':Hp}{st:ar}{k:Nat}(h:lF K H st k)(x:aL H H'):lF K H' st k:=by
 obtain⟨scr,ns,c,e,q,l⟩:=h;exact⟨scr,ns,c,x _ _ e,q.mono (.of_same x),l⟩
def lF.new{K:Fg}{H:Hp}{st p:ar}{o:HO}{k:Nat}(h:lF K H st k)(hp:H p=none):lF K (upd H p o) st k:=h.same ((aL.refl H).new hp)
def dm(K:Fg):Sp:=λvs H Q _=>∃(st:ar) (m:Int) (k:Nat),vs=[.ref st,.int m]/\lF K H st k/\k<=1000000/\0<m/\m<2 ^ 64/\
 ∀(d:Int) (H':Hp),0<=d->d<m->lF K H' st (k+1)->iq st H H'->Q (.int d) H'
def vp:List Str:=["part","call","say","jump","test","give"]
structure Nm(y:Str):Prop where
 l1:1<=y.length
 l8:y.length<=8
 abc:∀c∈y.cps.toList,97<=c/\c<=122
 no:y∉vp
def Nm.ne{y:Str}(h:Nm y):y≠"":=by
 rintro rfl;exact absurd h.l1 (by decide +kernel)
def vx(K:Fg):Sp:=λvs H Q _=>∃(st:ar) (n k:Nat),vs=[.ref st,.int (n:Nat)]/\lF K H st k/\k<=900000/\n<=20/\
 ∀(l:ar) (ys:List Str) (k':Nat) (H':Hp),H l=none->ys.length=n->ys.Nodup->(∀y∈ys,Nm y)->H' l=some (.lst (ys.map V.str))->lF K H' st k'->k'<=k+11->iq st H H'->Q (.ref l) H'
def AO(K:Fg):Sp:=λvs H Q _=>∃(st:ar) (k:Nat),vs=[.ref st]/\lF K H st k/\k<=900000/\
 ∀(z:Int) (k':Nat) (H':Hp),0<=z->z<2 ^ 64->lF K H' st k'->k'<=k+4->iq st H H'->Q (.int z) H'
def jC:List Str:=["+","-","*","<","="]
def zC(ys:List Str)(cs:List Nat)(n:Nat):bS->Prop
 |.num x z=>x∈ys/\0<=z/\z<2 ^ 64
 |.op x s a b=>x∈ys/\s∈jC/\a=""/\b=""
 |.call x k as=>x∈ys/\∃c,cs[k]?=some c/\as=bG c ("":Str)
 |.say a=>a=""
 |.jump to=>to<n
 |.test a to=>a=""/\to<n
 |.give a=>a=""
def cW(ns:List Nat):List V:=ns.map λn=>V.int (n:Nat)
def qi(K:Fg):Sp:=λvs H Q _=>∃(st nm cn:ar) (n k:Nat) (ys:List Str) (cs:List Nat),vs=[.ref st,.ref nm,.int (n:Nat),.ref cn]/\lF K H st k/\k<=800000/\H nm=some (.lst (ys.map V.str))/\ys≠[]/\ys.length<=100/\
 1<=n/\n<=1000/\H cn=some (.lst (cW cs))/\cs≠[]/\cs.length<=100/\(∀c∈cs,c<=4)/\nm≠st/\cn≠st/\
 ∀(v:V) (r:bS) (k':Nat) (H':Hp),e6 H' v r->zC ys cs n r->lF K H' st k'->k'<=k+8->iq st H H'->Q v H'
def eG(n:Nat):bS->List Nat
 |.jump to=>[to]
 |.test _ to=>[n+1,to]
 |.give _=>[]
 |_=>[n+1]
def AM(K:Fg):Sp:=λvs H Q _=>∃(rl:ar) (n:Nat) (rvs:List V) (v:V) (r:bS),vs=[.ref rl,.int (n:Nat)]/\(H rl=some (.lst rvs)\/H rl=some (.tup rvs))/\rvs[n]?=some v/\e6 H v r/\∀l,H l=none->Q (.ref l) (upd H l (.lst (cW (eG n r))))
def mJ:bS->V
 |.num x _=>.str x
 |.op x _ _ _=>.str x
 |.call x _ _=>.str x
 |_=>.non
def jT:bS->Bool
 |.jump _=>true
 |.give _=>true
 |_=>false
def zX:bS->Bool
 |.num _ _=>true
 |_=>false
structure zD(ys:List Str)(cs:List Nat)(rs:List bS):Prop where
 pos:rs≠[]
 few:rs.length<=100
 rough:∀r∈rs,zC ys cs rs.length r
def stp(rs:List bS)(n:Nat):Nat:=match rs[n]? with
 |some (.jump t)=>t
 |_=>n
def runJ(rs:List bS):Nat->Nat->Nat
 |0,n=>n
 |k+1,n=>runJ rs k (stp rs n)
def ic:bS->Bool
 |.jump _=>true
 |_=>false
def v8(rs:List bS):Prop:=∀n,n<rs.length->∀r,rs[runJ rs rs.length n]?=some r->ic r=false
def xa(K:Fg):Sp:=λvs H Q _=>∃(rl nm:ar) (bare:Bool) (rvs:List V) (rs:List bS) (ys:List Str) (R:bS->Prop),vs=[.ref rl,.ref nm,.bl bare]/\H rl=some (.lst rvs)/\cR (e6 H) rvs rs/\rs≠[]/\rs.length<=100/\(∀r∈rs,R r)/\R (.say "")/\R (.give "")/\(∀t,R (.jump t)->t<rs.length)/\H nm=some (.lst (ys.map V.str))/\ys≠[]/\(∀y∈ys,bare=true->R (.num y 3))/\nm≠rl/\
 (bare=true->2<=rs.length)/\∀(rvs':List V) (rs':List bS) (H':Hp),H' rl=some (.lst rvs')->cR (e6 H') rvs' rs'->rs'.length=rs.length->(∀r∈rs',R r)->(rs'.getLast?.map jT=some true)->(bare=true->rs'.head?.map zX=some true)->v8 rs'->iq rl H H'->Q (.ref rl) H'
def DX(H:Hp)(v:V)(ks:List Str):Prop:=∃a,v=.ref a/\H a=some (.lst (ks.map V.str))
structure R1(ps:List Str)(rs:List bS)(kss:List (List Str)):Prop where
 zero:∀ks,kss[0]?=some ks->∀y∈ks,y∈ps
 on:∀(n m:Nat) r ks km,rs[n]?=some r->m∈eG n r->kss[n]?=some ks->kss[m]?=some km->∀y∈km,y∈ks\/mJ r=.str y
def qj(K:Fg):Sp:=λvs H Q _=>∃(rl nm pr:ar) (rvs:List V) (rs:List bS) (ys ps:List Str) (cs:List Nat),vs=[.ref rl,.ref nm,.ref pr]/\H rl=some (.lst rvs)/\cR (e6 H) rvs rs/\zD ys cs rs/\(rs.getLast?.map jT=some true)/\
 H nm=some (.lst (ys.map V.str))/\ys.length<=100/\H pr=some (.lst (ps.map V.str))/\ps.length<=100/\(∀y∈ps,y∈ys)/\(ps=[]->rs.head?.map zX=some true)/\
 ∀(kl:ar) (refs:List V) (kss:List (List Str)) (H':Hp),H kl=none->H' kl=some (.lst refs)->cR (DX H') refs kss->kss.length=rs.length->(∀(i:Nat) ks,kss[i]?=some ks->ks.length<=100/\(∀y∈ks,y∈ys)/\(ks≠[]\/(i=0/\ps=[])))->R1 ps rs kss->aL H H'->Q (.ref kl) H'
def lC(ks:List Str):bS->bS->Prop
 |.num x z,r=>r=.num x z
 |.op x s _ _,r=>∃a b,r=.op x s a b/\a∈ks/\b∈ks
 |.call x k as,r=>∃bs:List Str,r=.call x k bs/\bs.length=as.length/\∀b∈bs,b∈ks
 |.say _,r=>∃a,r=.say a/\a∈ks
 |.jump to,r=>r=.jump to
 |.test _ to,r=>∃a,r=.test a to/\a∈ks
 |.give _,r=>∃a,r=.give a/\a∈ks
def w9(K:Fg):Sp:=λvs H Q _=>∃(st rl kl:ar) (k:Nat) (rvs refs:List V) (rs:List bS) (kss:List (List Str)) (ys:List Str) (cs:List Nat),vs=[.ref st,.ref rl,.ref kl]/\lF K H st k/\k<=700000/\H rl=some (.lst rvs)/\cR (e6 H) rvs rs/\zD ys cs rs/\(∀y∈ys,y≠"")/\(∀c∈cs,c<=4)/\
 H kl=some (.lst refs)/\cR (DX H) refs kss/\kss.length=rs.length/\(∀(i:Nat) ks,kss[i]?=some ks->ks.length<=100)/\(∀(i:Nat) ks r,kss[i]?=some ks->rs[i]?=some r->ks≠[]\/zX r=true)/\(∀a∈refs,a≠.ref st)/\rl≠st/\kl≠st/\
 ∀(p:ar) (rvs':List V) (rs':List bS) (k':Nat) (H':Hp),H' p=some (.tup rvs')->cR (e6 H') rvs' rs'->rs'.length=rs.length->(∀(i:Nat) ks r r',kss[i]?=some ks->rs[i]?=some r->rs'[i]?=some r'->lC ks r r')->lF K H' st k'->k'<=k+5*rs.length->iq st H H'->Q (.ref p) H'
def gs:bS->List Str
 |.op _ _ a b=>[a,b]
 |.call _ _ as=>as
 |.say a=>[a]
 |.test a _=>[a]
 |.give a=>[a]
 |_=>[]
def M4(ys:List Str)(cs:List Nat)(n:Nat):bS->Prop
 |.num x z=>x∈ys/\0<=z/\z<2 ^ 64
 |.op x s a b=>x∈ys/\s∈jC/\a∈ys/\b∈ys
 |.call x k as=>x∈ys/\cs[k]?=some as.length/\∀a∈as,a∈ys
 |.say a=>a∈ys
 |.jump to=>to<n
 |.test a to=>a∈ys/\to<n
 |.give a=>a∈ys
structure rO(ys:List Str)(cs:List Nat)(b:eF):Prop where
 pnd:b.params.Nodup
 pin:∀y∈b.params,y∈ys
 pos:b.rows≠[]
 few:b.rows.length<=60
 rows:∀r∈b.rows,M4 ys cs b.rows.length r
 last:b.rows.getLast?.map jT=some true
 ring:v8 b.rows
 known:∃kss,kss.length=b.rows.length/\R1 b.params b.rows kss/\∀(n:Nat) r ks,b.rows[n]?=some r->kss[n]?=some ks->∀y∈gs r,y∈ks
structure wg(ys:List Str)(cs:List Nat)(bs:List eF):Prop where
 ynd:ys.Nodup
 ynm:∀y∈ys,Nm y
 y2:2<=ys.length
 y6:ys.length<=6
 pos:1<=bs.length
 few:bs.length<=5
 nnd:(bs.map (·.name)).Nodup
 nnm:∀b∈bs,Nm b.name
 cnt:bs.map (·.params.length)=cs
 c4:∀c∈cs,c<=4
 part:∀b∈bs,rO ys cs b
def EJ(K:Fg):Sp:=λvs H Q _=>∃(st nm pr cn:ar) (wd:Str) (m k:Nat) (ys ps:List Str) (cs:List Nat),vs=[.ref st,.str wd,.ref nm,.ref pr,.ref cn,.int (m:Nat)]/\lF K H st k/\k<=600000/\H nm=some (.lst (ys.map V.str))/\ys≠[]/\ys.length<=100/\(∀y∈ys,y≠"")/\
 H pr=some (.lst (ps.map V.str))/\ps.length<=100/\ps.Nodup/\(∀y∈ps,y∈ys)/\H cn=some (.lst (cW cs))/\cs≠[]/\cs.length<=100/\(∀c∈cs,c<=4)/\1<=m/\m<=50/\nm≠st/\pr≠st/\cn≠st/\
 ∀(v:V) (b:eF) (k':Nat) (H':Hp),mE H' v b->b.name=wd->b.params=ps->rO ys cs b->b.rows.length<=m+1->lF K H' st k'->k'<=k+1000->iq st H H'->Q v H'
def uL(K:Fg):Sp:=λvs H Q _=>∃(st:ar) (m k:Nat),vs=[.ref st,.int (m:Nat)]/\lF K H st k/\k<=500000/\1<=m/\m<=50/\
 ∀(p:ar) (pvs:List V) (bs:List eF) (ys:List Str) (cs:List Nat) (k':Nat) (H':Hp),H' p=some (.tup pvs)->cR (mE H') pvs bs->wg ys cs bs->(∀b∈bs,b.rows.length<=m+1)->lF K H' st k'->k'<=k+10000->iq st H H'->Q (.ref p) H'
def oa:bS->V
 |.jump to=>.int (to:Nat)
 |.test _ to=>.int (to:Nat)
 |_=>.non
def RM:Sp:=λvs H Q _=>∃v r,vs=[v]/\e6 H v r/\∀(p:ar) (H':Hp),H' p=some (.tup ((gs r).map V.str))->aL H H'->Q (.ref p) H'
abbrev qf(_:Fg):Sp:=RM
def xb(_:Fg):Sp:=λvs H Q _=>∃v r,vs=[v]/\e6 H v r/\∀(H':Hp),aL H H'->Q (mJ r) H'
def ph(_:Fg):Sp:=λvs H Q _=>∃v r,vs=[v]/\e6 H v r/\Q (oa r) H
def UJ:Sp:=λvs H Q _=>∃(rt:ar) (n:Nat) (rvs:List V) (v:V) (r:bS),vs=[.ref rt,.int (n:Nat)]/\H rt=some (.tup rvs)/\rvs[n]?=some v/\e6 H v r/\∀(p:ar) (H':Hp),H' p=some (.tup (cW (eG n r)))->aL H H'->Q (.ref p) H'
abbrev qe(_:Fg):Sp:=UJ
def EI(K:Fg):Sp:=λvs H Q _=>∃(scr:ar) (ns:List Int),vs=[.ref scr]/\m8 K H scr ns/\ns.length<=63/\∀H',Q (.bl true) H'
abbrev Th:Nat:=0
abbrev SA:Nat:=1
abbrev Qq:Nat:=1
abbrev PD:Nat:=2
abbrev Qr:Nat:=1
abbrev PF:Nat:=2
abbrev F0:Nat:=2
abbrev Ff:Nat:=3
abbrev Qo:Nat:=0
abbrev Py:Nat:=1
abbrev NJ:Nat:=0
abbrev MO:Nat:=1
abbrev F1:Nat:=1
abbrev Fh:Nat:=2
abbrev NI:Nat:=1
abbrev ML:Nat:=2
abbrev Ti:Nat:=3
abbrev SC:Nat:=4
abbrev LC:Nat:=4
abbrev KI:Nat:=5
abbrev LB:Nat:=0
abbrev KH:Nat:=1
abbrev NM:Nat:=0
abbrev MQ:Nat:=1
abbrev NK:Nat:=0
abbrev Fc:Nat:=1
abbrev LA:Nat:=1
abbrev KG:Nat:=2
def bC{c:Prop}[Decidable c]{A B:Prop}(h1:c->A)(h2:¬c->B):if decide c=true then A else B:=by
 by_cases h:c
 ·rw[decide_eq_true h];exact ky (h1 h)
 ·rw[decide_eq_false h];exact f6 (h2 h)
def jS{c:Prop}[Decidable c]{A B:Prop}(h1:¬c->A)(h2:c->B):if(!decide c)=true then A else B:=by
 by_cases h:c
 ·rw[decide_eq_true h];exact f6 (h2 h)
 ·rw[decide_eq_false h];exact ky (h1 h)
def i4{b:Bool}{A B:Prop}(h1:b=true->A)(h2:b=false->B):if b=true then A else B:=by
 cases b with
 |true=>exact ky (h1 rfl)
 |false=>exact f6 (h2 rfl)
def D4{α:Type}{xs:List α}{i:Int}{v:α}(h0:0<=i)(e:xs[i.toNat]?=some v):Pp xs i=some v:=by
 have h1:=(ak.mp e).1;unfold Pp Pq;rw[if_pos h0,if_pos (by lia)];exact e
def pS{K:Fg}{p:ar}{xs:List V}{i:Int}{v:V}{H:Hp}{Q:VK}(h:cB K H p xs)(h0:0<=i)(e:xs[i.toNat]?=some v)(q:Q v H):cJ K (.ref p) (.int i) H Q:=
 .inl ⟨p,xs,i,v,rfl,rfl,h,D4 h0 e,q⟩
def dk{K:Fg}{p:ar}{xs:List V}{i:Int}{v:V}{H:Hp}{Q:VK}(h:H p=some (.tup xs))(h0:0<=i)(e:xs[i.toNat]?=some v)(q:Q v H):cJ K (.ref p) (.int i) H Q:=
 .inr (.inl ⟨p,xs,i,v,rfl,rfl,eO.of h,D4 h0 e,q⟩)
def Zw{K:Fg}{p:ar}{xs:List V}{i:Int}{v:V}{H:Hp}{Q:VK}(h:H p=some (.tup xs))(e:xs[i.toNat]?=some v)(q:Q v H)(h0:0<=i:=by decide):cJ K (.ref p) (.int i) H Q:=dk h h0 e q
def Vd{K:Fg}{z:Str}{i:Int}{c:Nat}{H:Hp}{Q:VK}(hz:z.length<=av)(h0:0<=i)(e:z.cps.toList[i.toNat]?=some c)(q:Q (.str ⟨#[c]⟩) H):cJ K (.str z) (.int i) H Q:=
 .inr (.inr ⟨z,i,c,rfl,rfl,hz,D4 h0 e,q⟩)
def GD{p:ar}{xs:List V}{i:Int}{v:V}{H:Hp}{Q:Hp->Prop}(h:H p=some (.lst xs))(h0:0<=i)(h1:i.toNat<xs.length)(q:Q (upd H p (.lst (xs.set i.toNat v)))):qG (.ref p) (.int i) v H Q:=by
 refine⟨p,xs,i,i.toNat,rfl,rfl,h,?_,q⟩;unfold Pq;rw[if_pos h0,if_pos (by lia)]
def cq{n:Nat}(h:n<=100000):n<av:=jg h (by decide)
def Lv{ns:List Nat}{i:Nat}{n:Nat}(h:ns[i]?=some n):(cW ns)[i]?=some (.int (n:Nat)):=by
 unfold cW;rw[aQ,h];rfl
def fA(ns:List Nat):(cW ns).length=ns.length:=by unfold cW;rw[ae]
def sy{ys:List Str}{i:Nat}{y:Str}(h:ys[i]?=some y):(ys.map V.str)[i]?=some (.str y):=by rw[aQ,h];rfl
def pY{H:Hp}{a b:ar}{xs ys:List V}(h:H a=some (.lst xs))(h':H b=some (.tup ys)):a≠b:=Sf h h' (by intro z;cases z)
def jc{D:ar}{te:TE}{E:rn}{σ:St}{H:Hp}(h:te σ H λy H2=>∃ys,H2 D=some (.lst ys)/\ys.length<av/\E.nx σ (upd H2 D (.lst (ys++[y])))):wX D kH te E σ H:=by
 unfold wX kH;dsimp only;rw[if_pos rfl];exact h
def no{x y:V}{A B:Prop}(h:¬x=y)(q:B):if decide (x=y)=true then A else B:=bC (λz=>absurd z h) λ_=>q
def Zv{x y:V}{A B:Prop}(q:B)(h:¬x=y:=by decide +kernel):if decide (x=y)=true then A else B:=no h q
def ME{x:V}{A B:Prop}(q:A):if decide (x=x)=true then A else B:=bC (λ_=>q) λz=>absurd rfl z
def Lu{b:Bool}{A B:Prop}(e:b=true)(q:A):if b=true then A else B:=by rw[e];exact ky q
def Ls{b:Bool}{A B:Prop}(e:b=false)(q:B):if b=true then A else B:=by rw[e];exact f6 q
def mF(xs:List V)(c:Nat):nZ xs none (some (c:Int))=xs.take c:=by
 unfold nZ;rw[HT.sIx_none,HT.sIx_nat,my,Nat.sub_zero,<-List.take_eq_take_min]
def zM(xs:List V)(c:Nat):nZ xs (some (c:Int)) none=xs.drop c:=by
 unfold nZ;rw[HT.sIx_none,HT.sIx_nat];by_cases h:c<=xs.length
 ·rw[Nat.min_eq_left h];exact bJ (by rw[dW];lia)
 ·rw[Nat.min_eq_right (by lia),List.drop_length,List.drop_of_length_le (by lia),List.take_nil]
def sZ(ys:List Str):(ys.map V.str).all kh=true:=by
 rw[eE];intro v hv;obtain⟨y,_,rfl⟩:=bA.mp hv;rfl
def hU(y:Str)(ls:List Str):lY (.str y) (ls.map V.str)=decide (y∈ls):=by
 unfold lY;rw[List.any_map,Bool.eq_iff_iff,List.any_eq_true,decide_eq_true_eq];constructor
 ·rintro⟨z,hz,e⟩;have e':(z==y)=true:=e;have:z=y:=by simpa using e'
  rw[<-this];exact hz
 ·intro h;exact⟨y,h,by show(y==y)=true;simp⟩
def iq.past{a l:ar}{H H1 H2:Hp}(x:iq a H H1)(hl:H l=none)(y:iq l H1 H2):iq a H H2:=λc u n h=>y c u (aB h hl) (x c u n h)
end Bg
end
section
namespace Bg
open PySem PySem.Spec PyProof.Rows L2
abbrev PM:List Str:=["_law_state","_law_many"]
abbrev MS:List Str:=["_law_state","_law_many","_law_script","_law_k","_law_digit","_law_cell"]
def O4(K:Fg):TS:=(cD (a9 (nA) (a9 (nA) (a9 (lJ K) (ao 5) (ao 5)) (tC (.int 1999999973))) (ao 1)))
def O5(K:Fg):TS:=(bx (cb (a9 (nA) (a9 (lJ K) (ao 5) (ao 5)) (tC (.int 2147483587))) (aU 5)) (O4 K))
def GI(K:Fg):TS:=(bx (cb (a9 (nA) (a9 (lJ K) (a9 (nA) (ao 5) (tC (.int 2147483629))) (a9 (cS K) (ao 3) Zd)) (tC (.int 2147483629))) (aU 5)) (O5 K))
def O6(K:Fg):TS:=(bx (dq (bE (a9 (Az) (fj (eX K) (ai (ao 2) aJ)) Zb)) (cb (a9 (cS K) (ao 5) (a9 (lJ K) (a9 (cJ K) (ao 2) (a9 (nA) (a9 (lJ K) (ao 3) (tC (.int 7))) (fj (eX K) (ai (ao 2) aJ)))) (a9 (cS K) (tC (.int 48271)) (ao 3)))) (aU 5)) b6) (GI K))
def vD(K:Fg):TS:=(bx (cb (a9 (cS K) (a9 (lJ K) (ao 3) (tC (.int 7919))) Zk) (aU 5)) (O6 K))
def O7(K:Fg):TS:=(cD (ao 4))
def GJ(K:Fg):TS:=(dq (bE (a9 ((E3 K true)) (a9 (cJ K) (ao 0) Zc) (gc (ai Zb (ai (Sw L8 Za) aJ))))) (bx (cb (fj (Rw) (ai (a9 (cJ K) (ao 0) Zc) (ai (ao 1) aJ))) (zT K 2 (iB (tI (ao 0) Zc qG) (iB (aU 4) yA)))) (O7 K)) b6)
def GK(K:Fg):TS:=(bx (dq (i6 (bE (a9 (rz) (a9 (cS K) (a9 (IV) (ao 3) Zq) Za) (fj (eX K) (ai (ao 2) aJ)))) (bE (a9 (eC K) (a9 (nA) (a9 (cJ K) (ao 2) Zb) Zc) Za))) (bx (dq (bE (a9 (eC K) (a9 (nA) (ao 3) Zq) Zb)) (cb (a9 (cJ K) (ao 2) (a9 (cS K) (a9 (IV) (ao 3) Zq) Za)) (tI (ao 0) Zc qG)) b6) (GJ K)) (dq (bE (a9 (rz) (ao 3) (fj (eX K) (ai (ao 2) aJ)))) (cD (a9 (nA) (a9 (cJ K) (ao 2) (ao 3)) (ao 1))) b6)) (vD K))
def O8(K:Fg):TS:=(bx (cb (a9 (cS K) (ao 3) Za) (tI (ao 0) Za qG)) (GK K))
def O3(K:Fg):TS:=(bx (cb (uT (vR K) (ao 0) dP (fX Zc)) (NC K 2 (iB (aU 2) (iB (aU 3) yA)))) (O8 K))
abbrev MX:List Str:=["_law_state","_law_many"]
abbrev DM:List Str:=["_law_state","_law_many","_law_letters","_law_size","_law_at","_law_first","_law_base","_law_found","_law_k","_law_some","_law_name"]
def Dr(K:Fg):TS:=(cD (ao 7))
def Ds(K:Fg):TS:=(iQ (sE K "list" gZ (ao 7) (ai (ao 10) aJ)))
def Dt(K:Fg):TS:=(bx (dq (Kl (bE (a9 ((E3 K false)) (ao 10) (gc (ai Zj (ai Zf (ai Zn (ai Zh (ai Zl (ai Zi aJ))))))))) (i6 (bE (a9 (rz) (ao 3) Zr)) (bE (a9 (eC K) (a9 (nA) (a9 (cS K) (ao 3) (ao 8)) Zd) Za)))) (cb (a9 (cS K) (ao 10) (tC (.str "x"))) (aU 10)) b6) (Ds K))
def Ms(K:Fg):TS:=(bx (cb (sE K "str" (ny K) Zg (ai (ao 9) aJ)) (aU 10)) (Dt K))
def Mt(K:Fg):TS:=(bx (cb (a9 (cS K) (a9 (cS K) (uT (vR K) (ao 6) dP (fX (ao 4))) (gF (ai (a9 (cJ K) (ao 2) (a9 (nA) (a9 (cS K) (ao 5) (a9 (lJ K) Zk (ao 8))) (tC (.int 26)))) aJ))) (uT (vR K) (ao 6) (fX (a9 (cS K) (ao 4) Za)) dP)) (aU 9)) (Ms K))
def Du(K:Fg):TS:=(bx (kG (rT (ai (ao 1) aJ)) (aU 8) (Mt K)) (Dr K))
def Mu(K:Fg):TS:=(bx (cb (gF aJ) (aU 7)) (Du K))
def Mv(K:Fg):TS:=(bx (cb (fE [] 1 (rT (ai (ao 3) aJ)) (aU 11) kH (a9 (cJ K) (ao 2) (a9 (nA) (a9 (cS K) (ao 5) (a9 (lJ K) (a9 (lJ K) (tC (.int 7)) (ao 11)) (bF (dm K) [] E0 (ai (ao 0) (ai Zm aJ))))) (tC (.int 26))))) (aU 6)) (Mu K))
def Mw(K:Fg):TS:=(bx (cb (bF (dm K) [] E0 (ai (ao 0) (ai (tC (.int 26)) aJ))) (aU 5)) (Mv K))
def A5(K:Fg):TS:=(bx (cb (bF (dm K) [] E0 (ai (ao 0) (ai (ao 3) aJ))) (aU 4)) (Mw K))
def Jp(K:Fg):TS:=(bx (cb (a9 (cS K) Za (bF (dm K) [] E0 (ai (ao 0) (ai Zr aJ)))) (aU 3)) (A5 K))
def Kx(K:Fg):TS:=(bx (cb Zu (aU 2)) (Jp K))
abbrev MY:List Str:=["_law_state"]
abbrev JN:List Str:=["_law_state"]
def Mx(K:Fg):TS:=(cD (a9 (cJ K) (gF (ai Zb (ai Za (ai (a9 (Gm) (a9 (Gm) (a9 (De) Zc (tC (.int 64))) Za) (bF (dm K) [] E0 (ai (ao 0) (ai Zd aJ)))) (ai (bF (dm K) [] E0 (ai (ao 0) (ai Zq aJ))) aJ))))) (bF (dm K) [] E0 (ai (ao 0) (ai Zm aJ)))))
def Ky(K:Fg):TS:=(bx (dq (bE (a9 (eC K) (bF (dm K) [] E0 (ai (ao 0) (ai Zc aJ))) Zb)) (cD (a9 (cS K) (a9 (lJ K) (bF (dm K) [] E0 (ai (ao 0) (ai (a9 (De) Zc (tC (.int 31))) aJ))) (a9 (De) Zc (tC (.int 33)))) (bF (dm K) [] E0 (ai (ao 0) (ai (a9 (De) Zc (tC (.int 31))) aJ))))) b6) (Mx K))
abbrev DR:List Str:=["_law_state","_law_names_here","_law_many","_law_counts"]
abbrev xB:List Str:=["_law_state","_law_names_here","_law_many","_law_counts","_law_x","_law_sort","_law_k"]
def Cf(K:Fg):TS:=(cD (a9 (cJ K) (gF (ai (gc (ai Zh (ai (bF (dm K) [] E0 (ai (ao 0) (ai (ao 2) aJ))) aJ))) (ai (gc (ai Zi (ai Zg aJ))) aJ))) (a9 (Gm) (ao 5) (tC (.int 10)))))
def Cg(K:Fg):TS:=(bx (dq (bE (a9 (rz) (ao 5) (tC (.int 10)))) (cD (gc (ai Zl (ai Zg (ai (bF (dm K) [] E0 (ai (ao 0) (ai (ao 2) aJ))) aJ))))) b6) (Cf K))
def Ci(K:Fg):TS:=(bx (dq (bE (a9 (rz) (ao 5) Zr)) (cD (gc (ai Zn (ai Zg aJ)))) b6) (Cg K))
def Cj(K:Fg):TS:=(cD (gc (ai Zf (ai (ao 4) (ai (ao 6) (ai (a9 (lJ K) (gc (ai Zg aJ)) (a9 (cJ K) (ao 3) (ao 6))) aJ))))))
def Ck(K:Fg):TS:=(bx (dq (bE (a9 (eC K) (ao 5) (tC (.int 6)))) (bx (cb (bF (dm K) [] E0 (ai (ao 0) (ai (fj (eX K) (ai (ao 3) aJ)) aJ))) (aU 6)) (Cj K)) b6) (Ci K))
def Cm(K:Fg):TS:=(bx (dq (bE (a9 (rz) (ao 5) (tC (.int 6)))) (cD (gc (ai Zp (ai (ao 4) (ai (a9 (cJ K) (tC (.str "+-*<=")) (bF (dm K) [] E0 (ai (ao 0) (ai Zk aJ)))) (ai Zg (ai Zg aJ))))))) b6) (Ck K))
def Cn(K:Fg):TS:=(bx (dq (bE (a9 (rz) (ao 5) Zc)) (cD (gc (ai Zo (ai (ao 4) (ai (bF (AO K) [] E0 (ai (ao 0) aJ)) aJ))))) b6) (Cm K))
def Co(K:Fg):TS:=(bx (cb (bF (dm K) [] E0 (ai (ao 0) (ai Zq aJ))) (aU 5)) (Cn K))
def yk(K:Fg):TS:=(bx (cb (a9 (cJ K) (ao 1) (bF (dm K) [] E0 (ai (ao 0) (ai (fj (eX K) (ai (ao 1) aJ)) aJ)))) (aU 4)) (Co K))
abbrev MV:List Str:=["_law_rows","_law_n"]
abbrev JL:List Str:=["_law_rows","_law_n"]
def Mo(K:Fg):TS:=(cD (gF (ai (a9 (cS K) (ao 1) Za) aJ)))
def Mp(K:Fg):TS:=(bx (dq (bE (a9 (eC K) (a9 (cJ K) (a9 (cJ K) (ao 0) (ao 1)) Zb) Zi)) (cD (gF aJ)) b6) (Mo K))
def Mq(K:Fg):TS:=(bx (dq (bE (a9 (eC K) (a9 (cJ K) (a9 (cJ K) (ao 0) (ao 1)) Zb) Zl)) (cD (gF (ai (a9 (cS K) (ao 1) Za) (ai (a9 (cJ K) (a9 (cJ K) (ao 0) (ao 1)) Zc) aJ)))) b6) (Mp K))
def Kv(K:Fg):TS:=(bx (dq (bE (a9 (eC K) (a9 (cJ K) (a9 (cJ K) (ao 0) (ao 1)) Zb) Zh)) (cD (gF (ai (a9 (cJ K) (a9 (cJ K) (ao 0) (ao 1)) Za) aJ))) b6) (Mq K))
abbrev KO:List Str:=["_law_rows","_law_names_here","_law_bare"]
abbrev Fi:List Str:=["_law_rows","_law_names_here","_law_bare","_law_last","_law_n","_law_to","_law_turn"]
def Jm(K:Fg):TS:=(cD (ao 0))
def Jn(K:Fg):TS:=(dq (bE (a9 (eC K) (a9 (cJ K) (a9 (cJ K) (ao 0) (ao 5)) Zb) Zh)) (cb (a9 (cJ K) (gF (ai (gc (ai Zn (ai Zg aJ))) (ai (gc (ai Zi (ai Zg aJ))) aJ))) (fj (Oz) (ai (a9 (eC K) (ao 4) (ao 3)) aJ))) (tI (ao 0) (ao 4) qG)) b6)
def Jo(K:Fg):TS:=(dq (bE (a9 (eC K) (a9 (cJ K) (a9 (cJ K) (ao 0) (ao 5)) Zb) Zh)) (cb (a9 (cJ K) (a9 (cJ K) (ao 0) (ao 5)) Za) (aU 5)) b6)
def A0(K:Fg):TS:=(bx (kG (iT K (ao 0)) (aU 6) (Jo K)) (Jn K))
def A1(K:Fg):TS:=(bx (cb (ao 4) (aU 5)) (A0 K))
def A2(K:Fg):TS:=(bx (kG (rT (ai (fj (eX K) (ai (ao 0) aJ)) aJ)) (aU 4) (A1 K)) (Jm K))
def A3(K:Fg):TS:=(bx (dq (i6 (tB (ao 2)) (i6 (bE (a9 (BR K) (a9 (cJ K) (a9 (cJ K) (ao 0) Zb) Zb) Zo)) (bE (a9 (Az) (ao 3) Zb)))) (cb (gc (ai Zo (ai (a9 (cJ K) (ao 1) Zb) (ai Zd aJ)))) (tI (ao 0) Zb qG)) b6) (A2 K))
def A4(K:Fg):TS:=(bx (dq (bE (a9 ((E3 K true)) (a9 (cJ K) (a9 (cJ K) (ao 0) (ao 3)) Zb) (gc (ai Zh (ai Zi aJ))))) (cb (gc (ai Zi (ai Zg aJ))) (tI (ao 0) (ao 3) qG)) b6) (A3 K))
def GQ(K:Fg):TS:=(bx (cb (a9 (Gm) (fj (eX K) (ai (ao 0) aJ)) Za) (aU 3)) (A4 K))
abbrev DS:List Str:=["_law_rows","_law_names_here","_law_params"]
abbrev m7:List Str:=["_law_rows","_law_names_here","_law_params","_law_known","_law_more","_law_n","_law_left","_law_m","_law_kept"]
def Cp(K:Fg):TS:=(cD (ao 3))
def Cq(K:Fg):TS:=(cb (tC (.bl true)) (aU 4))
def uo(K:Fg):TS:=(dq (bE (a9 (rz) (fj (eX K) (ai (ao 8) aJ)) (fj (eX K) (ai (a9 (cJ K) (ao 3) (ao 7)) aJ)))) (bx (cb (ao 8) (tI (ao 3) (ao 7) qG)) (Cq K)) b6)
def uq(K:Fg):TS:=(bx (cb (fE [] 1 (iT K (a9 (cJ K) (ao 3) (ao 7))) (aU 9) (bE (a9 ((E3 K false)) (ao 9) (ao 6))) (ao 9)) (aU 8)) (uo K))
def ur(K:Fg):TS:=(kG (iT K (bF (AM K) [] E0 (ai (ao 0) (ai (ao 5) aJ)))) (aU 7) (uq K))
def uu(K:Fg):TS:=(bx (dq (bE (a9 ((E3 K false)) (a9 (cJ K) (a9 (cJ K) (ao 0) (ao 5)) Zb) (gc (ai Zo (ai Zp (ai Zf aJ)))))) (cb (a9 (cS K) (ao 6) (gF (ai (a9 (cJ K) (a9 (cJ K) (ao 0) (ao 5)) Za) aJ))) (aU 6)) b6) (ur K))
def oA(K:Fg):TS:=(bx (cb (a9 (cJ K) (ao 3) (ao 5)) (aU 6)) (uu K))
def uv(K:Fg):TS:=(kG (rT (ai (fj (eX K) (ai (ao 0) aJ)) aJ)) (aU 5) (oA K))
def Cr(K:Fg):TS:=(bx (cb (tC (.bl false)) (aU 4)) (uv K))
def sM(K:Fg):TS:=(bx (AV (tB (ao 4)) (Cr K)) (Cp K))
def sO(K:Fg):TS:=(bx (cb (tC (.bl true)) (aU 4)) (sM K))
def sP(K:Fg):TS:=(bx (cb (fj (vo K) (ai (ao 2) aJ)) (tI (ao 3) Zb qG)) (sO K))
def ym(K:Fg):TS:=(bx (cb (fE [] 1 (iT K (ao 0)) (aU 9) kH (fj (vo K) (ai (ao 1) aJ))) (aU 3)) (sP K))
abbrev KN:List Str:=["_law_state","_law_rows","_law_known"]
abbrev zo:List Str:=["_law_state","_law_rows","_law_known","_law_found","_law_n","_law_row","_law_some","_law_thing"]
def Jk(K:Fg):TS:=(cD (fj (i5 K) (ai (ao 3) aJ)))
def Jl(K:Fg):TS:=(iQ (sE K "list" gZ (ao 3) (ai (a9 (cS K) (gc (ai (a9 (cJ K) (ao 5) Zb) aJ)) (fj (i5 K) (ai (ao 6) aJ))) aJ)))
def AW(K:Fg):TS:=(iQ (sE K "list" gZ (ao 6) (ai (ao 7) aJ)))
def AX(K:Fg):TS:=(bx (dq (bE (a9 (eC K) (ao 7) Zg)) (cb (a9 (cJ K) (a9 (cJ K) (ao 2) (ao 4)) (bF (dm K) [] E0 (ai (ao 0) (ai (fj (eX K) (ai (a9 (cJ K) (ao 2) (ao 4)) aJ)) aJ)))) (aU 7)) (dq (tB (fj (VD K) (ai (ao 7) (ai (tC (.ty "tuple")) aJ)))) (cb (fj (i5 K) (ai (fE [] 1 (iT K (ao 7)) (aU 8) kH (a9 (cJ K) (a9 (cJ K) (ao 2) (ao 4)) (bF (dm K) [] E0 (ai (ao 0) (ai (fj (eX K) (ai (a9 (cJ K) (ao 2) (ao 4)) aJ)) aJ))))) aJ)) (aU 7)) b6)) (AW K))
def AY(K:Fg):TS:=(bx (kG (iT K (uT (vR K) (ao 5) (fX Za) dP)) (aU 7) (AX K)) (Jl K))
def uR(K:Fg):TS:=(bx (cb (gF aJ) (aU 6)) (AY K))
def AZ(K:Fg):TS:=(bx (kG (CZ K (ai (ao 1) aJ)) (zT K 2 (iB (aU 4) (iB (aU 5) yA))) (uR K)) (Jk K))
def GL(K:Fg):TS:=(bx (cb (gF aJ) (aU 3)) (AZ K))
abbrev PN:List Str:=["_law_state","_law_word","_law_names_here","_law_params","_law_counts","_law_most"]
abbrev Hy:List Str:=["_law_state","_law_word","_law_names_here","_law_params","_law_counts","_law_most","_law_many","_law_rows","_law_known"]
def G5(K:Fg):TS:=(cD (gc (ai (ao 1) (ai (fj (i5 K) (ai (ao 3) aJ)) (ai (bF (w9 K) [] E0 (ai (ao 0) (ai (ao 7) (ai (ao 8) aJ)))) aJ)))))
def G8(K:Fg):TS:=(bx (cb (bF (qj K) [] E0 (ai (ao 7) (ai (ao 2) (ai (ao 3) aJ)))) (aU 8)) (G5 K))
def G9(K:Fg):TS:=(bx (cb (bF (xa K) [] E0 (ai (ao 7) (ai (ao 2) (ai (a9 (eC K) (fj (eX K) (ai (ao 3) aJ)) Zb) aJ)))) (aU 7)) (G8 K))
def Ha(K:Fg):TS:=(bx (cb (fE [] 1 (rT (ai (ao 6) aJ)) (aU 9) kH (bF (qi K) [] E0 (ai (ao 0) (ai (ao 2) (ai (ao 6) (ai (ao 4) aJ)))))) (aU 7)) (G9 K))
def O9(K:Fg):TS:=(bx (cb (fj (VJ) (ai (a9 (cS K) Za (fj (Oz) (ai (a9 (eC K) (fj (eX K) (ai (ao 3) aJ)) Zb) aJ))) (ai (a9 (cS K) Za (bF (dm K) [] E0 (ai (ao 0) (ai (ao 5) aJ)))) aJ))) (aU 6)) (Ha K))
abbrev HJ:List Str:=["_law_state","_law_most"]
abbrev v7:List Str:=["_law_state","_law_most","_law_five","_law_words","_law_names_here","_law_counts","_law_found","_law_word","_law_many","_law_turn","_law_params"]
def Hb(K:Fg):TS:=(cD (fj (i5 K) (ai (ao 6) aJ)))
def x9(K:Fg):TS:=(iQ (sE K "list" gZ (ao 6) (ai (bF (EJ K) [] E0 (ai (ao 0) (ai (ao 7) (ai (ao 4) (ai (ao 10) (ai (ao 5) (ai (ao 1) aJ))))))) aJ)))
def ya(K:Fg):TS:=(bx (cb (uT (vR K) (a9 (cS K) (uT (vR K) (ao 4) (fX (ao 9)) dP) (uT (vR K) (ao 4) dP (fX (ao 9)))) dP (fX (ao 8))) (aU 10)) (x9 K))
def yb(K:Fg):TS:=(bx (cb (bF (dm K) [] E0 (ai (ao 0) (ai (fj (eX K) (ai (ao 4) aJ)) aJ))) (aU 9)) (ya K))
def yc(K:Fg):TS:=(bx (kG (S0 K (ai (ao 3) (ai (ao 5) aJ))) (zT K 2 (iB (aU 7) (iB (aU 8) yA))) (yb K)) (Hb K))
def yd(K:Fg):TS:=(bx (cb (gF aJ) (aU 6)) (yc K))
def ye(K:Fg):TS:=(bx (cb (fE [7] 0 (iT K (ao 3)) (aU 7) kH (bF (dm K) [] E0 (ai (ao 0) (ai (a9 (cS K) (fj (VL) (ai Zm (ai (fj (eX K) (ai (ao 4) aJ)) aJ))) Za) aJ)))) (aU 5)) (yd K))
def yf(K:Fg):TS:=(bx (cb (bF (vx K) [] E0 (ai (ao 0) (ai (a9 (cS K) Zc (bF (dm K) [] E0 (ai (ao 0) (ai Zk aJ)))) aJ))) (aU 4)) (ye K))
def yg(K:Fg):TS:=(bx (cb (uT (vR K) (bF (vx K) [] E0 (ai (ao 0) (ai Zk aJ))) dP (fX (a9 (cJ K) (gF (ai (a9 (cS K) Za (bF (dm K) [] E0 (ai (ao 0) (ai Zd aJ)))) (ai Zk aJ))) (ao 2)))) (aU 3)) (yf K))
def Dz(K:Fg):TS:=(bx (cb (fj (Oz) (ai (a9 (eC K) (a9 (nA) (a9 (IV) (fj (Wi K) (ai (uT (vR K) (a9 (cJ K) (ao 0) Zb) dP (fX Za)) aJ)) Zm) (tC (.int 16))) Zk) aJ)) (aU 2)) (yg K))
end Bg
end
section
namespace Bg
open PySem L2
abbrev abc:Str:="abcdefghijklmnopqrstuvwxyz"
def JQ:abc.length<=av:=by decide +kernel
def one(c:Nat):Str:=⟨#[c]⟩
def Fy:∀cs:List Nat,(Txt.join "" (cs.map one)).cps.toList=cs
 |[]=>by decide +kernel
 |c::r=>by
  unfold Txt.join;rw[StrLaws.glued_eq_join]
  induction r generalizing c with
  |nil=>rfl
  |cons d r ih=>
   show(one c++("":Str)++Str.join "" ((d::r).map one)).cps.toList=_;have e:(one c++("":Str)++Str.join "" ((d::r).map one)).cps.toList=(one c).cps.toList++("":Str).cps.toList++(Str.join "" ((d::r).map one)).cps.toList:=by
    show((one c).cps++("":Str).cps++(Str.join "" ((d::r).map one)).cps).toList=_;rw[eT,eT]
   rw[e,ih d];rfl
def oV(y:Str):y.length=y.cps.toList.length:=by
 show y.cps.size=_;rw[bg]
def Fn:∀j:Nat,j<26->abc.cps.toList[j]?=some (97+j):=by decide +kernel
def OL:∀y∈vp,y.length<=4:=by decide +kernel
def Mi:∀y∈vp,y.cps.toList.getLast?≠some 120:=by decide +kernel
def JV(y:Str):(y++"x").cps.toList=y.cps.toList++[120]:=by
 show(y.cps++("x":Str).cps).toList=_;rw[eT];rfl
def Ga{y:Str}{cs:List Nat}(h:y.cps.toList=cs)(l1:1<=cs.length)(l8:cs.length<=8)(a:∀c∈cs,97<=c/\c<=122)(n:y∉vp):Nm y:=
 ⟨by rw[oV,h];exact l1,by rw[oV,h];exact l8,by rw[h];exact a,n⟩
def Vi{y:Str}{cs:List Nat}(h:y.cps.toList=cs)(l8:cs.length<=7)(a:∀c∈cs,97<=c/\c<=122):Nm (y++"x"):=by
 have e:=JV y;rw[h] at e;refine⟨by rw[oV,e,aG];simp,by rw[oV,e,aG];simp;lia,λc hc=>?_,λhm=>?_⟩
 ·rw[e] at hc;rcases aT.mp hc with z|z
  ·exact a c z
  ·rw[aw.mp z];decide
 ·have:=Mi _ hm;rw[e,List.getLast?_append] at this;exact this rfl
def V5(st b l:ar)(n sz at':Nat)(f:Int)(H4:Hp)(i:Nat):St->Hp->Prop:=λσ' H'=>∃(ys:List Str) (o1 o2 o3:Option V),σ'=[some (.ref st),some (.int (n:Nat)),some (.str abc),some (.int (sz:Nat)),some (.int (at':Nat)),some (.int f),some (.ref b),some (.ref l),o1,o2,o3]/\H' l=some (.lst (ys.map V.str))/\ys.length=i/\(∀y∈ys,Nm y)/\(∀(j:Nat) y,ys[j]?=some y->y.cps.toList[at']?=some (97+((f+5*(j:Int)) % 26).toNat))/\iq l (upd H4 l (.lst [])) H'
def RC{K:Fg}{vs:List V}{H:Hp}{Q:VK}{E:XK}(h:vx K vs H Q E):Kx K {nx:=λ_ H'=>Q .non H',rt:=Q} (cI DM vs) H:=by
 obtain⟨st,n,k,rfl,S,hk,hn,q⟩:=h;refine⟨_,rfl,st,8,k,rfl,S,by lia,by decide,by decide,λd H1 d0 d1 S1 B1=>.inl ⟨_,_,rfl,rfl,?_⟩⟩;obtain⟨sz,hsz,z1,z8⟩:∃sz:Nat,(1:Int)+d=(sz:Int)/\1<=sz/\sz<=8:=⟨(1+d).toNat,by lia,by lia,by lia⟩;show A5 K _ [some (.ref st),some (.int (n:Nat)),some (.str abc),some (.int ((1:Int)+d)),none,none,none,none,none,none,none] H1;rw[hsz];refine⟨_,rfl,_,rfl,st,_,k+1,rfl,S1,by lia,by lia,by lia,λa H2 a0 a1 S2 B2'=>?_⟩;obtain⟨at',rfl⟩:∃j:Nat,a=(j:Int):=⟨a.toNat,by lia⟩;have B2:=B1.trans B2';refine⟨_,rfl,st,26,k+2,rfl,S2,by lia,by decide,by decide,λf H3 f0 f1 S3 B3'=>?_⟩;have B3:=B2.trans B3';refine⟨_,rfl,_,rfl,by lia,by lia,λb hb=>?_⟩;obtain⟨ys3,hs3⟩:=S3.lst;have nb:b≠st:=λz=>by rw[z,hs3] at hb;cases hb
 refine zK (λi σ' H'=>∃(bc:List Nat) (kk:Nat) (o:Option V),σ'=[some (.ref st),some (.int (n:Nat)),some (.str abc),some (.int (sz:Nat)),some (.int (at':Nat)),some (.int f),none,none,none,none,none,o]/\
  H' b=some (.lst ((bc.map one).map V.str))/\bc.length=i/\(∀c∈bc,97<=c/\c<=122)/\lF K H' st kk/\kk<=k+3+i/\iq st H H') ?_ ?_ ?_
 ·exact⟨[],k+3,none,rfl,aj,rfl,by simp,S3.new hb,by lia,B3.new hb⟩
 ·rintro i σ' H' hi ⟨bs,kk,o,rfl,hbl,hlen,hone,S4,hkk,B4⟩;have hi:i<sz:=by simpa using hi
  refine jc ?_;refine⟨_,rfl,_,rfl,_,rfl,.inl ⟨_,_,rfl,rfl,.inl ⟨by decide,by decide⟩,_,rfl,st,4,kk,rfl,S4,by lia,by decide,by decide,λe H5 e0 e1 S5 B5=>.inl ⟨_,_,rfl,rfl,.inr ⟨by lia,by lia⟩,.inl ⟨_,_,rfl,rfl,_,_,rfl,rfl,(by show(0:Int)<26;decide),?_⟩⟩⟩⟩;have x0:0<=(f+7*(0+(i:Int))*e) % 26:=dS _ (by decide);have x1:(f+7*(0+(i:Int))*e) % 26<26:=dQ _ (by decide);refine Vd JQ x0 (Fn _ (by lia)) ?_;have x2:((f+7*(0+(i:Int))*e) % 26).toNat<26:=by lia
  generalize ((f+7*(0+(i:Int))*e) % 26).toNat=x at x2;have h5:=B5 b _ nb hbl;refine⟨_,h5,cq (by rw[ae,ae];lia),bs++[97+x],kk+1,_,rfl,?_,by simp[hlen],?_,?_,by lia,?_⟩
  ·rw[aj,aN,aN];rfl
  ·intro y hy;rcases aT.mp hy with z|z
   ·exact hone y z
   ·rw[aw.mp z];lia
  ·exact S5.mono .upd_at h5 (Ne.symm nb)
  ·exact λc' u n' h'=>by
    have w:=(B4.trans B5) c' u n' h';have ncb:c'≠b:=λz=>by
     have:H c'=none:=(B3.free (λz'=>n' z') (by rw[z];exact hb));rw[this] at h';cases h'
    rw[aK ncb];exact w
 ·rintro σ' H4 ⟨bs,kk,o,rfl,hbl,hlen,hone,S4,hkk,B4⟩;have hlen:bs.length=sz:=by simpa using hlen
  have hkk:kk<=k+3+sz:=by simpa using hkk
  refine⟨Zx,λl hl=>?_⟩;have nlb:b≠l:=aB hbl hl;obtain⟨ys4,hs4⟩:=S4.lst;have nls:st≠l:=aB hs4 hl;have Hl:H l=none:=B4.free (Ne.symm nls) hl;show Du K _ [some (.ref st),some (.int (n:Nat)),some (.str abc),some (.int (sz:Nat)),some (.int (at':Nat)),some (.int f),some (.ref b),some (.ref l),none,none,none] (upd H4 l (.lst []));refine⟨_,rfl,_,rfl,by lia,by lia,jy (V5 st b l n sz at' f H4) ⟨[],none,none,none,rfl,aj,rfl,by simp,by simp,.refl _ _⟩ ?_ ?_⟩
  ·rintro i σ' H5 hi ⟨ys,o1,o2,o3,rfl,hyl,ylen,yok,ycd,B5⟩;have hi:i<n:=by simpa using hi
   have hb5:H5 b=some (.lst ((bs.map one).map V.str)):=B5 b _ nlb (by rw[aK nlb];exact hbl);refine⟨_,rfl,_,rfl,_,rfl,.inl ⟨b,_,rfl,cB.of hb5,λp1 hp1=>?_⟩⟩;rw[mF,<-fP,<-fP];have np1b:b≠p1:=aB hb5 hp1;have np1l:l≠p1:=aB hyl hp1;refine⟨_,rfl,_,rfl,_,rfl,.inl ⟨_,_,rfl,rfl,.inl ⟨by decide,by decide⟩,.inl ⟨_,_,rfl,rfl,_,_,rfl,rfl,(by show(0:Int)<26;decide),?_⟩⟩⟩;have e00:(0:Int)+(i:Int)=(i:Int):=by lia
   rw[e00];have x0:0<=(f+5*(i:Int)) % 26:=dS _ (by decide);have x1:(f+5*(i:Int)) % 26<26:=dQ _ (by decide);obtain⟨c,hc⟩:∃c,c=97+((f+5*(i:Int)) % 26).toNat:=⟨_,rfl⟩;refine Vd JQ x0 (by rw[Fn _ (by lia),<-hc]) ⟨Zy,λp2 hp2=>?_⟩;have np12:p1≠p2:=aB aj hp2;have np2b:b≠p2:=aB (by rw[aK np1b];exact hb5) hp2;have np2l:l≠p2:=aB (by rw[aK np1l];exact hyl) hp2;refine .inr (.inr (.inl ⟨p1,p2,_,_,rfl,rfl,by rw[aK np12,aj],aj,?_,λp3 hp3=>?_⟩))
   ·have:=cq (n:=9) (by decide);rw[ae,ae,a8];show min at' bs.length+1<=av;lia
   have np13:p1≠p3:=aB (by rw[aK np12];exact aj) hp3;have np3b:b≠p3:=aB (by rw[aK np2b,aK np1b];exact hb5) hp3;have np3l:l≠p3:=aB (by rw[aK np2l,aK np1l];exact hyl) hp3;refine⟨_,rfl,_,rfl,.inl ⟨_,_,rfl,rfl,_,rfl,.inl ⟨b,_,rfl,cB.of (by rw[aK np3b,aK np2b,aK np1b];exact hb5),λp4 hp4=>?_⟩⟩⟩;rw[show((at':Int)+1)=((at'+1:Nat):Int) by lia,zM,<-nK,<-nK];have np34:p3≠p4:=aB aj hp4;have np4l:l≠p4:=aB (by rw[aK np3l,aK np2l,aK np1l];exact hyl) hp4;refine .inr (.inr (.inl ⟨p3,p4,_,_,rfl,rfl,by rw[aK np34,aj],aj,?_,λp5 hp5=>?_⟩))
   ·have:=cq (n:=100) (by decide);rw[aG,ae,ae,ae,ae,a8,dW];show min at' bs.length+1+(bs.length-(at'+1))<=av;lia
   have np5l:l≠p5:=aB (by rw[aK np4l,aK np3l,aK np2l,aK np1l];exact hyl) hp5;have ew:((bs.take at').map one).map V.str++[V.str ⟨#[c]⟩]++((bs.drop (at'+1)).map one).map V.str=((bs.take at'++[c]++bs.drop (at'+1)).map one).map V.str:=by rw[aN,aN,aN,aN];rfl
   rw[ew];have wl:(bs.take at'++[c]++bs.drop (at'+1)).length=sz:=by rw[aG,aG,a8,dW,cM];lia
   have wone:∀y∈bs.take at'++[c]++bs.drop (at'+1),97<=y/\y<=122:=λy hy=>by
    rcases aT.mp hy with z|z
    ·rcases aT.mp z with z|z
     ·exact hone y (dR z)
     ·rw[aw.mp z];lia
    ·exact hone y (gm z)
   have wat:(bs.take at'++[c]++bs.drop (at'+1))[at']?=some c:=by
    have tl:(bs.take at').length=at':=by rw[a8];lia
    rw[fq,bT (by lia),tl,lU];rfl
   generalize bs.take at'++[c]++bs.drop (at'+1)=w at wl wone wat ⊢;have B6:=((((B5.new (o:=.lst (((bs.take at').map one).map V.str)) hp1).new (o:=.lst [V.str ⟨#[c]⟩]) hp2).new (o:=.lst (((bs.take at').map one).map V.str++[V.str ⟨#[c]⟩])) hp3).new (o:=.lst (((bs.drop (at'+1)).map one).map V.str)) hp4).new (o:=.lst ((w.map one).map V.str)) hp5;have h6:(upd (upd (upd (upd (upd H5 p1 (.lst (((bs.take at').map one).map V.str))) p2 (.lst [V.str ⟨#[c]⟩])) p3 (.lst (((bs.take at').map one).map V.str++[V.str ⟨#[c]⟩]))) p4 (.lst (((bs.drop (at'+1)).map one).map V.str))) p5 (.lst ((w.map one).map V.str))) l=some (.lst (ys.map V.str)):=by
    rw[aK np5l,aK np4l,aK np3l,aK np2l,aK np1l];exact hyl
   have g6:(upd (upd (upd (upd (upd H5 p1 (.lst (((bs.take at').map one).map V.str))) p2 (.lst [V.str ⟨#[c]⟩])) p3 (.lst (((bs.take at').map one).map V.str++[V.str ⟨#[c]⟩]))) p4 (.lst (((bs.drop (at'+1)).map one).map V.str))) p5 (.lst ((w.map one).map V.str))) p5=some (.lst ((w.map one).map V.str)):=aj;generalize (upd (upd (upd (upd (upd H5 p1 (.lst (((bs.take at').map one).map V.str))) p2 (.lst [V.str ⟨#[c]⟩])) p3 (.lst (((bs.take at').map one).map V.str++[V.str ⟨#[c]⟩]))) p4 (.lst (((bs.drop (at'+1)).map one).map V.str))) p5 (.lst ((w.map one).map V.str)))=H6 at B6 h6 g6 ⊢;have wsum:((w.map one).map (·.length)).sum=w.length:=by
    rw[dM,show((λx:Str=>x.length) ∘ one)=λ_=>1 from rfl,List.map_const',List.sum_replicate_nat,Nat.mul_one]
   refine⟨rfl,_,rfl,"",p5,w.map one,rfl,rfl,cB.of g6,?_,?_⟩
   ·have e:("":Str).length=0:=by decide +kernel
    rw[wsum,e,Nat.mul_zero];lia
   have jl:=Fy w;generalize Txt.join "" (w.map one)=nmw at jl ⊢;show Dt K _ [some (.ref st),some (.int (n:Nat)),some (.str abc),some (.int (sz:Nat)),some (.int (at':Nat)),some (.int f),some (.ref b),some (.ref l),some (.int (i:Int)),some (.ref p5),some (.str nmw)] H6;have nl:nmw.length=sz:=by rw[oV,jl,wl]
   have app:∀(nw:Str) (H7:Hp),Nm nw->nw.cps.toList[at']?=some c->iq l (upd H4 l (.lst [])) H7->H7 l=some (.lst (ys.map V.str))->Ds K {nx:=V5 st b l n sz at' f H4 (i+1),rt:=Q,ct:=V5 st b l n sz at' f H4 (i+1),bk:=Dr K {nx:=λ_ H'=>Q .non H',rt:=Q}} [some (.ref st),some (.int (n:Nat)),some (.str abc),some (.int (sz:Nat)),some (.int (at':Nat)),some (.int f),some (.ref b),some (.ref l),some (.int (i:Int)),some (.ref p5),some (.str nw)] H7:=λnw H7 w1 w2 B7 h7=>by
    refine⟨_,rfl,.inl ⟨rfl,_,cB.of h7⟩,_,rfl,l,_,_,rfl,rfl,h7,cq (by rw[ae];lia),?_⟩;refine⟨ys++[nw],_,_,_,rfl,?_,by simp[ylen],?_,?_,B7.trans .upd_at⟩
    ·rw[aj,aN];rfl
    ·intro y hy;rcases aT.mp hy with z|z
     ·exact yok y z
     ·rw[aw.mp z];exact w1
    ·intro j y hy;by_cases cj:j<ys.length
     ·rw[cE cj] at hy;exact ycd j y hy
     ·have cj2:j=i:=by
       have:=(ak.mp hy).1;rw[aG,cM] at this;lia
      subst cj2;rw[bT (by lia),ylen,lU] at hy;cases hy;rw[<-hc];exact w2
   refine⟨_,rfl,ZE,λt ht=>⟨t,_,rfl,.inr (eO.of aj),rfl,rfl,_,rfl,?_⟩⟩;have ntl:l≠t:=aB h6 ht;have B7:=B6.new (o:=.tup [V.str "part",V.str "call",V.str "say",V.str "jump",V.str "test",V.str "give"]) ht;have h7:(upd H6 t (.tup [V.str "part",V.str "call",V.str "say",V.str "jump",V.str "test",V.str "give"])) l=some (.lst (ys.map V.str)):=by rw[aK ntl];exact h6
   have xl:("x":Str).length=1:=by decide +kernel
   have xat:(nmw++"x").cps.toList[at']?=some c:=by
    rw[JV,jl,cE (by rw[wl];lia)];exact wat
   show if lY (.str nmw) (vp.map V.str)=true then _ else _;rw[hU];refine bC (λhin=>?_) (λhin=>?_)
   ·refine⟨_,rfl,.inr (.inl ⟨_,_,rfl,rfl,by rw[xl];have:=cq (n:=100) (by decide);lia,?_⟩)⟩;have z4:=OL _ hin;exact app _ _ (Vi jl (by rw[wl];lia) wone) xat B7 h7
   ·refine⟨_,rfl,_,_,rfl,rfl,_,rfl,bC (λh8=>?_) (λ_=>?_)⟩
    ·refine⟨_,rfl,_,rfl,.inl ⟨_,_,rfl,rfl,_,_,rfl,rfl,(by show(0:Int)<3;decide),.inl ⟨rfl,_,rfl,bC (λ_=>?_) (λ_=>?_)⟩⟩⟩
     ·refine⟨_,rfl,.inr (.inl ⟨_,_,rfl,rfl,by rw[xl];have:=cq (n:=100) (by decide);lia,?_⟩)⟩;exact app _ _ (Vi jl (by rw[wl];lia) wone) xat B7 h7
     ·exact app _ _ (Ga jl (by lia) (by lia) wone hin) (by rw[jl];exact wat) B7 h7
    ·exact f6 (app _ _ (Ga jl (by lia) (by lia) wone hin) (by rw[jl];exact wat) B7 h7)
  ·rintro σ' H5 ⟨ys,o1,o2,o3,rfl,hyl,ylen,yok,ycd,B5⟩;have ylen:ys.length=n:=by simpa using ylen
   have nd:ys.Nodup:=by
    rw[List.Nodup,List.pairwise_iff_getElem];intro i j hi hj lt e;have e1:=ycd i _ (af hi);have e2:=ycd j _ (af hj);rw[e,e2] at e1;have e3:=Option.some.inj e1;have a1:0<=(f+5*(i:Int)) % 26:=dS _ (by decide);have a2:0<=(f+5*(j:Int)) % 26:=dS _ (by decide);lia
   refine⟨_,rfl,q l ys kk H5 Hl ylen nd yok hyl ((S4.new hl).mono B5 aj nls) (by lia) (B4.through hl B5)⟩
structure MJ(rl:ar)(H:Hp)(R:bS->Prop)(n:Nat)(H':Hp)(rvs:List V)(rs:List bS):Prop where
 at_:H' rl=some (.lst rvs)
 all:cR (e6 H') rvs rs
 len:rs.length=n
 rough:∀r∈rs,R r
 but:iq rl H H'
def MJ.vlen{rl:ar}{H H':Hp}{R:bS->Prop}{n:Nat}{rvs:List V}{rs:List bS}(m:MJ rl H R n H' rvs rs):rvs.length=n:=m.all.len.trans m.len
def MJ.grown{rl:ar}{H H' H2:Hp}{R:bS->Prop}{n:Nat}{rvs:List V}{rs:List bS}(m:MJ rl H R n H' rvs rs)(s:aL H' H2):MJ rl H R n H2 rvs rs:=
 ⟨s _ _ m.at_,m.all.imp λ_ _ z=>z.mono (.of_same s),m.len,m.rough,λb o nb h=>s _ _ (m.but b o nb h)⟩
def MJ.set{rl:ar}{H H':Hp}{R:bS->Prop}{n:Nat}{rvs:List V}{rs:List bS}{v:V}{r:bS}(j:Nat)(m:MJ rl H R n H' rvs rs)(q:e6 H' v r)(ro:R r) :
  MJ rl H R n (upd H' rl (.lst (rvs.set j v))) (rvs.set j v) (rs.set j r):=by
 have t:Tp H' (upd H' rl (.lst (rvs.set j v))):=(Tp.refl H').lst m.at_;refine⟨aj,(m.all.set q).imp λ_ _ z=>z.mono t,by rw[fG];exact m.len,λr' hr'=>?_,m.but.trans .upd_at⟩;rcases List.mem_or_eq_of_mem_set hr' with z|z
 ·exact m.rough r' z
 ·rw[z];exact ro
def MJ.get{rl:ar}{H H':Hp}{R:bS->Prop}{n:Nat}{rvs:List V}{rs:List bS}(m:MJ rl H R n H' rvs rs){j:Nat}(hj:j<n):∃p xs r,rvs[j]?=some (.ref p)/\rs[j]?=some r/\H' p=some (.tup (.str (yM r)::xs))/\e6 H' (.ref p) r/\R r:=by
 obtain⟨v,r,e1,e2,q⟩:=m.all.get (i:=j) (by rw[m.len];exact hj);obtain⟨p,xs,rfl,hp⟩:=q.ref;exact⟨p,xs,r,e1,e2,hp,q,m.rough r (aF e2)⟩
def RX(n:Nat)(rs:List bS):Prop:=∃r,rs[n-1]?=some r/\jT r=true
def U1(bare:Bool)(rs:List bS):Prop:=bare=true->∃r,rs[0]?=some r/\zX r=true
def xm{r:bS}(h:yM r="jump"):∃to,r=.jump to:=by
 cases r with
 |jump to=>exact⟨to,rfl⟩
 |num x z=>exact absurd h (by show ¬("num":Str)="jump";decide +kernel)
 |op x s a b=>exact absurd h (by show ¬("op":Str)="jump";decide +kernel)
 |call x k as=>exact absurd h (by show ¬("call":Str)="jump";decide +kernel)
 |say a=>exact absurd h (by show ¬("say":Str)="jump";decide +kernel)
 |test a to=>exact absurd h (by show ¬("test":Str)="jump";decide +kernel)
 |give a=>exact absurd h (by show ¬("give":Str)="jump";decide +kernel)
def Tc{r:bS}(h:yM r="num"):zX r=true:=by
 cases r with
 |num x z=>rfl
 |jump to=>exact absurd h (by show ¬("jump":Str)="num";decide +kernel)
 |op x s a b=>exact absurd h (by show ¬("op":Str)="num";decide +kernel)
 |call x k as=>exact absurd h (by show ¬("call":Str)="num";decide +kernel)
 |say a=>exact absurd h (by show ¬("say":Str)="num";decide +kernel)
 |test a to=>exact absurd h (by show ¬("test":Str)="num";decide +kernel)
 |give a=>exact absurd h (by show ¬("give":Str)="num";decide +kernel)
def Ta{r:bS}(h:lY (.str (yM r)) [V.str "jump",V.str "give"]=true):jT r=true:=by
 cases r with
 |jump to=>rfl
 |give a=>rfl
 |num x z=>exact absurd h (by show ¬lY (.str "num") [V.str "jump",V.str "give"]=true;decide +kernel)
 |op x s a b=>exact absurd h (by show ¬lY (.str "op") [V.str "jump",V.str "give"]=true;decide +kernel)
 |call x k as=>exact absurd h (by show ¬lY (.str "call") [V.str "jump",V.str "give"]=true;decide +kernel)
 |say a=>exact absurd h (by show ¬lY (.str "say") [V.str "jump",V.str "give"]=true;decide +kernel)
 |test a to=>exact absurd h (by show ¬lY (.str "test") [V.str "jump",V.str "give"]=true;decide +kernel)
def yY{a b:Str}(h:V.str a=V.str b):a=b:=by cases h;rfl
def GG{rs:List bS}{n:Nat}(h:∀r,rs[n]?=some r->ic r=false):stp rs n=n:=by
 unfold stp;cases e:rs[n]? with
 |none=>rfl
 |some r=>cases r with
  |jump t=>exact absurd (h _ e) (by show ¬true=false;decide)
  |_=>rfl
def tE{rs:List bS}{n:Nat}(h:∀r,rs[n]?=some r->ic r=false):∀k,runJ rs k n=n
 |0=>rfl
 |k+1=>by
  show runJ rs k (stp rs n)=n;rw[GG h];exact tE h k
def tF(rs:List bS):∀(k n:Nat),runJ rs (k+1) n=stp rs (runJ rs k n)
 |0,n=>rfl
 |k+1,n=>by
  show runJ rs (k+1) (stp rs n)=stp rs (runJ rs k (stp rs n));exact tF rs k (stp rs n)
def OO{rs:List bS}{j:Nat}{r':bS}(hr:ic r'=false)(hj:j<rs.length):∀(k m:Nat),(∀r,rs[runJ rs k m]?=some r->ic r=false)->∀r,(rs.set j r')[runJ (rs.set j r') k m]?=some r->ic r=false:=by
 have at_j:∀r,(rs.set j r')[j]?=some r->ic r=false:=λr e=>by
  rw[bI hj] at e;cases e;exact hr
 intro k
 induction k with
 |zero=>
  intro m h r e;by_cases c:j=m
  ·subst c;exact at_j r e
  ·have e':(rs.set j r')[m]?=some r:=e;rw[b8 c] at e';exact h r e'
 |succ k ih=>
  intro m h r e;by_cases c:j=m
  ·subst c;rw[tE at_j] at e;exact at_j r e
  ·have es:stp (rs.set j r') m=stp rs m:=by unfold stp;rw[b8 c]
   have e':(rs.set j r')[runJ (rs.set j r') k (stp (rs.set j r') m)]?=some r:=e;rw[es] at e';exact ih (stp rs m) h r e'
def Al{r:bS}(h:¬yM r="jump"):ic r=false:=by
 cases r<;>first|rfl|exact absurd rfl h
def V2(rl nm:ar)(bare:Bool)(H:Hp)(R:bS->Prop)(n i:Nat):St->Hp->Prop:=λσ' H'=>∃(rvs:List V) (rs:List bS) (o4 o5 o6:Option V),σ'=[some (.ref rl),some (.ref nm),some (.bl bare),some (.int ((n-1:Nat):Nat)),o4,o5,o6]/\MJ rl H R n H' rvs rs/\RX n rs/\U1 bare rs/\∀m,m<i->∀r,rs[runJ rs n m]?=some r->ic r=false
def OD{K:Fg}{vs:List V}{H:Hp}{Q:VK}{E:XK}(h:xa K vs H Q E):GQ K {nx:=λ_ H'=>Q .non H',rt:=Q} (cI Fi vs) H:=by
 obtain⟨rl,nm,bare,rvs,rs,ys,R,rfl,hrl,hA,hpos,hfew,hR,rSay,rGive,rJump,hnm,ysne,rNum,nnr,hbare,q⟩:=h;obtain⟨n,hn⟩:∃n,n=rs.length:=⟨_,rfl⟩;have n1:1<=n:=by rw[hn];exact cP.mpr hpos
 have n100:n<=100:=by rw[hn];exact hfew
 have M0:MJ rl H R n H rvs rs:=⟨hrl,hA,hn.symm,hR,.refl _ _⟩;refine⟨_,rfl,_,_,rfl,.inl ⟨_,cB.of hrl,rfl⟩,_,_,rfl,rfl,?_⟩;show A4 K _ [some (.ref rl),some (.ref nm),some (.bl bare),some (.int (((rvs.length:Nat):Int)-1)),none,none,none] H;rw[show((rvs.length:Nat):Int)-1=((n-1:Nat):Nat) by rw[M0.vlen];lia];have loop:∀H',V2 rl nm bare H R n 0 [some (.ref rl),some (.ref nm),some (.bl bare),some (.int ((n-1:Nat):Nat)),none,none,none] H'->A2 K {nx:=λ_ H'=>Q .non H',rt:=Q} [some (.ref rl),some (.ref nm),some (.bl bare),some (.int ((n-1:Nat):Nat)),none,none,none] H':=λH' P0=>by
  obtain⟨rvs0,rs0,_,_,_,_,MM,_,_,_⟩:=id P0;refine⟨_,rfl,_,_,rfl,.inl ⟨_,cB.of MM.at_,rfl⟩,_,rfl,by lia,by rw[MM.vlen];lia,jy (λi=>V2 rl nm bare H R n i) P0 ?_ ?_⟩
  ·rintro i σ' H1 hi ⟨rvs,rs,o4,o5,o6,rfl,M,hE,hN,hJ⟩;have hi:i<n:=by rw[MM.vlen] at hi;simpa using hi
   have e0:(0:Int)+(i:Int)=((i:Nat):Int):=by lia
   show A1 K _ [some (.ref rl),some (.ref nm),some (.bl bare),some (.int ((n-1:Nat):Nat)),some (.int ((0:Int)+(i:Int))),o5,o6] H1;rw[e0];refine⟨_,rfl,?_⟩;show A0 K _ [some (.ref rl),some (.ref nm),some (.bl bare),some (.int ((n-1:Nat):Nat)),some (.int (i:Nat)),some (.int (i:Nat)),o6] H1;refine .inl ⟨_,rfl,rl,rfl,⟨_,cB.of M.at_⟩,rS (xs:=rvs) (λj σ H'=>∃(to:Nat) (o:Option V),σ=[some (.ref rl),some (.ref nm),some (.bl bare),some (.int ((n-1:Nat):Nat)),some (.int (i:Nat)),some (.int (to:Nat)),o]/\H'=H1/\to<n/\(∀r,rs[i]?=some r->zX r=true->to=i)/\to=runJ rs j i)
    ⟨i,o6,rfl,rfl,hi,λ_ _ _=>rfl,rfl⟩ (λ_ _ _ _ ⟨_,_,_,e,_⟩=>by rw[e];exact cB.of M.at_) ?_ ?_⟩
   ·rintro j x σ' H2 hx ⟨to,o,rfl,rfl,hto,hk,hrun⟩;obtain⟨p,xs,r,e1,e2,hp,hra,hro⟩:=M.get hto;have e1':rvs[((to:Nat):Int).toNat]?=some (.ref p):=by simpa using e1
    refine⟨_,rfl,_,rfl,pS (cB.of M.at_) (by lia) e1' (Zw hp rfl (.inl ⟨rfl,_,rfl,bC (λhw=>?_) (λhw=>?_)⟩))⟩
    ·obtain⟨t',rfl⟩:=xm (yY hw);obtain⟨p',e3,hp'⟩:=hra;cases e3;refine⟨_,rfl,_,rfl,pS (cB.of M.at_) (by lia) e1' (Zw hp' rfl ?_)⟩;refine⟨t',_,rfl,rfl,by rw[hn];exact rJump _ hro,λr hr hnum=>?_,?_⟩
     ·have:=hk r hr hnum;rw[this] at e2;rw[e2] at hr;cases hr;cases hnum
     ·rw[tF,<-hrun];unfold stp;rw[e2]
    ·refine⟨to,_,rfl,rfl,hto,hk,?_⟩;rw[tF,<-hrun,GG];intro r' hr';rw[e2] at hr';cases hr';exact Al λz=>hw (by rw[z])
   ·rintro σ' H2 ⟨to,o,rfl,rfl,hto,hk,hrun⟩;rw[M.vlen] at hrun;obtain⟨p,xs,r,e1,e2,hp,hra,hro⟩:=M.get hto;have e1':rvs[((to:Nat):Int).toNat]?=some (.ref p):=by simpa using e1
    refine⟨_,rfl,_,rfl,pS (cB.of M.at_) (by lia) e1' (Zw hp rfl (.inl ⟨rfl,_,rfl,bC (λhw=>?_) (λhw=>⟨rvs,rs,_,_,_,rfl,M,hE,hN,λm hm=>?_⟩)⟩))⟩;rotate_left
    ·by_cases cm:m<i
     ·exact hJ m cm
     ·have:m=i:=by lia
      subst this;intro r' hr';rw[<-hrun,e2] at hr';cases hr';exact Al λz=>hw (by rw[z])
    obtain⟨t',rfl⟩:=xm (yY hw);refine⟨Zz,λp1 hp1=>⟨Zz,λp2 hp2=>⟨Zz,λl hl=>?_⟩⟩⟩;have n12:p1≠p2:=aB aj hp2;have n1l:p1≠l:=aB (by rw[aK n12];exact aj) hl;have n2l:p2≠l:=aB aj hl;have sm:aL H2 (upd (upd (upd H2 p1 (.tup [V.str "say",V.str ""])) p2 (.tup [V.str "give",V.str ""])) l (.lst [V.ref p1,V.ref p2])):=(((aL.refl H2).new hp1).new hp2).new hl;have M2:=M.grown sm;have hl2:(upd (upd (upd H2 p1 (.tup [V.str "say",V.str ""])) p2 (.tup [V.str "give",V.str ""])) l (.lst [V.ref p1,V.ref p2])) l=some (.lst [V.ref p1,V.ref p2]):=aj;have h1:(upd (upd (upd H2 p1 (.tup [V.str "say",V.str ""])) p2 (.tup [V.str "give",V.str ""])) l (.lst [V.ref p1,V.ref p2])) p1=some (.tup [V.str "say",V.str ""]):=by rw[aK n1l,aK n12,aj]
    have h2:(upd (upd (upd H2 p1 (.tup [V.str "say",V.str ""])) p2 (.tup [V.str "give",V.str ""])) l (.lst [V.ref p1,V.ref p2])) p2=some (.tup [V.str "give",V.str ""]):=by rw[aK n2l,aj]
    generalize (upd (upd (upd H2 p1 (.tup [V.str "say",V.str ""])) p2 (.tup [V.str "give",V.str ""])) l (.lst [V.ref p1,V.ref p2]))=H3 at M2 hl2 h1 h2 ⊢;have fin:∀(v:V) (r:bS),e6 H3 v r->R r->ic r=false->(i=n-1->jT r=true)->tI (ao 0) (ao 4) qG v [some (.ref rl),some (.ref nm),some (.bl bare),some (.int ((n-1:Nat):Nat)),some (.int (i:Nat)),some (.int (to:Nat)),o] H3 (V2 rl nm bare H R n (i+1)):=λv r hv hr hj he=>by
     refine⟨_,rfl,_,rfl,GD M2.at_ (by lia) (by rw[M2.vlen];simpa using hi) ?_⟩;have ei:((i:Nat):Int).toNat=i:=by simp
     rw[ei];refine⟨_,rs.set i r,_,_,_,rfl,M2.set i hv hr,?_,λhb=>?_,λm hm=>?_⟩
     ·obtain⟨r1,a1,a2⟩:=hE;by_cases c:i=n-1
      ·exact⟨r,by rw[<-c,bI (by rw[M2.len];exact hi)],he c⟩
      ·exact⟨r1,by rw[b8 c];exact a1,a2⟩
     ·obtain⟨r0,a1,a2⟩:=hN hb;have c:i≠0:=λc=>by
       subst c;have:=hk r0 a1 a2;subst this;rw[e2] at a1;cases a1;cases a2
      exact⟨r0,by rw[b8 c];exact a1,a2⟩
     ·have il:i<rs.length:=by rw[M2.len];exact hi
      by_cases cm:m<i
      ·exact OO hj il n m (hJ m cm)
      ·have:m=i:=by lia
       subst this;have atm:∀r',(rs.set m r)[m]?=some r'->ic r'=false:=λr' e=>by rw[bI il] at e;cases e;exact hj
       intro r' hr';rw[tE atm] at hr';exact atm r' hr'
    refine⟨_,rfl,_,rfl,.inl ⟨rfl,?_⟩⟩;refine .inr ⟨_,rfl,?_⟩;by_cases c:i=n-1
    ·have ec:decide (V.int (i:Nat)=V.int ((n-1:Nat):Nat))=true:=by rw[c];exact decide_eq_true rfl
     rw[ec];exact pS (cB.of hl2) (by decide) rfl (fin _ (.give "") ⟨p2,rfl,h2⟩ rGive rfl λ_=>rfl)
    ·have ec:decide (V.int (i:Nat)=V.int ((n-1:Nat):Nat))=false:=decide_eq_false (λz=>c (by injection z with z;lia));rw[ec];exact pS (cB.of hl2) (by decide) rfl (fin _ (.say "") ⟨p1,rfl,h1⟩ rSay rfl λz=>absurd z c)
  ·rintro σ' H1 ⟨rvs,rs',o4,o5,o6,rfl,M,hE,hN,hJ⟩;rw[MM.vlen,dJ] at hJ;refine⟨_,rfl,q rvs rs' H1 M.at_ M.all (M.len.trans hn) M.rough ?_ ?_ (by intro m hm;rw[M.len] at hm ⊢;exact hJ m hm) M.but⟩
   ·obtain⟨r,a1,a2⟩:=hE;rw[cF,M.len,a1,cv,a2]
   ·intro hb;obtain⟨r,a1,a2⟩:=hN hb;rw[jK,a1,cv,a2]
 have second:∀(H':Hp) (rvs:List V) (rs:List bS),MJ rl H R n H' rvs rs->RX n rs->A3 K {nx:=λ_ H'=>Q .non H',rt:=Q} [some (.ref rl),some (.ref nm),some (.bl bare),some (.int ((n-1:Nat):Nat)),none,none,none] H':=λH' rvs rs M hE=>by
  refine⟨_,rfl,bare,rfl,i4 (λhb=>?_) (λhb=>?_)⟩
  ·have n2:2<=n:=by rw[hn];exact hbare hb
   obtain⟨p,xs,r,e1,e2,hp,hra,hro⟩:=M.get (j:=0) (by lia);refine⟨_,rfl,pS (cB.of M.at_) (by decide) e1 (Zw hp rfl (.inl ⟨rfl,_,rfl,jS (λhw=>?_) (λhw=>?_)⟩))⟩
   ·refine⟨_,rfl,_,_,rfl,rfl,_,rfl,bC (λ_=>?_) (λhz=>absurd (show(0:Int)<((n-1:Nat):Nat) by lia) hz)⟩;have hnm':=M.but nm _ nnr hnm;obtain⟨y,yr,rfl⟩:∃y yr,ys=y::yr:=List.exists_cons_of_ne_nil ysne;refine⟨_,rfl,pS (cB.of hnm') (by decide) rfl ⟨ZA,λp2 hp2=>?_⟩⟩;have M2:=M.grown ((aL.refl H').new (o:=.tup [V.str "num",V.str y,V.int 3]) hp2);refine⟨_,rfl,GD M2.at_ (by decide) (by rw[M2.vlen];exact n1) (loop _ ⟨_,rs.set 0 (.num y 3),_,_,_,rfl,M2.set 0 ⟨p2,rfl,aj⟩ (rNum y bZ hb),?_,λ_=>⟨.num y 3,bI (by rw[M.len];exact n1),rfl⟩,λ_ z=>absurd z (bW _)⟩)⟩;obtain⟨r1,a1,a2⟩:=hE;exact⟨r1,by rw[b8 (by lia)];exact a1,a2⟩
   ·exact f6 (loop _ ⟨rvs,rs,_,_,_,rfl,M,hE,λ_=>⟨r,e2,Tc (yY hw)⟩,λ_ z=>absurd z (bW _)⟩)
  ·exact f6 (loop _ ⟨rvs,rs,_,_,_,rfl,M,hE,λhb'=>(by rw[hb] at hb';cases hb'),λ_ z=>absurd z (bW _)⟩)
 obtain⟨p,xs,r,e1,e2,hp,hra,hro⟩:=M0.get (j:=n-1) (by lia);have e1':rvs[((n-1:Nat):Int).toNat]?=some (.ref p):=by simpa using e1
 refine⟨_,rfl,_,rfl,pS (cB.of hrl) (by lia) e1' (Zw hp rfl ⟨Zz,λt ht=>⟨t,_,rfl,.inr (eO.of aj),rfl,rfl,_,rfl,?_⟩⟩)⟩;have M1:=M0.grown ((aL.refl H).new (o:=.tup [V.str "jump",V.str "give"]) ht);refine i4 (λhb=>?_) (λhb=>?_)
 ·refine⟨Zz,λp2 hp2=>?_⟩;have M2:=M1.grown ((aL.refl _).new (o:=.tup [V.str "give",V.str ""]) hp2);refine⟨_,rfl,_,rfl,GD M2.at_ (by lia) (by rw[M2.vlen];lia) ?_⟩;have ei:((n-1:Nat):Int).toNat=n-1:=by simp
  rw[ei];exact second _ _ _ (M2.set (n-1) (r:=.give "") ⟨p2,rfl,aj⟩ rGive) ⟨.give "",bI (by rw[M0.len];lia),rfl⟩
 ·refine second _ _ _ M1 ⟨r,e2,Ta ?_⟩;have hb':(!lY (.str (yM r)) [V.str "jump",V.str "give"])=false:=hb;simpa using hb'
def R5(kl:ar)(H:Hp)(v:V)(ks:List Str):Prop:=∃a,v=.ref a/\a≠kl/\H a=some (.lst (ks.map V.str))
def R5.same{kl:ar}{H H':Hp}{v:V}{ks:List Str}(h:R5 kl H v ks)(s:aL H H'):R5 kl H' v ks:=by
 obtain⟨a,e,n,h⟩:=h;exact⟨a,e,n,s _ _ h⟩
def R5.upd{kl:ar}{H:Hp}{v:V}{ks:List Str}{o:HO}(h:R5 kl H v ks):R5 kl (upd H kl o) v ks:=by
 obtain⟨a,e,n,h⟩:=h;exact⟨a,e,n,by rw[aK n];exact h⟩
def xg(kss:List (List Str)):Nat:=(kss.map gP).sum
def GH:∀{kss:List (List Str)} {m:Nat} {ks kp:List Str},kss[m]?=some ks->xg (kss.set m kp)+ks.length=xg kss+kp.length
 |[],m,ks,kp,h=>by simp at h
 |a::r,0,ks,kp,h=>by
  simp at h;subst h;show kp.length+xg r+a.length=a.length+xg r+kp.length;lia
 |a::r,m+1,ks,kp,h=>by
  have ih:=GH (kss:=r) (m:=m) (ks:=ks) (kp:=kp) (by simpa using h);show a.length+xg (r.set m kp)+ks.length=a.length+xg r+kp.length;lia
structure KJ(kl:ar)(H:Hp)(ys ps:List Str)(w:Str)(n:Nat)(H':Hp)(refs:List V)(kss:List (List Str)):Prop where
 at_:H' kl=some (.lst refs)
 all:cR (R5 kl H') refs kss
 len:kss.length=n
 wit:∀(i:Nat) ks,kss[i]?=some ks->ks.length<=100/\(∀y∈ks,y∈ys)/\(w∈ks\/(i=0/\ps=[]))
 same:aL H H'
def KJ.grown{kl:ar}{H H' H2:Hp}{ys ps:List Str}{w:Str}{n:Nat}{refs:List V}{kss:List (List Str)}(k:KJ kl H ys ps w n H' refs kss)(s:aL H' H2):KJ kl H ys ps w n H2 refs kss:=
 ⟨s _ _ k.at_,k.all.imp λ_ _ z=>z.same s,k.len,k.wit,k.same.trans s⟩
def KJ.vlen{kl:ar}{H H':Hp}{ys ps:List Str}{w:Str}{n:Nat}{refs:List V}{kss:List (List Str)}(k:KJ kl H ys ps w n H' refs kss):refs.length=n:=k.all.len.trans k.len
def KJ.get{kl:ar}{H H':Hp}{ys ps:List Str}{w:Str}{n:Nat}{refs:List V}{kss:List (List Str)}(k:KJ kl H ys ps w n H' refs kss){j:Nat}(hj:j<n):∃a ks,refs[j]?=some (.ref a)/\kss[j]?=some ks/\a≠kl/\H' a=some (.lst (ks.map V.str)):=by
 obtain⟨v,ks,e1,e2,a,rfl,n1,h1⟩:=k.all.get (i:=j) (by rw[k.len];exact hj);exact⟨a,ks,e1,e2,n1,h1⟩
def KJ.set{kl a:ar}{H H':Hp}{ys ps:List Str}{w:Str}{n m:Nat}{refs:List V}{kss:List (List Str)}{kp:List Str}(k:KJ kl H ys ps w n H' refs kss)(hkl:H kl=none)(na:a≠kl)(ha:H' a=some (.lst (kp.map V.str)))
  (hw:kp.length<=100/\(∀y∈kp,y∈ys)/\(w∈kp\/(m=0/\ps=[]))):KJ kl H ys ps w n (upd H' kl (.lst (refs.set m (.ref a)))) (refs.set m (.ref a)) (kss.set m kp):=by
 refine⟨aj,cR.set (k.all.imp λ_ _ z=>z.upd) ⟨a,rfl,na,by rw[aK na];exact ha⟩,by rw[fG];exact k.len,λi ks e=>?_,λb o h=>?_⟩
 ·by_cases c:m=i
  ·subst c;have hi:m<kss.length:=by have:=(ak.mp e).1;rw[fG] at this;exact this
   rw[bI hi] at e;cases e;exact hw
  ·rw[b8 c] at e;exact k.wit i ks e
 ·rw[aK (aB h hkl)];exact k.same _ _ h
def xG{α:Type}(p:α->Bool)(l:List α)(i:Nat)(v:α)(h:l[i]?=some v):(l.take (i+1)).filter p=(l.take i).filter p++(if p v=true then[v] else[]):=by
 rw[bL,h,List.filter_append];cases hp:p v<;>simp[hp]
def Qk{r:bS}(h:lY (.str (yM r)) [V.str "num",V.str "op",V.str "call"]=true):∃x,mJ r=.str x:=by
 cases r with
 |num x z=>exact⟨x,rfl⟩
 |op x s a b=>exact⟨x,rfl⟩
 |call x k as=>exact⟨x,rfl⟩
 |jump to=>exact absurd h (by show ¬lY (.str "jump") [V.str "num",V.str "op",V.str "call"]=true;decide +kernel)
 |say a=>exact absurd h (by show ¬lY (.str "say") [V.str "num",V.str "op",V.str "call"]=true;decide +kernel)
 |test a to=>exact absurd h (by show ¬lY (.str "test") [V.str "num",V.str "op",V.str "call"]=true;decide +kernel)
 |give a=>exact absurd h (by show ¬lY (.str "give") [V.str "num",V.str "op",V.str "call"]=true;decide +kernel)
def RH{H:Hp}{p:ar}{r:bS}{x:Str}(h:e6 H (.ref p) r)(e:mJ r=.str x):∃xs,H p=some (.tup (.str (yM r)::.str x::xs)):=by
 cases r with
 |num y z=>cases e;obtain⟨p',e',h⟩:=h;cases e';exact⟨_,h⟩
 |op y s a b=>cases e;obtain⟨p',e',h⟩:=h;cases e';exact⟨_,h⟩
 |call y k as=>cases e;obtain⟨p',q,e',h,_⟩:=h;cases e';exact⟨_,h⟩
 |jump to=>cases e
 |say a=>cases e
 |test a to=>cases e
 |give a=>cases e
def NQ{ys:List Str}{cs:List Nat}{rs:List bS}{i m j:Nat}{r:bS}(hr:rs[i]?=some r)(ro:zC ys cs rs.length r)(hE:rs.getLast?.map jT=some true)(hm:(eG i r)[j]?=some m):m<rs.length:=by
 have hi:i<rs.length:=(ak.mp hr).1;have nx:jT r=false->i+1<rs.length:=λhe=>by
  by_cases c:i+1<rs.length
  ·exact c
  ·have ei:i=rs.length-1:=by lia
   rw[cF,<-ei,hr,cv,he] at hE;cases hE
 have mem:=aF hm;cases r with
 |jump to=>rw[aw.mp mem];exact ro
 |test a to=>
  rcases aE.mp mem with e|e
  ·rw[e];exact nx rfl
  ·rw[aw.mp e];exact ro.2
 |give a=>cases mem
 |num x z=>rw[aw.mp mem];exact nx rfl
 |op x s a b=>rw[aw.mp mem];exact nx rfl
 |call x k as=>rw[aw.mp mem];exact nx rfl
 |say a=>rw[aw.mp mem];exact nx rfl
def zA(rs:List bS)(i:Nat)(kss:List (List Str)):Prop:=∀(n m:Nat) r ks km,n<i->rs[n]?=some r->m∈eG n r->kss[n]?=some ks->kss[m]?=some km->∀y∈km,y∈ks\/mJ r=.str y
def DZ(ps:List Str)(kss:List (List Str)):Prop:=∀ks,kss[0]?=some ks->∀y∈ks,y∈ps
def DZ.set{ps:List Str}{kss:List (List Str)}{m:Nat}{km kp:List Str}(h:DZ ps kss)(e:kss[m]?=some km)(s:∀y∈kp,y∈km):DZ ps (kss.set m kp):=by
 intro ks e0 y hy;by_cases c:m=0
 ·subst c;have hl:0<kss.length:=(ak.mp e).1;rw[bI hl] at e0;cases e0;exact h km e y (s y hy)
 ·rw[b8 c] at e0;exact h ks e0 y hy
def UU(rl nm pr kl:ar)(H:Hp)(ys ps:List Str)(w:Str)(rs:List bS)(B i:Nat):St->Hp->Prop:=λσ' H'=>∃(refs:List V) (kss:List (List Str)) (more:Bool) (o5 o6 o7 o8:Option V),σ'=[some (.ref rl),some (.ref nm),some (.ref pr),some (.ref kl),some (.bl more),o5,o6,o7,o8]/\KJ kl H ys ps w rs.length H' refs kss/\2*xg kss+more.toNat<=B/\DZ ps kss/\(more=false->zA rs i kss)
def V9(rl nm pr kl:ar)(H:Hp)(ys ps:List Str)(w:Str)(rs:List bS)(B i:Nat)(la l:ar)(ls:List Str)(ms:List Nat)(kss0:List (List Str))(j:Nat):St->Hp->Prop:=λσ' H'=>∃(refs:List V) (kss:List (List Str)) (more:Bool) (o7 o8:Option V),σ'=[some (.ref rl),some (.ref nm),some (.ref pr),some (.ref kl),some (.bl more),some (.int (i:Nat)),some (.ref la),o7,o8]/\KJ kl H ys ps w rs.length H' refs kss/\2*xg kss+more.toNat<=B/\H' la=some (.lst (ls.map V.str))/\H' l=some (.lst (cW ms))/\DZ ps kss/\
 (more=false->kss=kss0/\zA rs i kss0/\∀j',j'<j->∀m km,ms[j']?=some m->kss0[m]?=some km->∀y∈km,y∈ls)
def Bo(a b:ar)(H H':Hp):Prop:=∀c o,c≠a->c≠b->H c=some o->H' c=some o
def Bo.refl(a b:ar)(H:Hp):Bo a b H H:=λ_ _ _ _ h=>h
def Bo.trans{a b:ar}{H H1 H2:Hp}(x:Bo a b H H1)(y:Bo a b H1 H2):Bo a b H H2:=λc o n m h=>y c o n m (x c o n m h)
def Bo.of_l{a b:ar}{H H':Hp}(x:iq a H H'):Bo a b H H':=λc o n _ h=>x c o n h
def Bo.of_r{a b:ar}{H H':Hp}(x:iq b H H'):Bo a b H H':=λc o _ m h=>x c o m h
def Bo.upd_r{a b:ar}{H:Hp}{o:HO}:Bo a b H (upd H b o):=.of_r .upd_at
def Bo.tp{a b:ar}{H H':Hp}{xs ys:List V}(x:Bo a b H H')(ha:H a=some (.lst xs))(hb:H b=some (.lst ys)):Tp H H':=λp zs h=>
 x p _ (by rintro rfl;rw[h] at ha;cases ha) (by rintro rfl;rw[h] at hb;cases hb) h
def Bo.but{a b:ar}{H H1 H2:Hp}(x:iq a H H1)(hb:H b=none)(y:Bo a b H1 H2):iq a H H2:=λc o n h=>y c o n (aB h hb) (x c o n h)
def Ee:V->Nat
 |.str s=>if s="" then 1 else 0
 |.ref _=>4
 |_=>0
def KW(ks:List Str)(H:Hp):V->Prop
 |.str s=>s=""->ks≠[]
 |.int _=>True
 |.ref q=>∃as:List Str,H q=some (.tup (as.map V.str))/\as.length<=4/\ks≠[]
 |_=>False
def KW.mono{ks:List Str}{H H':Hp}{x:V}(h:KW ks H x)(t:Tp H H'):KW ks H' x:=by
 cases x with
 |str s=>exact h
 |int i=>exact h
 |ref q=>obtain⟨as,h1,h2⟩:=h;exact⟨as,t _ _ h1,h2⟩
 |_=>exact h.elim
def MI(ks:List Str)(H:Hp)(y x:V):Prop:=match x with
 |.str s=>(s=""->∃z∈ks,y=.str z)/\(s≠""->y=.str s)
 |.int i=>y=.int i
 |.ref q=>∃(as bs:List Str) (q':ar),H q=some (.tup (as.map V.str))/\y=.ref q'/\H q'=some (.tup (bs.map V.str))/\bs.length=as.length/\∀b∈bs,b∈ks
 |_=>False
def MI.mono{ks:List Str}{H H':Hp}{x y:V}(h:MI ks H y x)(t:Tp H H'):MI ks H' y x:=by
 cases x with
 |str s=>exact h
 |int i=>exact h
 |ref q=>obtain⟨as,bs,q',h1,h2,h3,h4⟩:=h;exact⟨as,bs,q',t _ _ h1,h2,t _ _ h3,h4⟩
 |_=>exact h.elim
def J0{K:Fg}{σ:St}{st kl a:ar}{i k:Nat}{refs:List V}{ks:List Str}{H:Hp}{Q:VK}(h0:σ[0]?=some (some (.ref st)))(h2:σ[2]?=some (some (.ref kl)))(h4:σ[4]?=some (some (.int (i:Nat))))
  (hkl:H kl=some (.lst refs)) (hr:refs[i]?=some (.ref a)) (ha:H a=some (.lst (ks.map V.str))) (ne:ks≠[]) (len:ks.length<=100) (S:lF K H st k) (hk:k<=900000) (na:a≠st)
  (q:∀(y:Str) (H':Hp),y∈ks->lF K H' st (k+1)->iq st H H'->Q (.str y) H') :
  a9 (cJ K) (a9 (cJ K) (ao 2) (ao 4)) (bF (dm K) [] E0 (ai (ao 0) (ai (fj (eX K) (ai (a9 (cJ K) (ao 2) (ao 4)) aJ)) aJ))) σ H Q:=by
 have hl:0<ks.length:=cP.mpr ne;have hr':refs[((i:Nat):Int).toNat]?=some (.ref a):=by simpa using hr
 refine⟨_,h2,_,h4,pS (cB.of hkl) (by lia) hr' ⟨_,h0,_,h2,_,h4,pS (cB.of hkl) (by lia) hr' ⟨_,_,rfl,.inl ⟨_,cB.of ha,rfl⟩,st,_,k,rfl,S,by lia,by rw[ae];lia,by rw[ae];lia,λd H1 d0 d1 S1 B1=>?_⟩⟩⟩;rw[ae] at d1;have dl:d.toNat<ks.length:=by lia
 exact pS (cB.of (B1 a _ na ha)) d0 (sy (af dl)) (q _ H1 (ck dl) S1 B1)
def Nw{K:Fg}{st rl kl fd p sm a:ar}{i k:Nat}{refs vs:List V}{ks:List Str}{x:V}{H:Hp}{D:rn}(hkl:H kl=some (.lst refs))(hr:refs[i]?=some (.ref a))(ha:H a=some (.lst (ks.map V.str)))(len:ks.length<=100)(S:lF K H st k)(hk:k<=800000)(na:a≠st)(nk:kl≠st)
  (hsm:H sm=some (.lst vs)) (vl:vs.length<=100) (ns:sm≠st) (ok:KW ks H x)
  (q:∀(y:V) (k':Nat) (H':Hp),MI ks H' y x->H' sm=some (.lst (vs++[y]))->lF K H' st k'->k'<=k+Ee x->Bo st sm H H'->D.nx [some (.ref st),some (.ref rl),some (.ref kl),some (.ref fd),some (.int (i:Nat)),some (.ref p),some (.ref sm),some y] H') :
  AX K D [some (.ref st),some (.ref rl),some (.ref kl),some (.ref fd),some (.int (i:Nat)),some (.ref p),some (.ref sm),some x] H:=by
 have app:∀(y:V) (k':Nat) (H1:Hp),MI ks H1 y x->lF K H1 st k'->k'<=k+Ee x->iq st H H1->AW K D [some (.ref st),some (.ref rl),some (.ref kl),some (.ref fd),some (.int (i:Nat)),some (.ref p),some (.ref sm),some y] H1:=λy k' H1 f S1 l1 B1=>by
  have h1:=B1 sm _ ns hsm;refine⟨_,rfl,.inl ⟨rfl,_,cB.of h1⟩,_,rfl,sm,_,_,rfl,rfl,h1,cq (by lia),?_⟩;exact q y k' _ (f.mono ((Tp.refl H1).lst h1)) aj (S1.mono .upd_at h1 (Ne.symm ns)) l1 ((Bo.of_l B1).trans .upd_r)
 cases x with
 |str s=>
  refine⟨_,rfl,.inl ⟨rfl,_,rfl,bC (λe=>?_) (λe=>?_)⟩⟩
  ·have e':s="":=by cases e;rfl
   refine J0 rfl rfl rfl hkl hr ha (ok e') len S (by lia) na λy H' hy S' B'=>?_;refine app (.str y) _ H' ⟨λ_=>⟨y,hy,rfl⟩,λz=>absurd e' z⟩ S' ?_ B';show k+1<=k+(if s="" then 1 else 0);rw[if_pos e'];exact aD _
  ·refine⟨_,rfl,_,_,_,rfl,.str_tuple _,_,rfl,f6 ?_⟩;exact app (.str s) k H ⟨λz=>absurd (by rw[z]) e,λ_=>rfl⟩ S (by lia) (.refl _ _)
 |int j=>
  refine⟨_,rfl,.inl ⟨rfl,_,rfl,no (λz=>by cases z) ?_⟩⟩;refine⟨_,rfl,_,_,_,rfl,.int_tuple _,_,rfl,f6 ?_⟩;exact app (.int j) k H rfl S (by lia) (.refl _ _)
 |ref t=>
  obtain⟨as,ht,l4,ne⟩:=ok;obtain⟨ys0,hst⟩:=S.lst;have nt:t≠st:=Ne.symm (pY hst ht);refine⟨_,rfl,.inr (.inr (.inl ⟨t,_,_,rfl,rfl,eO.of ht,_,rfl,f6 ?_⟩))⟩;refine⟨_,rfl,_,_,_,rfl,.tup_tuple (eO.of ht),_,rfl,ky ?_⟩;refine .inr ⟨_,rfl,t,rfl,⟨_,eO.of ht⟩,λL hL=>?_⟩;have nL:L≠st:=λz=>by rw[z,hst] at hL;cases hL
  refine zL (xs:=as.map V.str) (λj σ' H'=>∃(bs:List Str) (k':Nat) (o:Option V),σ'=[some (.ref st),some (.ref rl),some (.ref kl),some (.ref fd),some (.int (i:Nat)),some (.ref p),some (.ref sm),some (.ref t),o]/\H' L=some (.lst (bs.map V.str))/\bs.length=j/\(∀b∈bs,b∈ks)/\lF K H' st k'/\k'<=k+j/\iq st H H') ?_ ?_ ?_ ?_
  ·exact⟨[],k,none,rfl,aj,rfl,by simp,S.new hL,by lia,(iq.refl st H).new hL⟩
  ·rintro j σ' H' _ ⟨_,_,_,_,_,_,_,_,_,B⟩;exact eO.of (B t _ nt ht)
  ·rintro j x σ' H' hx ⟨bs,k',o,rfl,hb,bl,bm,S',hk',B'⟩;have jl:j<as.length:=by have:=(ak.mp hx).1;rw[ae] at this;exact this
   refine jc (J0 rfl rfl rfl (B' kl _ nk hkl) hr (B' a _ na ha) ne len S' (by lia) na λy H2 hy S2 B2=>?_);have h2:=B2 L _ nL hb;refine⟨_,h2,cq (by rw[ae];lia),bs++[y],k'+1,_,rfl,by rw[aj,aN];rfl,by simp[bl],λb hb'=>?_,S2.mono .upd_at h2 (Ne.symm nL),by lia,?_⟩
   ·rcases aT.mp hb' with z|z
    ·exact bm b z
    ·rw[aw.mp z];exact hy
   ·exact λc u n h=>by rw[aK (aB h hL)];exact(B'.trans B2) c u n h
  ·rintro σ' H2 ⟨bs,k',o,_,hb,bl,bm,S',hk',B'⟩;rw[ae] at bl hk';refine⟨L,_,rfl,.inl ⟨cB.of hb,λl hl=>?_⟩⟩;have nl:L≠l:=aB hb hl;have h2:=B' t _ nt ht;refine app (.ref l) k' _ ⟨as,bs,l,by rw[aK (aB h2 hl)];exact h2,rfl,aj,bl,bm⟩ (S'.new hl) ?_ (B'.new hl);show k'<=k+4;lia
 |_=>exact ok.elim
def Nh(w:V)(rest:List V):nZ (w::rest) (some 1) none=rest:=by
 unfold nZ;have e1:HT.sIx (w::rest).length 0 (some 1)=1:=by
  rw[show(1:Int)=((1:Nat):Int) from rfl,HT.sIx_nat,aI];lia
 rw[e1,HT.sIx_none,List.drop_succ_cons,my,aI];exact bJ (by lia)
def Ng(w:V){rest:List V}(h:rest≠[]):¬(HT.sIx (w::rest).length 0 (some 1)=0/\HT.sIx (w::rest).length (w::rest).length none=(w::rest).length):=by
 rintro⟨h1,_⟩;rw[show(1:Int)=((1:Nat):Int) from rfl,HT.sIx_nat,aI] at h1;lia
def SX{K:Fg}{st rl kl fd p a:ar}{i k:Nat}{refs fs rest:List V}{w:Str}{ks:List Str}{H:Hp}{D:rn}{o6 o7:Option V}(hkl:H kl=some (.lst refs))(hr:refs[i]?=some (.ref a))(ha:H a=some (.lst (ks.map V.str)))(len:ks.length<=100)(S:lF K H st k)(hk:k<=750000)(na:a≠st)(nk:kl≠st)
  (hp:H p=some (.tup (.str w::rest))) (rne:rest≠[]) (rl4:rest.length<=4) (ok:∀x∈rest,KW ks H x) (cs5:(rest.map Ee).sum<=5) (hfd:H fd=some (.lst fs)) (fl:fs.length<=100) (nf:fd≠st)
  (q:∀(o6 o7:Option V) (p':ar) (vs:List V) (k':Nat) (H':Hp),H' fd=some (.lst (fs++[.ref p']))->H' p'=some (.tup (.str w::vs))->cR (MI ks H') vs rest->lF K H' st k'->k'<=k+5->Bo st fd H H'->D.nx [some (.ref st),some (.ref rl),some (.ref kl),some (.ref fd),some (.int (i:Nat)),some (.ref p),o6,o7] H') :
  uR K D [some (.ref st),some (.ref rl),some (.ref kl),some (.ref fd),some (.int (i:Nat)),some (.ref p),o6,o7] H:=by
 obtain⟨ys0,hst⟩:=S.lst;refine⟨Zx,λsm hsm=>?_⟩;have nsm:sm≠st:=λz=>by rw[z,hst] at hsm;cases hsm
 have s1:aL H (upd H sm (.lst [])):=(aL.refl H).new hsm;have g1:(upd H sm (.lst [])) sm=some (.lst []):=aj;show AY K D [some (.ref st),some (.ref rl),some (.ref kl),some (.ref fd),some (.int (i:Nat)),some (.ref p),some (.ref sm),o7] (upd H sm (.lst []));generalize upd H sm (.lst [])=H1 at s1 g1 ⊢;refine .inr ⟨_,rfl,_,rfl,.inr ⟨p,_,rfl,eO.of (s1 _ _ hp),Ng _ rne,λtp htp=>?_⟩⟩;rw[Nh];have s2:aL H (upd H1 tp (.tup rest)):=s1.new htp;have g2:(upd H1 tp (.tup rest)) sm=some (.lst []):=by rw[aK (aB g1 htp)];exact g1
 have t2:(upd H1 tp (.tup rest)) tp=some (.tup rest):=aj;generalize upd H1 tp (.tup rest)=H2 at s2 g2 t2 ⊢;have nts:tp≠st:=Ne.symm (pY (s2 _ _ hst) t2);have ntm:tp≠sm:=Ne.symm (pY g2 t2);have nfm:fd≠sm:=aB hfd hsm;have nkm:kl≠sm:=aB hkl hsm;have nam:a≠sm:=aB ha hsm;have nps:p≠st:=Ne.symm (pY hst hp);have npm:p≠sm:=aB hp hsm;refine⟨tp,rfl,⟨_,eO.of t2⟩,pR (xs:=rest) (λj σ' H'=>∃(vs:List V) (k':Nat) (o:Option V),σ'=[some (.ref st),some (.ref rl),some (.ref kl),some (.ref fd),some (.int (i:Nat)),some (.ref p),some (.ref sm),o]/\H' sm=some (.lst vs)/\cR (MI ks H') vs (rest.take j)/\lF K H' st k'/\k'<=k+((rest.take j).map Ee).sum/\Bo st sm H2 H') ?_ ?_ ?_ ?_⟩
 ·exact⟨[],k,o7,rfl,g2,.nil,S.same s2,by simp,.refl _ _ _⟩
 ·rintro j σ' H' _ ⟨_,_,_,_,_,_,_,_,B⟩;exact eO.of (B tp _ nts ntm t2)
 ·rintro j x σ' H' hx ⟨vs,k',o,rfl,hvs,hA,S',hk',B'⟩;have jl:j<rest.length:=(ak.mp hx).1;have et:rest.take (j+1)=rest.take j++[x]:=by rw[bL,hx];rfl
  have c5:((rest.take j).map Ee).sum<=5:=by
   have e:=congrArg (λl=>(l.map Ee).sum) (eY j rest);simp only[aN,qx] at e;lia
  have vl:vs.length<=4:=by rw[hA.len,a8];lia
  refine Nw (B' kl _ nk nkm (s2 _ _ hkl)) hr (B' a _ na nam (s2 _ _ ha)) len S' (by lia) na nk hvs (by lia) nsm (((ok x (aF hx)).mono (.of_same s2)).mono (B'.tp (s2 _ _ hst) g2)) λy k2 H3 f h3 S3 l3 B3=>?_;obtain⟨ys1,hst'⟩:=S'.lst;refine⟨vs++[y],k2,_,rfl,h3,?_,S3,?_,B'.trans B3⟩
  ·rw[et];exact(hA.imp λ_ _ z=>z.mono (B3.tp hst' hvs)).snoc f
  ·rw[et,aN,qx];show k2<=k+(((rest.take j).map Ee).sum+(Ee x+0));lia
 ·rintro σ' H3 ⟨vs,k',o,rfl,hvs,hA,S',hk',B'⟩;rw[kj] at hA hk';have h3p:=B' p _ nps npm (s2 _ _ hp);have h3f:=B' fd _ nf nfm (s2 _ _ hfd);obtain⟨ys1,hst'⟩:=S'.lst;have vl:vs.length=rest.length:=hA.len;have vne:vs≠[]:=λz=>rne (di.mp (by rw[<-vl,z];rfl));have BH:iq st H H3:=(Bo.but (s2.but) hsm B');refine⟨_,rfl,.inl ⟨rfl,_,cB.of h3f⟩,_,rfl,Zw h3p rfl ⟨Zy,λt1 ht1=>⟨_,rfl,sm,_,rfl,.inl ⟨cB.of (by rw[aK (aB hvs ht1)];exact hvs),λt4 ht4=>?_⟩⟩⟩⟩;have n14:t1≠t4:=aB aj ht4;refine .inr (.inr (.inr ⟨t1,t4,[.str w],vs,rfl,rfl,eO.of (by rw[aK n14];exact aj),eO.of aj,by simp,?_,λz=>absurd z vne,λ_ t5 ht5=>?_⟩))
  ·have:=cq (n:=100) (by decide);show 1+vs.length<=av;lia
  have s5:aL H3 (upd (upd (upd H3 t1 (.tup [.str w])) t4 (.tup vs)) t5 (.tup (.str w::vs))):=(((aL.refl H3).new ht1).new ht4).new ht5;have g5:(upd (upd (upd H3 t1 (.tup [.str w])) t4 (.tup vs)) t5 (.tup (.str w::vs))) t5=some (.tup (.str w::vs)):=aj;show gZ (.ref fd) [.ref t5] (upd (upd (upd H3 t1 (.tup [.str w])) t4 (.tup vs)) t5 (.tup (.str w::vs))) λx H1=>D.nx [some (.ref st),some (.ref rl),some (.ref kl),some (.ref fd),some (.int (i:Nat)),some (.ref p),some (.ref sm),o] H1;generalize upd (upd (upd H3 t1 (.tup [.str w])) t4 (.tup vs)) t5 (.tup (.str w::vs))=H5 at s5 g5 ⊢;have h5f:=s5 _ _ h3f;refine⟨fd,_,_,rfl,rfl,h5f,cq (by lia),?_⟩;have tp6:Tp H5 (upd H5 fd (.lst (fs++[.ref t5]))):=(Tp.refl H5).lst h5f;refine q _ _ t5 vs k' _ aj (tp6 _ _ g5) ((hA.imp λ_ _ z=>z.mono (.of_same s5)).imp λ_ _ z=>z.mono tp6) ((S'.same s5).mono .upd_at h5f (Ne.symm nf)) (by lia) ?_;exact λc u n m h=>by rw[aK m];exact s5 _ _ (BH c u n h)
def OU{s:Str}(h:s∈jC):s≠"":=by
 intro e;subst e;exact absurd h (by decide +kernel)
def F4{as bs:List Str}(h:as.map V.str=bs.map V.str):as.length=bs.length:=by
 have:=congrArg gP h;simpa using this
def yP{ks:List Str}{H:Hp}{y:V}{s:Str}(h:MI ks H y (.str s))(n:s≠""):y=.str s:=h.2 n
def vg{ks:List Str}{H:Hp}{y:V}(h:MI ks H y (.str "")):∃z∈ks,y=.str z:=h.1 rfl
def yN{s:Str}(n:s≠""):Ee (.str s)=0:=by
 show(if s="" then 1 else 0)=0;rw[if_neg n]
def Wz{vs:List V}(h:vs.length=2):∃a b,vs=[a,b]:=by
 match vs,h with
 |[a,b],_=>exact⟨a,b,rfl⟩
def Wo{vs:List V}(h:vs.length=1):∃a,vs=[a]:=by
 match vs,h with
 |[a],_=>exact⟨a,rfl⟩
def WN{vs:List V}(h:vs.length=3):∃a b c,vs=[a,b,c]:=by
 match vs,h with
 |[a,b,c],_=>exact⟨a,b,c,rfl⟩
def WO{vs:List V}(h:vs.length=4):∃a b c d,vs=[a,b,c,d]:=by
 match vs,h with
 |[a,b,c,d],_=>exact⟨a,b,c,d,rfl⟩
def Qd{H:Hp}{p:ar}{r:bS}{ys ks:List Str}{cs:List Nat}{n:Nat}(hra:e6 H (.ref p) r)(ro:zC ys cs n r)(yne:∀y∈ys,y≠"")(cs4:∀c∈cs,c<=4)(hks:ks≠[]\/zX r=true) :
  ∃rest,H p=some (.tup (.str (yM r)::rest))/\rest≠[]/\rest.length<=4/\(∀x∈rest,KW ks H x)/\(rest.map Ee).sum<=5/\∀(H':Hp) (p':ar) (vs:List V),cR (MI ks H') vs rest->H' p'=some (.tup (.str (yM r)::vs))->Tp H H'->∃r',e6 H' (.ref p') r'/\lC ks r r':=by
 cases r with
 |num x z=>
  obtain⟨p',e,h⟩:=hra;cases e;have xn:=yne x ro.1;refine⟨_,h,by simp,by simp,λv hv=>?_,?_,λH' p' vs hA hp' t=>?_⟩
  ·rcases aE.mp hv with rfl|hv
   ·exact λz=>absurd z xn
   ·rw[aw.mp hv];exact trivial
  ·show Ee (.str x)+(0+0)<=5;rw[yN xn];decide
  ·obtain⟨a,b,rfl⟩:=Wz hA.len;have e1:=yP (hA.at_ 0 _ _ rfl rfl) xn;have e2:b=.int z:=hA.at_ 1 _ _ rfl rfl;subst e1 e2;exact⟨.num x z,⟨p',rfl,hp'⟩,rfl⟩
 |op x s a b=>
  obtain⟨p',e,h⟩:=hra;cases e;obtain⟨xy,ss,rfl,rfl⟩:=ro;have xn:=yne x xy;have sn:=OU ss;have kn:ks≠[]:=hks.resolve_right (by intro z;cases z);refine⟨_,h,by simp,by simp,λv hv=>?_,?_,λH' p' vs hA hp' t=>?_⟩
  ·rcases aE.mp hv with rfl|hv
   ·exact λz=>absurd z xn
   ·rcases aE.mp hv with rfl|hv
    ·exact λz=>absurd z sn
    ·rcases aE.mp hv with rfl|hv
     ·exact λ_=>kn
     ·rw[aw.mp hv];exact λ_=>kn
  ·show Ee (.str x)+(Ee (.str s)+(Ee (.str "")+(Ee (.str "")+0)))<=5;rw[yN xn,yN sn];decide +kernel
  ·obtain⟨v1,v2,v3,v4,rfl⟩:=WO hA.len;have e1:=yP (hA.at_ 0 _ _ rfl rfl) xn;have e2:=yP (hA.at_ 1 _ _ rfl rfl) sn;obtain⟨z3,m3,e3⟩:=vg (hA.at_ 2 _ _ rfl rfl);obtain⟨z4,m4,e4⟩:=vg (hA.at_ 3 _ _ rfl rfl);subst e1 e2 e3 e4;exact⟨.op x s z3 z4,⟨p',rfl,hp'⟩,z3,z4,rfl,m3,m4⟩
 |call x k as=>
  obtain⟨p',q,e,h,hq⟩:=hra;cases e;obtain⟨xy,c,hc,rfl⟩:=ro;have xn:=yne x xy;have kn:ks≠[]:=hks.resolve_right (by intro z;cases z);have c4:=cs4 c (aF hc);refine⟨_,h,by simp,by simp,λv hv=>?_,?_,λH' p' vs hA hp' t=>?_⟩
  ·rcases aE.mp hv with rfl|hv
   ·exact λz=>absurd z xn
   ·rcases aE.mp hv with rfl|hv
    ·exact trivial
    ·rw[aw.mp hv];exact⟨_,hq,by rw[c9];exact c4,kn⟩
  ·show Ee (.str x)+(0+(4+0))<=5;rw[yN xn];decide
  ·obtain⟨v1,v2,v3,rfl⟩:=WN hA.len;have e1:=yP (hA.at_ 0 _ _ rfl rfl) xn;have e2:v2=.int (k:Nat):=hA.at_ 1 _ _ rfl rfl;obtain⟨as',bs,q',hq',e3,h3,hl,hm⟩:=(show MI ks H' v3 (.ref q) from hA.at_ 2 _ _ rfl rfl);subst e1 e2 e3;have:=t _ _ hq;rw[hq'] at this;have e:=F4 (HO.tup.inj (Option.some.inj this));exact⟨.call x k bs,⟨p',q',rfl,hp',h3⟩,bs,rfl,hl.trans e,hm⟩
 |say a=>
  obtain⟨p',e,h⟩:=hra;cases e;have ro:a="":=ro;subst ro;have kn:ks≠[]:=hks.resolve_right (by intro z;cases z);refine⟨_,h,by simp,by simp,λv hv=>?_,?_,λH' p' vs hA hp' t=>?_⟩
  ·rw[aw.mp hv];exact λ_=>kn
  ·show Ee (.str "")+0<=5
   decide +kernel
  ·obtain⟨v1,rfl⟩:=Wo hA.len;obtain⟨z,m,e⟩:=vg (hA.at_ 0 _ _ rfl rfl);subst e;exact⟨.say z,⟨p',rfl,hp'⟩,z,rfl,m⟩
 |jump to=>
  obtain⟨p',e,h⟩:=hra;cases e;refine⟨_,h,by simp,by simp,λv hv=>?_,?_,λH' p' vs hA hp' t=>?_⟩
  ·rw[aw.mp hv];exact trivial
  ·show 0+0<=5
   decide
  ·obtain⟨v1,rfl⟩:=Wo hA.len;have e:v1=.int (to:Nat):=hA.at_ 0 _ _ rfl rfl;subst e;exact⟨.jump to,⟨p',rfl,hp'⟩,rfl⟩
 |test a to=>
  obtain⟨p',e,h⟩:=hra;cases e;obtain⟨ro,_⟩:a=""/\_:=ro;subst ro;have kn:ks≠[]:=hks.resolve_right (by intro z;cases z);refine⟨_,h,by simp,by simp,λv hv=>?_,?_,λH' p' vs hA hp' t=>?_⟩
  ·rcases aE.mp hv with rfl|hv
   ·exact λ_=>kn
   ·rw[aw.mp hv];exact trivial
  ·show Ee (.str "")+(0+0)<=5
   decide +kernel
  ·obtain⟨v1,v2,rfl⟩:=Wz hA.len;obtain⟨z,m,e⟩:=vg (hA.at_ 0 _ _ rfl rfl);have e2:v2=.int (to:Nat):=hA.at_ 1 _ _ rfl rfl;subst e e2;exact⟨.test z to,⟨p',rfl,hp'⟩,z,rfl,m⟩
 |give a=>
  obtain⟨p',e,h⟩:=hra;cases e;have ro:a="":=ro;subst ro;have kn:ks≠[]:=hks.resolve_right (by intro z;cases z);refine⟨_,h,by simp,by simp,λv hv=>?_,?_,λH' p' vs hA hp' t=>?_⟩
  ·rw[aw.mp hv];exact λ_=>kn
  ·show Ee (.str "")+0<=5
   decide +kernel
  ·obtain⟨v1,rfl⟩:=Wo hA.len;obtain⟨z,m,e⟩:=vg (hA.at_ 0 _ _ rfl rfl);subst e;exact⟨.give z,⟨p',rfl,hp'⟩,z,rfl,m⟩
def OC{K:Fg}{vs:List V}{H:Hp}{Q:VK}{E:XK}(h:w9 K vs H Q E):GL K {nx:=λ_ H'=>Q .non H',rt:=Q} (cI zo vs) H:=by
 obtain⟨st,rl,kl,k,rvs,refs,rs,kss,ys,cs,rfl,S,hk,hrl,hA,hOk,yne,cs4,hkl,hT,klen,k100,kne,rst,nrl,nkl,q⟩:=h;obtain⟨ys0,hst⟩:=S.lst;refine⟨Zx,λfd hfd=>?_⟩;have nf:fd≠st:=λz=>by rw[z,hst] at hfd;cases hfd
 have s1:aL H (upd H fd (.lst [])):=(aL.refl H).new hfd;have g1:(upd H fd (.lst [])) fd=some (.lst []):=aj;show AZ K _ [some (.ref st),some (.ref rl),some (.ref kl),some (.ref fd),none,none,none,none] (upd H fd (.lst []));generalize upd H fd (.lst [])=H1 at s1 g1 ⊢;refine⟨_,rfl,rl,rfl,⟨_,cB.of (s1 _ _ hrl)⟩,vh (xs:=rvs) (λi σ' H'=>∃(fs:List V) (rs':List bS) (k':Nat) (o4 o5 o6 o7:Option V),σ'=[some (.ref st),some (.ref rl),some (.ref kl),some (.ref fd),o4,o5,o6,o7]/\H' fd=some (.lst fs)/\cR (e6 H') fs rs'/\rs'.length=i/\
  (∀(j:Nat) ks r r',kss[j]?=some ks->rs[j]?=some r->rs'[j]?=some r'->lC ks r r')/\lF K H' st k'/\k'<=k+5*i/\iq st H H') ?_ ?_ ?_ ?_⟩
 ·exact⟨[],[],k,none,none,none,none,rfl,g1,.nil,rfl,λj ks r r' _ _ z=>by simp at z,S.same s1,by lia,s1.but⟩
 ·rintro i σ' H' _ ⟨_,_,_,_,_,_,_,_,_,_,_,_,_,_,B⟩;exact cB.of (B rl _ nrl hrl)
 ·rintro i x σ' H' tp hx htp ⟨fs,rs',k',o4,o5,o6,o7,rfl,hfs,hR,rlen,hF,S',hk',B'⟩;obtain⟨r,hr,hra⟩:=hA.of_v hx;obtain⟨p,xs,rfl,_⟩:=hra.ref;have il:i<rs.length:=(ak.mp hr).1;have few:=hOk.few;obtain⟨v,ks,e1,e2,a,rfl,ha⟩:=hT.get (i:=i) (by rw[klen];exact il);have na:a≠st:=λz=>rst (.ref a) (aF e1) (by rw[z]);have B2:iq st H (upd H' tp (.tup [.int (i:Nat),.ref p])):=B'.new htp;have s2:aL H' (upd H' tp (.tup [.int (i:Nat),.ref p])):=(aL.refl H').new htp;have g2:(upd H' tp (.tup [.int (i:Nat),.ref p])) tp=some (.tup [.int (i:Nat),.ref p]):=aj;generalize upd H' tp (.tup [.int (i:Nat),.ref p])=H2 at B2 s2 g2 ⊢;refine⟨tp,_,rfl,eO.of g2,rfl,_,_,rfl,_,_,rfl,rfl,?_⟩;show uR K _ [some (.ref st),some (.ref rl),some (.ref kl),some (.ref fd),some (.int (i:Nat)),some (.ref p),o6,o7] H2;have T2:Tp H H2:=.of_but B2 hst;obtain⟨rest,h1,h2,h3,h4,h5,h6⟩:=Qd (ks:=ks) (hra.mono T2) (hOk.rough r (aF hr)) yne cs4 (kne i ks r e2 hr);have f2:=s2 _ _ hfs;have S2:=S'.same s2;obtain⟨ys2,hst2⟩:=S2.lst;refine SX (B2 kl _ nkl hkl) e1 (B2 a _ na ha) (k100 i ks e2) S2 (by lia) na nkl h1 h2 h3 h4 h5 f2 (by rw[hR.len,rlen];lia) nf λp6 p7 p' vs k3 H3 f3 g3 hA3 S3 l3 B3=>?_;have T3:Tp H2 H3:=B3.tp hst2 f2;obtain⟨r',hr',hf'⟩:=h6 H3 p' vs hA3 g3 T3;refine⟨fs++[.ref p'],rs'++[r'],k3,_,_,_,_,rfl,f3,((hR.imp λ_ _ z=>(z.mono (.of_same s2)).mono T3)).snoc hr',by simp[rlen],λj ks' r1 r2 a1 a2 a3=>?_,S3,by lia,?_⟩
  ·by_cases c:j<rs'.length
   ·rw[cE c] at a3;exact hF j ks' r1 r2 a1 a2 a3
   ·have c2:j=i:=by
     have:=(ak.mp a3).1;rw[aG,cM] at this;lia
    subst c2;rw[bT (by lia),rlen,lU] at a3;cases a3;rw[e2] at a1;cases a1;rw[hr] at a2;cases a2;exact hf'
  ·exact λc u n h=>by
    have hc:=B2 c u n h;exact B3 c u n (aB h hfd) hc
 ·rintro σ' H' ⟨fs,rs',k',o4,o5,o6,o7,rfl,hfs,hR,rlen,hF,S',hk',B'⟩;rw[hA.len] at rlen hk';refine⟨_,rfl,fd,_,rfl,.inl ⟨cB.of hfs,λl hl=>?_⟩⟩;exact q l fs rs' k' _ aj (hR.imp λ_ _ z=>z.mono ((Tp.refl H').new hl)) rlen hF (S'.new hl) hk' (B'.new hl)
def KA{K:Fg}{H:Hp}{st:ar}{k:Nat}{v:V}{ks:List Str}(S:lF K H st k)(h:DX H v ks):v≠.ref st:=by
 rintro rfl;obtain⟨a,e,h⟩:=h;cases e;obtain⟨scr,ns,c,hs,_⟩:=S;rw[h] at hs;cases ks with
 |nil=>cases hs
 |cons y r=>cases hs
def Ik{ks:List Str}{r r':bS}(h:lC ks r r')(n:Nat):eG n r'=eG n r:=by
 cases r with
 |num x z=>have h:r'=.num x z:=h;subst h;rfl
 |op x s a b=>obtain⟨_,_,rfl,_⟩:=h;rfl
 |call x k as=>obtain⟨_,rfl,_⟩:=h;rfl
 |say a=>obtain⟨_,rfl,_⟩:=h;rfl
 |jump t=>have h:r'=.jump t:=h;subst h;rfl
 |test a t=>obtain⟨_,rfl,_⟩:=h;rfl
 |give a=>obtain⟨_,rfl,_⟩:=h;rfl
def Ll{ks:List Str}{r r':bS}(h:lC ks r r'):mJ r'=mJ r:=by
 cases r with
 |num x z=>have h:r'=.num x z:=h;subst h;rfl
 |op x s a b=>obtain⟨_,_,rfl,_⟩:=h;rfl
 |call x k as=>obtain⟨_,rfl,_⟩:=h;rfl
 |say a=>obtain⟨_,rfl,_⟩:=h;rfl
 |jump t=>have h:r'=.jump t:=h;subst h;rfl
 |test a t=>obtain⟨_,rfl,_⟩:=h;rfl
 |give a=>obtain⟨_,rfl,_⟩:=h;rfl
def Nv{ks:List Str}{r r':bS}(h:lC ks r r'):jT r'=jT r:=by
 cases r with
 |num x z=>have h:r'=.num x z:=h;subst h;rfl
 |op x s a b=>obtain⟨_,_,rfl,_⟩:=h;rfl
 |call x k as=>obtain⟨_,rfl,_⟩:=h;rfl
 |say a=>obtain⟨_,rfl,_⟩:=h;rfl
 |jump t=>have h:r'=.jump t:=h;subst h;rfl
 |test a t=>obtain⟨_,rfl,_⟩:=h;rfl
 |give a=>obtain⟨_,rfl,_⟩:=h;rfl
def Lk{ks:List Str}{r r':bS}(h:lC ks r r'):ic r'=ic r:=by
 cases r with
 |num x z=>have h:r'=.num x z:=h;subst h;rfl
 |op x s a b=>obtain⟨_,_,rfl,_⟩:=h;rfl
 |call x k as=>obtain⟨_,rfl,_⟩:=h;rfl
 |say a=>obtain⟨_,rfl,_⟩:=h;rfl
 |jump t=>have h:r'=.jump t:=h;subst h;rfl
 |test a t=>obtain⟨_,rfl,_⟩:=h;rfl
 |give a=>obtain⟨_,rfl,_⟩:=h;rfl
def Il{ks:List Str}{r r':bS}(h:lC ks r r'):∀y∈gs r',y∈ks:=by
 cases r with
 |num x z=>have h:r'=.num x z:=h;subst h;intro y hy;cases hy
 |op x s a b=>
  obtain⟨c,d,rfl,h1,h2⟩:=h;intro y hy;rcases aE.mp hy with rfl|hy
  ·exact h1
  ·rw[aw.mp hy];exact h2
 |call x k as=>obtain⟨_,rfl,_,h⟩:=h;exact h
 |say a=>obtain⟨_,rfl,h⟩:=h;intro y hy;rw[aw.mp hy];exact h
 |jump t=>have h:r'=.jump t:=h;subst h;intro y hy;cases hy
 |test a t=>obtain⟨_,rfl,h⟩:=h;intro y hy;rw[aw.mp hy];exact h
 |give a=>obtain⟨_,rfl,h⟩:=h;intro y hy;rw[aw.mp hy];exact h
def Qe{ys ks:List Str}{cs:List Nat}{n:Nat}{r r':bS}(ro:zC ys cs n r)(hk:∀y∈ks,y∈ys)(h:lC ks r r'):M4 ys cs n r':=by
 cases r with
 |num x z=>have h:r'=.num x z:=h;subst h;exact ro
 |op x s a b=>obtain⟨c,d,rfl,h1,h2⟩:=h;exact⟨ro.1,ro.2.1,hk _ h1,hk _ h2⟩
 |call x k as=>
  obtain⟨bs,rfl,hl,h⟩:=h;obtain⟨r1,c,r2,r3⟩:=ro;refine⟨r1,?_,λa ha=>hk _ (h a ha)⟩;rw[hl,r3,c9];exact r2
 |say a=>obtain⟨_,rfl,h⟩:=h;exact hk _ h
 |jump t=>have h:r'=.jump t:=h;subst h;exact ro
 |test a t=>obtain⟨_,rfl,h⟩:=h;exact⟨hk _ h,ro.2⟩
 |give a=>obtain⟨_,rfl,h⟩:=h;exact hk _ h
structure tK(rs rs':List bS):Prop where
 len:rs'.length=rs.length
 fill:∀(i:Nat) r r',rs[i]?=some r->rs'[i]?=some r'->∃ks,lC ks r r'
def tK.get{rs rs':List bS}(h:tK rs rs'){i:Nat}{r':bS}(e:rs'[i]?=some r'):∃r ks,rs[i]?=some r/\lC ks r r':=by
 have hi:i<rs.length:=by rw[<-h.len];exact(ak.mp e).1
 obtain⟨ks,f⟩:=h.fill i _ _ (af hi) e;exact⟨_,ks,af hi,f⟩
def tK.stp{rs rs':List bS}(h:tK rs rs')(n:Nat):stp rs' n=stp rs n:=by
 unfold Bg.stp;cases e:rs'[n]? with
 |none=>
  have:rs[n]?=none:=by rw[List.getElem?_eq_none_iff] at e ⊢;rw[<-h.len];exact e
  rw[this]
 |some r'=>
  obtain⟨r,ks,e1,f⟩:=h.get e;rw[e1];cases r with
  |num x z=>have f:r'=.num x z:=f;subst f;rfl
  |op x s a b=>obtain⟨_,_,rfl,_⟩:=f;rfl
  |call x k as=>obtain⟨_,rfl,_⟩:=f;rfl
  |say a=>obtain⟨_,rfl,_⟩:=f;rfl
  |jump t=>have f:r'=.jump t:=f;subst f;rfl
  |test a t=>obtain⟨_,rfl,_⟩:=f;rfl
  |give a=>obtain⟨_,rfl,_⟩:=f;rfl
def tK.runJ{rs rs':List bS}(h:tK rs rs'):∀(k n:Nat),runJ rs' k n=runJ rs k n
 |0,_=>rfl
 |k+1,n=>by
  show Bg.runJ rs' k (Bg.stp rs' n)=Bg.runJ rs k (Bg.stp rs n);rw[h.stp];exact tK.runJ h k _
def tK.ring{rs rs':List bS}(h:tK rs rs')(q:v8 rs):v8 rs':=by
 intro n hn r' e;rw[h.len] at hn;rw[h.len,h.runJ] at e;obtain⟨r,ks,e1,f⟩:=h.get e;rw[Lk f];exact q n hn r e1
def UB{K:Fg}{vs:List V}{H:Hp}{Q:VK}{E:XK}(h:EJ K vs H Q E):O9 K {nx:=λ_ H'=>Q .non H',rt:=Q} (cI Hy vs) H:=by
 obtain⟨st,nm,pr,cn,wd,m,k,ys,ps,cs,rfl,S,hk,hnm,ysne,ysl,yne,hpr,psl,pnd,pin,hcn,csne,csl,cs4,m1,m50,nnm,npr,ncn,q⟩:=h;refine⟨_,rfl,_,_,rfl,.inl ⟨_,cB.of hpr,rfl⟩,.inl ⟨rfl,.inr ⟨_,rfl,.inl ⟨_,_,rfl,rfl,_,rfl,_,rfl,st,_,k,rfl,S,by lia,by lia,by lia,λd H1 d0 d1 S1 B1=>.inl ⟨_,_,rfl,rfl,_,_,rfl,?_⟩⟩⟩⟩⟩;rw[ae];obtain⟨n,hn,n1,n51,nm1,n2⟩:∃n:Nat,(if 1+d>1+(if decide (V.int ((ps.length:Nat):Int)=V.int 0)=true then 1 else 0) then 1+d else 1+(if decide (V.int ((ps.length:Nat):Int)=V.int 0)=true then 1 else 0))=(n:Int)/\1<=n/\n<=52/\n<=m+1/\(ps=[]->2<=n):=by
  by_cases c:ps=[]
  ·have e:decide (V.int ((ps.length:Nat):Int)=V.int 0)=true:=by rw[c];rfl
   rw[e,if_pos rfl];by_cases c2:1+d>1+1
   ·rw[if_pos c2];exact⟨(1+d).toNat,by lia,by lia,by lia,by lia,λ_=>by lia⟩
   ·rw[if_neg c2];exact⟨2,rfl,by lia,by lia,by lia,λ_=>by lia⟩
  ·have e:decide (V.int ((ps.length:Nat):Int)=V.int 0)=false:=decide_eq_false λz=>c (di.mp (by injection z with z;lia));rw[e,if_neg Bool.false_ne_true];by_cases c2:1+d>1+0
   ·rw[if_pos c2];exact⟨(1+d).toNat,by lia,by lia,by lia,by lia,λz=>absurd z c⟩
   ·rw[if_neg c2];exact⟨1,rfl,by lia,by lia,by lia,λz=>absurd z c⟩
 rw[hn];show Ha K _ [some (.ref st),some (.str wd),some (.ref nm),some (.ref pr),some (.ref cn),some (.int (m:Nat)),some (.int (n:Nat)),none,none] H1;refine⟨_,rfl,_,rfl,by lia,by lia,λL hL=>?_⟩;obtain⟨ys1,hs1⟩:=S1.lst;have nL:L≠st:=λz=>by rw[z,hs1] at hL;cases hL
 have HL:H L=none:=B1.free nL hL;refine zK (λi σ' H'=>∃(rvs:List V) (rs:List bS) (k':Nat) (o:Option V),σ'=[some (.ref st),some (.str wd),some (.ref nm),some (.ref pr),some (.ref cn),some (.int (m:Nat)),some (.int (n:Nat)),none,none,o]/\
  H' L=some (.lst rvs)/\cR (e6 H') rvs rs/\rs.length=i/\(∀r∈rs,zC ys cs n r)/\lF K H' st k'/\k'<=k+1+8*i/\iq st H H') ?_ ?_ ?_
 ·exact⟨[],[],k+1,none,rfl,aj,.nil,rfl,by simp,S1.new hL,by lia,B1.new hL⟩
 ·rintro i σ' H' hi ⟨rvs,rs,k',o,rfl,hrl,hA,rlen,ro,S',hk',B'⟩;have hi:i<n:=by simpa using hi
  refine jc ⟨_,rfl,_,rfl,_,rfl,_,rfl,st,nm,cn,n,k',ys,cs,rfl,S',by lia,B' nm _ nnm hnm,ysne,ysl,n1,by lia,B' cn _ ncn hcn,csne,csl,cs4,nnm,ncn,λv r k2 H2 hv hr S2 l2 B2=>?_⟩;have h2:=B2 L _ nL hrl;have t2:Tp H' H2:=by obtain⟨_,e⟩:=S'.lst;exact .of_but B2 e
  have t3:Tp H2 (upd H2 L (.lst (rvs++[v]))):=(Tp.refl H2).lst h2;refine⟨_,h2,cq (by rw[hA.len];lia),rvs++[v],rs++[r],k2,_,rfl,aj,(hA.imp λ_ _ z=>(z.mono t2).mono t3).snoc (hv.mono t3),by simp[rlen],λr' hr'=>?_,S2.mono .upd_at h2 (Ne.symm nL),by lia,?_⟩
  ·rcases aT.mp hr' with z|z
   ·exact ro r' z
   ·rw[aw.mp z];exact hr
  ·exact iq.past (B'.trans B2) HL .upd_at
 ·rintro σ' H2 ⟨rvs,rs,k2,o,_,hrl,hA,rlen,ro,S2,hk2,B2⟩;have rlen:rs.length=n:=by simpa using rlen
  have hk2:k2<=k+1+8*n:=by simpa using hk2
  have nnL:nm≠L:=aB hnm HL;have npL:pr≠L:=aB hpr HL;have Ok:zD ys cs rs:=⟨λz=>by rw[z] at rlen;simp at rlen;lia,by lia,by rw[rlen];exact ro⟩;show G9 K _ [some (.ref st),some (.str wd),some (.ref nm),some (.ref pr),some (.ref cn),some (.int (m:Nat)),some (.int (n:Nat)),some (.ref L),none] H2;have hpr2:=B2 pr _ npr hpr;have ebare:decide (V.int (((ps.map V.str).length:Nat):Int)=V.int 0)=true->ps=[]:=λz=>by
   have z':=of_decide_eq_true z;rw[ae] at z';injection z' with z';exact di.mp (by lia)
  have ebare':ps=[]->decide (V.int (((ps.map V.str).length:Nat):Int)=V.int 0)=true:=λz=>by rw[z];rfl
  refine⟨_,rfl,_,rfl,_,rfl,_,_,rfl,.inl ⟨_,cB.of hpr2,rfl⟩,.inl ⟨rfl,L,nm,_,rvs,rs,ys,zC ys cs n,rfl,hrl,hA,Ok.pos,Ok.few,ro,rfl,rfl,λt ht=>by rw[rlen];exact ht,B2 nm _ nnm hnm,ysne,λy hy _=>⟨hy,by decide,by decide⟩,nnL,λz=>by rw[rlen];exact n2 (ebare z),λrvs' rs' H3 h3 hA3 Ts hR3 hE3 hN3 hJ3 B3=>?_⟩⟩;have n3:rs'.length=n:=Ts.trans rlen;have Ok3:zD ys cs rs':=⟨λz=>by rw[z] at n3;simp at n3;lia,by lia,by rw[n3];exact hR3⟩;have S3:lF K H3 st k2:=S2.mono B3 hrl (Ne.symm nL);have BH3:iq st H H3:=iq.past B2 HL B3;show G8 K _ [some (.ref st),some (.str wd),some (.ref nm),some (.ref pr),some (.ref cn),some (.int (m:Nat)),some (.int (n:Nat)),some (.ref L),none] H3;refine⟨_,rfl,_,rfl,_,rfl,L,nm,pr,rvs',rs',ys,ps,cs,rfl,h3,hA3,Ok3,hE3,BH3 nm _ nnm hnm,ysl,BH3 pr _ npr hpr,psl,pin,λz=>hN3 (ebare' z),λkl refs kss H4 hkl h4 hT lk hK hKn s4=>?_⟩;have S4:=S3.same s4;have BH4:iq st H H4:=BH3.trans s4.but;have nkl:kl≠st:=λz=>by obtain⟨_,e⟩:=S3.lst;rw[z,e] at hkl;cases hkl
  show G5 K _ [some (.ref st),some (.str wd),some (.ref nm),some (.ref pr),some (.ref cn),some (.int (m:Nat)),some (.int (n:Nat)),some (.ref L),some (.ref kl)] H4;refine⟨_,rfl,_,rfl,pr,_,rfl,.inl ⟨cB.of (BH4 pr _ npr hpr),λt ht=>?_⟩⟩;have s5:aL H4 (upd H4 t (.tup (ps.map V.str))):=(aL.refl H4).new ht;have g5:(upd H4 t (.tup (ps.map V.str))) t=some (.tup (ps.map V.str)):=aj;generalize upd H4 t (.tup (ps.map V.str))=H5 at s5 g5 ⊢;have S5:=S4.same s5;have hT5:cR (DX H5) refs kss:=hT.imp λ_ _ ⟨a,e,h⟩=>⟨a,e,s5 _ _ h⟩;refine⟨_,rfl,_,rfl,_,rfl,st,L,kl,k2,rvs',refs,rs',kss,ys,cs,rfl,S5,by lia,s5 _ _ (s4 _ _ h3),(hA3.imp λ_ _ z=>(z.mono (.of_same s4)).mono (.of_same s5)),Ok3,yne,cs4,s5 _ _ h4,hT5,lk,λi ks e=>(hK i ks e).1,λi ks r e1 e2=>?_,λa ha=>?_,nL,nkl,λp rvs6 rs6 k6 H6 h6 hA6 len6 hF S6 l6 B6=>?_⟩
  ·rcases(hK i ks e1).2.2 with z|⟨z1,z2⟩
   ·exact .inl z
   ·subst z1;have:=hN3 (ebare' z2);rw[jK,e2] at this;exact .inr (Option.some.inj this)
  ·obtain⟨i,hi,e⟩:=bV.mp ha;obtain⟨ks,_,z⟩:=hT5.of_v (i:=i) (v:=a) (by rw[af hi,e]);exact KA S5 z
  refine⟨ZA,λf hf=>?_⟩;obtain⟨_,e5⟩:=S5.lst;have t6:Tp H5 H6:=.of_but B6 e5;have t7:Tp H6 (upd H6 f (.tup [.str wd,.ref t,.ref p])):=(Tp.refl H6).new hf;have ksAt:∀(i:Nat) r,rs'[i]?=some r->∃ks,kss[i]?=some ks:=λi r e=>⟨_,af (by rw[lk];exact(ak.mp e).1)⟩;have al:tK rs' rs6:=⟨len6,λi r r' e1 e2=>by
   obtain⟨ks,ek⟩:=ksAt i r e1;exact⟨ks,hF i ks r r' ek e1 e2⟩⟩
  have both:∀(i:Nat) r',rs6[i]?=some r'->∃r ks,rs'[i]?=some r/\kss[i]?=some ks/\lC ks r r':=λi r' e=>by
   obtain⟨r,_,e1,_⟩:=al.get e;obtain⟨ks,ek⟩:=ksAt i r e1;exact⟨r,ks,e1,ek,hF i ks r r' ek e1 e⟩
  have ok:rO ys cs ⟨wd,ps,rs6⟩:=by
   refine⟨pnd,pin,λz=>?_,?_,λr' hr'=>?_,?_,al.ring hJ3,kss,?_,⟨hKn.zero,λi m r' ks km e hm ek em y hy=>?_⟩,λi r' ks e ek=>?_⟩
   ·have z':rs6=[]:=z;rw[z',n3] at len6;simp at len6;lia
   ·show rs6.length<=60;lia
   ·show M4 ys cs rs6.length r';obtain⟨i,hi,e⟩:=bV.mp hr';obtain⟨r,ks,e1,e2,f⟩:=both i r' (by rw[<-e];exact af hi);rw[len6,n3];exact Qe (hR3 r (aF e1)) (hK i ks e2).2.1 f
   ·show rs6.getLast?.map jT=some true;have hl:rs6.length-1<rs6.length:=by lia
    obtain⟨r,ks,e1,e2,f⟩:=both (rs6.length-1) _ (af hl);rw[cF,af hl,cv,Nv f];rw[cF,<-len6,e1,cv] at hE3;exact hE3
   ·show kss.length=rs6.length;rw[lk,len6]
   ·obtain⟨r,ks',e1,e2,f⟩:=both i r' e;rw[Ik f] at hm;rw[Ll f];exact hKn.on i m r ks km e1 hm ek em y hy
   ·obtain⟨r,ks',e1,e2,f⟩:=both i r' e;rw[ek] at e2;cases e2;exact Il f
  refine q _ ⟨wd,ps,rs6⟩ k6 _ ⟨f,t,p,rvs6,rfl,aj,t7 _ _ (t6 _ _ g5),t7 _ _ h6,hA6.imp λ_ _ z=>z.mono t7⟩ rfl rfl ok (by show rs6.length<=m+1;lia) (S6.new hf) (by lia) ?_;exact((BH4.trans s5.but).trans B6).new hf
inductive JP(rs:List bS)(un:Option Str):Nat->Prop where
 |zero:JP rs un 0
 |step {n m:Nat} {r:bS}:JP rs un n->rs[n]?=some r->(∀y,un=some y->mJ r≠.str y)->m∈eG n r->JP rs un m
structure oP(rs:List bS):Prop where
 pos:0<rs.length
 few:rs.length<64
 inr:∀(n m:Nat) r,rs[n]?=some r->m∈eG n r->m<rs.length
 ring:v8 rs
def JP.lt{rs:List bS}{un:Option Str}(g:oP rs){m:Nat}(h:JP rs un m):m<rs.length:=by
 cases h with
 |zero=>exact g.pos
 |step _ e _ hm=>exact g.inr _ _ _ e hm
def F3{rs:List bS}(hg:∀r∈rs,∀t:Nat,oa r=.int (t:Nat)->t<rs.length)(hE:rs.getLast?.map jT=some true):∀(n m:Nat) r,rs[n]?=some r->m∈eG n r->m<rs.length:=by
 intro i m r hr mem;have hi:i<rs.length:=(ak.mp hr).1;have nx:jT r=false->i+1<rs.length:=λhe=>by
  by_cases c:i+1<rs.length
  ·exact c
  ·have ei:i=rs.length-1:=by lia
   rw[cF,<-ei,hr,cv,he] at hE;cases hE
 have hm:=hg r (aF hr);cases r with
 |jump to=>rw[aw.mp mem];exact hm to rfl
 |test a to=>
  rcases aE.mp mem with e|e
  ·rw[e];exact nx rfl
  ·rw[aw.mp e];exact hm to rfl
 |give a=>cases mem
 |num x z=>rw[aw.mp mem];exact nx rfl
 |op x s a b=>rw[aw.mp mem];exact nx rfl
 |call x k as=>rw[aw.mp mem];exact nx rfl
 |say a=>rw[aw.mp mem];exact nx rfl
def rO.good{ys:List Str}{cs:List Nat}{b:eF}(h:rO ys cs b):oP b.rows:=by
 have:=h.few;refine⟨cP.mpr h.pos,by lia,F3 (λr hr t e=>?_) h.last,h.ring⟩;have ro:=h.rows r hr;cases r with
 |jump to=>
  injection e with e;have:to=t:=by lia
  subst this;exact ro
 |test a to=>
  injection e with e;have:to=t:=by lia
  subst this;exact ro.2
 |_=>cases e
def mH:∀{n:Nat} {l:List Nat},l.Nodup->(∀x∈l,x<n)->l.length<=n
 |0,l,_,h=>by
  cases l with
  |nil=>exact aD _
  |cons a r=>exact absurd (h a bZ) (bW _)
 |n+1,l,nd,h=>by
  by_cases c:n∈l
  ·have h1:=mH (n:=n) (l:=l.erase n) (nd.erase n) λx hx=>by
    have:=(nd.mem_erase_iff).mp hx;have:=h x this.2;lia
   rw[List.length_erase_of_mem c] at h1;lia
  ·have h1:=mH (n:=n) nd λx hx=>by
    have:=h x hx;have:x≠n:=λz=>c (z ▸ hx);lia
   lia
def rZ:∀{l:List Nat},l.Pairwise (·<=·)->l.Nodup->l.Pairwise (·<·)
 |[],_,_=>.nil
 |a::r,h,nd=>by
  rw[List.pairwise_cons] at h ⊢;rw[dw] at nd;refine⟨λx hx=>?_,rZ h.2 nd.2⟩;have:=h.1 x hx;have:a≠x:=λz=>nd.1 (z ▸ hx);lia
def LY{ms:List Int}{ns:List Nat}(p:ms.Perm (ns.map λn=>((n:Nat):Int)))(s:ms.Pairwise (·<=·))(nd:ns.Nodup):∃ks:List Nat,ms=ks.map (λn=>((n:Nat):Int))/\(∀x,x∈ks↔x∈ns)/\ks.Pairwise (·<·):=by
 have hm:ms.map (λi=>((i.toNat:Nat):Int))=ms:=by
  have:∀i∈ms,((i.toNat:Nat):Int)=i:=λi hi=>by
   obtain⟨n,_,e⟩:=bA.mp (p.mem_iff.mp hi);lia
  exact(iS this).trans (xp _)
 have pk:(ms.map fo).Perm ns:=by
  have:=p.map fo;rw[dM] at this;have e:ns.map (fo ∘ λn=>((n:Nat):Int))=ns:=by
   have:∀n∈ns,(fo ∘ λn=>((n:Nat):Int)) n=n:=λn _=>by simp
   exact(iS this).trans (xp _)
  rw[e] at this;exact this
 refine⟨ms.map fo,?_,λx=>pk.mem_iff,rZ ?_ (pk.nodup_iff.mpr nd)⟩
 ·rw[dM];exact hm.symm
 ·rw[List.pairwise_map];exact s.imp λ{a b} h=>by lia
end Bg
end
section
namespace L2
open PySem PySem.Spec PyProof.Rows
def NS{α:Type}[DecidableEq α]{l:List α}:∀{zs:List α},l.Nodup->(∀y∈l,y∈zs)->l.length<=zs.length:=by
 induction l with
 |nil=>intro zs _ _;exact cA _
 |cons a r ih=>
  intro zs nd h;obtain⟨na,nr⟩:=dw.mp nd;have ha:a∈zs:=h a bZ;have:=ih (zs:=zs.erase a) nr λy hy=>(List.mem_erase_of_ne (λz=>na (by rw[<-z];exact hy))).mpr (h y (bq _ hy));rw[List.length_erase_of_mem ha] at this;have:0<zs.length:=List.length_pos_of_mem ha;simp only[aI];lia
section
variable{X:Cx}
end
section
variable{prog:aW}{w:bK}{A:bj}{R:Result->aq->Prop}{I:ar}{fp wr:List ar}{n:Nat}{P:Nat->aa->Prop}{St:Nat->Heap->Prop}
abbrev Li:List (Str×aa):=[(("default":Str),aa.none)]
def yQ:(toString "min"++toString ".loop":String)="min.loop":=by decide
def LN(W:Walks prog w A.in1 I fp wr n P St)(bt:Nat->Nat->Bool)(cm:CmpOf prog w A.in1 .Lt P bt)(S:ar)(nS:S∉fp) :
  ∀(k j:Nat) (s:aq) (vb:aa) (c:Nat),n-(j+1)=k->j+1<=n->St (j+1) s.heap->P (pI bt j) vb->s.heap.get? S=some {cls:=.type "list",dict:=none,data:=.seq #[vb,vb] c,slots:=#[]}->
  (∀v h' tk,P (pI bt (n-1)) v->(∀b o,b∉wr->b≠S->s.heap.get? b=some o->h'.get? b=some o)->R (.ok (.ret v)) {s with heap:=h',toks:=tk})->
  ig (model prog w) A (.builtin "min.loop" ⟨[.ref I,.none,.ref S],Li⟩) R s:=by
 have nw:S∉wr:=λz=>nS (W.sub _ z);intro k
 induction k with
 |zero=>
  intro j s vb c hk hj st pb gS fin;have jn:j+1=n:=by lia
  refine fF F.entry_min_loop ?_;rw[bj.under_plainId F.plain_min_loop _];show aO _ A.in1 (sT (.ref S) >>= _) _ _ s;refine ag (jI gS rfl ?_);show aO _ A.in1 (tryCatch (nI (.ref I)) _ >>= _) _ _ s;refine ag (jJ (W.done s _ _ (jn ▸ st) λh1 tk k1=>?_));have gS1:=k1 S _ nw gS;show aO _ A.in1 (updateSeq S (λ_=>#[]) >>= _) _ _ _;refine ag ?_;refine wpAny_updateSeq gS1 rfl (ag (rD (aC ?_)));exact fin vb _ tk (by rw[<-jn];exact pb) λb o nb ns q=>(cx _ _ (Ne.symm ns)).trans (k1 b o nb q)
 |succ k ih=>
  intro j s vb c hk hj st pb gS fin;have jn:j+1<n:=by lia
  refine fF F.entry_min_loop ?_;rw[bj.under_plainId F.plain_min_loop _];show aO _ A.in1 (sT (.ref S) >>= _) _ _ s;refine ag (jI gS rfl ?_);show aO _ A.in1 (tryCatch (nI (.ref I)) _ >>= _) _ _ s;refine ag (jJ (W.item (j+1) s _ _ jn st λv h1 tk pv st1 k1=>?_));have gS1:=k1 S _ nw gS;show aO _ A.in1 (tryCatch (holding [v,v] (richCompare .Lt v vb >>= _)) _ >>= _) _ _ _;refine ag (jJ (cw (ag (cm (j+1) (pI bt j) v vb _ _ _ pv pb ?_))));refine ag (cw (dI ?_));refine ag (rD (aC ?_));cases hb:bt (j+1) (pI bt j) with
  |true=>
   simp only[if_true];refine ag ?_;refine wpAny_updateSeq gS1 rfl (ag (rD ?_));rw[yQ];refine aC ⟨iU F.plain_min_loop _,ih (j+1) _ v _ (by lia) jn (W.frame _ _ _ st1 λb bf o q=>?_) (by simp only[pI,hb,if_true];exact pv) (dE _ gS1 rfl)
    λv2 h2 t2 p2 k2=>fin v2 h2 t2 p2 λb o nb ns q=>k2 b o nb ns ((cx _ _ (Ne.symm ns)).trans (k1 b o nb q))⟩
   exact(cx _ _ (λz:S=b=>nS (by rw[z];exact bf))).trans q
  |false=>
   simp only[Bool.false_eq_true,if_false];refine ag (rD ?_);rw[yQ];exact aC ⟨iU F.plain_min_loop _,ih (j+1) _ vb c (by lia) jn st1 (by simp only[pI,hb,Bool.false_eq_true,if_false];exact pb) gS1 λv2 h2 t2 p2 k2=>fin v2 h2 t2 p2 λb o nb ns q=>k2 b o nb ns (k1 b o nb q)⟩
def IF(W:Walks prog w A.in1 I fp wr n P St)(bt:Nat->Nat->Bool)(cm:CmpOf prog w A.in1 .Lt P bt)(S:ar)(nS:S∉fp){s:aq}{c:Nat}(st:St 0 s.heap)
  (gS:s.heap.get? S=some {cls:=.type "list",dict:=none,data:=.seq #[] c,slots:=#[]})
  (fin0:n=0->∀h' tk,(∀b o,b∉wr->s.heap.get? b=some o->h'.get? b=some o)->R (.ok (.ret .none)) {s with heap:=h',toks:=tk})
  (fin:0<n->∀v h' tk,P (pI bt (n-1)) v->(∀b o,b∉wr->b≠S->s.heap.get? b=some o->h'.get? b=some o)->R (.ok (.ret v)) {s with heap:=h',toks:=tk}) :
  ig (model prog w) A (.builtin "min.loop" ⟨[.ref I,.none,.ref S],Li⟩) R s:=by
 have nw:S∉wr:=λz=>nS (W.sub _ z);refine fF F.entry_min_loop ?_;rw[bj.under_plainId F.plain_min_loop _];show aO _ A.in1 (sT (.ref S) >>= _) _ _ s;refine ag (jI gS rfl ?_);show aO _ A.in1 (tryCatch (nI (.ref I)) _ >>= _) _ _ s;by_cases hn:0<n
 ·refine ag (jJ (W.item 0 s _ _ hn st λv h1 tk pv st1 k1=>?_));have gS1:=k1 S _ nw gS;show aO _ A.in1 (updateSeq S (λ_=>#[v,v]) >>= _) _ _ _;refine ag ?_;refine wpAny_updateSeq gS1 rfl ?_;rw[yQ];refine aC ⟨iU F.plain_min_loop _,LN W bt cm S nS _ 0 _ v _ rfl hn (W.frame _ _ _ st1 λb bf o q=>?_) pv (dE _ gS1 rfl) λv2 h2 t2 p2 k2=>
   fin hn v2 h2 t2 p2 λb o nb ns q=>k2 b o nb ns ((cx _ _ (Ne.symm ns)).trans (k1 b o nb q))⟩
  exact(cx _ _ (λz:S=b=>nS (by rw[z];exact bf))).trans q
 ·have n0:n=0:=by lia
  refine ag (jJ (W.done s _ _ (n0 ▸ st) λh1 tk k1=>?_));exact ag (mr (aC (fin0 n0 h1 tk k1)))
end
section
variable{prog:aW}{w:bK}{A:bj}{E:ZF}{s:aq}{l:ar}{xs:Array (Int×Tok)}
def KZ(a:aa):argsOk "min" ⟨[a],Li⟩:=by unfold argsOk;kernel_rfl
def Qt{id:String}{b:Builtin}{us:List aa}{kw:List (Str×aa)}{Q:ZF}(hk:builtinKind id=none)(hp:plainId id=true)(hb:entryFor table id=some b)(ha:argsOk id ⟨us,kw⟩)
  (hc:aO (model prog w) A.in1 (b ⟨us,kw⟩) (λfin s'=>match fin with
   |.done f=>(match(Except.ok f:Result) with|.ok (.ret v)=>Q v s'|.ok _=>False|.error e=>E e s')
   |.again c'=>c'.quiet=true/\ig (model prog w) A c' (λr s'=>match r with|.ok (.ret v)=>Q v s'|.ok _=>False|.error e=>E e s') s') E s):aO (model prog w) A (call (.builtin id) us kw) Q E s:=by
 refine iw (gi hp hb ?_);simp only[gH,hk];cases sg:Manifest.signature? id with
 |none=>exact aC hc
 |some sig=>
  have ok:Bind.checkArgs id sig ⟨us,kw⟩=pure ():=by simpa only[argsOk,sg] using ha
  simp only[ok];exact aC hc
def LM{Q:ZF}(hh:A.handled=none)(hl:s.heap.IsList l (oE xs))
  (h0:xs.size=0->∀h' tk,(∀b o,s.heap.get? b=some o->h'.get? b=some o)->Q .none {s with heap:=h',toks:=tk})
  (h:0<xs.size->∀v h' tk,(oE xs)[pI (λi j=>decide (numAt xs i<numAt xs j)) (xs.size-1)]?=some v->(∀b o,s.heap.get? b=some o->h'.get? b=some o)->Q v {s with heap:=h',toks:=tk}) :
  aO (model prog w) A (call (.builtin "min") [.ref l] Li) Q E s:=by
 refine Qt F.kind_min F.plain_min F.entry_min (KZ _) ?_;show aO _ A.in1 (Builtin.Builtins.bindParams "min" ["key","default"] 0 ⟨[],Li⟩ >>= _) _ _ s;refine ag (kR (show Builtin.Builtins.bindParams "min" ["key","default"] 0 ⟨[],Li⟩=pure [none,some .none] by kernel_rfl) ?_);refine ag (aC ?_);refine ag (iter_intList hl λs2 e st hfp nl=>?_);subst e;refine ag (d6 ?_);rw[yQ];have W:=Walks.list (prog:=prog) (w:=w) (A:=A.in1) hh s.heap.objs.size l nl (oE xs);have zz:(oE xs).size=xs.size:=by simp[oE]
 have kk:∀{h':Heap},(∀b o,b∉[s.heap.objs.size]->b≠(s.heap.push {cls:=.type "list_iterator",data:=.fields #[.ref l,.int 0 0]}).objs.size->(((s.heap.push {cls:=.type "list_iterator",data:=.fields #[.ref l,.int 0 0]}).push {cls:=.type "list",data:=.seq #[]}).get? b=some o->h'.get? b=some o))->∀b o,s.heap.get? b=some o->h'.get? b=some o:=λ{h'} k b o q=>by
  have lt:=aP q;refine k b o (λz=>?_) (λz=>?_) (az _ (az _ q))
  ·have:=aw.mp z;lia
  ·rw[d7] at z;lia
 refine aC ⟨iU F.plain_min_loop _,IF W _ (CmpOf.ints_lt (numAt xs) λ_ _=>intItems_at) _ (λz=>cQ _ (hfp _ z)) (W.frame _ _ _ st λb _ o q=>az _ q) (aZ _ rfl) (λn0 h' tk k=>?_) λn1 v h' tk p k=>?_⟩
 ·exact h0 (by rw[<-zz];exact n0) h' tk (kk λb o nb _ q=>k b o nb q)
 ·exact h (by rw[<-zz];exact n1) v h' tk (by simpa[zz] using p) (kk λb o nb ns q=>k b o nb ns q)
end
section
variable{X:Cx}
def NT{pins:List (ar×Obj)}{s:aq}{σ:St}{H:Hp}{a:ar}{ss:List Str}{m:Nat}{Q:VK}(I:bY X pins σ H s)
  (T:BgSet.SetTb (kJ X.prog X.w) s.heap a (λk=>decide (k∈ss)) m (!BgSet.byText X.w) true)
  (q:∀ss':List Str,ss'.Nodup->(∀x,x∈ss'↔x∈ss)->Q (.int (ss'.length:Nat)) H) :
  aO (model X.prog X.w) X.A (call (.builtin "len") [.ref a]) (EP X pins σ Q) X.xe s:=by
 obtain⟨o,es,ep,t,ho,hex,hdt,hel,hmem,hb,hf,hn,htb,hoff,hap⟩:=T;have hz:es.size<=av:=fits_of_scanBound hb;have hall:∀e∈es.toList,∃x t,e.2=.str x t:=λe he=>by
  obtain⟨⟨k,hk,_⟩,_⟩:=hel e he;obtain⟨t,ht⟩:=aa.isStrOf_shape hk;exact⟨k,t,ht⟩
 have hmm:∀x,x∈es.toList.map (λe=>strOf e.2)↔x∈ss:=λx=>by
  rw[bA];have:=hmem x;rw[decide_eq_true_eq] at this;rw[this];constructor
  ·rintro⟨e,he,rfl⟩;obtain⟨y,t,hy⟩:=hall e he;refine⟨e,he,?_⟩;show aa.isStrOf (strOf e.2) e.2=true;rw[hy];simp[strOf,aa.isStrOf]
  ·rintro⟨e,he,hk⟩;obtain⟨t,ht⟩:=aa.isStrOf_shape hk;exact⟨e,he,by show strOf e.2=x;rw[ht];rfl⟩
 have hnd:(es.toList.map (λe=>strOf e.2)).Nodup:=by
  unfold List.Nodup;rw[List.pairwise_map];refine List.Pairwise.imp_of_mem (λ{e e'} he he' r heq=>?_) hap;obtain⟨y,t,hy⟩:=hall e he;obtain⟨y',t',hy'⟩:=hall e' he';have e1:y=y':=by have:strOf e.2=strOf e'.2:=heq;rw[hy,hy'] at this;exact this
  have h1:aa.isStrOf y e.2=true:=by rw[hy];simp[aa.isStrOf]
  have h2:aa.isStrOf y e'.2=false:=r y h1;rw[hy',e1] at h2;simp[aa.isStrOf] at h2
 have q1:=q _ hnd hmm;rw[ae,bg] at q1;have hl:=wL;have hs:av=16777216:=gk;exact call_len_set ho hex hdt hf (by lia) ⟨.int (es.size:Nat),H,I.tok _,⟨_,rfl⟩,q1⟩
def EK(K:Fg)(t:TA):TE:=λσ H Q=>t σ H λvs H1=>∃(p:ar) (tp:Bool) (ss:List Str),vs=[.ref p]/\Wr K tp H1 p (ss.map V.str)/\ss.length<=4000/\
 ∀ss':List Str,ss'.Nodup->(∀x,x∈ss'↔x∈ss)->Q (.int (ss'.length:Nat)) H1
def LX{a:Expr}{ta:TA}{p1 p2 pos pos2:Pos}(hg:Gl X "len")(hg2:Gl X "set")(hm:X.mg "len"=none)(hm2:X.mg "set"=none)(hc:X.calm=true)(ha:PA X [a] ta)
  (hs2:aR [a] X.env=[(false,eval a X.env)]:=by rfl) (hs:aR [.Call (.Name "set" p2) [a] [] pos2] X.env=[(false,eval (.Call (.Name "set" p2) [a] [] pos2) X.env)]:=by rfl) :
  PE X (.Call (.Name "len" p1) [.Call (.Name "set" p2) [a] [] pos2] [] pos) (EK X.K ta):=by
 intro pins s σ H Q I h;refine eA (og I hg hm boot_len ?_);refine PyProof.Rows.callWith_builtin1 ?_ hs rfl;rw[hs];show aO _ _ (spliced ((false,eval (.Call (.Name "set" p2) [a] [] pos2) X.env)::eV pos [])) _ _ s;refine Calls.spliced_cons ?_;refine eA (og I hg2 hm2 (show e8 "set"=some (.type "set") by kernel_rfl) ?_);refine dN (fk (ha pos2 pins s σ H _ I h) λus s1 ⟨vs,H1,I1,r1,q1⟩=>?_) hs2 rfl;obtain⟨l,tp,ss,rfl,hq,hlen,q⟩:=q1;obtain⟨u,rfl,rx⟩:=mU r1;cases rx;obtain⟨its,rv,at_⟩:=I1.seqB hq;have rl:=rv.length;rw[ae] at rl;have hS:=AS rv;have hv:∀(i:Nat) k v,ss[i]?=some k->its.toArray[i]?=some v->(kJ X.prog X.w).is k v=true/\v.scannable=true/\(true=true->mf v=false):=λi k v h1 h2=>by
  rw[List.getElem?_toArray] at h2;have:=hS.strs;rw[<-this,aQ,h2] at h1;obtain⟨x,t,rfl⟩:=hS.all v (aF h2);have e:x=k:=by simpa[strOf] using h1
  subst e;exact⟨by show aa.isStrOf x (.str x t)=true;simp[aa.isStrOf],rfl,λ_=>rfl⟩
 have hb:its.toArray.size+1<scanBound:=by rw[aA,<-rl];unfold scanBound;lia
 have go:∀(h':Heap) (tk m:Nat),m<=its.toArray.size->BgSet.SetTb (kJ X.prog X.w) h' s1.heap.objs.size (λk=>decide (k∈ss)) m (!BgSet.byText X.w) true->
   (∀b o,b<s1.heap.objs.size->s1.heap.get? b=some o->h'.get? b=some o)->
   aO (model X.prog X.w) X.A (spliced (eV pos [])) (λvs s'=>aO (model X.prog X.w) X.A (call (.builtin "len") (.ref s1.heap.objs.size::vs)) (EP X pins σ Q) X.xe s') X.xe {s1 with heap:=h',toks:=tk}:=λh' tk m hm T kp=>by
  have I2:bY X pins σ H1 {s1 with heap:=h',toks:=tk}:=I1.kept λb u e=>kp b u (aP e) e;exact Calls.spliced_nil (NT I2 T q)
 cases tp with
 |true=>exact BgSet.set_of_tuple (kd:=kJ X.prog X.w) ss true (I1.ok.hd hc) at_ (by rw[aA];exact rl) hv hb go
 |false=>exact BgSet.set_of_list (kd:=kJ X.prog X.w) ss true (I1.ok.hd hc) at_ (by rw[aA];exact rl) hv hb go
def L7{a:Expr}{ta:TA}{p1 p2 pos pos2:Pos}(hg:Gl X "len")(hg2:Gl X "set")(hm:X.mg "len"=none)(hm2:X.mg "set"=none)(hc:X.calm=true)(ha:QA X [a] ta)
  (hs2:aR [a] X.env=[(false,eval a X.env)]:=by rfl) (hs:aR [.Call (.Name "set" p2) [a] [] pos2] X.env=[(false,eval (.Call (.Name "set" p2) [a] [] pos2) X.env)]:=by rfl) :
  QE X (.Call (.Name "len" p1) [.Call (.Name "set" p2) [a] [] pos2] [] pos) (EK X.K ta):=⟨LX hg hg2 hm hm2 hc ha.up hs2 hs⟩
def C1:∀{ns:List Int} {us:List aa},c8 (ns.map V.int) us->lR us ns
 |[],_,.nil=>.nil
 |n::r,_,.cons (b:=u) h t=>by
  obtain⟨k,rfl⟩:=h;exact .cons _ _ (C1 t)
def O0(K:Fg)(t:TA):TE:=λσ H Q=>t σ H λvs H1=>∃(p:ar) (ns:List Int),vs=[.ref p]/\cB K H1 p (ns.map V.int)/\(ns=[]->Q .non H1)/\∀z,z∈ns->(∀y∈ns,z<=y)->Q (.int z) H1
def QU{a:Expr}{ta:TA}{p1 pos kp kp2:Pos}{j:Nat}(hg:Gl X "min")(hc:X.calm=true)(hm:X.mg "min"=none)(ha:PA X [a] ta)(hs:aR [a] X.env=[(false,eval a X.env)]:=by rfl) :
  PE X (.Call (.Name "min" p1) [a] [⟨some "default",.Constant .none j kp,kp2⟩] pos) (O0 X.K ta):=by
 intro pins s σ H Q I h;refine eA (og I hg hm boot_min ?_);refine PyProof.Rows.callWith_kw ?_ (by rw[hs];rfl) (by rw[hs];rfl) rfl rfl;refine fk (ha pos pins s σ H _ I h) λus s1 ⟨vs,H1,I1,r1,l,ns,ev,hq,q0,q⟩=>?_;subst ev;obtain⟨u,rfl,rx⟩:=mU r1;cases rx;refine fk ((Q4 (nm:=some "default") (kpos:=kp2) (Og (X:=X) (j:=j) (pos:=kp)) Uj) pos pins s1 σ H1 (λvs H2=>vs=[.non]/\H2=H1) I1 ⟨rfl,rfl⟩) λks s2 ⟨zs,H2,I2,r2,e1,e2⟩=>?_;subst e1 e2;obtain⟨k1,rfl,rk⟩:=mU r2;obtain rfl:k1=aa.none:=rk;obtain⟨its,rv,pl,hz⟩:=I2.list hq;have hI:lR its ns:=C1 rv;obtain⟨xs,e⟩:=hI.allInts.items;have hns:ns=xs.toList.map (·.1):=by rw[<-hI.numsOf,<-nums_intItems,<-e]
 have hl:s2.heap.IsList l (oE xs):=by rw[<-e];exact pl.isList
 refine LM (I2.ok.hd hc) hl (λx0 h' tk k=>?_) λx1 v h' tk hv k=>?_
 ·refine⟨.non,H2,I2.kept k,rfl,q0 ?_⟩;rw[hns];simp[gK x0]
 ·obtain⟨t,rfl⟩:=intItems_at hv;obtain⟨h1,h2⟩:=argBest_lt (numAt xs) (xs.size-1);refine⟨.int _,H2,I2.kept k,⟨t,rfl⟩,q _ ?_ λy hy=>?_⟩
  ·rw[hns,numAt_eq];exact getD_mem (by rw[ae,bg];lia)
  ·rw[hns] at hy;obtain⟨i,hi,rfl⟩:=mem_getD hy;rw[ae,bg] at hi;rw[<-numAt_eq];exact h2 i (by lia)
def Ro{a:Expr}{ta:TA}{p1 pos kp kp2:Pos}{j:Nat}(hg:Gl X "min")(hc:X.calm=true)(hm:X.mg "min"=none)(ha:QA X [a] ta)(hs:aR [a] X.env=[(false,eval a X.env)]:=by rfl) :
  QE X (.Call (.Name "min" p1) [a] [⟨some "default",.Constant .none j kp,kp2⟩] pos) (O0 X.K ta):=⟨QU hg hc hm ha.up hs⟩
end
def Ke(K:Fg):List V->Hp->VK->Prop:=λxs H Q=>∃x C dx v,xs=[.ref x,v]/\(H x=some (XF x C (some dx))\/H x=some (XL x C (some dx)))/\(∃fs,H dx=some (XD dx fs))/\xE K C/\PV K C/\
 ((v=.ty "ValueError"/\Q (.bl true) H)\/((∃D b,v=.ref D/\BA K C D b/\Q (.bl b) H)\/∃tp D1 D2 b1 b2,v=.ref tp/\H tp=some (.tup [.ref D1,.ref D2])/\BA K C D1 b1/\BA K C D2 b2/\Q (.bl (b1 || b2)) H))
section
variable{prog:aW}{w:bK}{A:bj}{E:ZF}{s:aq}
def xo{x:ar}{c:aa}{b:Bool}{P:aq->Prop}{Q:ZF}(hn:∀{prog:aW} {w:bK} {A:bj} {E:ZF} {Q:PySem.Fin->aq->Prop} {s:aq},P s->(∀t,Q (.done (.ret (.bool b))) {s with toks:=t})->aO (model prog w) A (Builtin.«isinstance.nested» ⟨[.ref x,c,mi 0],[]⟩) Q E s)
  (p:P s) (h:∀t,Q (.bool b) {s with toks:=t}):aO (model prog w) A (call (.builtin "isinstance") [.ref x,c]) Q E s:=
 call_isinstance (S:=λ_ R s=>P s/\∀t,R (.ok (.ret (.bool b))) {s with toks:=t}) (λ_ _ _ _ _ hs=>isinstance_outer (hn hs.1 hs.2) (by intro q;cases q)) ⟨p,h⟩
end
section
variable{X:Cx}
def wt:iY X (.builtin "isinstance") (Ke X.K):=by
 intro pins s σ H xs us Q I r h;obtain⟨x,C,dx,v,rfl,ea,⟨fs,ed⟩,c,wy,q⟩:=h;obtain⟨z,mA,ns,_,_⟩:=XD.get I.hok ed;obtain⟨od,ho,hlk⟩:=wN ns;have J:∃ox,PySem.W.InstAt s.heap x ox C (some od):=by
  rcases ea with ea|ea
  ·obtain⟨a,hx⟩:=XF.get I.hok ea;exact⟨_,hx,rfl,rfl,ho⟩
  ·obtain⟨vs,sl,hx⟩:=XL.get I.hok ea;exact⟨_,hx,rfl,rfl,ho⟩
 obtain⟨ox,J⟩:=J;obtain⟨u1,u2,rfl,r1,r2⟩:=DE r;obtain rfl:u1=aa.ref x:=r1;rcases q with⟨rfl,q⟩|⟨D,b,rfl,i,q⟩|⟨tp,D1,D2,b1,b2,rfl,ht,i1,i2,q⟩
 ·obtain rfl:u2=aa.type "ValueError":=r2;exact xo (P:=λs=>X.K.In s.heap/\PySem.W.InstAt s.heap x ox C (some od)) (λp k=>RU p.1 p.2 c k) ⟨I.kIn,J⟩ λt=>⟨.bl true,H,I.tok t,rfl,q⟩
 ·obtain rfl:u2=aa.ref D:=r2;exact xo (P:=λs=>X.K.In s.heap/\PySem.W.InstAt s.heap x ox C (some od)) (λp k=>Hk p.1 p.2 c wy i k) ⟨I.kIn,J⟩ λt=>⟨.bl b,H,I.tok t,rfl,q⟩
 ·obtain rfl:u2=aa.ref tp:=r2;obtain⟨_,its,rv,ot,e1,e2,n,e3⟩:=(show fg X.prog X.w H s.heap tp (.tup [.ref D1,.ref D2]) from I.hok tp _ ht);obtain⟨w1,w2,rfl,rw1,rw2⟩:=DE rv;obtain rfl:w1=aa.ref D1:=rw1;obtain rfl:w2=aa.ref D2:=rw2;have ne:C≠tp:=λz=>by
   obtain⟨nm,q',N,B,bs,sn,sub,ab,col,dd,k0,k1,k2,k3,k5,lk⟩:=c.ex;have:=I.kIn _ _ lk;rw[z,e1] at this;have z2:ot.cls=aa.type "type":=by rw[Option.some.inj this]
   rw[e2.1] at z2;injection z2 with z2;exact absurd z2 (by decide)
  exact xo (P:=λs=>(X.K.In s.heap/\PySem.W.InstAt s.heap x ox C (some od))/\s.heap.get? tp=some ot) (λp k=>Pl p.1.1 p.1.2 c wy i1 i2 ne p.2 e2.1 e3 k) ⟨⟨I.kIn,J⟩,e1⟩ λt=>⟨.bl (b1 || b2),H,I.tok t,rfl,q⟩
def TU{cn:Str}{p:Pos}{C:ar}(hg:Gl X cn)(hm:X.mg cn=some (.ref C))(hdb:(cn==("__debug__":Str))=false:=by decide):PE X (.Name cn p) (tC (.ref C)):=by
 intro pins s σ H Q I h;exact pT I hg hm ⟨.ref C,H,I,rfl,h⟩ hdb
end
def yw:e8 "ValueError"=some (.type "ValueError"):=by kernel_rfl
structure kL(P:aW)(w:bK)(K:Fg)(mg:Str->Option aa)(base:Heap)(x:Str)(ps:List Str)(k:Nat)(sp:Sp):Prop where
 ex:∃(f:ar) (fd:dY),mg x=some (.ref f)/\cV K (.ref f)=true/\rF K fd ps []/\pO P w K mg base (Hq P w) k f fd ps sp
structure Cy(P:aW)(w:bK)(K:Fg)(mg:Str->Option aa)(base:Heap)(x:Str)(C:ar)(ps:List Str)(k:Nat)(sp:Sp):Prop where
 ex:∃(f:ar) (fd:dY),mg x=some (.ref C)/\V3 K C f/\rF K fd ps []/\pO P w K mg base EZ k f fd ps sp
section
variable{X:Cx}{k:Nat}{C:ar}{ps:List Str}{sp:Sp}{x:Str}{p pos:Pos}{e o value:Expr}{es:List Expr}{ta tv te:TE}{t:TA}{E:XK}
def Uu(c:kL X.prog X.w X.K X.mg X.base x ps k sp)(hr:gB k X.A)(hg:Gl X x)(hx:uC (Hq X.prog X.w) X E)(ha:QA X (e::es) t)
  (hdb:(x==("__debug__":Str))=false:=by decide) (he:aR (e::es) X.env=(false,eval e X.env)::aR es X.env:=by rfl) (hpl:(eV pos (aR es X.env)).any (·.1)=false:=by rfl) :
  QE X (.Call (.Name x p) (e::es) [] pos) (bF sp [] E t):=by
 obtain⟨f,fd,hm,hk,hb,F⟩:=c.ex;exact⟨Ka F hr hg hm hk hb .nil hx ha.up hdb he hpl⟩
def Av(M:Cy X.prog X.w X.K X.mg X.base x C ps k sp)(hr:gB (k+1) X.A)(hg:Gl X x)(hz:ps.length<=1000)(ha:QA X (e::es) t)
  (hdb:(x==("__debug__":Str))=false:=by decide) (he:aR (e::es) X.env=(false,eval e X.env)::aR es X.env:=by rfl) (hpl:(eV pos (aR es X.env)).any (·.1)=false:=by rfl) :
  QE X (.Call (.Name x p) (e::es) [] pos) (uM C sp t):=by
 obtain⟨f,fd,hm,mk,hb,F⟩:=M.ex;exact⟨Of mk F hr hg hm hb hz ha.up hdb he hpl⟩
def IU{cn:Str}{p:Pos}{C:ar}(hg:Gl X cn)(hm:X.mg cn=some (.ref C))(hdb:(cn==("__debug__":Str))=false:=by decide):QE X (.Name cn p) (tC (.ref C)):=⟨TU hg hm hdb⟩
def yW{fl:Str}{pos':Pos}(ha:QE X o ta)(hv:QE X value tv)(hs:gI value (some (.Attribute o fl pos')) pos.line X.env=pure false):QS X (.Assign [.Attribute o fl pos'] value pos) (Df X.K ta tv fl):=⟨Rc ha.up hv.up hs⟩
def Rn{fl:Str}(he:QE X e ta)(hb:e7 e fl X.env (eval e X.env)=eval e X.env):QE X (.Attribute e fl pos) (OZ X.K ta fl):=⟨QR he.up hb⟩
def Aw(hl:Hx X E)(hh:X.A.handled=none)(he:QE X e te):QS X (.Raise (some e) none pos) (uN X.K E te):=⟨Oo hl hh he.up⟩
end
section
variable{P:aW}{w:bK}{K:Fg}{mg:Str->Option aa}{base:Heap}{N:List Str}{qual:Str}{scope:Scope}{f:ar}{cd:aa}{A:bj}{outer:List Env}{s:aq}{H:Hp}{E:XK}
def pU:Hx (tH (Hq P w) P w K mg base N qual scope f cd A outer s H E) E:=λ_ _ _ _ _ _ _ I hx n q=>Iz I hx n q
def Qh{x qual:Str}{st:Stmt}{f:ar}{fd:dY}{N ps:List Str}{k:Nat}{sp:Sp}(F:RY K x qual st f fd)(S:lV N ps (bU st))(len:∀vs H Q E,sp vs H Q E->vs.length=ps.length)
  (hbody:∀(cdv:aa) (A:bj) (outer:List Env) (s:aq) (H:Hp) (vs:List V) (Q:VK) (E:XK),gB k (A.deeper (hZ qual (bU st) s.heap.objs.size f cdv))->sp vs H Q E->
   ∃t,DT (tH (Hq P w) P w K mg base N qual (bU st) f cdv A outer s H E) (e9 st) t/\t {nx:=λ_ H'=>Q .non H',rt:=Q} (cI N vs) H):pO P w K mg base (Hq P w) (k+1) f fd ps sp:=by
 obtain⟨oc,od,kV,doc,pm,an,cdv,ct,osl,rfl,lk,hcd⟩:=F.ex;exact NA lk hcd S len λA outer s H vs Q E hr hsp=>hbody cdv A outer s H vs Q E hr hsp
end
end L2
end
section
namespace Bg
open PySem L2
def Sy:Option Str->V
 |none=>.non
 |some y=>.str y
def lg(_:Fg):Sp:=λvs H Q _=>∃(rt:ar) (un:Option Str) (rvs:List V) (rs:List bS),vs=[.ref rt,Sy un]/\H rt=some (.tup rvs)/\cR (e6 H) rvs rs/\oP rs/\
 ∀(l:ar) (ns:List Nat) (H':Hp),(∀m,m∈ns↔JP rs un m)->ns.Pairwise (·<·)->H' l=some (.lst (cW ns))->H l=none->aL H H'->Q (.ref l) H'
abbrev Iw:Nat:=2
abbrev zm:Nat:=3
def SJ(b:eF)(n:Nat):Prop:=∃r y,b.rows[n]?=some r/\y∈gs r/\y∉b.params/\JP b.rows (some y) n
structure HM(cs:List Nat)(b:eF):Prop where
 pnd:b.params.Nodup
 p9:b.params.length<=100
 good:oP b.rows
 gl:∀r∈b.rows,∀t:Nat,oa r=.int (t:Nat)->t<b.rows.length
 calls:∀x k as,bS.call x k as∈b.rows->cs[k]?=some as.length
 last:b.rows.getLast?.map jT=some true
 rd:∀r∈b.rows,(gs r).length<=100
structure SI(bs:List eF):Prop where
 few:bs.length<=100
 nnd:(bs.map (·.name)).Nodup
 part:∀b∈bs,HM (bs.map (·.params.length)) b
def Vf{p:Nat->Prop}:∀n,p n->∃m,p m/\∀j,j<m->¬p j:=λn=>by
 induction n using Nat.strongRecOn with
 |ind n ih=>
  intro h;by_cases c:∃m,m<n/\p m
  ·obtain⟨m,lt,q⟩:=c;exact ih m lt q
  ·exact⟨n,h,λj lt q=>c ⟨j,lt,q⟩⟩
def rO.clean{ys:List Str}{cs:List Nat}{b:eF}(h:rO ys cs b)(n:Nat):¬SJ b n:=by
 rintro⟨r,y,er,yr,yp,wy⟩;obtain⟨kss,hl,kn,rd⟩:=h.known;have g:=h.good;have go:∀{m:Nat},JP b.rows (some y) m->∀ks,kss[m]?=some ks->y∉ks:=λ{m} wm=>by
  induction wm with
  |zero=>exact λks e z=>yp (kn.zero ks e y z)
  |step w1 e1 s1 m1 ih=>
   rename_i n0 m0 r0;intro ks e z;have lt:=w1.lt g;have e0:kss[n0]?=some kss[n0]:=af (by rw[hl];exact lt);rcases kn.on n0 m0 r0 _ ks e1 m1 e0 e y z with q|q
   ·exact ih _ e0 q
   ·exact s1 y rfl q
 have lt:=wy.lt g;have e0:kss[n]?=some kss[n]:=af (by rw[hl];exact lt);exact go wy _ e0 (rd n r _ er e0 y yr)
def wg.sh{ys:List Str}{cs:List Nat}{bs:List eF}(h:wg ys cs bs):SI bs:=by
 refine⟨by have:=h.few;lia,h.nnd,λb hb=>?_⟩;have p:=h.part b hb;have pl:b.params.length<=4:=h.c4 _ (by rw[<-h.cnt];exact bA.mpr ⟨b,hb,rfl⟩);refine⟨p.pnd,by lia,p.good,λr hr t e=>?_,λx k as hm=>?_,p.last,λr hr=>?_⟩
 ·have ro:=p.rows r hr;cases r with
  |jump to=>
   have:to=t:=by injection e with e;lia
   subst this;exact ro
  |test a to=>
   have:to=t:=by injection e with e;lia
   subst this;exact ro.2
  |_=>cases e
 ·rw[h.cnt];exact(p.rows _ hm).2.1
 ·have ro:=p.rows r hr;cases r with
  |call x k as=>
   have:as.length<=4:=h.c4 _ (aF ro.2.1);show as.length<=100;lia
  |op x s a b=>show 2<=100;decide
  |num x z=>show 0<=100;decide
  |say a=>show 1<=100;decide
  |jump t=>show 0<=100;decide
  |test a t=>show 1<=100;decide
  |give a=>show 1<=100;decide
structure PR(K:Fg):Prop where
 clN:xE K (cg K "NoProgram")
 nNp:mD K (cg K "NoProgram") "part"
 nNr:mD K (cg K "NoProgram") "row"
 nNw:mD K (cg K "NoProgram") "word"
 mNN:HN K (cg K "NoProgram") (cg K "NoProgram")
structure KY(K:Fg):Prop where
 clL:xE K (cg K "NoLine")
 nLl:mD K (cg K "NoLine") "line"
def zi(k n:Int)(w:Str):List (Str×V):=[("part",.int k),("row",.int n),("word",.str w)]
def fB(K:Fg):Sp:=λvs H Q _=>∃(x:ar) (a b c:V),vs=[.ref x,a,b,c]/\H x=some (XF x (cg K "NoProgram") none)/\
 ∀(dx:ar) (H':Hp),H dx=none->dx≠x->H' x=some (XF x (cg K "NoProgram") (some dx))->H' dx=some (XD dx [("part",a),("row",b),("word",c)])->iq x H H'->Q .non H'
def jD(K:Fg):Sp:=λvs H Q E=>∃(k:Int) (r:V) (wd:Str),vs=[.int k,r,.str wd]/\((r=.non/\Q .non H)\/
 ∃n:Int,r=.int n/\∀(dx:ar) (H':Hp),aL H H'->H' dx=some (XD dx (zi k n wd))->E (.ref (cg K "NoProgram")) (some dx) H')
def mN(_:Fg):Sp:=λvs H Q _=>∃(v:V) (b:eF) (cs:List Nat),vs=[v]/\mE H v b/\HM cs b/\((∀n,¬SJ b n)->∀(H':Hp),aL H H'->Q .non H')/\
 ∀n:Nat,SJ b n->(∀m,m<n->¬SJ b m)->∀(H':Hp),aL H H'->Q (.int (n:Nat)) H'
def lK(_:Fg):Sp:=λvs H Q _=>∃(rt:ar) (rvs:List V) (rs:List bS),vs=[.ref rt]/\H rt=some (.tup rvs)/\cR (e6 H) rvs rs/\rs.length<64/\(∀r∈rs,(gs r).length<=100)/\
 ∀(l:ar) (ss:List Str) (H':Hp),(∀y,y∈ss↔∃r∈rs,y∈gs r)->ss.length<=7000->H l=none->H' l=some (.lst (ss.map V.str))->aL H H'->Q (.ref l) H'
abbrev wG:Nat:=0
abbrev kr:Nat:=1
abbrev Iv:Nat:=2
abbrev Hu:Nat:=3
abbrev z9:Nat:=1
abbrev zk:Nat:=2
abbrev BO:Nat:=3
abbrev Bv:Nat:=4
inductive eJ where
 |num (x:Str) (z:Int)
 |op (x s a b:Str)
 |call (x:Str) (k:Int) (as:List Str)
 |say (a:Str)
 |jump (to:Int)
 |test (a:Str) (to:Int)
 |give (a:Str)
structure bw where
 name:Str
 params:List Str
 rows:List eJ
def Hi:eJ->Str
 |.num _ _=>"num"|.op _ _ _ _=>"op"|.call _ _ _=>"call"|.say _=>"say"|.jump _=>"jump"|.test _ _=>"test"|.give _=>"give"
def h9(H:Hp)(v:V):eJ->Prop
 |.num x z=>∃p,v=.ref p/\H p=some (.tup [.str "num",.str x,.int z])
 |.op x s a b=>∃p,v=.ref p/\H p=some (.tup [.str "op",.str x,.str s,.str a,.str b])
 |.call x k as=>∃p q,v=.ref p/\H p=some (.tup [.str "call",.str x,.int k,.ref q])/\H q=some (.tup (as.map V.str))
 |.say a=>∃p,v=.ref p/\H p=some (.tup [.str "say",.str a])
 |.jump to=>∃p,v=.ref p/\H p=some (.tup [.str "jump",.int to])
 |.test a to=>∃p,v=.ref p/\H p=some (.tup [.str "test",.str a,.int to])
 |.give a=>∃p,v=.ref p/\H p=some (.tup [.str "give",.str a])
def h9.mono{H H':Hp}{v:V}{r:eJ}(h:h9 H v r)(t:Tp H H'):h9 H' v r:=by
 cases r with
 |num x z=>obtain⟨p,e,h⟩:=h;exact⟨p,e,t _ _ h⟩
 |op x s a b=>obtain⟨p,e,h⟩:=h;exact⟨p,e,t _ _ h⟩
 |call x k as=>obtain⟨p,q,e,h,h'⟩:=h;exact⟨p,q,e,t _ _ h,t _ _ h'⟩
 |say a=>obtain⟨p,e,h⟩:=h;exact⟨p,e,t _ _ h⟩
 |jump to=>obtain⟨p,e,h⟩:=h;exact⟨p,e,t _ _ h⟩
 |test a to=>obtain⟨p,e,h⟩:=h;exact⟨p,e,t _ _ h⟩
 |give a=>obtain⟨p,e,h⟩:=h;exact⟨p,e,t _ _ h⟩
def h9.ref{H:Hp}{v:V}{r:eJ}(h:h9 H v r):∃p xs,v=.ref p/\H p=some (.tup (.str (Hi r)::xs)):=by
 cases r with
 |num x z=>obtain⟨p,e,h⟩:=h;exact⟨p,_,e,h⟩
 |op x s a b=>obtain⟨p,e,h⟩:=h;exact⟨p,_,e,h⟩
 |call x k as=>obtain⟨p,q,e,h,h'⟩:=h;exact⟨p,_,e,h⟩
 |say a=>obtain⟨p,e,h⟩:=h;exact⟨p,_,e,h⟩
 |jump to=>obtain⟨p,e,h⟩:=h;exact⟨p,_,e,h⟩
 |test a to=>obtain⟨p,e,h⟩:=h;exact⟨p,_,e,h⟩
 |give a=>obtain⟨p,e,h⟩:=h;exact⟨p,_,e,h⟩
def eJ.low:eJ->bS
 |.num x z=>.num x z
 |.op x s a b=>.op x s a b
 |.call x k as=>.call x k.toNat as
 |.say a=>.say a
 |.jump to=>.jump to.toNat
 |.test a to=>.test a to.toNat
 |.give a=>.give a
def bS.up:bS->eJ
 |.num x z=>.num x z
 |.op x s a b=>.op x s a b
 |.call x k as=>.call x (k:Nat) as
 |.say a=>.say a
 |.jump to=>.jump (to:Nat)
 |.test a to=>.test a (to:Nat)
 |.give a=>.give a
def bS.up_low(r:bS):r.up.low=r:=by cases r<;>simp[bS.up,eJ.low]
def e6.up{H:Hp}{v:V}{r:bS}(h:e6 H v r):h9 H v r.up:=by cases r<;>exact h
def eJ.ok0:eJ->Prop
 |.call _ k _=>0<=k
 |.jump to=>0<=to
 |.test _ to=>0<=to
 |_=>True
def h9.low{H:Hp}{v:V}{r:eJ}(h:h9 H v r)(k:r.ok0):e6 H v r.low:=by
 cases r with
 |call x n as=>obtain⟨p,q,e,h,h'⟩:=h;exact⟨p,q,e,by rw[show((n.toNat:Nat):Int)=n from by have:0<=n:=k;lia];exact h,h'⟩
 |jump to=>obtain⟨p,e,h⟩:=h;exact⟨p,e,by rw[show((to.toNat:Nat):Int)=to from by have:0<=to:=k;lia];exact h⟩
 |test a to=>obtain⟨p,e,h⟩:=h;exact⟨p,e,by rw[show((to.toNat:Nat):Int)=to from by have:0<=to:=k;lia];exact h⟩
 |num x z=>exact h
 |op x s a b=>exact h
 |say a=>exact h
 |give a=>exact h
def CU:eJ->V
 |.jump to=>.int to
 |.test _ to=>.int to
 |_=>.non
def wD:eJ->Bool
 |.jump _=>true
 |.give _=>true
 |_=>false
def Qw(r:eJ):jT r.low=wD r:=by cases r<;>rfl
def Pr(cs:List Nat)(n:Nat):eJ->Prop
 |.call _ k as=>k<0\/cs[k.toNat]?≠some as.length
 |.jump to=>to<0\/(n:Int)<=to
 |.test _ to=>to<0\/(n:Int)<=to
 |_=>False
def Pr.ok0{cs:List Nat}{n:Nat}{r:eJ}(h:¬Pr cs n r):r.ok0:=by
 cases r with
 |call x k as=>exact yZ.mp λz=>h (.inl z)
 |jump to=>exact yZ.mp λz=>h (.inl z)
 |test a to=>exact yZ.mp λz=>h (.inl z)
 |_=>trivial
def V7(cs:List Nat)(ws:List eJ)(n:Nat):Prop:=∃r,ws[n]?=some r/\(Pr cs ws.length r\/(n+1=ws.length/\wD r=false))
def vc(rs:List bS)(n:Nat):Prop:=(∃r,rs[n]?=some r/\ic r=true)/\∃k,runJ rs (k+1) n=n
section
variable(f:Nat->Nat)(p:Nat->Bool)
variable{f p}
def IP:∀(L:Nat) (g:Nat->Nat),(∀k,k<=L->g k<L)->∃i j,i<j/\j<=L/\g i=g j
 |0,g,h=>absurd (h 0 (aD _)) (by omega)
 |L+1,g,h=>by
  by_cases hx:∃i,i<L+1/\g i=g (L+1)
  ·obtain⟨i,hi,e⟩:=hx;exact⟨i,L+1,hi,aD _,e⟩
  ·have hne:∀i,i<L+1->g i≠g (L+1):=λi hi e=>hx ⟨i,hi,e⟩;have hb:=h (L+1) (aD _);have key:∀k,k<=L->(if g k=L then g (L+1) else g k)<L:=λk hk=>by
    have h1:=h k (by omega);have h2:=hne k (by omega);by_cases e:g k=L
    ·rw[if_pos e];have h3:g (L+1)≠L:=λz=>h2 (by rw[e,z]);omega
    ·rw[if_neg e];omega
   obtain⟨i,j,hij,hj,e⟩:=IP L (λk=>if g k=L then g (L+1) else g k) key;refine⟨i,j,hij,by omega,?_⟩;by_cases e1:g i=L
   ·by_cases e2:g j=L
    ·rw[e1,e2]
    ·simp only[if_pos e1,if_neg e2] at e;exact absurd e.symm (hne j (by omega))
   ·by_cases e2:g j=L
    ·simp only[if_neg e1,if_pos e2] at e;exact absurd e (hne i (by omega))
    ·simp only[if_neg e1,if_neg e2] at e;exact e
end
def jB(rs:List bS):∀(a b n:Nat),runJ rs (a+b) n=runJ rs b (runJ rs a n)
 |0,b,n=>by rw[Nat.zero_add];rfl
 |a+1,b,n=>by
  rw[Nat.add_right_comm];show runJ rs (a+b) (stp rs n)=runJ rs b (runJ rs a (stp rs n));exact jB rs a b _
def UK{rs:List bS}(hg:∀r∈rs,∀t:Nat,oa r=.int (t:Nat)->t<rs.length){n:Nat}(hn:n<rs.length):stp rs n<rs.length:=by
 unfold stp;cases e:rs[n]? with
 |none=>exact hn
 |some r=>
  cases r with
  |jump t=>exact hg _ (aF e) t rfl
  |_=>exact hn
def tD{rs:List bS}(hg:∀r∈rs,∀t:Nat,oa r=.int (t:Nat)->t<rs.length):∀(k:Nat) {n:Nat},n<rs.length->runJ rs k n<rs.length
 |0,_,hn=>hn
 |k+1,n,hn=>tD hg k (UK hg hn)
def nU(rs:List bS)(n:Nat):Prop:=∃r,rs[n]?=some r/\ic r=true
def Gb{rs:List bS}{n:Nat}(h:¬nU rs n):∀r,rs[n]?=some r->ic r=false:=λr e=>by
 cases c:ic r with
 |false=>rfl
 |true=>exact absurd ⟨r,e,c⟩ h
def stay{rs:List bS}{n:Nat}(h:¬nU rs n)(k:Nat):runJ rs k n=n:=tE (Gb h) k
def xJ{rs:List bS}{n a b:Nat}(h:nU rs (runJ rs b n))(le:a<=b):nU rs (runJ rs a n):=by
 apply Classical.byContradiction;intro c;have e:runJ rs b n=runJ rs a n:=by
  rw[show b=a+(b-a) from by lia,jB];exact stay c _
 rw[e] at h;exact c h
def LQ{rs:List bS}(hg:∀r∈rs,∀t:Nat,oa r=.int (t:Nat)->t<rs.length)(h:∀n,¬vc rs n):v8 rs:=by
 intro n hn r e;cases c:ic r with
 |false=>rfl
 |true=>
  exfalso;obtain⟨i,j,lt,le,q⟩:=IP rs.length (λk=>runJ rs k n) λk _=>tD hg k hn;have ji:nU rs (runJ rs i n):=xJ (b:=rs.length) ⟨r,e,c⟩ (by lia);refine h (runJ rs i n) ⟨ji,j-i-1,?_⟩;rw[<-jB,show i+(j-i-1+1)=j from by lia];exact q.symm
def vc.first{rs:List bS}(hg:∀r∈rs,∀t:Nat,oa r=.int (t:Nat)->t<rs.length){n:Nat}(hn:n<rs.length)(h:vc rs n):∃p,1<=p/\p<=rs.length/\runJ rs p n=n/\∀q,1<=q->q<p->runJ rs q n≠n:=by
 obtain⟨_,k,e⟩:=h;obtain⟨p,⟨p1,ep⟩,mn⟩:=Vf (p:=λp=>1<=p/\runJ rs p n=n) (k+1) ⟨by lia,e⟩;refine⟨p,p1,?_,ep,λq q1 lt z=>mn q lt ⟨q1,z⟩⟩;apply Classical.byContradiction;intro big;obtain⟨i,j,lt,le,q⟩:=IP rs.length (λk=>runJ rs k n) λk _=>tD hg k hn;have q':runJ rs i n=runJ rs j n:=q;refine mn (i+(p-j)) (by lia) ⟨by lia,?_⟩;rw[jB,q',<-jB,show j+(p-j)=p from by lia];exact ep
def vc.jumps{rs:List bS}{n:Nat}(h:vc rs n)(a:Nat):nU rs (runJ rs a n):=by
 obtain⟨j,k,e⟩:=h;have all:∀m,runJ rs (m*(k+1)) n=n:=λm=>by
  induction m with
  |zero=>rw[Nat.zero_mul];rfl
  |succ m ih=>rw[Nat.succ_mul,jB,ih,e]
 refine xJ (b:=a*(k+1)) (by rw[all];exact j) ?_;exact Nat.le_mul_of_pos_right a (by lia)
def OM{rs:List bS}(hg:∀r∈rs,∀t:Nat,oa r=.int (t:Nat)->t<rs.length){n i:Nat}(hn:n<rs.length)(df:∀a b,a<b->b<i->runJ rs a n≠runJ rs b n)(jp:∀a,a<i->nU rs (runJ rs a n))
  (en:¬nU rs (runJ rs i n)\/∃j,j<i/\runJ rs i n=runJ rs j n):(runJ rs i n=n/\0<i)↔vc rs n:=by
 constructor
 ·rintro⟨e,pos⟩;exact⟨jp 0 pos,i-1,by rw[show i-1+1=i from by lia];exact e⟩
 ·intro rg;obtain⟨p,p1,_,ep,mn⟩:=rg.first hg hn;rcases en with c|⟨j,lt,ej⟩
  ·exact absurd (rg.jumps i) c
  ·have pi:i<=p:=by
    apply Classical.byContradiction;intro z;exact df 0 p (by lia) (by lia) ep.symm
   refine⟨?_,by lia⟩;by_cases c:p=i
   ·rw[<-c];exact ep
   ·by_cases j0:j=0
    ·subst j0;exact ej
    ·exfalso;refine mn (j+(p-i)) (by lia) (by lia) ?_;rw[jB,<-ej,<-jB,show i+(p-i)=p from by lia];exact ep
def bw.low(b:bw):eF:=⟨b.name,b.params,b.rows.map eJ.low⟩
def UC(r:eJ):List Str:=gs r.low
structure MZ(b:bw):Prop where
 p9:b.params.length<=100
 few:b.rows.length<64
 rd:∀r∈b.rows,(UC r).length<=100
structure zB(ps:List bw):Prop where
 few:ps.length<=100
 part:∀b∈ps,MZ b
def tG(ps:List bw):List Nat:=ps.map (·.params.length)
def xC(ps:List bw)(k:Nat)(b:bw):Prop:=b.name∈(ps.take k).map (·.name)\/¬b.params.Nodup
def yv(cs:List Nat)(b:bw)(n:Nat):Prop:=(b.rows=[]/\n=0)\/V7 cs b.rows n
def jP(p:Nat->Prop)(n:Nat):Prop:=p n/\∀m,m<n->¬p m
def jP.one{p:Nat->Prop}{n m:Nat}(a:jP p n)(b:jP p m):n=m:=by
 rcases Nat.lt_trichotomy n m with lt|eq|lt
 ·exact absurd a.1 (b.2 n lt)
 ·exact eq
 ·exact absurd b.1 (a.2 m lt)
inductive xD(ps:List bw)(k:Nat)(b:bw):Nat->Str->Prop where
 |name:xC ps k b->xD ps k b 0 "name"
 |row {n:Nat}:¬xC ps k b->jP (yv (tG ps) b) n->xD ps k b n "row"
 |ring {n:Nat}:¬xC ps k b->(∀m,¬yv (tG ps) b m)->jP (vc b.low.rows) n->xD ps k b n "ring"
 |unset {n:Nat}:¬xC ps k b->(∀m,¬yv (tG ps) b m)->(∀m,¬vc b.low.rows m)->jP (SJ b.low) n->xD ps k b n "unset"
structure JO(ps:List bw)(k:Nat)(b:bw):Prop where
 name:¬xC ps k b
 row:∀m,¬yv (tG ps) b m
 ring:∀m,¬vc b.low.rows m
 unset:∀m,¬SJ b.low m
def xD.not{ps:List bw}{k:Nat}{b:bw}{n:Nat}{w:Str}(h:xD ps k b n w)(c:JO ps k b):False:=by
 cases h with
 |name z=>exact c.name z
 |row _ z=>exact c.row _ z.1
 |ring _ _ z=>exact c.ring _ z.1
 |unset _ _ _ z=>exact c.unset _ z.1
def vV(ps:List bw):Prop:=∀(k:Nat) b,ps[k]?=some b->JO ps k b
structure zj(ps:List bw)(k n:Nat)(w:Str):Prop where
 at_:∃b,ps[k]?=some b/\xD ps k b n w
 ahead:∀(j:Nat) b,j<k->ps[j]?=some b->JO ps j b
def zj.clean{ps:List bw}{k n:Nat}{w:Str}(f:zj ps k n w):¬vV ps:=λc=>by
 obtain⟨b,e,h⟩:=f.at_;exact h.not (c k b e)
def yX{cs:List Nat}{b:bw}(h:∀m,¬yv cs b m):∀r∈b.rows,¬Pr cs b.rows.length r:=λr hr z=>by
 obtain⟨i,hi,e⟩:=bV.mp hr;exact h i (.inr ⟨r,by rw[af hi,e],.inl z⟩)
def FP{cs:List Nat}{b:bw}(h:∀m,¬yv cs b m):∀r∈b.low.rows,∀t:Nat,oa r=.int (t:Nat)->t<b.low.rows.length:=λr hr t e=>by
 obtain⟨r0,hr0,rfl⟩:=bA.mp hr;have nb:=yX h r0 hr0;show t<(b.rows.map eJ.low).length;rw[ae];cases r0 with
 |jump to=>
  have hn:¬(to<0\/(b.rows.length:Int)<=to):=nb;have:to.toNat=t:=by injection e with e;lia
  lia
 |test a to=>
  have hn:¬(to<0\/(b.rows.length:Int)<=to):=nb;have:to.toNat=t:=by injection e with e;lia
  lia
 |_=>cases e
def OS{ps:List bw}{k:Nat}{b:bw}(wd:MZ b)(hn:¬xC ps k b)(h:∀m,¬yv (tG ps) b m)(hr:∀m,¬vc b.low.rows m):HM (tG ps) b.low:=by
 have gl:=FP h;have ne:b.rows≠[]:=λz=>h 0 (.inl ⟨z,rfl⟩);have pos:0<b.rows.length:=cP.mpr ne;have ll:b.low.rows.length=b.rows.length:=ae ..;have la:b.low.rows.getLast?.map jT=some true:=by
  show((b.rows.map eJ.low).getLast?).map jT=some true;rw[cF,ae,aQ];have lt:b.rows.length-1<b.rows.length:=by lia
  rw[af lt,cv,cv,Qw];cases c:wD b.rows[b.rows.length-1] with
  |true=>rfl
  |false=>exact absurd (.inr ⟨_,af lt,.inr ⟨by lia,c⟩⟩) (h (b.rows.length-1))
 refine⟨Classical.not_not.mp λz=>hn (.inr z),wd.p9,⟨by lia,by rw[ll];exact wd.few,F3 gl la,LQ gl hr⟩,gl,λx k as hm=>?_,la,λr hm=>?_⟩
 ·obtain⟨r0,hr0,e⟩:=bA.mp hm;have nb:=yX h r0 hr0;cases r0 with
  |call x' k' as'=>
   injection e with e1 e2 e3;rw[<-e2,<-e3];have hn:¬(k'<0\/(tG ps)[k'.toNat]?≠some as'.length):=nb;exact Classical.not_not.mp λz=>hn (.inr z)
  |_=>cases e
 ·obtain⟨r0,hr0,rfl⟩:=bA.mp hm;exact wd.rd r0 hr0
def lX(H:Hp)(v:V)(b:bw):Prop:=∃p q r rs,v=.ref p/\H p=some (.tup [.str b.name,.ref q,.ref r])/\H q=some (.tup (b.params.map V.str))/\H r=some (.tup rs)/\cR (h9 H) rs b.rows
def fz(H:Hp)(p:ar)(ps:List bw):Prop:=∃pvs,H p=some (.tup pvs)/\cR (lX H) pvs ps
def lX.mono{H H':Hp}{v:V}{b:bw}(h:lX H v b)(t:Tp H H'):lX H' v b:=by
 obtain⟨p,q,r,rs,e,h1,h2,h3,h4⟩:=h;exact⟨p,q,r,rs,e,t _ _ h1,t _ _ h2,t _ _ h3,h4.imp λ_ _ z=>z.mono t⟩
def fz.mono{H H':Hp}{p:ar}{ps:List bw}(h:fz H p ps)(t:Tp H H'):fz H' p ps:=by
 obtain⟨pvs,e,a⟩:=h;exact⟨pvs,t _ _ e,a.imp λ_ _ z=>z.mono t⟩
def lX.low{cs:List Nat}{H:Hp}{v:V}{b:bw}(h:lX H v b)(ok:∀m,¬yv cs b m):mE H v b.low:=by
 obtain⟨p,q,r,rs,e,h1,h2,h3,h4⟩:=h;refine⟨p,q,r,rs,e,h1,h2,h3,by rw[h4.len];exact(ae ..).symm,λi v r' ev er=>?_⟩;have er:(b.rows.map eJ.low)[i]?=some r':=er;rw[aQ] at er;obtain⟨r0,e0,rfl⟩:=b4.mp er;exact(h4.at_ i v r0 ev e0).low (Pr.ok0 (yX ok r0 (aF e0)))
def DI(n:Nat):eJ->Prop
 |.jump to=>to<0\/(n:Int)<=to
 |.test _ to=>to<0\/(n:Int)<=to
 |_=>False
def MG(cs:List Nat):eJ->Prop
 |.call _ k as=>k<0\/cs[k.toNat]?≠some as.length
 |_=>False
def D6{cs:List Nat}{n:Nat}{r:eJ}:Pr cs n r↔DI n r\/MG cs r:=by
 cases r with
 |call x k as=>exact⟨λz=>.inr z,λz=>z.elim (λq=>q.elim) id⟩
 |jump to=>exact⟨λz=>.inl z,λz=>z.elim id (λq=>q.elim)⟩
 |test a to=>exact⟨λz=>.inl z,λz=>z.elim id (λq=>q.elim)⟩
 |num x z=>exact⟨λz=>z.elim,λz=>z.elim id id⟩
 |op x s a b=>exact⟨λz=>z.elim,λz=>z.elim id id⟩
 |say a=>exact⟨λz=>z.elim,λz=>z.elim id id⟩
 |give a=>exact⟨λz=>z.elim,λz=>z.elim id id⟩
def xc(_:Fg):Sp:=λvs H Q _=>∃(v:V) (r:eJ),vs=[v]/\h9 H v r/\Q (CU r) H
def d9(K:Fg):Sp:=λvs H Q _=>∃(x:ar) (a:V),vs=[.ref x,a]/\H x=some (XF x (cg K "NoLine") none)/\
 ∀(dx:ar) (H':Hp),H dx=none->dx≠x->H' x=some (XF x (cg K "NoLine") (some dx))->H' dx=some (XD dx [("line",a)])->iq x H H'->Q .non H'
def uK(K:Fg):Sp:=λvs H Q E=>∃(p:ar) (ps:List bw),vs=[.ref p]/\fz H p ps/\zB ps/\(vV ps->∀(H':Hp),aL H H'->Q .non H')/\
 ∀(k n:Nat) (w:Str),zj ps k n w->∀(dx:ar) (H':Hp),aL H H'->H' dx=some (XD dx (zi k n w))->E (.ref (cg K "NoProgram")) (some dx) H'
def oq(_:Fg):Sp:=λvs H Q _=>∃(p:ar) (k:Nat) (ps:List bw) (b:bw),vs=[.ref p,.int (k:Nat)]/\fz H p ps/\zB ps/\ps[k]?=some b/\(xC ps k b->∀(H':Hp),aL H H'->Q (.int 0) H')/\(¬xC ps k b->∀(H':Hp),aL H H'->Q .non H')
def qg(_:Fg):Sp:=λvs H Q _=>∃(p:ar) (k:Nat) (ps:List bw) (b:bw),vs=[.ref p,.int (k:Nat)]/\fz H p ps/\zB ps/\ps[k]?=some b/\
 (∀n:Nat,jP (yv (tG ps) b) n->∀(H':Hp),aL H H'->Q (.int (n:Nat)) H')/\((∀m,¬yv (tG ps) b m)->∀(H':Hp),aL H H'->Q .non H')
def kF(_:Fg):Sp:=λvs H Q _=>∃(rt:ar) (v:V) (rvs:List V) (r:eJ),vs=[.ref rt,v]/\H rt=some (.tup rvs)/\h9 H v r/\∀(b:Bool),(b=true↔DI rvs.length r)->Q (.bl b) H
def kD(_:Fg):Sp:=λvs H Q _=>∃(p:ar) (v:V) (ps:List bw) (r:eJ),vs=[.ref p,v]/\fz H p ps/\h9 H v r/\∀(b:Bool),(b=true↔MG (tG ps) r)->Q (.bl b) H
def JK(rs:List bS):Prop:=∀r∈rs,∀t:Nat,oa r=.int (t:Nat)->t<rs.length
def oy(_:Fg):Sp:=λvs H Q _=>∃(rt:ar) (rvs:List V) (rs:List bS),vs=[.ref rt]/\H rt=some (.tup rvs)/\cR (e6 H) rvs rs/\rs.length<64/\JK rs/\
 (∀n:Nat,jP (vc rs) n->∀(H':Hp),aL H H'->Q (.int (n:Nat)) H')/\((∀m,¬vc rs m)->∀(H':Hp),aL H H'->Q .non H')
def kE(_:Fg):Sp:=λvs H Q _=>∃(rt:ar) (n:Nat) (rvs:List V) (rs:List bS),vs=[.ref rt,.int (n:Nat)]/\H rt=some (.tup rvs)/\cR (e6 H) rvs rs/\rs.length<64/\JK rs/\n<rs.length/\
 ∀(b:Bool) (H':Hp),(b=true↔vc rs n)->aL H H'->Q (.bl b) H'
abbrev BJ:Nat:=0
abbrev kM:Nat:=1
abbrev Lz:Nat:=4
abbrev KF:Nat:=5
abbrev En:Nat:=0
abbrev DJ:Nat:=1
abbrev FZ:Nat:=2
abbrev Fe:Nat:=3
abbrev yE:Nat:=1
abbrev yq:Nat:=2
abbrev yC:Nat:=0
abbrev yn:Nat:=1
abbrev Ep:Nat:=2
abbrev DL:Nat:=3
abbrev yD:Nat:=1
abbrev yo:Nat:=2
end Bg
end
section
namespace PySem.W
open PySem PySem.Calls PyProof.Rows PyProof.V PySem.Spec Builtin Builtin.Str Builtin.Int
section
variable{prog:aW}{w:bK}{A:bj}{E:ZF}{s:aq}{r l:ar}
end
end PySem.W
namespace L2
open PySem PySem.Spec PyProof.Rows
section
variable{X:Cx}
def Kf:List V->Hp->VK->Prop:=λxs H Q=>∃i:Int,xs=[.int i]/\i.natAbs.log2<1920/\Q (.str (Str.ofString (toString i))) H
def Fu:iY X (.type "str") Kf:=Eb
def EB:List V->Hp->VK->Prop:=λxs H Q=>Kf xs H Q\/∃z:Str,xs=[.str z]/\Q (.str z) H
def zG:iY X (.type "str") EB:=by
 intro pins s σ H xs us Q I r h;rcases h with h|⟨z,rfl,q⟩
 ·exact Fu pins s σ H xs us Q I r h
 ·obtain⟨u,rfl,rx⟩:=mU r;obtain⟨t,rfl⟩:=rx;exact PySem.P.str_of_str ⟨.str z,H,I,⟨t,rfl⟩,q⟩
end
section
variable{X:Cx}
end
end L2
end
section
namespace Bg
open PySem L2
def sN(z:Int):Str:=Str.ofString (toString z)
def IR(z:Int):Prop:=0<=z/\z<2 ^ 64
end Bg
end
section
namespace L2
open PySem PySem.Spec PyProof.Rows
def DH:∀l:List (Str×Tok),c8 ((l.map (·.1)).map V.str) (strValues l)
 |[]=>.nil
 |p::r=>.cons ⟨p.2,rfl⟩ (DH r)
def Jh{z y:Str}(hz:z.length+2<=av):(Txt.split z y).length<=av:=by
 unfold Txt.split;split
 ·show 1<=av;lia
 ·split
  ·show 1<=av;lia
  ·have e1:=StrLaws.occ_length_le z y 0 z.length (z.length+1);rw[length_partsBetween];lia
def qb:V->List V->Hp->VK->Prop:=λx vs H Q=>∃(z y:Str),x=.str z/\vs=[.str y]/\(y.length==0)=false/\z.length+2<=av/\∀l,H l=none->Q (.ref l) (upd H l (.lst ((Txt.split z y).map V.str)))
section
variable{X:Cx}
def mG:US X "str.split" qb:=by
 intro pins s σ H x vs v us Q I rx rv h;obtain⟨z,y,rfl,rfl,hy,hz,q⟩:=h;obtain⟨t,rfl⟩:=rx;obtain⟨u,rfl,ru⟩:=rv.one;obtain⟨tu,rfl⟩:=ru;have many:=Jh (y:=y) hz;have fin:∀(l:List (Str×Tok)) (k:Nat),l.map (·.1)=Txt.split z y->EP X pins σ Q (.ref s.heap.objs.size) {s with heap:=s.heap.push {cls:=.type "list",data:=.seq (strValues l).toArray},toks:=k}:=λl k e=>by
  refine⟨.ref s.heap.objs.size,_,I.lnew (ys:=(l.map (·.1)).map V.str) (t':=k) (DH l) (by rw[ae,e];exact many),rfl,?_⟩;rw[e];exact q _ I.fresh
 cases c1:(decide (z.length<y.length) || decide (Builtin.Str.strKind z<Builtin.Str.strKind y)) with
 |true=>
  have e0:Txt.split z y=[z]:=by unfold Txt.split;rw[if_pos c1]
  exact gR cG (typeIs_str s z t) ju (iX _ _) (meets_str_split_cannot_occur z y t tu c1) (fin [(z,t)] s.toks e0.symm)
 |false=>
  cases c2:(Builtin.Str.occurrences z y 0 z.length (z.length+1)).isEmpty with
  |true=>
   have e0:Txt.split z y=[z]:=by unfold Txt.split;rw[if_neg (by rw[c1];decide),if_pos c2]
   exact gR cG (typeIs_str s z t) ju (iX _ _) (meets_str_split_not_found z y t tu c1 hy c2) (fin [(z,t)] s.toks e0.symm)
  |false=>
   have e0:Txt.split z y=Builtin.Str.partsBetween z (Builtin.Str.occurrences z y 0 z.length (z.length+1)) y.length:=by unfold Txt.split;rw[if_neg (by rw[c1];decide),if_neg (by rw[c2];decide)]
   refine gR cG (typeIs_str s z t) ju (iX _ _) (meets_str_split_sep z y t tu c1 hy c2 (by lia) (by rw[<-e0];exact many)) ?_;have g:=fin (numbered s.toks (Txt.split z y)) (s.toks+(Txt.split z y).length) (numbered_texts _ _);rw[<-strsFrom_eq] at g;rw[<-e0];exact g
def Dd:List V->Hp->VK->Prop:=λxs H Q=>∃(x:Str) (n:Int),xs=[.str x]/\PySem.intText? x=some n/\x.length<=640/\Q (.int n) H
def oR:iY X (.type "int") Dd:=by
 intro pins s σ H xs us Q I r h;obtain⟨x,n,rfl,e,hl,q⟩:=h;obtain⟨u,rfl,rx⟩:=mU r;obtain⟨t,rfl⟩:=rx;exact PySem.W.KIN.call_text e hl ⟨.int n,H,I.tok _,⟨_,rfl⟩,q⟩
def Gj(K:Fg):R2:=λx y H Q=>E3 K false x y H Q\/∃(c:Nat) (j:Str),x=.str ⟨#[c]⟩/\y=.str j/\Q (.bl (decide (c∈j.cps.toList))) H
def An:jE X (bP .In) (Gj X.K):=by
 refine gO.or ?_;intro pins s σ H x y v u Q I rx ry h;obtain⟨c,j,rfl,rfl,q⟩:=h;exact LV pins s σ H _ _ v u Q I rx ry ⟨⟨#[c]⟩,j,rfl,rfl,by rw[StrLaws.found_one];exact q⟩
def UY(x:Str):It:=⟨λi _=>i<x.cps.size,λi H v H'=>H'=H/\∃c,x.cps[i]?=some c/\v=.str ⟨#[c]⟩,λi _=>x.cps.size<=i⟩
def Hf{P:aW}{w:bK}{K:Fg}{tg:Expr}{T:String}(it:ar)(x:Str)(t:Tok)(hT:["enumerate","zip","dict_itemiterator","dict_reverseitemiterator","odict_iterator","itertools.zip_longest","itertools.pairwise"].contains T=false)
  (W:∀A:bj,A.handled=none->Walks P w A it [it] [it] x.cps.size (SignAt x) (λi h=>h.IsStrIter it T x t i))
  (hself:∀(A:bj) (i:Nat) (s:aq) (Q:ZF) (E:ZF),s.heap.IsStrIter it T x t i->Q (.ref it) s->aO (model P w) A (pyIter (.ref it)) Q E s):DW P w K tg (UY x) [it] it (λi h=>h.IsStrIter it T x t i/\i<=x.cps.size) where
 mem:=by simp
 obj:=λi h st b hb=>by
  have e:b=it:=by simpa using hb
  subst e;obtain⟨⟨o,e,c,d⟩,_⟩:=st;exact⟨o,e,λv z=>by rw[d] at z;cases z⟩
 keep:=λi h h' st k=>by
  obtain⟨⟨o,e,r⟩,l⟩:=st;exact⟨⟨o,k it (by simp) o e,r⟩,l⟩
 item:=by
  intro X hP hw hK hc i pins s σ H E I hf st hg;subst hP hw hK;obtain⟨f0,f1,f2,f3,f4,f5⟩:=hf it (by simp);refine(W X.A (I.ok.hd hc)).item i s _ _ hg st.1 λv h' tk hv st' kk=>?_;obtain⟨c,u,hx,rfl⟩:=hv;have I1:bY X pins σ H {s with heap:=h',toks:=tk}:=I.turned (λb o hb e=>kk b o (by simpa using hb) e) f0 f1 f3 f4 f5;obtain⟨o,e,cc,d⟩:=id st';exact⟨_,rfl,J1 (s:={s with heap:=h',toks:=tk}) e cc d hT ⟨.str ⟨#[c]⟩,H,I1,⟨u,rfl⟩,⟨rfl,c,hx,rfl⟩,⟨st',hg⟩,λb hb=>(hf b hb).1⟩⟩
 done:=by
  intro X hP hw hK hc i pins s σ H E I hf st hg;subst hP hw hK;obtain⟨f0,f1,f2,f3,f4,f5⟩:=hf it (by simp);have ei:i=x.cps.size:=qy st.2 hg;refine(W X.A (I.ok.hd hc)).done s _ _ (by rw[<-ei];exact st.1) λh' tk kk=>⟨rfl,I.turned (λb o hb e=>kk b o (by simpa using hb) e) f0 f1 f3 f4 f5⟩
 self:=λA i s Q E st h=>hself A i s Q E st.1 h
def FS(tl:TE):TI:=λσ H R=>tl σ H λv H1=>∃x:Str,v=.str x/\R (UY x) H1
def Ue{tg l:Expr}{tl:TE}(hl:PE X l tl):PI X tg l (FS tl):=by
 intro pins s σ H R I h;refine fk (hl pins s σ H _ I h) λv s1 ⟨x,H1,I1,r1,q1⟩=>?_;obtain⟨x,rfl,q⟩:=q1;obtain⟨t,rfl⟩:=r1;have fp:∀b∈[s1.heap.objs.size],uy X pins H1 b:=λb hb=>by
  have e:b=s1.heap.objs.size:=by simpa using hb
  subst e;exact I1.fpOk (aD _) (I1.hok.fresh (aD _))
 cases ha:x.cps.all (·<128) with
 |true=>
  exact wpAny_pyIter_ascii ha ⟨s1.heap.objs.size,[s1.heap.objs.size],_,_,H1,rfl,I1.kept (t':=s1.toks) λb o e=>az _ e,
   Hf (T:="str_ascii_iterator") _ x t (by decide) (λA hA=>Walks.strAscii hA _ x t) (λ_ _ _ _ _ st h=>wpAny_pyIter_striter_ascii st h),⟨⟨_,aZ _ rfl,rfl,rfl⟩,cA _⟩,fp,q⟩
 |false=>
  exact wpAny_pyIter_wide ha ⟨s1.heap.objs.size,[s1.heap.objs.size],_,_,H1,rfl,I1.kept (t':=s1.toks) λb o e=>az _ e,
   Hf (T:="str_iterator") _ x t (by decide) (λA hA=>Walks.strWide hA _ x t) (λ_ _ _ _ _ st h=>wpAny_pyIter_striter_wide st h),⟨⟨_,aZ _ rfl,rfl,rfl⟩,cA _⟩,fp,q⟩
def EA{tg l:Expr}{tl:TE}(hl:QE X l tl):QI X tg l (FS tl):=⟨Ue hl.up⟩
def VO:V->Option Int->Option Int->Hp->VK->Prop:=λx lo hi H Q=>∃z:Str,x=.str z/\z.length<=av/\Q (.str (Txt.slice z lo hi)) H
def UH:KS X VO:=by
 intro pins s σ H x v vl vu lo hi sl Q I rx hs pl pu h;obtain⟨z,rfl,hz,q⟩:=h;obtain⟨t,rfl⟩:=rx;refine⟨"str",_,PySem.F.slot_str_getitem.lookup,typeIs_str _ _ _,?_⟩;have fin:(if((1:Int)==1&&(Builtin.Str.strSliceIndices lo hi 1 z.length).length==z.length)=true then Made.val (.str z t) else Made.str ⟨((Builtin.Str.strSliceIndices lo hi 1 z.length).filterMap (z.cps[·]?)).toArray⟩).post (EP X pins σ Q) s:=
  post_val_or_str ⟨b9 (Txt.slice_le z lo hi) hz,λt' k=>⟨.str _,H,I.tok k,⟨t',rfl⟩,q⟩⟩
 cases pl with
 |none=>
  cases pu with
  |none=>exact gJ (l:=none) (u:=none) (st:=none) hs rfl fin
  |int j uj=>exact gJ (l:=none) (u:=some (j,uj)) (st:=none) hs rfl fin
 |int i ui=>
  cases pu with
  |none=>exact gJ (l:=some (i,ui)) (u:=none) (st:=none) hs rfl fin
  |int j uj=>exact gJ (l:=some (i,ui)) (u:=some (j,uj)) (st:=none) hs rfl fin
def Rz(K:Fg):V->Option Int->Option Int->Hp->VK->Prop:=λx lo hi H Q=>VQ K x lo hi H Q\/VO x lo hi H Q
def Kk:KS X (Rz X.K):=RK.or UH
structure UQ(mg:Str->Option aa)(x z:Str):Prop where
 ex:∃t,mg x=some (.str z t)
structure UR(K:Fg)(mg:Str->Option aa)(x:Str)(xs:List V):Prop where
 ex:∃(p:ar) (o:Obj) (its:Array aa) (n:Nat),mg x=some (.ref p)/\K.lookup p=some o/\o.cls=.type "tuple"/\o.data=.seq its n/\its.size<=av/\c8 xs its.toList
def TV{x z:Str}{p:Pos}(hg:Gl X x)(hm:UQ X.mg x z)(hdb:(x==("__debug__":Str))=false:=by decide):PE X (.Name x p) (tC (.str z)):=by
 intro pins s σ H Q I h;obtain⟨t,e⟩:=hm.ex;exact pT I hg e ⟨.str z,H,I,⟨t,rfl⟩,h⟩ hdb
def RO(K:Fg)(xs:List V):TE:=λ_ H Q=>∀p:ar,(∀H',eO K H' p xs)->Q (.ref p) H
def TX{x:Str}{xs:List V}{p:Pos}(hg:Gl X x)(hm:UR X.K X.mg x xs)(hdb:(x==("__debug__":Str))=false:=by decide):PE X (.Name x p) (RO X.K xs):=by
 intro pins s σ H Q I h;obtain⟨a,o,its,n,e,k1,k2,k3,k4,k5⟩:=hm.ex;exact pT I hg e ⟨.ref a,H,I,rfl,h a λH'=>.inr ⟨o,its,n,k1,k2,k3,k4,k5⟩⟩ hdb
def Ov{x z:Str}{p:Pos}(hg:Gl X x)(hm:UQ X.mg x z)(hdb:(x==("__debug__":Str))=false:=by decide):QE X (.Name x p) (tC (.str z)):=⟨TV hg hm hdb⟩
def Ow{x:Str}{xs:List V}{p:Pos}(hg:Gl X x)(hm:UR X.K X.mg x xs)(hdb:(x==("__debug__":Str))=false:=by decide):QE X (.Name x p) (RO X.K xs):=⟨TX hg hm hdb⟩
end
def Nf{js:List Nat}{k:Nat}{x:Str}{g:TG}{tc:TT}{te:TE}{R:Hp->Prop}{σ:St}{H:Hp}{D:ar}(Pv:Nat->St->Hp->Prop)(h0:Pv 0 (Hn js k σ) (upd H D (.lst [])))
  (hs:∀i c σ H,x.cps[i]?=some c->Pv i σ H->g (.str ⟨#[c]⟩) σ H λσ2 H2=>wX D tc te {nx:=Pv (i+1),rt:=λ_ _=>False,ct:=Pv (i+1),bk:=λ_ H'=>R H'} σ2 H2) (hd:∀σ H,Pv x.cps.size σ H->R H) :
  ∃W:Nat->Nat->St->Hp->Prop,(∃m,W 0 m (Hn js k σ) (upd H D (.lst [])))/\∀i m σ H,W i m σ H->
   ((UY x).stop i H/\R H)\/((UY x).go i H/\∃N:St->Hp->Prop,(∀σ' H',N σ' H'->∃m',m'<m/\W (i+1) m' σ' H')/\∀v H',(UY x).yld i H v H'->g v σ H' λσ2 H2=>wX D tc te {nx:=N,rt:=λ_ _=>False,ct:=N,bk:=λ_ H'=>R H'} σ2 H2):=by
 refine⟨λi m σ H=>m=x.cps.size-i/\i<=x.cps.size/\Pv i σ H,⟨x.cps.size,by simp,cA _,h0⟩,?_⟩;rintro i m σ H ⟨rfl,hi,p⟩;by_cases hlt:i<x.cps.size
 ·refine .inr ⟨hlt,Pv (i+1),λσ' H' p'=>⟨x.cps.size-(i+1),by lia,rfl,hlt,p'⟩,λv H' y=>?_⟩;obtain⟨rfl,c,e,rfl⟩:=y;exact hs i c σ H' e p
 ·have ei:i=x.cps.size:=by lia
  subst ei;exact .inl ⟨aD _,hd σ H p⟩
end L2
end
section
namespace HT
open PySem PySem.Spec PyProof.Rows
section
variable{prog:aW}{w:bK}{A:bj}{E:ZF}{s:aq}
end
end HT
namespace L2
open PySem PySem.Spec PyProof.Rows
section
variable{X:Cx}{e st:Expr}{te ts:TE}{pos p2:Pos}
def TN{P:aW}{w:bK}{X:Cx}:uC (Hq P w) X E0:=λ_ _ _ _ _ _ _ h=>by
 obtain⟨_,_,_,_,_,_,_,_,_,_,_,_,_,_,_,z⟩:=h;exact z.elim
end
end L2
end
section
namespace Bg
open PySem L2
structure Nb(y:Str):Prop where
 l1:1<=y.length
 l20:y.length<=20
 dig:∀c∈y.cps.toList,48<=c/\c<=57
 lead:y.cps.toList.head?=some 48->y="0"
def qu(y:Str):Nat:=NumText.digitsVal y.cps.toList
inductive cL where
 |part (x:Str) (ps:List Str)
 |num (x:Str) (z:Nat)
 |op (x s a b:Str)
 |call (x f:Str) (as:List Str)
 |say (a:Str)
 |jump (to:Nat)
 |test (a:Str) (to:Nat)
 |give (a:Str)
def dn(ws:List Str):cL->Prop
 |.part x ps=>ws=(("part":Str)::x::ps)/\Nm x/\∀y∈ps,Nm y
 |.num x z=>∃y,ws=([x,"=",y]:List Str)/\Nm x/\Nb y/\z=qu y/\qu y<2 ^ 64
 |.op x s a b=>ws=([x,"=",a,s,b]:List Str)/\Nm x/\s∈jC/\Nm a/\Nm b
 |.call x f as=>ws=(x::("=":Str)::("call":Str)::f::as)/\Nm x/\Nm f/\∀y∈as,Nm y
 |.say a=>ws=(["say",a]:List Str)/\Nm a
 |.jump to=>∃y,ws=(["jump",y]:List Str)/\Nb y/\to=qu y
 |.test a to=>∃y,ws=(["test",a,y]:List Str)/\Nm a/\Nb y/\to=qu y
 |.give a=>ws=(["give",a]:List Str)/\Nm a
def gN(H:Hp)(v:V):cL->Prop
 |.part x ps=>∃p q,v=.ref p/\H p=some (.tup [.str "part",.str x,.ref q])/\H q=some (.tup (ps.map V.str))
 |.num x z=>∃p,v=.ref p/\H p=some (.tup [.str "num",.str x,.int (z:Nat)])
 |.op x s a b=>∃p,v=.ref p/\H p=some (.tup [.str "op",.str x,.str s,.str a,.str b])
 |.call x f as=>∃p q,v=.ref p/\H p=some (.tup [.str "call",.str x,.str f,.ref q])/\H q=some (.tup (as.map V.str))
 |.say a=>∃p,v=.ref p/\H p=some (.tup [.str "say",.str a])
 |.jump to=>∃p,v=.ref p/\H p=some (.tup [.str "jump",.int (to:Nat)])
 |.test a to=>∃p,v=.ref p/\H p=some (.tup [.str "test",.str a,.int (to:Nat)])
 |.give a=>∃p,v=.ref p/\H p=some (.tup [.str "give",.str a])
def Bn:cL->Str
 |.part _ _=>"part"|.num _ _=>"num"|.op _ _ _ _=>"op"|.call _ _ _=>"call"|.say _=>"say"|.jump _=>"jump"|.test _ _=>"test"|.give _=>"give"
def gN.mono{H H':Hp}{v:V}{r:cL}(h:gN H v r)(t:Tp H H'):gN H' v r:=by
 cases r with
 |part x ps=>obtain⟨p,q,e,h,h'⟩:=h;exact⟨p,q,e,t _ _ h,t _ _ h'⟩
 |num x z=>obtain⟨p,e,h⟩:=h;exact⟨p,e,t _ _ h⟩
 |op x s a b=>obtain⟨p,e,h⟩:=h;exact⟨p,e,t _ _ h⟩
 |call x k as=>obtain⟨p,q,e,h,h'⟩:=h;exact⟨p,q,e,t _ _ h,t _ _ h'⟩
 |say a=>obtain⟨p,e,h⟩:=h;exact⟨p,e,t _ _ h⟩
 |jump to=>obtain⟨p,e,h⟩:=h;exact⟨p,e,t _ _ h⟩
 |test a to=>obtain⟨p,e,h⟩:=h;exact⟨p,e,t _ _ h⟩
 |give a=>obtain⟨p,e,h⟩:=h;exact⟨p,e,t _ _ h⟩
def gN.ref{H:Hp}{v:V}{r:cL}(h:gN H v r):∃p xs,v=.ref p/\H p=some (.tup (.str (Bn r)::xs)):=by
 cases r with
 |part x ps=>obtain⟨p,q,e,h,h'⟩:=h;exact⟨p,_,e,h⟩
 |num x z=>obtain⟨p,e,h⟩:=h;exact⟨p,_,e,h⟩
 |op x s a b=>obtain⟨p,e,h⟩:=h;exact⟨p,_,e,h⟩
 |call x k as=>obtain⟨p,q,e,h,h'⟩:=h;exact⟨p,_,e,h⟩
 |say a=>obtain⟨p,e,h⟩:=h;exact⟨p,_,e,h⟩
 |jump to=>obtain⟨p,e,h⟩:=h;exact⟨p,_,e,h⟩
 |test a to=>obtain⟨p,e,h⟩:=h;exact⟨p,_,e,h⟩
 |give a=>obtain⟨p,e,h⟩:=h;exact⟨p,_,e,h⟩
def u0(H:Hp)(v:V):Option cL->Prop
 |none=>v=.non
 |some r=>gN H v r
def u0.mono{H H':Hp}{v:V}{r:Option cL}(h:u0 H v r)(t:Tp H H'):u0 H' v r:=by
 cases r with
 |none=>exact h
 |some r=>exact gN.mono h t
open Classical in
noncomputable def lineOf? (ws:List Str):Option cL:=if h:∃r,dn ws r then some (choose h) else none
def yT{w:Str}(h:w∈vp):¬Nm w:=λn=>n.no h
def J8:¬Nm "=":=λn=>by
 have:=(n.abc 61 (by decide +kernel)).1;exact absurd this (by decide)
def Es:¬Nb "call":=λn=>by
 have:=(n.dig 99 (by decide +kernel)).2;exact absurd this (by decide)
def Vh:¬Nb "=":=λn=>by
 have:=(n.dig 61 (by decide +kernel)).2;exact absurd this (by decide)
def iK:cL->Str
 |.part _ _=>"part"|.say _=>"say"|.jump _=>"jump"|.test _ _=>"test"|.give _=>"give"|_=>"="
def dn.key{ws:List Str}{r:cL}(h:dn ws r):(∃t,ws=iK r::t/\iK r∈vp)\/(iK r="="/\∃x t,ws=(x::("=":Str)::t)/\Nm x):=by
 cases r with
 |part x ps=>exact .inl ⟨_,h.1,by simp only[iK];decide +kernel⟩
 |num x z=>obtain⟨y,e,nx,_⟩:=h;exact .inr ⟨rfl,x,_,e,nx⟩
 |op x s a b=>exact .inr ⟨rfl,x,_,h.1,h.2.1⟩
 |call x f as=>exact .inr ⟨rfl,x,_,h.1,h.2.1⟩
 |say a=>exact .inl ⟨_,h.1,by simp only[iK];decide +kernel⟩
 |jump to=>obtain⟨y,e,_⟩:=h;exact .inl ⟨_,e,by simp only[iK];decide +kernel⟩
 |test a to=>obtain⟨y,e,_⟩:=h;exact .inl ⟨_,e,by simp only[iK];decide +kernel⟩
 |give a=>exact .inl ⟨_,h.1,by simp only[iK];decide +kernel⟩
def dn.key_one{ws:List Str}{r r':cL}(h:dn ws r)(h':dn ws r'):iK r=iK r':=by
 rcases h.key with⟨t,e,m⟩|⟨e,x,t,ex,nx⟩<;>rcases h'.key with⟨t',e',m'⟩|⟨e',x',t',ex',nx'⟩
 ·rw[e] at e';injection e'
 ·rw[e] at ex';injection ex' with z _;exact absurd nx' (by rw[<-z];exact yT m)
 ·rw[e'] at ex;injection ex with z _;exact absurd nx (by rw[<-z];exact yT m')
 ·rw[e,e']
def m9:¬Nm "call":=yT (by decide +kernel)
def dn.one{ws:List Str}{r r':cL}(h:dn ws r)(h':dn ws r'):r=r':=by
 have hk:=h.key_one h';cases r with
 |part x ps=>
  cases r' with
  |part x' ps'=>have e:=h.1.symm.trans h'.1;injection e with _ e;injection e with e1 e2;rw[e1,e2]
  |_=>exact absurd hk (by simp only[iK];decide +kernel)
 |say a=>
  cases r' with
  |say a'=>have e:=h.1.symm.trans h'.1;injection e with _ e;injection e with e _;rw[e]
  |_=>exact absurd hk (by simp only[iK];decide +kernel)
 |jump to=>
  cases r' with
  |jump to'=>
   obtain⟨y,e1,_,e2⟩:=h;obtain⟨y',e1',_,e2'⟩:=h';have e:=e1.symm.trans e1';injection e with _ e;injection e with e _;rw[e2,e2',e]
  |_=>exact absurd hk (by simp only[iK];decide +kernel)
 |test a to=>
  cases r' with
  |test a' to'=>
   obtain⟨y,e1,_,_,e2⟩:=h;obtain⟨y',e1',_,_,e2'⟩:=h';have e:=e1.symm.trans e1';injection e with _ e;injection e with e0 e;injection e with e _;rw[e2,e2',e,e0]
  |_=>exact absurd hk (by simp only[iK];decide +kernel)
 |give a=>
  cases r' with
  |give a'=>have e:=h.1.symm.trans h'.1;injection e with _ e;injection e with e _;rw[e]
  |_=>exact absurd hk (by simp only[iK];decide +kernel)
 |num x z=>
  obtain⟨y,e1,_,nb,e2,_⟩:=h;cases r' with
  |num x' z'=>
   obtain⟨y',e1',_,_,e2',_⟩:=h';have e:=e1.symm.trans e1';injection e with e0 e;injection e with _ e;injection e with e _;rw[e2,e2',e,e0]
  |op x' s a b=>have e:=congrArg gP (e1.symm.trans h'.1);simp at e
  |call x' f as=>have e:=congrArg gP (e1.symm.trans h'.1);simp at e
  |_=>exact absurd hk (by simp only[iK];decide +kernel)
 |op x s a b=>
  cases r' with
  |num x' z'=>obtain⟨y',e1',_⟩:=h';have e:=congrArg gP (h.1.symm.trans e1');simp at e
  |op x' s' a' b'=>have e:=h.1.symm.trans h'.1;injection e with e0 e;injection e with _ e;injection e with e1 e;injection e with e2 e;injection e with e3 _;rw[e0,e1,e2,e3]
  |call x' f as=>
   have e:=h.1.symm.trans h'.1;injection e with e0 e;injection e with _ e;injection e with e1 e;exact absurd h.2.2.2.1 (by rw[e1];exact m9)
  |_=>exact absurd hk (by simp only[iK];decide +kernel)
 |call x f as=>
  cases r' with
  |num x' z'=>obtain⟨y',e1',_⟩:=h';have e:=congrArg gP (h.1.symm.trans e1');simp at e
  |op x' s' a' b'=>
   have e:=h.1.symm.trans h'.1;injection e with e0 e;injection e with _ e;injection e with e1 e;exact absurd h'.2.2.2.1 (by rw[<-e1];exact m9)
  |call x' f' as'=>have e:=h.1.symm.trans h'.1;injection e with e0 e;injection e with _ e;injection e with _ e;injection e with e2 e3;rw[e0,e2,e3]
  |_=>exact absurd hk (by simp only[iK];decide +kernel)
def kY{ws:List Str}{r:cL}(h:dn ws r):lineOf? ws=some r:=by
 unfold lineOf?;have e:∃r,dn ws r:=⟨r,h⟩;rw[dif_pos e,dn.one (Classical.choose_spec e) h]
def kX{ws:List Str}(h:∀r,¬dn ws r):lineOf? ws=none:=by
 unfold lineOf?;rw[dif_neg λ⟨r,z⟩=>h r z]
def C5{ws:List Str}{r:cL}(h:lineOf? ws=some r):dn ws r:=by
 by_cases c:∃r,dn ws r
 ·obtain⟨r',h'⟩:=c;rw[kY h'] at h;cases h;exact h'
 ·rw[kX λr z=>c ⟨r,z⟩] at h;cases h
noncomputable def parse (x:Str):List (Option cL):=(Txt.split x "\n").map λl=>lineOf? (Txt.split l " ")
def kx:cL->Bool
 |.part _ _=>true
 |_=>false
def jw(ls:List (Option cL))(n:Nat):Prop:=ls[n]?=some none\/(n=0/\∃r,ls[0]?=some (some r)/\kx r=false)
def pX:cL->Option Str
 |.part x _=>some x
 |_=>none
def eQ(ls:List cL):List Str:=ls.filterMap pX
def kU(ls:List cL)(n:Nat):Prop:=∃x f as,ls[n]?=some (.call x f as)/\f∉eQ ls
def jR:List Str->Str->Nat
 |[],_=>0
 |x::r,y=>if x=y then 0 else jR r y+1
def tW(nm:List Str):cL->eJ
 |.num x z=>.num x (z:Nat)
 |.op x s a b=>.op x s a b
 |.call x f as=>.call x ((jR nm f:Nat):Int) as
 |.say a=>.say a
 |.jump to=>.jump (to:Nat)
 |.test a to=>.test a (to:Nat)
 |.give a=>.give a
 |.part x _=>.say x
def wk(acc:List bw)(w:eJ):List bw:=acc.dropLast++(acc.getLast?.map λb=>(⟨b.name,b.params,b.rows++[w]⟩:bw)).toList
def M9(nm:List Str)(acc:List bw)(r:cL):List bw:=match r with
 |.part x ps=>acc++[⟨x,ps,[]⟩]
 |r=>wk acc (tW nm r)
def xQ(ls:List cL):List bw:=ls.foldl (M9 (eQ ls)) []
def rK(n:Int):List (Str×V):=[("line",.int n)]
def gu(_:Fg):Sp:=λvs H Q _=>∃y:Str,vs=[.str y]/\y.length<=99000/\∀(b:Bool) (H':Hp),(b=true↔Nm y)->aL H H'->Q (.bl b) H'
def iF(_:Fg):Sp:=λvs H Q _=>∃y:Str,vs=[.str y]/\y.length<=99000/\∀(b:Bool) (H':Hp),(b=true↔Nb y)->aL H H'->Q (.bl b) H'
def j4(K:Fg):Sp:=λvs H Q _=>∃(l:ar) (ys:List Str),vs=[.ref l]/\H l=some (.lst (ys.map V.str))/\ys.length<=99000/\(∀y∈ys,y.length<=99000)/\∀(b:Bool) (H':Hp),(b=true↔∀y∈ys,Nm y)->aL H H'->Q (.bl b) H'
def j8(K:Fg):Sp:=λvs H Q _=>∃(l:ar) (ws:List Str),vs=[.ref l]/\H l=some (.lst (ws.map V.str))/\2<=ws.length/\ws[1]?=some ("=":Str)/\ws.length<=99000/\(∀y∈ws,y.length<=99000)/\
 ∀(v:V) (H':Hp),u0 H' v (lineOf? ws)->aL H H'->Q v H'
def mM(K:Fg):Sp:=λvs H Q _=>∃(x:Str),vs=[.str x]/\x.length<=90000/\
 ∀(v:V) (H':Hp),u0 H' v (lineOf? (Txt.split x " "))->aL H H'->Q v H'
def lW(H:Hp)(l:ar)(ls:List (Option cL)):Prop:=∃vs,H l=some (.lst vs)/\cR (u0 H) vs ls
def j7(K:Fg):Sp:=λvs H Q E=>∃(l:ar) (ls:List (Option cL)),vs=[.ref l]/\lW H l ls/\((∀n,¬jw ls n)->∀(H':Hp),aL H H'->Q .non H')/\
 ∀n:Nat,jP (jw ls) n->∀(dx:ar) (H':Hp),aL H H'->H' dx=some (XD dx (rK (n:Nat)))->E (.ref (cg K "NoLine")) (some dx) H'
def Hz(H:Hp)(d:ar)(nm:List Str):Prop:=∃kvs,H d=some (.dK kvs)/\∀y,iN kvs (Sum.inr y)=if y∈nm then some (V.int ((jR nm y:Nat):Int)) else none
def ie(K:Fg):Sp:=λvs H Q _=>∃(l:ar) (ls:List cL),vs=[.ref l]/\lW H l (ls.map some)/\ls.length<=99000/\∀(d:ar) (H':Hp),Hz H' d (eQ ls)->aL H H'->Q (.ref d) H'
def j6(K:Fg):Sp:=λvs H Q E=>∃(l d:ar) (ls:List cL),vs=[.ref l,.ref d]/\lW H l (ls.map some)/\Hz H d (eQ ls)/\((∀n,¬kU ls n)->∀(H':Hp),aL H H'->Q .non H')/\
 ∀n:Nat,jP (kU ls) n->∀(dx:ar) (H':Hp),aL H H'->H' dx=some (XD dx (rK (n:Nat)))->E (.ref (cg K "NoLine")) (some dx) H'
def ou(K:Fg):Sp:=λvs H Q _=>∃(v:V) (d:ar) (r:cL) (nm:List Str),vs=[v,.ref d]/\gN H v r/\kx r=false/\Hz H d nm/\(∀x f as,r=.call x f as->f∈nm)/\∀(w:V) (H':Hp),h9 H' w (tW nm r)->aL H H'->Q w H'
def lL(K:Fg):Sp:=λvs H Q _=>∃(l d:ar) (ls:List cL),vs=[.ref l,.ref d]/\lW H l (ls.map some)/\ls.length<=99000/\Hz H d (eQ ls)/\(∀n,¬jw (ls.map some) n)/\(∀n,¬kU ls n)/\
 ∀(p:ar) (H':Hp),fz H' p (xQ ls)->aL H H'->Q (.ref p) H'
def iM(K:Fg):Sp:=λvs H Q E=>∃(x:Str),vs=[.str x]/\x.length<=90000/\
 (∀n:Nat,jP (jw (parse x)) n->∀(dx:ar) (H':Hp),aL H H'->H' dx=some (XD dx (rK (n:Nat)))->E (.ref (cg K "NoLine")) (some dx) H')/\
 ∀ls:List cL,parse x=ls.map some->(∀n,¬jw (parse x) n)->
  (∀n:Nat,jP (kU ls) n->∀(dx:ar) (H':Hp),aL H H'->H' dx=some (XD dx (rK (n:Nat)))->E (.ref (cg K "NoLine")) (some dx) H')/\
  ((∀n,¬kU ls n)->zB (xQ ls)/\(vV (xQ ls)->∀(p:ar) (H':Hp),fz H' p (xQ ls)->aL H H'->Q (.ref p) H')/\
   ∀(k n:Nat) (w:Str),zj (xQ ls) k n w->∀(dx:ar) (H':Hp),aL H H'->H' dx=some (XD dx (zi k n w))->E (.ref (cg K "NoProgram")) (some dx) H')
def se(ps:List bw)(k:Int):Str:=((ps[k.toNat]?).map (·.name)).getD ""
def lO(ps:List bw):eJ->List Str
 |.num x z=>[x,"=",sN z]
 |.op x s a b=>[x,"=",a,s,b]
 |.call x k as=>x::"="::"call"::se ps k::as
 |.say a=>["say",a]
 |.jump to=>["jump",sN to]
 |.test a to=>["test",a,sN to]
 |.give a=>["give",a]
def Ae(ps:List bw)(r:eJ):Str:=Txt.join " " (lO ps r)
def tR(b:bw):Str:=Txt.join " " ("part"::b.name::b.params)
def fK(ps:List bw)(b:bw):List Str:=tR b::b.rows.map (Ae ps)
def gC(ps:List bw):List Str:=(ps.map (fK ps)).flatten
def He(ps:List bw):Str:=Txt.join "\n" (gC ps)
def zF(ps:List bw):eJ->Prop
 |.num x z=>x.length<=8/\IR z
 |.op x s a b=>x.length<=8/\s.length<=8/\a.length<=8/\b.length<=8
 |.call x k as=>x.length<=8/\0<=k/\k<ps.length/\as.length<=8/\∀a∈as,a.length<=8
 |.say a=>a.length<=8
 |.jump to=>IR to
 |.test a to=>a.length<=8/\IR to
 |.give a=>a.length<=8
structure DY(ps:List bw)(b:bw):Prop where
 nm:b.name.length<=8
 p8:b.params.length<=8
 pl:∀y∈b.params,y.length<=8
 few:b.rows.length<=64
 rows:∀r∈b.rows,zF ps r
structure uD(ps:List bw):Prop where
 few:ps.length<=8
 part:∀b∈ps,DY ps b
def sv(_:Fg):Sp:=λvs H Q _=>∃(p:ar) (v:V) (ps:List bw) (r:eJ),vs=[.ref p,v]/\fz H p ps/\(∀b∈ps,b.name.length<=8)/\h9 H v r/\zF ps r/\∀H',aL H H'->Q (.str (Ae ps r)) H'
def AN(_:Fg):Sp:=λvs H Q _=>∃(p:ar) (ps:List bw),vs=[.ref p]/\fz H p ps/\uD ps/\∀(l:ar) (H':Hp),H l=none->H' l=some (.lst ((gC ps).map V.str))->aL H H'->Q (.ref l) H'
abbrev FY:Nat:=0
abbrev Fd:Nat:=1
abbrev BM:Nat:=0
abbrev Bt:Nat:=1
abbrev BL:Nat:=1
abbrev Bs:Nat:=2
abbrev wJ:Nat:=2
abbrev vY:Nat:=3
abbrev BN:Nat:=3
abbrev Bu:Nat:=4
abbrev wI:Nat:=2
abbrev vX:Nat:=3
abbrev rW:Nat:=0
abbrev rJ:Nat:=1
abbrev wH:Nat:=2
abbrev vW:Nat:=3
abbrev Eo:Nat:=0
abbrev DK:Nat:=1
abbrev Aa:Nat:=1
abbrev zl:Nat:=2
abbrev NL:Nat:=5
abbrev MP:Nat:=6
abbrev Iy:Nat:=0
abbrev Hv:Nat:=1
abbrev Qp:Nat:=1
abbrev Pz:Nat:=2
end Bg
end
section
namespace Bg
open PySem PySem.Spec PyProof.Rows L2
end Bg
end
section
namespace Bg
open PySem L2
def P9{n d:Nat}(hn:0<n)(hd:d<10):gX 10 (10*n+d)=gX 10 n++[Nat.digitChar d]:=by
 rw[<-Nat.toDigits_append_toDigits (by decide) hn hd,Nat.toDigits_of_lt_base hd]
def Str.ext'{a b:Str}(h:a.cps.toList=b.cps.toList):a=b:=by
 cases a;cases b;congr 1;exact oF.mp h
def AF(m:Nat):(sN (m:Nat)).cps.toList=(gX 10 m).map Char.toNat:=PySem.W.KIN.signs_num m
def oQ(a b:Str):(a++b).cps.toList=a.cps.toList++b.cps.toList:=by
 show(a.cps++b.cps).toList=_;rw[eT]
def UF(m:Nat)(h:m<2 ^ 64):(sN (m:Nat)).length<=20:=by
 have e:(sN (m:Nat)).length=(gX 10 m).length:=by
  show(sN (m:Nat)).cps.size=_;rw[<-bg,AF,ae]
 rw[e,Nat.length_toDigits_le_iff (by decide) (by decide)];exact pN h (by decide)
def Lj(m:Nat):∃c r,(gX 10 m)=c::r/\48<=c.toNat:=by
 cases h:gX 10 m with
 |nil=>have:=Nat.length_toDigits_pos (b:=10) (n:=m);rw[h] at this;exact absurd this (by decide)
 |cons c r=>
  refine⟨c,r,rfl,?_⟩;have hc:c∈gX 10 m:=by rw[h];exact bZ
  have:=Nat.isDigit_of_mem_toDigits (by decide) (by decide) hc;unfold Char.isDigit at this;rw[Bool.and_eq_true,decide_eq_true_iff] at this;exact this.1
def Ny(c:Nat):(bG c [V.str ""]).flatten=(bG c ("":Str)).map V.str:=by
 induction c with
 |zero=>rfl
 |succ c ih=>rw[eU,cH,ih,eU,aV];rfl
def RI:∀i:Nat,i<5->∃c,("+-*<=":Str).cps.toList[i]?=some c/\(⟨#[c]⟩:Str)∈jC
 |0,_=>⟨43,by decide +kernel,by decide +kernel⟩
 |1,_=>⟨45,by decide +kernel,by decide +kernel⟩
 |2,_=>⟨42,by decide +kernel,by decide +kernel⟩
 |3,_=>⟨60,by decide +kernel,by decide +kernel⟩
 |4,_=>⟨61,by decide +kernel,by decide +kernel⟩
 |n+5,h=>by lia
def Gs{K:Fg}{vs:List V}{H:Hp}{Q:VK}{E:XK}(h:qi K vs H Q E):yk K {nx:=λ_ H'=>Q .non H',rt:=Q} (cI xB vs) H:=by
 obtain⟨st,nm,cn,n,k,ys,cs,rfl,S,hk,hnm,ysne,ysl,n1,n2,hcn,csne,csl,cs4,nnm,ncn,q⟩:=h;have yl:0<ys.length:=cP.mpr ysne;have cl:0<cs.length:=cP.mpr csne;refine⟨_,rfl,_,rfl,_,rfl,_,_,rfl,.inl ⟨_,cB.of hnm,rfl⟩,st,_,k,rfl,S,by lia,by rw[ae];lia,by rw[ae];lia,λd H1 d0 d1 S1 B1=>?_⟩;rw[ae] at d1;have dl:d.toNat<ys.length:=by lia
 refine pS (cB.of (B1 nm _ nnm hnm)) d0 (sy (af dl)) ?_;have hx:ys[d.toNat]∈ys:=ck dl;generalize ys[d.toNat]=x at hx ⊢;refine⟨_,rfl,st,12,k+1,rfl,S1,by lia,by decide,by decide,λs H2 s0 s1 S2 B2'=>?_⟩;have B2:iq st H H2:=B1.trans B2';have hcn2:=B2 cn _ ncn hcn;refine⟨_,rfl,_,_,rfl,rfl,_,rfl,bC (λ_=>?_) (λhs2=>?_)⟩
 ·refine⟨_,rfl,_,rfl,st,k+2,rfl,S2,by lia,λz k3 H3 z0 z1 S3 l3 B3=>⟨ZA,λp hp=>?_⟩⟩;exact q _ (.num x z) _ _ ⟨p,rfl,aj⟩ ⟨hx,z0,z1⟩ (S3.new hp) (by lia) ((B2.trans B3).new hp)
 refine⟨_,rfl,_,_,rfl,rfl,_,rfl,bC (λ_=>?_) (λhs6=>?_)⟩
 ·refine⟨_,rfl,_,rfl,st,5,k+2,rfl,S2,by lia,by decide,by decide,λe H3 e0 e1 S3 B3=>?_⟩;obtain⟨c,c1,c2⟩:=RI e.toNat (by lia);refine Vd (by decide +kernel) e0 c1 ⟨ZD,λp hp=>?_⟩;exact q _ (.op x ⟨#[c]⟩ "" "") _ _ ⟨p,rfl,aj⟩ ⟨hx,c2,rfl,rfl⟩ (S3.new hp) (by lia) ((B2.trans B3).new hp)
 refine⟨_,rfl,.inl ⟨rfl,_,rfl,bC (λ_=>?_) (λ_=>?_)⟩⟩
 ·refine⟨_,rfl,_,rfl,_,_,rfl,.inl ⟨_,cB.of hcn2,rfl⟩,st,_,k+2,rfl,S2,by lia,by rw[fA];lia,by rw[fA];lia,λe H3 e0 e1 S3 B3=>?_⟩;rw[fA] at e1;obtain⟨j,rfl⟩:∃j:Nat,e=(j:Int):=⟨e.toNat,by lia⟩;have jl:j<cs.length:=by lia
  have hcn3:=B3 cn _ ncn hcn2;have cj:cs[j]?=some cs[j]:=af jl;have c4:cs[j]<=4:=cs4 _ (ck jl);generalize cs[j]=c at cj c4;refine⟨_,rfl,_,rfl,Zy,λp1 hp1=>?_⟩;have nc1:cn≠p1:=aB hcn3 hp1;refine⟨_,rfl,_,rfl,pS (cB.of (by rw[aK nc1];exact hcn3)) (by lia) (v:=.int (c:Nat)) (by simpa using Lv cj) ?_⟩;have S4:=S3.new (o:=.tup [V.str ""]) hp1;have B4:=(B2.trans B3).new (o:=.tup [V.str ""]) hp1;have c5:1*c<=av:=b9 (by lia) (show 100<=av by decide);refine .inr ⟨p1,c,[V.str ""],rfl,rfl,eO.of aj,by simp,c5,λh1=>⟨ZC,λp hp=>?_⟩,λhne p2 hp2=>⟨ZC,λp hp=>?_⟩⟩
  ·have n1p:p1≠p:=aB aj hp;subst h1;refine q _ (.call x j [""]) _ _ ⟨p,p1,rfl,aj,by rw[aK n1p,aj];rfl⟩ ⟨hx,1,cj,rfl⟩ (S4.new hp) (by lia) (B4.new hp)
  ·have n2p:p2≠p:=aB aj hp;refine q _ (.call x j (bG c "")) _ _ ⟨p,p2,rfl,aj,by rw[aK n2p,aj,Ny]⟩ ⟨hx,c,cj,rfl⟩ ((S4.new hp2).new hp) (by lia) ((B4.new hp2).new hp)
 refine⟨_,rfl,_,_,rfl,rfl,_,rfl,bC (λ_=>?_) (λhs8=>?_)⟩
 ·exact⟨Zz,λp hp=>q _ (.say "") _ _ ⟨p,rfl,aj⟩ rfl (S2.new hp) (by lia) (B2.new hp)⟩
 refine⟨_,rfl,_,_,rfl,rfl,_,rfl,bC (λ_=>?_) (λhs10=>?_)⟩
 ·refine⟨_,rfl,_,rfl,st,_,k+2,rfl,S2,by lia,by lia,by lia,λe H3 e0 e1 S3 B3=>⟨ZA,λp hp=>?_⟩⟩;obtain⟨j,rfl⟩:∃j:Nat,e=(j:Int):=⟨e.toNat,by lia⟩;exact q _ (.test "" j) _ _ ⟨p,rfl,aj⟩ ⟨rfl,by lia⟩ (S3.new hp) (by lia) ((B2.trans B3).new hp)
 refine⟨_,rfl,_,rfl,st,_,k+2,rfl,S2,by lia,by lia,by lia,λe H3 e0 e1 S3 B3=>⟨Zz,λp hp=>?_⟩⟩;obtain⟨j,rfl⟩:∃j:Nat,e=(j:Int):=⟨e.toNat,by lia⟩;refine⟨Zz,λp2 hp2=>⟨Zz,λl hl=>?_⟩⟩;have n12:p≠p2:=aB aj hp2;have n2l:p2≠l:=aB aj hl;have n1l:p≠l:=aB (by rw[aK n12];exact aj) hl;have S4:=((S3.new (o:=.tup [V.str "jump",V.int (j:Nat)]) hp).new (o:=.tup [V.str "give",V.str ""]) hp2).new (o:=.lst [V.ref p,V.ref p2]) hl;have B4:=(((B2.trans B3).new (o:=.tup [V.str "jump",V.int (j:Nat)]) hp).new (o:=.tup [V.str "give",V.str ""]) hp2).new (o:=.lst [V.ref p,V.ref p2]) hl;refine⟨_,rfl,_,_,rfl,rfl,?_⟩;rcases(by lia:s=10\/s=11) with rfl|rfl
 ·exact pS (cB.of aj) (by decide) rfl (q _ (.jump j) _ _ ⟨p,rfl,by rw[aK n1l,aK n12,aj]⟩ (by show j<n;lia) S4 (by lia) B4)
 ·exact pS (cB.of aj) (by decide) rfl (q _ (.give "") _ _ ⟨p2,rfl,by rw[aK n2l,aj]⟩ rfl S4 (by lia) B4)
def NX{z:Int}(h:IR z):z.natAbs.log2<1920:=by
 obtain⟨h0,h1⟩:=h;by_cases c:z.natAbs=0
 ·rw[c];decide
 ·have:z.natAbs.log2<64:=(Nat.log2_lt c).mpr (by lia);lia
def AE{z:Int}(h:IR z):(sN z).length<=20:=by
 obtain⟨h0,h1⟩:=h;have e:z=((z.toNat:Nat):Int):=by lia
 rw[e];exact UF _ (by lia)
def gG(a b:Str):(a++b).length=a.length+b.length:=by
 show(a.cps++b.cps).size=a.cps.size+b.cps.size;rw[Array.size_append]
def CH(a b c:Str):a++b++c=a++(b++c):=Str.ext' (by rw[oQ,oQ,oQ,oQ,fq])
def FV(sep a b:Str):Txt.join sep [a,b]=a++sep++b:=by
 show Builtin.Str.glued sep [a,b]=_;rw[StrLaws.glued_eq_join];rfl
def JR{c:Nat}:∀{a b A B:List Nat},a++c::A=b++c::B->c∉a->c∉b->a=b/\A=B
 |[],[],_,_,h,_,_=>⟨rfl,by injection h⟩
 |[],y::b,_,_,h,_,hb=>by
  injection h with h1 h2;exact absurd (by rw[h1];exact bZ) hb
 |x::a,[],_,_,h,ha,_=>by
  injection h with h1 h2;exact absurd (by rw[<-h1];exact bZ) ha
 |x::a,y::b,A,B,h,ha,hb=>by
  injection h with h1 h2;obtain⟨e1,e2⟩:=JR h2 (λz=>ha (bq _ z)) (λz=>hb (bq _ z));exact⟨by rw[h1,e1],e2⟩
def fb(c:Nat)(x y:Str)(r:List Str):(Str.join ⟨#[c]⟩ (x::y::r)).cps.toList=x.cps.toList++c::(Str.join ⟨#[c]⟩ (y::r)).cps.toList:=by
 show(x++⟨#[c]⟩++Str.join ⟨#[c]⟩ (y::r)).cps.toList=_;rw[oQ,oQ];show(x.cps.toList++[c])++_=_;rw[fq];rfl
def FU{c:Nat}:∀{xs ys:List Str},xs≠[]->ys≠[]->(∀x∈xs,c∉x.cps.toList)->(∀y∈ys,c∉y.cps.toList)->Str.join ⟨#[c]⟩ xs=Str.join ⟨#[c]⟩ ys->xs=ys
 |[],_,h,_,_,_,_=>absurd rfl h
 |_,[],_,h,_,_,_=>absurd rfl h
 |[x],[y],_,_,_,_,h=>by rw[show x=y from h]
 |[x],y::y'::r,_,_,hx,_,h=>by
  have e:=fb c y y' r;rw[<-h] at e;exact absurd (show c∈x.cps.toList from by rw[show x.cps.toList=_ from e];simp) (hx x (by simp))
 |x::x'::r,[y],_,_,_,hy,h=>by
  have e:=fb c x x' r;rw[h] at e;exact absurd (show c∈y.cps.toList from by rw[show y.cps.toList=_ from e];simp) (hy y (by simp))
 |x::x'::r,y::y'::r',_,_,hx,hy,h=>by
  have e:=fb c x x' r;rw[h,fb c y y' r'] at e;obtain⟨e1,e2⟩:=JR e (hy y (by simp)) (hx x (by simp));rw[Str.ext' e1.symm,FU (by simp) (by simp) (λz hz=>hx z (bq _ hz)) (λz hz=>hy z (bq _ hz)) (Str.ext' e2.symm)]
def pj(x y:Str):Txt.split x y≠[]:=by
 unfold Txt.split;split
 ·simp
 ·split
  ·simp
  ·rw[StrLaws.partsBetween_eq];obtain⟨p,r,e⟩:=StrLaws.partsFrom_ne x y.length 0 (Builtin.Str.occurrences x y 0 x.length (x.length+1));rw[e];simp
def qk{c:Nat}{xs:List Str}(ne:xs≠[])(hx:∀x∈xs,c∉x.cps.toList):Txt.split (Txt.join ⟨#[c]⟩ xs) ⟨#[c]⟩=xs:=by
 refine FU (pj _ _) ne (StrLaws.split_free _ c) hx ?_;rw[StrLaws.join_split];exact StrLaws.glued_eq_join _ _
def Sg:("\n":Str)=⟨#[10]⟩:=by decide +kernel
def GF:(" ":Str)=⟨#[32]⟩:=by decide +kernel
def xI{c d:Nat}(ne:c≠d):∀{xs:List Str},(∀x∈xs,c∉x.cps.toList)->c∉(Txt.join ⟨#[d]⟩ xs).cps.toList:=λ{xs} h=>by
 show c∉(Builtin.Str.glued ⟨#[d]⟩ xs).cps.toList;rw[StrLaws.glued_eq_join]
 induction xs with
 |nil=>exact λz=>by cases z
 |cons x r ih=>
  cases r with
  |nil=>exact h x (by simp)
  |cons y r=>
   rw[fb];intro z;rcases aT.mp z with z|z
   ·exact h x (by simp) z
   ·rcases aE.mp z with z|z
    ·exact ne z
    ·exact ih (λw hw=>h w (bq _ hw)) z
def tm{sep:Str}{b:Nat}{xs:List Str}(h:∀x∈xs,x.length<=b):(Txt.join sep xs).length<=xs.length*(b+sep.length):=by
 show(Builtin.Str.glued sep xs).length<=_;rw[StrLaws.glued_eq_join];have h1:=StrLaws.join_length_le sep xs;have h2:(xs.map (·.length)).sum<=xs.length*b:=StrLaws.sumLen_le xs h;have:xs.length*(b+sep.length)=xs.length*b+xs.length*sep.length:=Nat.mul_add ..;lia
def Np:∀(m:Nat),0<m->∃c r,gX 10 m=c::r/\c≠'0':=λm=>by
 induction m using Nat.strongRecOn with
 |ind m ih=>
  intro pos;by_cases h:m<10
  ·have:m=1\/m=2\/m=3\/m=4\/m=5\/m=6\/m=7\/m=8\/m=9:=by lia
   rcases this with rfl|rfl|rfl|rfl|rfl|rfl|rfl|rfl|rfl<;>exact⟨_,_,rfl,by decide⟩
  ·obtain⟨c,r,e,n⟩:=ih (m / 10) (by lia) (by lia);refine⟨c,r++[Nat.digitChar (m % 10)],?_,n⟩;have:=P9 (n:=m / 10) (d:=m % 10) (by lia) (by lia);rw[show 10*(m / 10)+m % 10=m from by lia] at this;rw[this,e];rfl
def P8(m:Nat):∀c∈(sN (m:Nat)).cps.toList,48<=c/\c<=57:=λc hc=>by
 rw[AF] at hc;obtain⟨ch,hch,e⟩:=bA.mp hc;rw[<-e];exact PyProof.Rows.digit_range (Nat.isDigit_of_mem_toDigits (by decide) (by decide) hch)
def Nd{a b:Char}(h:a.toNat=b.toNat):a=b:=Char.ext (UInt32.toNat.inj h)
def N5{z:Int}(h:IR z):Nb (sN z)/\((qu (sN z):Nat):Int)=z:=by
 obtain⟨m,rfl⟩:=Int.eq_ofNat_of_zero_le h.1;have val:qu (sN (m:Nat))=m:=by unfold qu;rw[AF];exact PySem.W.KIN.val_back m
 refine⟨⟨?_,AE h,P8 m,λhd=>?_⟩,by rw[val]⟩
 ·show 1<=(sN (m:Nat)).cps.size;rw[<-bg,AF,ae];obtain⟨c,r,e,_⟩:=Lj m;rw[e];exact Nat.le_add_left ..
 ·by_cases c:m=0
  ·subst c;decide +kernel
  ·obtain⟨ch,r,e,n⟩:=Np m (Nat.pos_of_ne_zero c);rw[AF,e] at hd;have hd:some ch.toNat=some 48:=hd;exact absurd (Nd (Option.some.inj hd:ch.toNat='0'.toNat)) n
def jd{y:Str}(h:Nm y):32∉y.cps.toList/\10∉y.cps.toList:=
 ⟨λz=>absurd (h.abc _ z).1 (by decide),λz=>absurd (h.abc _ z).1 (by decide)⟩
def Et{y:Str}(h:Nb y):32∉y.cps.toList/\10∉y.cps.toList:=
 ⟨λz=>absurd (h.dig _ z).1 (by decide),λz=>absurd (h.dig _ z).1 (by decide)⟩
def iO{w:Str}(h:w∈(["part","=","call","say","jump","test","give","+","-","*","<"]:List Str)):32∉w.cps.toList/\10∉w.cps.toList:=by
 have:∀w∈(["part","=","call","say","jump","test","give","+","-","*","<"]:List Str),32∉w.cps.toList/\10∉w.cps.toList:=by decide +kernel
 exact this w h
def Mn{w:Str}(h:w∈jC):32∉w.cps.toList/\10∉w.cps.toList:=by
 have:∀w∈jC,32∉w.cps.toList/\10∉w.cps.toList:=by decide +kernel
 exact this w h
def dn.free{ws:List Str}{r:cL}(h:dn ws r):ws≠[]/\∀w∈ws,32∉w.cps.toList/\10∉w.cps.toList:=by
 cases r with
 |part x ps=>
  obtain⟨rfl,nx,np⟩:=h;refine⟨by simp,λw hw=>?_⟩;rcases aE.mp hw with rfl|hw
  ·exact iO (by decide +kernel)
  ·rcases aE.mp hw with rfl|hw
   ·exact jd nx
   ·exact jd (np w hw)
 |num x z=>
  obtain⟨y,rfl,nx,nb,_⟩:=h;refine⟨by simp,λw hw=>?_⟩;simp only[aE,bH,or_false] at hw;rcases hw with rfl|rfl|rfl
  ·exact jd nx
  ·exact iO (by decide +kernel)
  ·exact Et nb
 |op x s a b=>
  obtain⟨rfl,nx,ns,na,nb⟩:=h;refine⟨by simp,λw hw=>?_⟩;simp only[aE,bH,or_false] at hw;rcases hw with rfl|rfl|rfl|rfl|rfl
  ·exact jd nx
  ·exact iO (by decide +kernel)
  ·exact jd na
  ·exact Mn ns
  ·exact jd nb
 |call x f as=>
  obtain⟨rfl,nx,nf,na⟩:=h;refine⟨by simp,λw hw=>?_⟩;simp only[aE] at hw;rcases hw with rfl|rfl|rfl|rfl|hw
  ·exact jd nx
  ·exact iO (by decide +kernel)
  ·exact iO (by decide +kernel)
  ·exact jd nf
  ·exact jd (na w hw)
 |say a=>
  obtain⟨rfl,n⟩:=h;refine⟨by simp,λw hw=>?_⟩;simp only[aE,bH,or_false] at hw;rcases hw with rfl|rfl
  ·exact iO (by decide +kernel)
  ·exact jd n
 |jump to=>
  obtain⟨y,rfl,n,_⟩:=h;refine⟨by simp,λw hw=>?_⟩;simp only[aE,bH,or_false] at hw;rcases hw with rfl|rfl
  ·exact iO (by decide +kernel)
  ·exact Et n
 |test a to=>
  obtain⟨y,rfl,n,m,_⟩:=h;refine⟨by simp,λw hw=>?_⟩;simp only[aE,bH,or_false] at hw;rcases hw with rfl|rfl|rfl
  ·exact iO (by decide +kernel)
  ·exact jd n
  ·exact Et m
 |give a=>
  obtain⟨rfl,n⟩:=h;refine⟨by simp,λw hw=>?_⟩;simp only[aE,bH,or_false] at hw;rcases hw with rfl|rfl
  ·exact iO (by decide +kernel)
  ·exact jd n
def Ey{wss:List (List Str)}{ls:List cL}(ne:wss≠[])(hl:wss.length=ls.length)(h:∀(i:Nat) ws r,wss[i]?=some ws->ls[i]?=some r->dn ws r):parse (Txt.join "\n" (wss.map (Txt.join " ")))=ls.map some:=by
 have at_:∀ws∈wss,∃r,dn ws r:=λws hw=>by
  obtain⟨i,hi,e⟩:=bV.mp hw;exact⟨_,h i ws ls[i] (by rw[af hi,e]) (af (by lia))⟩
 unfold parse;rw[Sg,GF,qk (by simpa using ne) (λx hx=>by
  obtain⟨ws,hw,rfl⟩:=bA.mp hx;obtain⟨r,hr⟩:=at_ ws hw;exact xI (by decide) λw h'=>(hr.free.2 w h').2)]
 rw[dM];apply mW;intro i;rw[aQ,aQ];by_cases hi:i<wss.length
 ·rw[af hi,af (show i<ls.length by lia)];have lr:=h i wss[i] ls[i] (af hi) (af (by lia));show some (lineOf? (Txt.split (Txt.join ⟨#[32]⟩ wss[i]) ⟨#[32]⟩))=some (some ls[i]);rw[qk lr.free.1 (λw hw=>(lr.free.2 w hw).1),kY lr]
 ·rw[dF (by lia),dF (by lia)];rfl
def CD(ps:List bw):eJ->Prop
 |.num x z=>Nm x/\IR z
 |.op x s a b=>Nm x/\s∈jC/\Nm a/\Nm b
 |.call x k as=>Nm x/\0<=k/\k<ps.length/\as.length<=8/\∀a∈as,Nm a
 |.say a=>Nm a
 |.jump to=>IR to
 |.test a to=>Nm a/\IR to
 |.give a=>Nm a
structure SE(ps:List bw)(b:bw):Prop where
 nm:Nm b.name
 p8:b.params.length<=8
 pn:∀y∈b.params,Nm y
 few:b.rows.length<64
 rows:∀r∈b.rows,CD ps r
structure lE(ps:List bw):Prop where
 pos:ps≠[]
 few:ps.length<=8
 part:∀b∈ps,SE ps b
def OT{w:Str}(h:w∈jC):w.length<=8:=by
 have:∀w∈jC,w.length<=8:=by decide +kernel
 exact this w h
def CD.wr{ps:List bw}{r:eJ}(h:CD ps r):zF ps r:=by
 cases r with
 |num x z=>exact⟨h.1.l8,h.2⟩
 |op x s a b=>exact⟨h.1.l8,OT h.2.1,h.2.2.1.l8,h.2.2.2.l8⟩
 |call x k as=>exact⟨h.1.l8,h.2.1,h.2.2.1,h.2.2.2.1,λa ha=>(h.2.2.2.2 a ha).l8⟩
 |say a=>exact Nm.l8 h
 |jump to=>exact h
 |test a to=>exact⟨h.1.l8,h.2⟩
 |give a=>exact Nm.l8 h
def lE.wr{ps:List bw}(h:lE ps):uD ps:=⟨h.few,λb hb=>by
 have p:=h.part b hb;exact⟨p.nm.l8,p.p8,λy hy=>(p.pn y hy).l8,by have:=p.few;lia,λr hr=>(p.rows r hr).wr⟩⟩
def lE.wd{ps:List bw}(h:lE ps):zB ps:=⟨by have:=h.few;lia,λb hb=>by
 have p:=h.part b hb;refine⟨by have:=p.p8;lia,p.few,λr hr=>?_⟩;have q:=p.rows r hr;cases r with
 |call x k as=>have:=q.2.2.2.1;show as.length<=100;lia
 |op x s a b=>show 2<=100;decide
 |num x z=>show 0<=100;decide
 |say a=>show 1<=100;decide
 |jump t=>show 0<=100;decide
 |test a t=>show 1<=100;decide
 |give a=>show 1<=100;decide⟩
def qE(ps:List bw):eJ->cL
 |.num x z=>.num x z.toNat
 |.op x s a b=>.op x s a b
 |.call x k as=>.call x (se ps k) as
 |.say a=>.say a
 |.jump to=>.jump to.toNat
 |.test a to=>.test a to.toNat
 |.give a=>.give a
def Ad(ps:List bw)(r:eJ):kx (qE ps r)=false/\pX (qE ps r)=none:=by cases r<;>exact⟨rfl,rfl⟩
def pV(ps:List bw)(b:bw):List cL:=.part b.name b.params::b.rows.map (qE ps)
def uG(ps:List bw):List cL:=(ps.map (pV ps)).flatten
def EY(ps:List bw)(b:bw):List (List Str):=(("part":Str)::b.name::b.params)::b.rows.map (lO ps)
def ve{ps:List bw}{k:Int}(h0:0<=k)(h1:k<ps.length):∃b,ps[k.toNat]?=some b/\b∈ps/\se ps k=b.name:=by
 have hk:k.toNat<ps.length:=by lia
 refine⟨ps[k.toNat],af hk,ck hk,?_⟩;unfold se;rw[af hk];rfl
def Pf{ps:List bw}(hp:lE ps){r:eJ}(h:CD ps r):dn (lO ps r) (qE ps r):=by
 cases r with
 |num x z=>
  obtain⟨nb,v⟩:=N5 h.2;exact⟨_,rfl,h.1,nb,by lia,by have:=h.2.2;lia⟩
 |op x s a b=>exact⟨rfl,h.1,h.2.1,h.2.2.1,h.2.2.2⟩
 |call x k as=>
  obtain⟨b,_,hb,e⟩:=ve h.2.1 h.2.2.1;exact⟨rfl,h.1,by rw[e];exact(hp.part b hb).nm,h.2.2.2.2⟩
 |say a=>exact⟨rfl,h⟩
 |jump to=>
  obtain⟨nb,v⟩:=N5 (z:=to) h;exact⟨_,rfl,nb,by lia⟩
 |test a to=>
  obtain⟨nb,v⟩:=N5 h.2;exact⟨_,rfl,h.1,nb,by lia⟩
 |give a=>exact⟨rfl,h⟩
def rY(ps:List bw):∀(bs:List bw),(bs.map (fK ps)).flatten=((bs.map (EY ps)).flatten).map (Txt.join " ")
 |[]=>rfl
 |b::bs=>by
  rw[aV,cH,aV,cH,aN,<-rY ps bs];congr 1;unfold fK EY;rw[aV,dM];rfl
inductive uV{α β:Type}(R:α->β->Prop):List α->List β->Prop where
 |nil:uV R [] []
 |cons {a:α} {b:β} {as:List α} {bs:List β}:R a b->uV R as bs->uV R (a::as) (b::bs)
def uV.app{α β:Type}{R:α->β->Prop}{as as':List α}{bs bs':List β}(h:uV R as bs)(h':uV R as' bs'):uV R (as++as') (bs++bs'):=by
 induction h with
 |nil=>exact h'
 |cons r _ ih=>exact .cons r ih
def uV.len{α β:Type}{R:α->β->Prop}{as:List α}{bs:List β}(h:uV R as bs):as.length=bs.length:=by
 induction h with
 |nil=>rfl
 |cons r _ ih=>rw[aI,aI,ih]
def uV.get{α β:Type}{R:α->β->Prop}{as:List α}{bs:List β}(h:uV R as bs):∀(i:Nat) a b,as[i]?=some a->bs[i]?=some b->R a b:=by
 induction h with
 |nil=>intro i a b h;simp at h
 |cons r _ ih=>
  intro i a b h1 h2;cases i with
  |zero=>simp at h1 h2;rw[<-h1,<-h2];exact r
  |succ i=>exact ih i a b (by simpa using h1) (by simpa using h2)
def wo{ps:List bw}(hp:lE ps):∀(bs:List bw),(∀b∈bs,b∈ps)->uV dn ((bs.map (EY ps)).flatten) ((bs.map (pV ps)).flatten)
 |[],_=>.nil
 |b::bs,h=>by
  have p:=hp.part b (h b (by simp));rw[aV,cH,aV,cH];refine uV.app (.cons ⟨rfl,p.nm,p.pn⟩ ?_) (wo hp bs λc hc=>h c (bq _ hc));have:∀(rs:List eJ),(∀r∈rs,CD ps r)->uV dn (rs.map (lO ps)) (rs.map (qE ps)):=λrs=>by
   induction rs with
   |nil=>exact λ_=>.nil
   |cons r rs ih=>exact λhr=>.cons (Pf hp (hr r (by simp))) (ih λq hq=>hr q (bq _ hq))
  exact this b.rows p.rows
def IL{ps:List bw}(hp:lE ps):parse (He ps)=(uG ps).map some:=by
 have a:=wo hp ps λ_ h=>h;unfold He gC;rw[rY];refine Ey ?_ a.len a.get;cases ps with
 |nil=>exact absurd rfl hp.pos
 |cons b bs=>rw[aV,cH];unfold EY;simp
def NB{ps:List bw}(hp:ps≠[])(n:Nat):¬jw ((uG ps).map some) n:=by
 rintro(h|⟨_,r,h,q⟩)
 ·rw[aQ] at h;obtain⟨x,_,e⟩:=b4.mp h;cases e
 ·cases ps with
  |nil=>exact hp rfl
  |cons b bs=>
   have:((uG (b::bs)).map some)[0]?=some (some (.part b.name b.params)):=rfl;rw[this] at h;cases h;cases q
def Ah(ps:List bw):∀(rs:List eJ),(rs.map (qE ps)).filterMap pX=[]
 |[]=>rfl
 |r::rs=>by rw[aV,dc,(Ad ps r).2];exact Ah ps rs
def xN(ps:List bw):∀(bs:List bw),((bs.map (pV ps)).flatten).filterMap pX=bs.map (·.name)
 |[]=>rfl
 |b::bs=>by
  rw[aV,cH,fY,xN ps bs];unfold pV;rw[dc,Ah];rfl
def N3(ps:List bw):eQ (uG ps)=ps.map (·.name):=xN ps ps
def LL{ps:List bw}{x:cL}(h:x∈uG ps):(∃b∈ps,x=.part b.name b.params)\/∃b∈ps,∃r∈b.rows,x=qE ps r:=by
 obtain⟨l,hl,hx⟩:=List.mem_flatten.mp h;obtain⟨b,hb,rfl⟩:=bA.mp hl;rcases aE.mp hx with e|e
 ·exact .inl ⟨b,hb,e⟩
 ·obtain⟨r,hr,rfl⟩:=bA.mp e;exact .inr ⟨b,hb,r,hr,rfl⟩
def Nc{ps:List bw}(hp:lE ps)(n:Nat):¬kU (uG ps) n:=by
 rintro⟨x,f,as,e,nf⟩;rcases LL (aF e) with⟨b,_,z⟩|⟨b,hb,r,hr,z⟩
 ·cases z
 ·have q:=(hp.part b hb).rows r hr;cases r with
  |call x' k as'=>
   have z:cL.call x f as=.call x' (se ps k) as':=z;injection z with _ z _;obtain⟨c,_,hc,e'⟩:=ve q.2.1 q.2.2.1;rw[N3] at nf;exact nf (by rw[z,e'];exact bA.mpr ⟨c,hc,rfl⟩)
  |_=>cases z
def xH:∀{xs:List Str} {i:Nat} {y:Str},xs.Nodup->xs[i]?=some y->jR xs y=i
 |[],i,y,_,h=>by simp at h
 |x::xs,0,y,_,h=>by
  have:x=y:=by simpa using h
  unfold jR;rw[if_pos this]
 |x::xs,i+1,y,nd,h=>by
  have h:xs[i]?=some y:=by simpa using h
  have ne:x≠y:=λz=>(dw.mp nd).1 (by rw[z];exact aF h);unfold jR;rw[if_neg ne,xH (dw.mp nd).2 h]
def ON{ps:List bw}(nd:(ps.map (·.name)).Nodup){r:eJ}(h:CD ps r):tW (ps.map (·.name)) (qE ps r)=r:=by
 cases r with
 |num x z=>
  show eJ.num x ((z.toNat:Nat):Int)=_;rw[show((z.toNat:Nat):Int)=z from by have:=h.2.1;lia]
 |op x s a b=>rfl
 |call x k as=>
  obtain⟨b,e,_,e'⟩:=ve h.2.1 h.2.2.1;show eJ.call x ((jR (ps.map (·.name)) (se ps k):Nat):Int) as=_;rw[xH (i:=k.toNat) nd (by rw[aQ,e,e'];rfl),show((k.toNat:Nat):Int)=k from by have:=h.2.1;lia]
 |say a=>rfl
 |jump to=>
  show eJ.jump ((to.toNat:Nat):Int)=_;rw[show((to.toNat:Nat):Int)=to from by have h':IR to:=h;have:=h'.1;lia]
 |test a to=>
  show eJ.test a ((to.toNat:Nat):Int)=_;rw[show((to.toNat:Nat):Int)=to from by have:=h.2.1;lia]
 |give a=>rfl
def D9{nm:List Str}{acc:List bw}{r:cL}(h:kx r=false):M9 nm acc r=wk acc (tW nm r):=by
 cases r<;>first|rfl|cases h
def rQ(acc:List bw)(b:bw)(w:eJ):wk (acc++[b]) w=acc++[⟨b.name,b.params,b.rows++[w]⟩]:=by
 unfold wk;rw[List.dropLast_concat,List.getLast?_concat];rfl
def Fs{ps:List bw}{nm:List Str}:∀(rs:List eJ) (acc:List bw) (b:bw),(∀r∈rs,tW nm (qE ps r)=r)->(rs.map (qE ps)).foldl (M9 nm) (acc++[b])=acc++[⟨b.name,b.params,b.rows++rs⟩]
 |[],acc,b,_=>by rw[dU];rfl
 |r::rs,acc,b,h=>by
  rw[aV,ja,D9 (Ad ps r).1,rQ,h r (by simp),Fs rs acc _ λq hq=>h q (bq _ hq)];show acc++[(⟨b.name,b.params,(b.rows++[r])++rs⟩:bw)]=_;rw[fq];rfl
def CM{ps:List bw}{nm:List Str}:∀(bs acc:List bw),(∀b∈bs,∀r∈b.rows,tW nm (qE ps r)=r)->((bs.map (pV ps)).flatten).foldl (M9 nm) acc=acc++bs
 |[],acc,_=>by rw[dU];rfl
 |b::bs,acc,h=>by
  rw[aV,cH,mX];have:(pV ps b).foldl (M9 nm) acc=acc++[b]:=by
   unfold pV;rw[ja];show(b.rows.map (qE ps)).foldl (M9 nm) (acc++[⟨b.name,b.params,[]⟩])=_;rw[Fs b.rows acc _ (h b (by simp))];rfl
  rw[this,CM bs _ λc hc=>h c (bq _ hc),fq];rfl
def L5{ps:List bw}(hp:lE ps)(nd:(ps.map (·.name)).Nodup):xQ (uG ps)=ps:=by
 unfold xQ;rw[N3];have:=CM (ps:=ps) (nm:=ps.map (·.name)) ps [] λb hb r hr=>ON nd ((hp.part b hb).rows r hr);rw[List.nil_append] at this;exact this
def J5{ps:List bw}(hn:∀b∈ps,b.name.length<=8){r:eJ}(h:zF ps r):∃n b,n<=12/\b<=20/\n*(b+1)<=108/\(lO ps r).length<=n/\∀w∈lO ps r,w.length<=b:=by
 have c1:("=":Str).length<=8:=by decide +kernel
 have c2:("call":Str).length<=8:=by decide +kernel
 have c3:("say":Str).length<=8:=by decide +kernel
 have c4:("jump":Str).length<=8:=by decide +kernel
 have c5:("test":Str).length<=8:=by decide +kernel
 have c6:("give":Str).length<=8:=by decide +kernel
 cases r with
 |num x z=>
  refine⟨3,20,by decide,by decide,by decide,aD _,λw hw=>?_⟩;have hw:w∈[x,"=",sN z]:=hw;simp only[aE,bH,or_false] at hw;rcases hw with rfl|rfl|rfl
  ·have:=h.1;lia
  ·lia
  ·exact AE h.2
 |op x s a b=>
  refine⟨5,8,by decide,by decide,by decide,aD _,λw hw=>?_⟩;have hw:w∈[x,"=",a,s,b]:=hw;simp only[aE,bH,or_false] at hw;obtain⟨h1,h2,h3,h4⟩:=h;rcases hw with rfl|rfl|rfl|rfl|rfl
  ·lia
  ·exact c1
  ·lia
  ·lia
  ·lia
 |call x k as=>
  obtain⟨h1,h2,h3,h4,h5⟩:=h;refine⟨12,8,by decide,by decide,by decide,(by show as.length+4<=12;lia),λw hw=>?_⟩;have hw:w∈x::"="::"call"::se ps k::as:=hw;simp only[aE] at hw;rcases hw with rfl|rfl|rfl|rfl|hw
  ·lia
  ·exact c1
  ·exact c2
  ·obtain⟨b,_,hb,e⟩:=ve h2 h3;rw[e];exact hn b hb
  ·exact h5 w hw
 |say a=>
  refine⟨2,8,by decide,by decide,by decide,aD _,λw hw=>?_⟩;have hw:w∈(["say",a]:List Str):=hw;simp only[aE,bH,or_false] at hw;rcases hw with rfl|rfl
  ·exact c3
  ·exact h
 |jump to=>
  refine⟨2,20,by decide,by decide,by decide,aD _,λw hw=>?_⟩;have hw:w∈(["jump",sN to]:List Str):=hw;simp only[aE,bH,or_false] at hw;rcases hw with rfl|rfl
  ·lia
  ·exact AE h
 |test a to=>
  refine⟨3,20,by decide,by decide,by decide,aD _,λw hw=>?_⟩;have hw:w∈(["test",a,sN to]:List Str):=hw;simp only[aE,bH,or_false] at hw;rcases hw with rfl|rfl|rfl
  ·lia
  ·have:=h.1;lia
  ·exact AE h.2
 |give a=>
  refine⟨2,8,by decide,by decide,by decide,aD _,λw hw=>?_⟩;have hw:w∈(["give",a]:List Str):=hw;simp only[aE,bH,or_false] at hw;rcases hw with rfl|rfl
  ·exact c6
  ·exact h
def NU{ps:List bw}(hn:∀b∈ps,b.name.length<=8){r:eJ}(h:zF ps r):(lO ps r).length<=12/\∀w∈lO ps r,w.length<=20:=by
 obtain⟨n,b,h1,h2,_,h4,h5⟩:=J5 hn h;exact⟨by lia,λw hw=>by have:=h5 w hw;lia⟩
def VZ:(" ":Str).length=1:=by decide +kernel
def Wg:("\n":Str).length=1:=by decide +kernel
def LJ{ps:List bw}(hn:∀b∈ps,b.name.length<=8){r:eJ}(h:zF ps r):(Ae ps r).length<=108:=by
 obtain⟨n,b,_,_,h3,h4,h5⟩:=J5 hn h;have h6:=tm (sep:=" ") h5;rw[VZ] at h6;have:(lO ps r).length*(b+1)<=n*(b+1):=dr _ h4;show(Txt.join " " (lO ps r)).length<=108;lia
def wC{ps:List bw}{b:bw}(h:DY ps b):(("part":Str)::b.name::b.params).length<=10/\∀w∈("part":Str)::b.name::b.params,w.length<=8:=by
 refine⟨by have:=h.p8;show b.params.length+2<=10;lia,λw hw=>?_⟩;simp only[aE] at hw;rcases hw with rfl|rfl|hw
 ·decide +kernel
 ·exact h.nm
 ·exact h.pl w hw
def Lp{ps:List bw}{b:bw}(h:DY ps b):(tR b).length<=108:=by
 obtain⟨h1,h2⟩:=wC h;have:=tm (sep:=" ") h2;rw[VZ] at this;have:(("part":Str)::b.name::b.params).length*9<=10*9:=dr _ h1;show(Txt.join " " (("part":Str)::b.name::b.params)).length<=108;lia
def IB{ps:List bw}(hp:uD ps){b:bw}(hb:b∈ps):(fK ps b).length<=65/\∀y∈fK ps b,y.length<=108:=by
 have p:=hp.part b hb;refine⟨by unfold fK;rw[aI,ae];have:=p.few;lia,λy hy=>?_⟩;rcases aE.mp hy with rfl|hy
 ·exact Lp p
 ·obtain⟨r,hr,rfl⟩:=bA.mp hy;exact LJ (λc hc=>(hp.part c hc).nm) (p.rows r hr)
def wM{ps:List bw}(hp:uD ps):∀(bs:List bw),(∀b∈bs,b∈ps)->((bs.map (fK ps)).flatten).length<=bs.length*65/\∀y∈(bs.map (fK ps)).flatten,y.length<=108
 |[],_=>⟨cA _,λy hy=>by cases hy⟩
 |b::bs,h=>by
  obtain⟨i1,i2⟩:=wM hp bs λc hc=>h c (bq _ hc);obtain⟨j1,j2⟩:=IB hp (h b (by simp));rw[aV,cH];refine⟨by rw[aG,aI];lia,λy hy=>?_⟩;rcases aT.mp hy with z|z
  ·exact j2 y z
  ·exact i2 y z
def Af{ps:List bw}(hp:uD ps):(gC ps).length<=520/\∀y∈gC ps,y.length<=108:=by
 obtain⟨h1,h2⟩:=wM hp ps λ_ h=>h;have:=hp.few;have:ps.length*65<=8*65:=dr _ this;exact⟨by show((ps.map (fK ps)).flatten).length<=520;lia,h2⟩
def DB{ps:List bw}(hp:uD ps):(He ps).length<=90000:=by
 obtain⟨h1,h2⟩:=Af hp;have:=tm (sep:="\n") h2;rw[Wg] at this;have:(gC ps).length*109<=520*109:=dr _ h1;show(Txt.join "\n" (gC ps)).length<=_;lia
end Bg
end
section
namespace L2
open PySem PySem.Spec PyProof.Rows
section
variable{X:Cx}
def VI:R2:=λx y H Q=>∃a b:Str,x=.str a/\y=.str b/\Q (.bl (!decide (b.cps.toList<a.cps.toList))) H
def TH:jE X (bP .LtE) VI:=by
 intro pins s σ H x y v u Q I rx ry h;obtain⟨a,b,rfl,rfl,q⟩:=h;obtain⟨t,rfl⟩:=rx;obtain⟨t',rfl⟩:=ry;exact PySem.P.le_str ⟨.bl _,H,I,rfl,q⟩
def AA:R2:=λx y H Q=>Kd (λi j=>.bl (decide (i<=j))) x y H Q\/VI x y H Q
def si:jE X (bP .LtE) AA:=Vl.or TH
def Sn:R2:=λx y H Q=>∃(a:Str) (n:Int),x=.str a/\y=.int n/\MulOk a n/\Q (.str (Txt.mul a n)) H
def QH:jE X (fc .Mult) Sn:=by
 intro pins s σ H x y v u Q I rx ry h;obtain⟨a,n,rfl,rfl,ok,q⟩:=h;obtain⟨t,rfl⟩:=rx;obtain⟨t',rfl⟩:=ry;exact PySem.SB.mul ok λt' k=>⟨.str _,H,I.tok k,⟨t',rfl⟩,q⟩
end
end L2
namespace Rp
open PySem PySem.Builtin PySem.Builtin.Str
def gives1(x y z:Str)(t u v t1:Tok)(h0:(u==0 || v==0)=false)(huv:(u==v)=false)(hyz:(y==z)=false)(hl:tooLong (x.length+(occurrences x y 0 x.length 1).length*z.length)=false) :
  Gives («str.replace» ⟨[.str x t,.str y u,.str z v,.int 1 t1],[]⟩)
   (if((occurrences x y 0 x.length 1).isEmpty || (y.length==0&&z.length==0))=true then .val (.str x t) else .str (glued z (partsBetween x (occurrences x y 0 x.length 1) y.length))):=by
 generalize hB:(«str.replace» ⟨[.str x t,.str y u,.str z v,.int 1 t1],[]⟩)=B;have e:B=(if((occurrences x y 0 x.length 1).isEmpty || (y.length==0&&z.length==0))=true then(rule "str.replace.nothing" >>= λ_=>ret (.str x t)) else
   (isSame (.str y u) (.str z v) >>= λsame=>if same=true then(rule "str.replace.old-is-new" >>= λ_=>ret (.str x t)) else
    if tooLong (x.length+(occurrences x y 0 x.length 1).length*z.length)=true then unsupported "str.replace:memory" else
     retStr (glued z (partsBetween x (occurrences x y 0 x.length 1) y.length)))):=hB.symm.trans rfl
 rw[e];cases hc:((occurrences x y 0 x.length 1).isEmpty || (y.length==0&&z.length==0)) with
 |false=>
  rw[PySem.isSame_str_other y z u v h0 huv hyz,hl];exact .of_eq rfl
 |true=>exact .rule (.of_eq rfl)
def cut1{x z:Str}{cuts:List Nat}{w:Nat}(h:cuts.length<=1):∀c∈(glued z (partsBetween x cuts w)).cps.toList,c∈x.cps.toList\/c∈z.cps.toList:=by
 intro c hc;have sub:∀i j,c∈(strSub x i j).cps.toList->c∈x.cps.toList:=λi j h=>by
  have h':c∈(x.cps.extract i j).toList:=h;rw[Array.toList_extract] at h';exact gm (dR h')
 rcases cuts with _|⟨i,_|⟨k,r⟩⟩
 ·exact .inl (sub _ _ hc)
 ·have h':c∈((strSub x 0 i).cps++z.cps++(strSub x (i+w) x.length).cps).toList:=by simpa[partsBetween,glued] using hc
  rw[eT,eT] at h';rcases aT.mp h' with h'|h'
  ·rcases aT.mp h' with h'|h'
   ·exact .inl (sub _ _ h')
   ·exact .inr h'
  ·exact .inl (sub _ _ h')
 ·simp at h
def cut1_len(x y z:Str):(glued z (partsBetween x (occurrences x y 0 x.length 1) y.length)).length<=x.length+z.length:=by
 have h1:=StrLaws.occ_length_le x y 0 x.length 1;have hy:(glued y (partsBetween x (occurrences x y 0 x.length 1) y.length)).length=x.length:=by rw[StrLaws.glued_between_self]
 rw[size_glued,length_partsBetween,jf] at hy;rw[size_glued,length_partsBetween,jf];have h2:(occurrences x y 0 x.length 1).length*z.length<=1*z.length:=dr _ h1;lia
end Rp
namespace L2
open PySem PySem.Spec PyProof.Rows
def PL(X:Cx)(e:Expr)(t:TE):Prop:=
 ∀(pins:List (ar×Obj)) (s:aq) (σ:St) (H:Hp) (Q:VK),bY X pins σ H s->t σ H Q->aO (model X.prog X.w) X.A (eval e X.env) (λu s'=>EP X pins σ Q u s'/\s.toks<=s'.toks) X.xe s
def SH(X:Cx)(e:Expr)(t:TE):Prop:=
 ∀(pins:List (ar×Obj)) (s:aq) (σ:St) (H:Hp) (Q:VK),bY X pins σ H s->t σ H Q->aO (model X.prog X.w) X.A (eval e X.env) (λu s'=>EP X pins σ Q u s'/\s.toks<s'.toks) X.xe s
def V6(X:Cx)(e:Expr)(t:TE):Prop:=
 ∀(pins:List (ar×Obj)) (s:aq) (σ:St) (H:Hp) (Q:VK),bY X pins σ H s->t σ H Q->0<s.toks->aO (model X.prog X.w) X.A (eval e X.env) (EP X pins σ Q) X.xe s
def Gi:R2:=λx y H Q=>∃a b:Str,x=.str a/\y=.str b/\a.length+b.length<=av/\Q (.str (a++b)) H
section
variable{X:Cx}{a b e o:Expr}{ta tb te to:TE}{pos:Pos}
def SH.le(h:SH X e te):PL X e te:=λpins s σ H Q I t=>fk (h pins s σ H Q I t) λ_ _ z=>⟨z.1,cT z.2⟩
def IQ(i:Nat){x:Str}(hN:X.N[i]?=some x:=by rfl)(hv:U6 X.env.scope x:=by first|exact Or.inl rfl|exact Or.inr (Or.inl rfl)|exact Or.inr (Or.inr rfl))(hd:(x==("__debug__":Str))=false:=by decide)(hcd:(x==("__classdict__":Str))=false:=by decide):PL X (.Name x pos) (ao i):=by
 intro pins s σ H Q I h;obtain⟨v,e,h⟩:=h;obtain⟨m,hn,hl⟩:=I.loc;obtain⟨u,r,l⟩:=hl i x v hN e hv;have fin:EP X pins σ Q u s/\s.toks<=s.toks:=⟨⟨v,H,I,r,h⟩,aD _⟩;rcases l with⟨hk,hm⟩|⟨hk,c,hc,hcell⟩
 ·exact mj (wpAny_loadName_local I.ok.kind hk hn hm fin) hd
 rcases hk with hk|hk
 ·exact mj (wpAny_loadName_cell I.ok.kind hk hc hcell fin) hd
 ·exact mj (wpAny_loadName_free I.ok.kind hk hc hcell fin hcd) hd
def Om{x j}:SH X (.Constant (.str x) j pos) (tC (.str x)):=λ_ _ _ H _ I h=>Calls.Constant_str ⟨⟨.str x,H,I.tok _,⟨_,rfl⟩,h⟩,ko _⟩
def Fw{pins:List (ar×Obj)}{s:aq}{σ:St}{H:Hp}{x y:V}{v u:aa}{Q:VK}(I:bY X pins σ H s)(rx:dA x v)(ry:dA y u)(q:Gi x y H Q) :
  aO (model X.prog X.w) X.A (fc .Add v u) (λu s'=>EP X pins σ Q u s'/\s.toks<=s'.toks) X.xe s:=by
 obtain⟨a,b,rfl,rfl,hl,q⟩:=q;obtain⟨t,rfl⟩:=rx;obtain⟨t',rfl⟩:=ry;refine PySem.P.add_str ?_;cases ha:(a.length==0) with
 |true=>
  have e:a++b=b:=by
   have z:a.cps=#[]:=gK (show a.length=0 from by simpa using ha);show(⟨a.cps++b.cps⟩:Str)=b;rw[z];simp
  rw[e] at q;exact⟨⟨.str b,H,I,⟨t',rfl⟩,q⟩,aD _⟩
 |false=>
  cases hb:(b.length==0) with
  |true=>
   have e:a++b=a:=by
    have z:b.cps=#[]:=gK (show b.length=0 from by simpa using hb);show(⟨a.cps++b.cps⟩:Str)=a;rw[z];simp
   rw[e] at q;exact⟨⟨.str a,H,I,⟨t,rfl⟩,q⟩,aD _⟩
  |false=>exact⟨by rw[iV];exact hl,⟨.str (a++b),H,I.tok _,⟨_,rfl⟩,q⟩,kS _⟩
def Ui(ha:PL X a ta)(hb:PL X b tb):PL X (.BinOp a .Add b pos) (a9 Gi ta tb):=by
 intro pins s σ H Q I h;refine wpAny_BinOp (fk (ha pins s σ H _ I h) λv s1 ⟨⟨x,H1,I1,r1,q1⟩,l1⟩=>?_);refine fk (hb pins s1 σ H1 _ I1 q1) λu s2 ⟨⟨y,H2,I2,r2,q2⟩,l2⟩=>?_;exact fk (Fw I2 r1 r2 q2) λ_ _ z=>⟨z.1,b9 l1 (b9 l2 z.2)⟩
def Q3(ha:SH X a ta)(hb:PL X b tb):SH X (.BinOp a .Add b pos) (a9 Gi ta tb):=by
 intro pins s σ H Q I h;refine wpAny_BinOp (fk (ha pins s σ H _ I h) λv s1 ⟨⟨x,H1,I1,r1,q1⟩,l1⟩=>?_);refine fk (hb pins s1 σ H1 _ I1 q1) λu s2 ⟨⟨y,H2,I2,r2,q2⟩,l2⟩=>?_;exact fk (Fw I2 r1 r2 q2) λ_ _ z=>⟨z.1,bh l1 (b9 l2 z.2)⟩
def O2(to:TE)(y z:Str):TE:=λσ H Q=>to σ H λx H1=>∃a:Str,x=.str a/\a.length<=99000/\
 ∀r:Str,(∀c∈r.cps.toList,c∈a.cps.toList\/c∈z.cps.toList)->r.length<=a.length+z.length->Q (.str r) H1
def Q8{y z:Str}{apos cpos p1 p2 p3:Pos}{j1 j2 j3}(ho:PL X o to)(hyz:(y==z)=false:=by decide)(hz:z.length<=8:=by decide)
  (hbase:e7 o "replace" X.env (eval o X.env)=eval o X.env:=by rfl)
  (hline:(apos.endLine==cpos.line)=true:=by rfl) :
  V6 X (.Call (.Attribute o "replace" apos) [.Constant (.str y) j1 p1,.Constant (.str z) j2 p2,.Constant (.int 1) j3 p3] [] cpos) (O2 to y z):=by
 intro pins s σ H Q I h h0;refine wpAny_Call_method_late hbase rfl hline rfl (fk (ho pins s σ H _ I h) λv s1 ⟨⟨x,H1,I1,r1,q1⟩,l1⟩=>?_);obtain⟨a,rfl,la,q⟩:=q1;obtain⟨ty1,ty2⟩:=Jy (T:="str") I1 r1 rfl;refine⟨"str","str.replace",cU,PySem.F.slot_str_replace,PySem.F.type_str_replace,ty1,ty2,?_⟩;refine Calls.callWith_builtin rfl (Calls.evalArgs_plain ?_);obtain⟨t,rfl⟩:=r1;have n0:s1.toks≠0:=by lia
 show aO _ _ (spliced ((false,eval (.Constant (.str y) j1 p1) X.env)::(false,eval (.Constant (.str z) j2 p2) X.env)::[(false,eval (.Constant (.int 1) j3 p3) X.env)])) _ _ s1;refine Calls.spliced_cons (Calls.Constant_str (k:=j1) (pos:=p1) ?_);refine Calls.spliced_cons (Calls.Constant_str (k:=j2) (pos:=p2) ?_);refine Calls.spliced_cons (wpAny_Constant_int ?_);refine Calls.spliced_nil ?_;have tl:PySem.Builtin.Str.tooLong (a.length+(Builtin.Str.occurrences a y 0 a.length 1).length*z.length)=false:=by
  have h1:=StrLaws.occ_length_le a y 0 a.length 1;have h2:(Builtin.Str.occurrences a y 0 a.length 1).length*z.length<=1*z.length:=dr _ h1;unfold PySem.Builtin.Str.tooLong;rw[gk];exact decide_eq_false (by lia)
 refine call_gives PySem.F.slot_str_replace (typeIs_str _ _ _) PySem.F.entry_str_replace (PySem.F.args_str_replace_4 _ _ _ _) (Rp.gives1 a y z t _ _ _ (by simp[n0]) (by simp) hyz tl) ?_;cases hc:((Builtin.Str.occurrences a y 0 a.length 1).isEmpty || (y.length==0&&z.length==0)) with
 |true=>exact⟨.str a,H1,((I1.tok _).tok _).tok _,⟨t,rfl⟩,q a (λc hc=>.inl hc) (Nat.le_add_right _ _)⟩
 |false=>
  have l:=Rp.cut1_len a y z;exact⟨by rw[gk];lia,.str _,H1,(((I1.tok _).tok _).tok _).tok _,⟨_,rfl⟩,q _ (Rp.cut1 (StrLaws.occ_length_le a y 0 a.length 1)) l⟩
def N9{e1 e2 e3:Expr}{es:List Expr}{t1 t2 t3:TE}{t:TA}(h1:SH X e1 t1)(h2:PL X e2 t2)(h3:V6 X e3 t3)(hr:PA X es t)
  (hs:aR (e1::e2::e3::es) X.env=(false,eval e1 X.env)::(false,eval e2 X.env)::(false,eval e3 X.env)::aR es X.env:=by rfl):PA X (e1::e2::e3::es) (ai t1 (ai t2 (ai t3 t))):=by
 intro pos pins s σ H Q I h;rw[hs];show aO _ _ (spliced ((false,eval e1 X.env)::(false,eval e2 X.env)::(false,eval e3 X.env)::eV pos (aR es X.env))) _ _ s;refine Calls.spliced_cons (fk (h1 pins s σ H _ I h) λu1 s1 ⟨⟨x1,H1,I1,r1,q1⟩,l1⟩=>?_);refine Calls.spliced_cons (fk (h2 pins s1 σ H1 _ I1 q1) λu2 s2 ⟨⟨x2,H2,I2,r2,q2⟩,l2⟩=>?_);refine Calls.spliced_cons (fk (h3 pins s2 σ H2 _ I2 q2 (by lia)) λu3 s3 ⟨x3,H3,I3,r3,q3⟩=>?_);exact fk (hr pos pins s3 σ H3 _ I3 q3) λus s4 ⟨xs,H4,I4,r4,q4⟩=>⟨x1::x2::x3::xs,H4,I4,.cons r1 (.cons r2 (.cons r3 r4)),q4⟩
def Ou{e1 e2 e3:Expr}{es:List Expr}{t1 t2 t3:TE}{t:TA}(h1:SH X e1 t1)(h2:PL X e2 t2)(h3:V6 X e3 t3)(hr:QA X es t)
  (hs:aR (e1::e2::e3::es) X.env=(false,eval e1 X.env)::(false,eval e2 X.env)::(false,eval e3 X.env)::aR es X.env:=by rfl):QA X (e1::e2::e3::es) (ai t1 (ai t2 (ai t3 t))):=⟨N9 h1 h2 h3 hr.up hs⟩
end
end L2
end
section
namespace Bg
open PySem L2
def jm(_:Fg):Sp:=λvs H Q _=>∃y:Str,vs=[.str y]/\y.length<=99000/\∀(b:Bool) (H':Hp),(b=true↔Nm y)->aL H H'->Q (.bl b) H'
def jZ(_:Fg):Sp:=λvs H Q _=>∃(l:ar) (ys:List Str),vs=[.ref l]/\H l=some (.lst (ys.map V.str))/\ys.length<=99000/\(∀y∈ys,y.length<=99000)/\∀(b:Bool) (H':Hp),(b=true↔∀y∈ys,Nm y)->aL H H'->Q (.bl b) H'
def mK(_:Fg):Sp:=λvs H Q _=>∃y:Str,vs=[.str y]/\y.length<=99000/\∀(b:Bool) (H':Hp),(b=true↔Nb y)->aL H H'->Q (.bl b) H'
def qd(_:Fg):Sp:=λvs H Q _=>∃(l:ar) (ws:List Str),vs=[.ref l]/\H l=some (.lst (ws.map V.str))/\1<=ws.length/\ws.length<=99000/\(∀y∈ws,y.length<=99000)/\∀(b:Bool) (H':Hp),(b=true↔∃r,dn ws r)->aL H H'->Q (.bl b) H'
def RW(P:List (Option cL))(n:Int):Prop:=
 (n=-1/\∃ls,P=ls.map some/\(∀m,¬jw P m)/\∀m,¬kU ls m)\/
 ∃k:Nat,n=(k:Nat)/\(jP (jw P) k\/((∀m,¬jw P m)/\∃ls,P=ls.map some/\jP (kU ls) k))
noncomputable def readL (xs:List Str):List (Option cL):=xs.map λl=>lineOf? (Txt.split l " ")
def su(_:Fg):Sp:=λvs H Q _=>∃(l:ar) (xs:List Str),vs=[.ref l]/\H l=some (.lst (xs.map V.str))/\xs.length<=9000/\(∀x∈xs,x.length<=90000)/\∀(n:Int) (H':Hp),RW (readL xs) n->aL H H'->Q (.int n) H'
def iZ(x:Str):Prop:=10∉x.cps.toList
def iG(K:Fg):Sp:=λvs H Q _=>∃(st:ar) (w:Str) (k:Nat),vs=[.ref st,.str w]/\lF K H st k/\k<=900000/\w.length<=9000/\iZ w/\
 ∀(r:Str) (k':Nat) (H':Hp),iZ r->r.length<=w.length+21->lF K H' st k'->k'<=k+1->iq st H H'->Q (.str r) H'
def mL(K:Fg):Sp:=λvs H Q _=>∃(st:ar) (x:Str) (k:Nat),vs=[.ref st,.str x]/\lF K H st k/\k<=800000/\x.length<=9000/\iZ x/\
 ∀(r:Str) (k':Nat) (H':Hp),iZ r->r.length<=x.length+60->lF K H' st k'->k'<=k+4->iq st H H'->Q (.str r) H'
abbrev Ly:Nat:=0
abbrev KD:Nat:=1
abbrev FX:Nat:=1
abbrev Fb:Nat:=2
abbrev Lx:Nat:=0
abbrev KC:Nat:=1
abbrev FW:Nat:=2
abbrev E9:Nat:=3
abbrev Iu:Nat:=3
abbrev Ht:Nat:=4
abbrev BP:Nat:=1
abbrev Bw:Nat:=2
abbrev BK:Nat:=2
abbrev Br:Nat:=3
def eF.up(b:eF):bw:=⟨b.name,b.params,b.rows.map bS.up⟩
def eF.up_low(b:eF):b.up.low=b:=by
 have:(b.rows.map bS.up).map eJ.low=b.rows:=by
  rw[dM];exact(iS λr _=>bS.up_low r).trans (xp _)
 show(⟨b.name,b.params,(b.rows.map bS.up).map eJ.low⟩:eF)=b;rw[this]
def UN(r:bS):wD r.up=jT r:=by cases r<;>rfl
def LP{bs:List eF}{k:Nat}{b:eF}(nd:(bs.map (·.name)).Nodup)(e:bs[k]?=some b):b.name∉(bs.take k).map (·.name):=λz=>by
 obtain⟨b',hb',en⟩:=bA.mp z;obtain⟨j,hj,ej⟩:=bV.mp hb';rw[a8] at hj;have lt:j<k:=by lia
 rw[List.getElem_take] at ej;have e1:(bs.map (·.name))[j]?=some b.name:=by rw[aQ,af (by lia),ej];exact congrArg some en
 have e2:(bs.map (·.name))[k]?=some b.name:=by rw[aQ,e];rfl
 have lk:=(ak.mp e2).1;have lj:=(ak.mp e1).1;have:=(List.getElem?_inj lj nd).mp (e1.trans e2.symm);lia
def SS(bs:List eF):tG (bs.map eF.up)=bs.map (·.params.length):=by
 show(bs.map eF.up).map _=_;rw[dM];rfl
def Io{ys:List Str}{cs:List Nat}{bs:List eF}(ok:wg ys cs bs):vV (bs.map eF.up):=λk b' e=>by
 rw[aQ] at e;obtain⟨b,hb,rfl⟩:=b4.mp e;have bm:=aF hb;have sh:=ok.sh.part b bm;have pos:=sh.good.pos;refine⟨?_,λm=>?_,λm rg=>?_,λm u=>?_⟩
 ·rintro(z|z)
  ·refine LP ok.nnd hb ?_;have:((bs.map eF.up).take k).map (·.name)=(bs.take k).map (·.name):=by rw[<-fP,dM];rfl
   rw[this] at z;exact z
  ·exact z sh.pnd
 ·rintro(⟨z,_⟩|⟨r,er,z⟩)
  ·have:(b.rows.map bS.up).length=0:=by rw[show b.rows.map bS.up=[] from z];rfl
   rw[ae] at this;lia
  ·have er:(b.rows.map bS.up)[m]?=some r:=er;have ll:b.up.rows.length=b.rows.length:=ae ..;rw[aQ] at er;obtain⟨r0,e0,rfl⟩:=b4.mp er;have rm:=aF e0;rw[ll,SS] at z;rcases z with z|⟨z,y⟩
   ·cases r0 with
    |call x k as=>
     rcases(show((k:Nat):Int)<0\/_ from z) with w|w
     ·lia
     ·exact w (by rw[dJ];exact sh.calls x k as rm)
    |jump t=>
     have:=sh.gl _ rm t rfl;rcases(show((t:Nat):Int)<0\/(b.rows.length:Int)<=(t:Nat) from z) with w|w<;>lia
    |test a t=>
     have:=sh.gl _ rm t rfl;rcases(show((t:Nat):Int)<0\/(b.rows.length:Int)<=(t:Nat) from z) with w|w<;>lia
    |num x z'=>exact z
    |op x s a b=>exact z
    |say a=>exact z
    |give a=>exact z
   ·rw[UN] at y;have la:=sh.last;rw[cF,show b.rows.length-1=m from by lia,e0] at la;have:=Option.some.inj la;rw[y] at this;cases this
 ·rw[eF.up_low] at rg;obtain⟨⟨r0,e0,_⟩,_⟩:=id rg;have lt:=(ak.mp e0).1;obtain⟨r,er,jr⟩:=rg.jumps b.rows.length;rw[sh.good.ring m lt r er] at jr;cases jr
 ·rw[eF.up_low] at u;exact(ok.part b bm).clean m u
def mE.up{H:Hp}{v:V}{b:eF}(h:mE H v b):lX H v b.up:=by
 obtain⟨p,q,r,rs,e,h1,h2,h3,h4⟩:=h;refine⟨p,q,r,rs,e,h1,h2,h3,by rw[h4.len];exact(ae ..).symm,λi v r' ev er=>?_⟩;have er:(b.rows.map bS.up)[i]?=some r':=er;rw[aQ] at er;obtain⟨r0,e0,rfl⟩:=b4.mp er;exact(h4.at_ i v r0 ev e0).up
def U7{H:Hp}{pvs:List V}{bs:List eF}(h:cR (mE H) pvs bs):cR (lX H) pvs (bs.map eF.up):=by
 refine⟨by rw[h.len,ae],λi v b' ev eb=>?_⟩;rw[aQ] at eb;obtain⟨b,e0,rfl⟩:=b4.mp eb;exact(h.at_ i v b ev e0).up
def sX(x:Str)(n:Nat):Prop:=jP (jw (parse x)) n\/((∀m,¬jw (parse x) m)/\∃ls,parse x=ls.map some/\jP (kU ls) n)
def qh(_:Fg):Sp:=λvs H Q _=>∃(x:Str) (n:Nat),vs=[.str x,.int (n:Nat)]/\x.length<=90000/\sX x n/\∀(H':Hp),aL H H'->Q (.bl true) H'
structure U5(K:Fg):Prop where
 clL:xE K (cg K "NoLine")
 nLl:mD K (cg K "NoLine") "line"
 wyL:PV K (cg K "NoLine")
 mLL:HN K (cg K "NoLine") (cg K "NoLine")
 mLB:HN K (cg K "NoLine") (cg K "BeltError")
 iLL:BA K (cg K "NoLine") (cg K "NoLine") true
 iLN:BA K (cg K "NoLine") (cg K "NoProgram") false
 iLS:BA K (cg K "NoLine") (cg K "Short") false
abbrev LD:Nat:=6
abbrev KL:Nat:=7
abbrev Se:Nat:=7
abbrev MN:Nat:=8
end Bg
end
section
namespace Bg
open PySem PySem.Spec PyProof.Rows L2
abbrev HI:List Str:=["row"]
abbrev CB:List Str:=["row","word"]
def GZ(K:Fg):TS:=(cD (gc aJ))
def G0(K:Fg):TS:=(bx (dq (bE (a9 ((E3 K false)) (ao 1) (gc (ai Zn (ai Zl (ai Zi aJ)))))) (cD (gc (ai (a9 (cJ K) (ao 0) Za) aJ))) b6) (GZ K))
def G1(K:Fg):TS:=(bx (dq (bE (a9 (eC K) (ao 1) Zf)) (cD (fj (i5 K) (ai (a9 (cJ K) (ao 0) Zd) aJ))) b6) (G0 K))
def G2(K:Fg):TS:=(bx (dq (bE (a9 (eC K) (ao 1) Zp)) (cD (gc (ai (a9 (cJ K) (ao 0) Zd) (ai (a9 (cJ K) (ao 0) Zm) aJ)))) b6) (G1 K))
def Dy(K:Fg):TS:=(bx (cb (a9 (cJ K) (ao 0) Zb) (aU 1)) (G2 K))
abbrev KQ:List Str:=["row"]
abbrev Fj:List Str:=["row"]
def Jt(K:Fg):TS:=(cD (tC .non))
def G3(K:Fg):TS:=(bx (dq (bE (a9 ((E3 K false)) (a9 (cJ K) (ao 0) Zb) (gc (ai Zo (ai Zp (ai Zf aJ)))))) (cD (a9 (cJ K) (ao 0) Za)) b6) (Jt K))
abbrev CF:List Str:=["row"]
abbrev zp:List Str:=["row"]
def Jq(K:Fg):TS:=(cD (tC .non))
def Jr(K:Fg):TS:=(bx (dq (bE (a9 (eC K) (a9 (cJ K) (ao 0) Zb) Zl)) (cD (a9 (cJ K) (ao 0) Zc)) b6) (Jq K))
def A6(K:Fg):TS:=(bx (dq (bE (a9 (eC K) (a9 (cJ K) (ao 0) Zb) Zh)) (cD (a9 (cJ K) (ao 0) Za)) b6) (Jr K))
abbrev HH:List Str:=["rows","n"]
abbrev CA:List Str:=["rows","n","word"]
def GU(K:Fg):TS:=(cD (gc (ai (a9 (cS K) (ao 1) Za) aJ)))
def GV(K:Fg):TS:=(bx (dq (bE (a9 (eC K) (ao 2) Zl)) (cD (gc (ai (a9 (cS K) (ao 1) Za) (ai (bF (ph K) [] E0 (ai (a9 (cJ K) (ao 0) (ao 1)) aJ)) aJ)))) b6) (GU K))
def GW(K:Fg):TS:=(bx (dq (bE (a9 (eC K) (ao 2) Zh)) (cD (gc (ai (bF (ph K) [] E0 (ai (a9 (cJ K) (ao 0) (ao 1)) aJ)) aJ))) b6) (GV K))
def GX(K:Fg):TS:=(bx (dq (bE (a9 (eC K) (ao 2) Zi)) (cD (gc aJ)) b6) (GW K))
def Dx(K:Fg):TS:=(bx (cb (a9 (cJ K) (a9 (cJ K) (ao 0) (ao 1)) Zb) (aU 2)) (GX K))
abbrev kW:List Str:=["rows","unset"]
abbrev uA:List Str:=["rows","unset","found","waiting","n","to"]
def EN(K:Fg):TS:=(cD (fj OB (ai (ao 2) aJ)))
def EO(K:Fg):TS:=(iQ (sE K "list" gZ (ao 3) (ai (ao 5) aJ)))
def qt(K:Fg):TS:=(dq (bE (a9 ((IW true)) (ao 5) (ao 2))) (bx (cb (tC (.bl true)) (tI (ao 2) (ao 5) Gk)) (EO K)) b6)
def vM(K:Fg):TS:=(dq (Kl (bE (a9 (VC) (ao 1) (tC .non))) (bE (a9 (BR K) (bF (xb K) [] E0 (ai (a9 (cJ K) (ao 0) (ao 4)) aJ)) (ao 1)))) (kG (iT K (bF (qe K) [] E0 (ai (ao 0) (ai (ao 4) aJ)))) (aU 5) (qt K)) b6)
def ER(K:Fg):TS:=(bx (cb (UL K "list" VM (ao 3)) (aU 4)) (vM K))
def vN(K:Fg):TS:=(bx (AV (bE (a9 (Az) (fj (eX K) (ai (ao 3) aJ)) Zb)) (ER K)) (EN K))
def vO(K:Fg):TS:=(bx (cb (gF (ai Zb aJ)) (aU 3)) (vN K))
def Bh(K:Fg):TS:=(bx (cb (OY [(Zb ,(tC (.bl true)))]) (aU 2)) (vO K))
abbrev fv:List Str:=["self","part","row","word"]
abbrev ku:List Str:=["self","part","row","word"]
def uO(K:Fg):TS:=(Df K (ao 0) (ao 3) "word")
def uP(K:Fg):TS:=(bx (Df K (ao 0) (ao 2) "row") (uO K))
def pw(K:Fg):TS:=(bx (Df K (ao 0) (ao 1) "part") (uP K))
abbrev Fl:List Str:=["part","row","word"]
abbrev zr:List Str:=["part","row","word"]
def Be(K:Fg)(E:XK):TS:=(dq (bE (a9 (So) (ao 1) (tC .non))) (uN K E (uM (cg K "NoProgram") (fB K) (ai (ao 0) (ai (ao 1) (ai (ao 2) aJ))))) b6)
abbrev zx:List Str:=["part"]
abbrev nY:List Str:=["part","rows","due","name"]
def yL(K:Fg):TS:=(cD (O0 K (ai (ao 2) aJ)))
def qZ(K:Fg):TS:=(dq (bE (a9 ((E3 K true)) (ao 3) (a9 (cJ K) (ao 0) Za))) (iQ (sE K "list" Kc (ao 2) (ai (fE [] 1 (iT K (bF (lg K) [] E0 (ai (ao 1) (ai (ao 3) aJ)))) (aU 4) (bE (a9 ((E3 K false)) (ao 3) (bF (qf K) [] E0 (ai (a9 (cJ K) (ao 1) (ao 4)) aJ)))) (ao 4)) aJ))) b6)
def q9(K:Fg):TS:=(bx (kG (iT K (bF (lK K) [] E0 (ai (ao 1) aJ))) (aU 3) (qZ K)) (yL K))
def rf(K:Fg):TS:=(bx (cb (gF aJ) (aU 2)) (q9 K))
def um(K:Fg):TS:=(bx (cb (a9 (cJ K) (ao 0) Zc) (aU 1)) (rf K))
abbrev yt:List Str:=["rows"]
abbrev rN:List Str:=["rows","names","row","name"]
def xh(K:Fg):TS:=(cD (fj OA (ai (ao 1) aJ)))
def px(K:Fg):TS:=(cb (tC (.bl true)) (tI (ao 1) (ao 3) Gk))
def pz(K:Fg):TS:=(kG (iT K (bF (qf K) [] E0 (ai (ao 2) aJ))) (aU 3) (px K))
def pA(K:Fg):TS:=(bx (kG (iT K (ao 0)) (aU 2) (pz K)) (xh K))
def sI(K:Fg):TS:=(bx (cb AU (aU 1)) (pA K))
end Bg
end
section
namespace PySem
open Sem (wp)
open AutoSeq1 (wpAny_loadPart')
section
variable{prog:aW}{w:bK}{A:bj}{E:ZF}{s:aq}
def IH{ib tb:ar}{i:Nat}{its:Array aa}{x:aa}{Q:ZF}(hib:s.heap.IsTupleIter ib tb i)(htb:s.heap.IsTuple tb its)(hx:its[i]?=some x)
  (hQ:∀h',h'.IsTupleIter ib tb (i+1)->Heap.SameBut ib s.heap h'->Q x {s with heap:=h'}):aO (model prog w) A (Builtin.SmallTypes.nextOf (.ref ib)) Q E s:=by
 obtain⟨ob,hob,hcb,hdb⟩:=id hib;obtain⟨ot,hot,_,nt,hdt⟩:=htb;unfold Builtin.SmallTypes.nextOf;refine ag (eD (name:=Str.ofString "__next__") hib.typeIs F.slot_tuple_iterator_next (fQ F.slot_tuple_iterator_next hib.typeIs F.entry_tuple_iterator_next ?_ (F.args_tuple_iterator_next_1 _)));show aO _ _ (field (.ref ib) 0 >>= _) _ _ s;refine ag (ff hob hdb (x:=.ref tb) rfl ?_);show aO _ _ (if(aa.ref tb==aa.none)=true then _ else _) _ _ s;rw[if_neg (show ¬((aa.ref tb==aa.none)=true) from Bool.false_ne_true)];show aO _ _ (field (.ref ib) 1 >>= _) _ _ s;refine ag (ff hob hdb (x:=.int i 0) rfl ?_);show aO _ _ (sT (.ref tb) >>= _) _ _ s;refine ag (jI hot hdt ?_);simp only[dJ,hx];refine ag (mw hob hdb (by simp) (aC ⟨x,rfl,aC (hQ _ ?_ (Heap.SameBut.update ..))⟩));exact⟨_,dE _ hob (Obj.isFreed_of_fields (Obj.data_mapFields hdb _)),(Obj.cls_mapFields ..).trans hcb,by rw[Obj.data_mapFields hdb];simp[mi]⟩
def C8{ib tb:ar}{i:Nat}{its:Array aa}{Q:ZF}(hh:A.handled=none)(hib:s.heap.IsTupleIter ib tb i)(htb:s.heap.IsTuple tb its)(hx:its[i]?=none)
  (hE:∀h' e,Heap.ExtBut ib s.heap h'->(∃o,h'.get? e=some o/\o.cls=.type "StopIteration")->E (.ref e) {s with heap:=h'}):aO (model prog w) A (Builtin.SmallTypes.nextOf (.ref ib)) Q E s:=by
 obtain⟨ob,hob,hcb,hdb⟩:=id hib;obtain⟨ot,hot,_,nt,hdt⟩:=htb;unfold Builtin.SmallTypes.nextOf;refine ag (eD (name:=Str.ofString "__next__") hib.typeIs F.slot_tuple_iterator_next (fQ F.slot_tuple_iterator_next hib.typeIs F.entry_tuple_iterator_next ?_ (F.args_tuple_iterator_next_1 _)));show aO _ _ (field (.ref ib) 0 >>= _) _ _ s;refine ag (ff hob hdb (x:=.ref tb) rfl ?_);show aO _ _ (if(aa.ref tb==aa.none)=true then _ else _) _ _ s;rw[if_neg (show ¬((aa.ref tb==aa.none)=true) from Bool.false_ne_true)];show aO _ _ (field (.ref ib) 1 >>= _) _ _ s;refine ag (ff hob hdb (x:=.int i 0) rfl ?_);show aO _ _ (sT (.ref tb) >>= _) _ _ s;refine ag (jI hot hdt ?_);simp only[dJ,hx];refine ag (mr (ag (mw hob hdb (by simp) ?_)));show aO _ _ (newExc (.type "StopIteration") [] >>= _) _ _ _;refine ag ?_;simp only[newExc,newTuple];refine ag (d6 ?_ (by size_fits));refine ag (m:=firstArgMember _ _) (kR (a:=aa.none) (by first|rfl|(simp only[firstArgMember];rfl)) ?_)
 refine d6 ?_ (by size_fits);simp only[raiseNew];refine ag (wpAny_handled ?_)
 first|rw[show A.in1.handled=none from hh]|rw[hh]
 refine ag (aC (wpAny_throw ?_));exact hE _ _ (((Heap.SameBut.update ..).extBut.push _).push _) ⟨_,aZ _ rfl,rfl⟩
end
def SW{prog:aW}{w:bK}{A:bj}(hh:A.handled=none)(ib tb:ar)(hne:tb≠ib)(its:Array aa) :
  Draws prog w A ib [ib,tb] its.size (λi v=>its[i]?=some v) (λi h=>h.IsTupleIter ib tb i/\h.IsTuple tb its) where
 live:=λ_ _ st=>let⟨o,ho,_⟩:=st.1;⟨o,ho⟩
 frame:=λ_ _ _ st hk=>⟨st.1.at λo e=>hk ib (by simp) o e,let⟨o,ho,r⟩:=st.2;⟨o,hk tb (by simp) o ho,r⟩⟩
 item:=λi s Q E hi st hQ=>IH st.1 st.2 (x:=its[i]) (by simp[hi]) λh' hit' hs'=>hQ _ h' s.toks (by simp[hi]) ⟨hit',st.2.extBut hs'.extBut hne⟩ hs'
 done:=λs Q E st hE=>C8 hh st.1 st.2 (by simp) hE
def F6(tb:ar)(its:Array aa)(n:Nat)(dct:Option ar)(sl:Array (Option aa)) :
  Meets (Builtin.«enumerate.__new__» ⟨[.type "enumerate",.ref tb],[]⟩) (λ_ R s=>s.heap.get? tb=some {cls:=.type "tuple",dict:=dct,data:=.seq its n,slots:=sl}/\
   R (.ok (.ret (.ref (s.heap.push {cls:=.type "tuple_iterator",data:=.fields #[.ref tb,.int 0 0]}).objs.size)))
    {s with heap:=(s.heap.push {cls:=.type "tuple_iterator",data:=.fields #[.ref tb,.int 0 0]}).push {cls:=.type "enumerate",data:=.fields #[.none,.bool false,.ref s.heap.objs.size,mi 0,.none,.none]}}):=
 .of_wp λprog w A R s h=>by
  obtain⟨hp,g,d,tk,os⟩:=s;obtain⟨hl,h⟩:=h;have hsub:=sub_enumerate;have hL:Heap.IsTuple (aq.heap ⟨hp,g,d,tk,os⟩) tb its:=⟨_,hl,rfl,n,rfl⟩
  wp_walk using wpAny_loadPart' hl
  refine wpAny_stack_any λst=>aC ?_;split
  ·rename_i c _ _ _ _ _;cases(c==aa.type "enumerate")
   ·wp_walk using wpAny_loadPart' hl,gU hL
    exact⟨_,rfl,h⟩
   ·wp_walk using wpAny_loadPart' hl,gU hL
    exact⟨_,rfl,h⟩
  ·wp_walk using wpAny_loadPart' hl,gU hL
   exact⟨_,rfl,h⟩
def HW{prog:aW}{w:bK}{A:bj}{E:ZF}{s:aq}{tb:ar}{its:Array aa}{Q:ZF}(hL:s.heap.IsTuple tb its)
  (h:∀h',IsEnum h' (s.heap.objs.size+1) s.heap.objs.size 0 .none->h'.IsTupleIter s.heap.objs.size tb 0->h'.objs.size=s.heap.objs.size+2->(∀b o,s.heap.get? b=some o->h'.get? b=some o)->Q (.ref (s.heap.objs.size+1)) {s with heap:=h'}) :
  aO (model prog w) A (call (.type "enumerate") [.ref tb]) Q E s:=by
 obtain⟨⟨c,dct,dt,sl⟩,hl,hc,n,hd⟩:=hL
 replace hc:c=.type "tuple":=hc
 replace hd:dt=.seq its n:=hd
 subst hc hd;refine callType_new F.called_enumerate (by decide) (F.typeCall_enumerate_1 _) (F.newCall_enumerate_1 _) (λobj=>F.args_object_init_2 obj _) F.entry_enumerate_new (F6 tb its n dct sl) ⟨hl,?_⟩;have hz:(s.heap.push {cls:=.type "tuple_iterator",data:=.fields #[.ref tb,.int 0 0]}).objs.size=s.heap.objs.size+1:=d7 ..;show _/\_;rw[hz];have he:IsEnum ((s.heap.push {cls:=.type "tuple_iterator",data:=.fields #[.ref tb,.int 0 0]}).push {cls:=.type "enumerate",data:=.fields #[.none,.bool false,.ref s.heap.objs.size,mi 0,.none,.none]}) (s.heap.objs.size+1) s.heap.objs.size 0 .none:=by
  have:=aZ (s.heap.push {cls:=.type "tuple_iterator",data:=.fields #[.ref tb,.int 0 0]}) (o:={cls:=.type "enumerate",data:=.fields #[.none,.bool false,.ref s.heap.objs.size,mi 0,.none,.none]}) rfl;rw[hz] at this;exact this
 refine⟨⟨_,he,rfl⟩,h _ he ⟨_,az _ (aZ _ rfl),rfl,rfl⟩ (by rw[d7,hz]) λb o x=>az _ (az _ x)⟩
end PySem
namespace L2
open PySem PySem.Spec PyProof.Rows
def MK(K:Fg)(a:ar):It:=
 ⟨λi H=>∃xs x,eO K H a xs/\xs[i]?=some x,λi H x H'=>∃p v,H p=none/\x=.ref p/\H'=upd H p (.tup [.int (i:Nat),v])/\∀xs,eO K H a xs->xs[i]?=some v,λi H=>∃xs,eO K H a xs/\xs.length<=i⟩
def Jv{P:aW}{w:bK}{K:Fg}{elts:List Expr}{k:Nat}{pos:Pos}(a e it:ar)(hne:e≠it) :
  DW P w K (.Tuple elts k pos) (MK K a) [e,it] e (λi h=>(∃old,IsEnum h e it (i:Nat) old)/\h.IsTupleIter it a i) where
 mem:=by simp
 obj:=λi h st b hb=>by
  obtain⟨⟨old,he⟩,⟨o,ho,c,d⟩⟩:=st;rcases aE.mp hb with rfl|hb
  ·exact⟨_,he,λv z=>by have z':Data.fields _=Data.cell v:=z;cases z'⟩
  ·rw[aw.mp hb];exact⟨o,ho,λv z=>by rw[d] at z;cases z⟩
 keep:=λi h h' st k=>⟨let⟨old,he⟩:=st.1;⟨old,k e (by simp) _ he⟩,st.2.at λo q=>k it (by simp) o q⟩
 item:=by
  intro X hP hw hK hc i pins s σ H E I hf st hg;subst hP hw hK;obtain⟨⟨old,he⟩,hit⟩:=st;obtain⟨xs,x,hq,hx⟩:=hg;obtain⟨its,rv,p,hz⟩:=I.tuple hq;obtain⟨u,hu,ru⟩:=rv.get hx;have p':s.heap.IsTuple a its.toArray:=p;have hlt:i<its.toArray.size:=by have:=(ak.mp hu).1;simpa using this
  have na:a≠it:=by
   intro z;subst z;obtain⟨o,e1,c1,_⟩:=p';obtain⟨o',e2,c2,_⟩:=hit;rw[e1] at e2;cases e2;rw[c1] at c2;injection c2 with c3;exact absurd c3 (by decide)
  have nb:e≠a:=by
   intro z;subst z;obtain⟨o,e1,c1,_⟩:=p';rw[he] at e1;cases e1;injection c1 with c3;exact absurd c3 (by decide)
  have Dw:=SW (prog:=X.prog) (w:=X.w) (A:=X.A.in1) (show X.A.in1.handled=none from I.ok.hd hc) it a na its.toArray;refine wpAny_pyNext_enum_itemD Dw he ⟨hit,p'⟩ hlt hne (by simp[hne,nb]) λy h1 tk hP ho st1 hT hsz hk=>?_;have ey:y=u:=by
   have h1:its.toArray[i]?=some y:=hP;have h2:its[i]?=some y:=by simpa using h1
   rw[hu] at h2;exact(Option.some.inj h2).symm
  subst ey;refine⟨_,rfl,?_⟩;have fT:uy X pins H s.heap.objs.size:=I.fpOk (aD _) (I.hok.fresh (aD _));refine wpAny_letOwnedTupleGo_enum ho λh2 he2 hs2=>?_;have helt:e<s.heap.objs.size:=aP he;have I1:bY X pins σ H {s with heap:=h2,toks:=tk+1}:=I.turnedL (t':=tk+1) (ch:=[e,it]) (λb o hb q=>by
   have b1:b≠e:=λz=>hb (by simp[z]);have b2:b≠it:=λz=>hb (by simp[z]);exact(hs2.2 b b1).trans (hk b o b1 b2 q)) hf
  have gT:h2.get? s.heap.objs.size=some {cls:=.type "tuple",data:=.seq #[.int i tk,y]}:=(hs2.2 _ (jN helt)).trans hT;have I2:=I1.adopt (T:=s.heap.objs.size) (o:=.tup [.int (i:Nat),x]) fT (EV (X:=X) gT ⟨tk,rfl⟩ ru);refine⟨.ref s.heap.objs.size,_,I2,rfl,⟨s.heap.objs.size,x,fT.1,rfl,rfl,λys hy=>by rw[I.tuple_inj hy hq];exact hx⟩,⟨⟨y,?_⟩,?_⟩,λb hb=>?_⟩
  ·have e2:(((i+1:Nat):Nat):Int)=(i:Int)+1:=by lia
   show IsEnum h2 e it (((i+1:Nat):Nat):Int) y;rw[e2];exact he2
  ·obtain⟨o,q1,q2⟩:=st1.1;exact⟨o,(hs2.2 it (Ne.symm hne)).trans q1,q2⟩
  ·have nT:b≠s.heap.objs.size:=by
    rcases aE.mp hb with rfl|hb
    ·exact bu helt
    ·rw[aw.mp hb];obtain⟨o,ho,_⟩:=hit;exact bu (aP ho)
   rw[aK nT];exact(hf b hb).1
 done:=by
  intro X hP hw hK hc i pins s σ H E I hf st hg;subst hP hw hK;obtain⟨⟨old,he⟩,hit⟩:=st;obtain⟨xs,hq,hx⟩:=hg;obtain⟨its,rv,p,hz⟩:=I.tuple hq;have hl:=rv.length;have hT:s.TypeIs (.ref e) "enumerate":=⟨_,he,rfl⟩;unfold nI;refine ag (nJ (eD (name:=Str.ofString "__next__") hT F.slot_enumerate_next
   (fQ F.slot_enumerate_next hT F.entry_enumerate_next ?_ (F.args_enumerate_next_1 _))))
  show aO _ _ (field (.ref e) 2 >>= _) _ _ _;refine ag (ff he rfl (x:=.ref it) rfl ?_);refine ag (C8 (show X.A.in1.handled=none from I.ok.hd hc) hit (show s.heap.IsTuple a its.toArray from p) (by simp;lia) λh1 x1 eb hx1=>?_);obtain⟨o,ho,hcl⟩:=hx1;refine ag (wpAny_isInstance (T:="StopIteration") (b:=true) ⟨o,ho,hcl⟩ isSubtype_stop ?_);exact aC ⟨rfl,I.turnedL (t':=s.toks) (ch:=[e,it]) (λb ob hb q=>eb b ob (λz=>hb (by simp[z])) q) hf⟩
 self:=λ_ _ _ _ _ st h=>let⟨_,he⟩:=st.1;jG he h
section
variable{X:Cx}{elts:List Expr}{k:Nat}{tpos:Pos}
def Em(K:Fg)(tl:TA):TI:=λσ H R=>tl σ H λvs H1=>∃a,vs=[.ref a]/\(∃xs,eO K H1 a xs)/\R (MK K a) H1
def Oj{a:Expr}{ta:TA}{p pos:Pos}(hg:Gl X "enumerate")(hm:X.mg "enumerate"=none)(ha:PA X [a] ta)(hs:aR [a] X.env=[(false,eval a X.env)]:=by rfl) :
  PI X (.Tuple elts k tpos) (.Call (.Name "enumerate" p) [a] [] pos) (Em X.K ta):=by
 intro pins s σ H R I h;refine Call_ (og I hg hm boot_enumerate (dN (fk (ha pos pins s σ H _ I h) λus s1 ⟨vs,H1,I1,r1,q1⟩=>?_) hs rfl));obtain⟨l,e,⟨xs,hq⟩,q⟩:=q1;subst e;cases r1 with
 |cons r rr=>
  cases rr;cases r;obtain⟨its,rv,pl,hz⟩:=I1.tuple hq;refine HW (show s1.heap.IsTuple l its.toArray from pl) λh1 he hit hsz hk=>?_;refine jG he ?_;have I2:bY X pins σ H1 {s1 with heap:=h1}:=I1.kept (t':=s1.toks) hk;refine⟨s1.heap.objs.size+1,[s1.heap.objs.size+1,s1.heap.objs.size],_,_,H1,rfl,I2,Jv l _ _ (Nat.succ_ne_self _),⟨⟨.none,he⟩,hit⟩,λb hb=>?_,q⟩;have hb':s1.heap.objs.size<=b:=by
   rcases aE.mp hb with rfl|hb
   ·lia
   ·rw[aw.mp hb];exact aD _
  exact I1.fpOk hb' (I1.hok.fresh hb')
def Gg{a:Expr}{ta:TA}{p pos:Pos}(hg:Gl X "enumerate")(hm:X.mg "enumerate"=none)(ha:QA X [a] ta)(hs:aR [a] X.env=[(false,eval a X.env)]:=by rfl):QI X (.Tuple elts k tpos) (.Call (.Name "enumerate" p) [a] [] pos) (Em X.K ta):=
 ⟨Oj hg hm ha.1 hs⟩
end
def CT{K:Fg}{a:ar}{xs:List V}{g:TG}{tb:TS}{D:rn}{σ:St}{H:Hp}(Pv:Nat->St->Hp->Prop)(h0:Pv 0 σ H)(hl:∀i σ H,i<=xs.length->Pv i σ H->eO K H a xs)
  (hs:∀i x σ H p,xs[i]?=some x->H p=none->Pv i σ H->g (.ref p) σ (upd H p (.tup [.int (i:Nat),x])) λσ2 H2=>tb {D with nx:=Pv (i+1),ct:=Pv (i+1),bk:=D.nx} σ2 H2) (hd:∀σ H,Pv xs.length σ H->D.nx σ H) :
  ∃W:Nat->Nat->St->Hp->Prop,(∃m,W 0 m σ H)/\∀i m σ H,W i m σ H->
   ((MK K a).stop i H/\D.nx σ H)\/((MK K a).go i H/\∃N:St->Hp->Prop,(∀σ' H',N σ' H'->∃m',m'<m/\W (i+1) m' σ' H')/\∀x H',(MK K a).yld i H x H'->g x σ H' λσ2 H2=>tb {D with nx:=N,ct:=N,bk:=D.nx} σ2 H2):=by
 refine⟨λi m σ H=>m=xs.length-i/\i<=xs.length/\Pv i σ H,⟨xs.length,by simp,cA _,h0⟩,?_⟩;rintro i m σ H ⟨rfl,hi,p⟩;have q:=hl i σ H hi p;by_cases hlt:i<xs.length
 ·refine .inr ⟨⟨xs,xs[i],q,by simp[hlt]⟩,Pv (i+1),λσ' H' p'=>⟨xs.length-(i+1),by lia,rfl,hlt,p'⟩,λx H' y=>?_⟩;obtain⟨pp,v,e1,rfl,rfl,y⟩:=y;exact hs i v σ H pp (y xs q) e1 p
 ·have e:i=xs.length:=by lia
  subst e;exact .inl ⟨⟨xs,q,aD _⟩,hd σ H p⟩
section
variable{X:Cx}
end
section
variable{X:Cx}
end
section
variable{X:Cx}
end
end L2
end
section
namespace Bg
open PySem PySem.Spec PyProof.Rows L2
abbrev fV:List Str:=["self","line"]
abbrev nV:List Str:=["self","line"]
def tZ(K:Fg):TS:=(Df K (ao 0) (ao 1) "line")
abbrev HG:List Str:=["program"]
abbrev Cz:List Str:=["program","k","part"]
def GR(K:Fg)(E:XK):TS:=(iQ (bF (jD K) [] (nq λ_=>E) (ai (ao 1) (ai (bF (mN K) [] E0 (ai (ao 2) aJ)) (ai (tC (.str "unset")) aJ)))))
def GS(K:Fg)(E:XK):TS:=(bx (iQ (bF (jD K) [] (nq λ_=>E) (ai (ao 1) (ai (bF (oy K) [] E0 (ai (a9 (cJ K) (ao 2) Zc) aJ)) (ai (tC (.str "ring")) aJ))))) (GR K E))
def GT(K:Fg)(E:XK):TS:=(bx (iQ (bF (jD K) [] (nq λ_=>E) (ai (ao 1) (ai (bF (qg K) [] E0 (ai (ao 0) (ai (ao 1) aJ))) (ai (tC (.str "row")) aJ))))) (GS K E))
def xZ(K:Fg)(E:XK):TS:=(bx (iQ (bF (jD K) [] (nq λ_=>E) (ai (ao 1) (ai (bF (oq K) [] E0 (ai (ao 0) (ai (ao 1) aJ))) (ai (tC (.str "name")) aJ))))) (GT K E))
def Dv(K:Fg)(E:XK):TS:=(kG (Em K (ai (ao 0) aJ)) (zT K 2 (iB (aU 1) (iB (aU 2) yA))) (xZ K E))
abbrev Bx:List Str:=["program","k"]
abbrev pP:List Str:=["program","k","name","params"]
def A7(K:Fg):TS:=(cD (tC .non))
def sF(K:Fg):TS:=(bx (dq (bE (a9 (rz) (EK K (ai (ao 3) aJ)) (fj (eX K) (ai (ao 3) aJ)))) (cD Zb) b6) (A7 K))
def sG(K:Fg):TS:=(bx (dq (bE (a9 ((E3 K false)) (ao 2) (fE [] 1 (iT K (uT (vR K) (ao 0) dP (fX (ao 1)))) (aU 4) kH (a9 (cJ K) (ao 4) Zb)))) (cD Zb) b6) (sF K))
def sH(K:Fg):TS:=(bx (cb (a9 (cJ K) (a9 (cJ K) (ao 0) (ao 1)) Za) (aU 3)) (sG K))
def vJ(K:Fg):TS:=(bx (cb (a9 (cJ K) (a9 (cJ K) (ao 0) (ao 1)) Zb) (aU 2)) (sH K))
abbrev DQ:List Str:=["program","k"]
abbrev xA:List Str:=["program","k","rows","n","row"]
def Ce(K:Fg):TS:=(cD (tC .non))
def uf(K:Fg):TS:=(bx (dq (bE (a9 ((E3 K true)) (a9 (cJ K) (a9 (cJ K) (ao 2) (Sw L8 Za)) Zb) (gc (ai Zh (ai Zi aJ))))) (cD (a9 (Gm) (fj (eX K) (ai (ao 2) aJ)) Za)) b6) (Ce K))
def ug(K:Fg):TS:=(dq (Kl (tB (bF (kF K) [] E0 (ai (ao 2) (ai (ao 4) aJ)))) (tB (bF (kD K) [] E0 (ai (ao 0) (ai (ao 4) aJ))))) (cD (ao 3)) b6)
def uh(K:Fg):TS:=(bx (kG (Em K (ai (ao 2) aJ)) (zT K 2 (iB (aU 3) (iB (aU 4) yA))) (ug K)) (uf K))
def uk(K:Fg):TS:=(bx (dq (bE (a9 (eC K) (fj (eX K) (ai (ao 2) aJ)) Zb)) (cD Zb) b6) (uh K))
def x8(K:Fg):TS:=(bx (cb (a9 (cJ K) (a9 (cJ K) (ao 0) (ao 1)) Zc) (aU 2)) (uk K))
abbrev we:List Str:=["rows","row"]
abbrev qD:List Str:=["rows","row","to"]
def ik(K:Fg):TS:=(cD (ki (a9 (So) (ao 2) (tC .non)) (UM (a9 (rz) (ao 2) Zb) (a9 (Uz) (ao 2) (fj (eX K) (ai (ao 0) aJ))))))
def qR(K:Fg):TS:=(bx (cb (bF (xc K) [] E0 (ai (ao 1) aJ)) (aU 2)) (ik K))
abbrev v9:List Str:=["program","row"]
abbrev lD:List Str:=["program","row","k"]
def vE(K:Fg):TS:=(cD (a9 (BR K) (fj (eX K) (ai (a9 (cJ K) (ao 1) Zd) aJ)) (fj (eX K) (ai (a9 (cJ K) (a9 (cJ K) (ao 0) (ao 2)) Za) aJ))))
def nE(K:Fg):TS:=(bx (dq (Kl (bE (a9 (rz) (ao 2) Zb)) (bE (a9 (Uz) (ao 2) (fj (eX K) (ai (ao 0) aJ))))) (cD (tC (.bl true))) b6) (vE K))
def vF(K:Fg):TS:=(bx (cb (a9 (cJ K) (ao 1) Zc) (aU 2)) (nE K))
def lN(K:Fg):TS:=(bx (dq (bE (a9 (BR K) (a9 (cJ K) (ao 1) Zb) Zf)) (cD (tC (.bl false))) b6) (vF K))
abbrev Bz:List Str:=["rows"]
abbrev u5:List Str:=["rows","n"]
def Bf(K:Fg):TS:=(cD (tC .non))
def sL(K:Fg):TS:=(dq (tB (bF (kE K) [] E0 (ai (ao 0) (ai (ao 1) aJ)))) (cD (ao 1)) b6)
def vL(K:Fg):TS:=(bx (kG (rT (ai (fj (eX K) (ai (ao 0) aJ)) aJ)) (aU 1) (sL K)) (Bf K))
abbrev wc:List Str:=["rows","n"]
abbrev qC:List Str:=["rows","n","passed","at"]
def nF(K:Fg):TS:=(cD (ki (a9 (eC K) (ao 3) (ao 1)) (a9 ((IW false)) (ao 1) (ao 2))))
def vG(K:Fg):TS:=(cb (bF (ph K) [] E0 (ai (a9 (cJ K) (ao 0) (ao 3)) aJ)) (aU 3))
def vH(K:Fg):TS:=(bx (cb (tC (.bl true)) (tI (ao 2) (ao 3) Gk)) (vG K))
def nG(K:Fg):TS:=(bx (AV (i6 (bE (a9 (eC K) (a9 (cJ K) (a9 (cJ K) (ao 0) (ao 3)) Zb) Zh)) (bE (a9 ((IW true)) (ao 3) (ao 2)))) (vH K)) (nF K))
def vI(K:Fg):TS:=(bx (cb (ao 1) (aU 3)) (nG K))
def qQ(K:Fg):TS:=(bx (cb AU (aU 2)) (vI K))
abbrev KP:List Str:=["text"]
abbrev zq:List Str:=["text","lines","numbers","program"]
def Js(K:Fg)(E:XK):TS:=(cD (ao 3))
def A9(K:Fg)(E:XK):TS:=(bx (iQ (bF (uK K) [] (nq λ_=>E) (ai (ao 3) aJ))) (Js K E))
def Ba(K:Fg)(E:XK):TS:=(bx (cb (bF (lL K) [] E0 (ai (ao 1) (ai (ao 2) aJ))) (aU 3)) (A9 K E))
def Bb(K:Fg)(E:XK):TS:=(bx (iQ (bF (j6 K) [] (nq λ_=>E) (ai (ao 1) (ai (ao 2) aJ)))) (Ba K E))
def Bc(K:Fg)(E:XK):TS:=(bx (cb (bF (ie K) [] E0 (ai (ao 1) aJ)) (aU 2)) (Bb K E))
def Bd(K:Fg)(E:XK):TS:=(bx (iQ (bF (j7 K) [] (nq λ_=>E) (ai (ao 1) aJ))) (Bc K E))
def GY(K:Fg)(E:XK):TS:=(bx (cb (fE [] 1 (iT K (sE K "str" qb (ao 0) (ai (tC (.str "\n")) aJ))) (aU 4) kH (bF (mM K) [] E0 (ai (ao 4) aJ))) (aU 1)) (Bd K E))
abbrev u7:List Str:=["lines"]
abbrev oN:List Str:=["lines","n","line"]
def mP(K:Fg)(E:XK):TS:=(dq (Kl (bE (a9 (VC) (ao 2) (tC .non))) (i6 (bE (a9 (eC K) (ao 1) Zb)) (bE (a9 (BR K) (a9 (cJ K) (ao 2) Zb) Zj)))) (uN K E (uM (cg K "NoLine") (d9 K) (ai (ao 1) aJ))) b6)
def pF(K:Fg)(E:XK):TS:=(kG (CZ K (ai (ao 0) aJ)) (zT K 2 (iB (aU 1) (iB (aU 2) yA))) (mP K E))
abbrev u6:List Str:=["lines","numbers"]
abbrev oM:List Str:=["lines","numbers","n","line"]
def mO(K:Fg)(E:XK):TS:=(dq (i6 (bE (a9 (eC K) (a9 (cJ K) (ao 3) Zb) Zf)) (bE (a9 ((IW true)) (a9 (cJ K) (ao 3) Zc) (ao 1)))) (uN K E (uM (cg K "NoLine") (d9 K) (ai (ao 2) aJ))) b6)
def pE(K:Fg)(E:XK):TS:=(kG (CZ K (ai (ao 0) aJ)) (zT K 2 (iB (aU 2) (iB (aU 3) yA))) (mO K E))
abbrev rq:List Str:=["lines"]
abbrev iA:List Str:=["lines","names","numbers","k","name"]
def qr(K:Fg):TS:=(cD (ao 2))
def j9(K:Fg):TS:=(dq (bE (a9 ((IW true)) (ao 4) (ao 2))) (cb (ao 3) (tI (ao 2) (ao 4) Gk)) b6)
def kc(K:Fg):TS:=(bx (kG (CZ K (ai (ao 1) aJ)) (zT K 2 (iB (aU 3) (iB (aU 4) yA))) (j9 K)) (qr K))
def ke(K:Fg):TS:=(bx (cb AU (aU 2)) (kc K))
def lh(K:Fg):TS:=(bx (cb (fE [] 1 (iT K (ao 0)) (aU 5) (bE (a9 (eC K) (a9 (cJ K) (ao 5) Zb) Zj)) (a9 (cJ K) (ao 5) Za)) (aU 1)) (ke K))
abbrev yu:List Str:=["lines","numbers"]
abbrev mC:List Str:=["lines","numbers","parts","line"]
def pB(K:Fg):TS:=(cD (fj (i5 K) (ai (fE [] 1 (iT K (ao 2)) (aU 4) kH (gc (ai (a9 (cJ K) (ao 4) Zb) (ai (a9 (cJ K) (ao 4) Za) (ai (fj (i5 K) (ai (a9 (cJ K) (ao 4) Zc) aJ)) aJ))))) aJ)))
def pC(K:Fg):TS:=(dq (bE (a9 (eC K) (a9 (cJ K) (ao 3) Zb) Zj)) (iQ (sE K "list" gZ (ao 2) (ai (gc (ai (a9 (cJ K) (ao 3) Za) (ai (a9 (cJ K) (ao 3) Zc) (ai (gF aJ) aJ)))) aJ))) (iQ (sE K "list" gZ (a9 (cJ K) (a9 (cJ K) (ao 2) (Sw L8 Za)) Zc) (ai (bF (ou K) [] E0 (ai (ao 3) (ai (ao 1) aJ))) aJ))))
def pD(K:Fg):TS:=(bx (kG (iT K (ao 0)) (aU 3) (pC K)) (pB K))
def sJ(K:Fg):TS:=(bx (cb (gF aJ) (aU 2)) (pD K))
abbrev By:List Str:=["row","numbers"]
abbrev u4:List Str:=["row","numbers"]
def A8(K:Fg):TS:=(cD (ao 0))
def vK(K:Fg):TS:=(bx (dq (bE (a9 (eC K) (a9 (cJ K) (ao 0) Zb) Zf)) (cD (gc (ai Zf (ai (a9 (cJ K) (ao 0) Za) (ai (OX (ao 1) (a9 (cJ K) (ao 0) Zc)) (ai (a9 (cJ K) (ao 0) Zd) aJ)))))) b6) (A8 K))
abbrev zw:List Str:=["line"]
abbrev tQ:List Str:=["line","words"]
def yK(K:Fg):TS:=(cD (tC .non))
def qU(K:Fg):TS:=(bx (dq (i6 (bE (a9 (eC K) (a9 (cJ K) (ao 1) Zb) Zl)) (i6 (bE (a9 (eC K) (fj (eX K) (ai (ao 1) aJ)) Zd)) (i6 (tB (bF (gu K) [] E0 (ai (a9 (cJ K) (ao 1) Za) aJ))) (tB (bF (iF K) [] E0 (ai (a9 (cJ K) (ao 1) Zc) aJ)))))) (cD (gc (ai Zl (ai (a9 (cJ K) (ao 1) Za) (ai (fj Dd (ai (a9 (cJ K) (ao 1) Zc) aJ)) aJ))))) b6) (yK K))
def qV(K:Fg):TS:=(bx (dq (i6 (bE (a9 (eC K) (a9 (cJ K) (ao 1) Zb) Zh)) (i6 (bE (a9 (eC K) (fj (eX K) (ai (ao 1) aJ)) Zc)) (tB (bF (iF K) [] E0 (ai (a9 (cJ K) (ao 1) Za) aJ))))) (cD (gc (ai Zh (ai (fj Dd (ai (a9 (cJ K) (ao 1) Za) aJ)) aJ)))) b6) (qU K))
def qW(K:Fg):TS:=(bx (dq (i6 (bE (a9 (Gj K) (a9 (cJ K) (ao 1) Zb) (gc (ai Zn (ai Zi aJ))))) (i6 (bE (a9 (eC K) (fj (eX K) (ai (ao 1) aJ)) Zc)) (tB (bF (gu K) [] E0 (ai (a9 (cJ K) (ao 1) Za) aJ))))) (cD (gc (ai (a9 (cJ K) (ao 1) Zb) (ai (a9 (cJ K) (ao 1) Za) aJ)))) b6) (qV K))
def qX(K:Fg):TS:=(bx (dq (i6 (bE (a9 (eC K) (a9 (cJ K) (ao 1) Zb) Zj)) (i6 (bE (a9 (Az) (fj (eX K) (ai (ao 1) aJ)) Za)) (tB (bF (j4 K) [] E0 (ai (uT (vR K) (ao 1) (fX Za) dP) aJ))))) (cD (gc (ai Zj (ai (a9 (cJ K) (ao 1) Za) (ai (fj (i5 K) (ai (uT (vR K) (ao 1) (fX Zc) dP) aJ)) aJ))))) b6) (qW K))
def qY(K:Fg):TS:=(bx (dq (i6 (bE (a9 (Az) (fj (eX K) (ai (ao 1) aJ)) Za)) (bE (a9 (eC K) (a9 (cJ K) (ao 1) Za) Zt))) (cD (bF (j8 K) [] E0 (ai (ao 1) aJ))) b6) (qX K))
def ue(K:Fg):TS:=(bx (cb (sE K "str" qb (ao 0) (ai Ze aJ)) (aU 1)) (qY K))
abbrev u9:List Str:=["words"]
abbrev oO:List Str:=["words","name"]
def uS(K:Fg):TS:=(cD (tC .non))
def mQ(K:Fg):TS:=(bx (dq (i6 (bE (a9 (eC K) (fj (eX K) (ai (ao 0) aJ)) Zk)) (i6 (bE (a9 (Gj K) (a9 (cJ K) (ao 0) Zd) (RO K [.str "+",.str "-",.str "*",.str "<",.str "="]))) (i6 (tB (bF (gu K) [] E0 (ai (a9 (cJ K) (ao 0) Zc) aJ))) (tB (bF (gu K) [] E0 (ai (a9 (cJ K) (ao 0) Zm) aJ)))))) (cD (gc (ai Zp (ai (ao 1) (ai (a9 (cJ K) (ao 0) Zd) (ai (a9 (cJ K) (ao 0) Zc) (ai (a9 (cJ K) (ao 0) Zm) aJ))))))) b6) (uS K))
def mR(K:Fg):TS:=(bx (dq (i6 (bE (a9 (Az) (fj (eX K) (ai (ao 0) aJ)) Zd)) (i6 (bE (a9 (eC K) (a9 (cJ K) (ao 0) Zc) Zf)) (tB (bF (j4 K) [] E0 (ai (uT (vR K) (ao 0) (fX Zd) dP) aJ))))) (cD (gc (ai Zf (ai (ao 1) (ai (a9 (cJ K) (ao 0) Zd) (ai (fj (i5 K) (ai (uT (vR K) (ao 0) (fX Zm) dP) aJ)) aJ)))))) b6) (mQ K))
def mS(K:Fg):TS:=(bx (dq (i6 (bE (a9 (eC K) (fj (eX K) (ai (ao 0) aJ)) Zd)) (i6 (tB (bF (iF K) [] E0 (ai (a9 (cJ K) (ao 0) Zc) aJ))) (bE (a9 (rz) (fj Dd (ai (a9 (cJ K) (ao 0) Zc) aJ)) (a9 (De) Zc (tC (.int 64))))))) (cD (gc (ai Zo (ai (ao 1) (ai (fj Dd (ai (a9 (cJ K) (ao 0) Zc) aJ)) aJ))))) b6) (mR K))
def mT(K:Fg):TS:=(bx (dq (Ji (tB (bF (gu K) [] E0 (ai (ao 1) aJ)))) (cD (tC .non)) b6) (mS K))
def pG(K:Fg):TS:=(bx (cb (a9 (cJ K) (ao 0) Zb) (aU 1)) (mT K))
abbrev zu:List Str:=["words"]
abbrev nW:List Str:=["words"]
def uc(K:Fg):TS:=(cD (fj (Gh K) (ai (fE [] 1 (iT K (ao 0)) (aU 1) kH (bF (gu K) [] E0 (ai (ao 1) aJ))) aJ)))
abbrev DP:List Str:=["word"]
abbrev rM:List Str:=["word"]
def Cd(K:Fg):TS:=(cD (fj (Gh K) (ai (fE [] 1 (FS (ao 0)) (aU 1) kH (a9 (Gj K) (ao 1) Zu)) aJ)))
def x6(K:Fg):TS:=(bx (dq (Kl (bE (a9 (rz) (fj (eX K) (ai (ao 0) aJ)) Za)) (Kl (bE (a9 (Az) (fj (eX K) (ai (ao 0) aJ)) Zr)) (bE (a9 (Gj K) (ao 0) (RO K [.str "part",.str "call",.str "say",.str "jump",.str "test",.str "give"]))))) (cD (tC (.bl false))) b6) (Cd K))
abbrev zv:List Str:=["word"]
abbrev nX:List Str:=["word"]
def qS(K:Fg):TS:=(cD (fj (Gh K) (ai (fE [] 1 (FS (ao 0)) (aU 1) kH (a9 (Gj K) (ao 1) (tC (.str "0123456789")))) aJ)))
def qT(K:Fg):TS:=(bx (dq (i6 (bE (a9 (eC K) (a9 (cJ K) (ao 0) Zb) Zs)) (bE (a9 (BR K) (ao 0) Zs))) (cD (tC (.bl false))) b6) (qS K))
def ud(K:Fg):TS:=(bx (dq (Kl (bE (a9 (rz) (fj (eX K) (ai (ao 0) aJ)) Za)) (bE (a9 (Az) (fj (eX K) (ai (ao 0) aJ)) (tC (.int 20))))) (cD (tC (.bl false))) b6) (qT K))
abbrev Fm:List Str:=["_law_program_here","_law_row"]
abbrev uB:List Str:=["_law_program_here","_law_row"]
def ES(K:Fg):TS:=(cD (sE K "str" (ny K) Ze (ai (fE [] 1 (iT K (ao 1)) (aU 2) kH (fj (EB) (ai (ao 2) aJ))) aJ)))
def ET(K:Fg):TS:=(bx (dq (bE (a9 (eC K) (a9 (cJ K) (ao 1) Zb) Zf)) (cD (sE K "str" (ny K) Ze (ai (a9 (cS K) (gF (ai (a9 (cJ K) (ao 1) Za) (ai Zt (ai Zf (ai (a9 (cJ K) (a9 (cJ K) (ao 0) (a9 (cJ K) (ao 1) Zc)) Zb) aJ))))) (fj (vo K) (ai (a9 (cJ K) (ao 1) Zd) aJ))) aJ))) b6) (ES K))
def EU(K:Fg):TS:=(bx (dq (bE (a9 (eC K) (a9 (cJ K) (ao 1) Zb) Zp)) (cD (a9 (cS K) (a9 (cS K) (a9 (cS K) (a9 (cS K) (a9 (cS K) (a9 (cS K) (a9 (cJ K) (ao 1) Za) (tC (.str " = "))) (a9 (cJ K) (ao 1) Zd)) Ze) (a9 (cJ K) (ao 1) Zc)) Ze) (a9 (cJ K) (ao 1) Zm))) b6) (ET K))
def Bi(K:Fg):TS:=(bx (dq (bE (a9 (eC K) (a9 (cJ K) (ao 1) Zb) Zo)) (cD (a9 (cS K) (a9 (cS K) (a9 (cJ K) (ao 1) Za) (tC (.str " = "))) (fj (EB) (ai (a9 (cJ K) (ao 1) Zc) aJ)))) b6) (EU K))
abbrev MW:List Str:=["_law_program_here"]
abbrev JM:List Str:=["_law_program_here","_law_lines_here","_law_name","_law_params","_law_rows","_law_row"]
def Mr(K:Fg):TS:=(cD (ao 1))
def Dn(K:Fg):TS:=(iQ (sE K "list" gZ (ao 1) (ai (bF (sv K) [] E0 (ai (ao 0) (ai (ao 5) aJ))) aJ)))
def Do(K:Fg):TS:=(kG (iT K (ao 4)) (aU 5) (Dn K))
def Dp(K:Fg):TS:=(bx (iQ (sE K "list" gZ (ao 1) (ai (sE K "str" (ny K) Ze (ai (a9 (cS K) (gF (ai Zj (ai (ao 2) aJ))) (fj (vo K) (ai (ao 3) aJ))) aJ)) aJ))) (Do K))
def Dq(K:Fg):TS:=(bx (kG (iT K (ao 0)) (zT K 3 (iB (aU 2) (iB (aU 3) (iB (aU 4) yA)))) (Dp K)) (Mr K))
def Kw(K:Fg):TS:=(bx (cb (gF aJ) (aU 1)) (Dq K))
abbrev HE:List Str:=["_law_word"]
abbrev v5:List Str:=["_law_word"]
def GM(K:Fg):TS:=(cD (ki (qm (AA) (AA) Za (fj (eX K) (ai (ao 0) aJ)) Zr) (fj (Gh K) (ai (fE [] 1 (FS (ao 0)) (aU 1) kH (qm (AA) (AA) (tC (.str "a")) (ao 1) (tC (.str "z")))) aJ))))
def Dm(K:Fg):TS:=(bx (dq (bE (a9 ((E3 K false)) (ao 0) (gc (ai Zj (ai Zf (ai Zn (ai Zh (ai Zl (ai Zi aJ))))))))) (cD (tC (.bl false))) b6) (GM K))
abbrev DO:List Str:=["_law_words"]
abbrev rL:List Str:=["_law_words"]
def xY(K:Fg):TS:=(cD (fj (Gh K) (ai (fE [] 1 (iT K (ao 0)) (aU 1) kH (bF (jm K) [] E0 (ai (ao 1) aJ))) aJ)))
abbrev HD:List Str:=["_law_word"]
abbrev vZ:List Str:=["_law_word"]
def xW(K:Fg):TS:=(cD (fj (Gh K) (ai (fE [] 1 (FS (ao 0)) (aU 1) kH (qm (AA) (AA) Zs (ao 1) (tC (.str "9")))) aJ)))
def Dl(K:Fg):TS:=(bx (dq (Kl (Ji (bE (qm (AA) (AA) Za (fj (eX K) (ai (ao 0) aJ)) (tC (.int 20))))) (i6 (bE (a9 (Az) (fj (eX K) (ai (ao 0) aJ)) Za)) (bE (a9 (eC K) (a9 (cJ K) (ao 0) Zb) Zs)))) (cD (tC (.bl false))) b6) (xW K))
abbrev DN:List Str:=["_law_words"]
abbrev xx:List Str:=["_law_words"]
def Ca(K:Fg):TS:=(cD (ki (a9 (eC K) (fj (eX K) (ai (ao 0) aJ)) Zd) (ki (bF (mK K) [] E0 (ai (a9 (cJ K) (ao 0) Zc) aJ)) (a9 (rz) (fj Dd (ai (a9 (cJ K) (ao 0) Zc) aJ)) (a9 (De) Zc (tC (.int 64)))))))
def Cb(K:Fg):TS:=(bx (dq (bE (a9 (eC K) (fj (eX K) (ai (ao 0) aJ)) Zk)) (cD (ki (bF (jZ K) [] E0 (ai (gF (ai (a9 (cJ K) (ao 0) Zc) (ai (a9 (cJ K) (ao 0) Zm) aJ))) aJ)) (a9 ((E3 K false)) (a9 (cJ K) (ao 0) Zd) (gc (ai (tC (.str "+")) (ai (tC (.str "-")) (ai (tC (.str "*")) (ai (tC (.str "<")) (ai Zt aJ))))))))) b6) (Ca K))
def Cc(K:Fg):TS:=(bx (dq (bE (a9 (eC K) (a9 (cJ K) (ao 0) Zc) Zf)) (cD (ki (a9 (Az) (fj (eX K) (ai (ao 0) aJ)) Zd) (bF (jZ K) [] E0 (ai (uT (vR K) (ao 0) (fX Zd) dP) aJ)))) b6) (Cb K))
def t8(K:Fg):TS:=(bx (dq (Kl (bE (a9 (rz) (fj (eX K) (ai (ao 0) aJ)) Zd)) (Kl (Ji (tB (bF (jm K) [] E0 (ai (a9 (cJ K) (ao 0) Zb) aJ)))) (bE (a9 (BR K) (a9 (cJ K) (ao 0) Za) Zt)))) (cD (tC (.bl false))) b6) (Cc K))
def t9(K:Fg):TS:=(bx (dq (bE (a9 (eC K) (a9 (cJ K) (ao 0) Zb) Zl)) (cD (ki (a9 (eC K) (fj (eX K) (ai (ao 0) aJ)) Zd) (ki (bF (jm K) [] E0 (ai (a9 (cJ K) (ao 0) Za) aJ)) (bF (mK K) [] E0 (ai (a9 (cJ K) (ao 0) Zc) aJ))))) b6) (t8 K))
def oz(K:Fg):TS:=(bx (dq (bE (a9 (eC K) (a9 (cJ K) (ao 0) Zb) Zh)) (cD (ki (a9 (eC K) (fj (eX K) (ai (ao 0) aJ)) Zc) (bF (mK K) [] E0 (ai (a9 (cJ K) (ao 0) Za) aJ)))) b6) (t9 K))
def ua(K:Fg):TS:=(bx (dq (bE (a9 ((E3 K false)) (a9 (cJ K) (ao 0) Zb) (gc (ai Zn (ai Zi aJ))))) (cD (ki (a9 (eC K) (fj (eX K) (ai (ao 0) aJ)) Zc) (bF (jm K) [] E0 (ai (a9 (cJ K) (ao 0) Za) aJ)))) b6) (oz K))
def xX(K:Fg):TS:=(bx (dq (bE (a9 (eC K) (a9 (cJ K) (ao 0) Zb) Zj)) (cD (ki (a9 (Az) (fj (eX K) (ai (ao 0) aJ)) Za) (bF (jZ K) [] E0 (ai (uT (vR K) (ao 0) (fX Za) dP) aJ)))) b6) (ua K))
abbrev Fk:List Str:=["_law_lines_here"]
abbrev uz:List Str:=["_law_lines_here","_law_parts","_law_at","_law_words"]
def EL(K:Fg):TS:=(cD (Sw L8 Za))
def vz(K:Fg):TS:=(dq (i6 (bE (a9 (eC K) (uT (Rz K) (ao 3) (fX Zc) (fX Zd)) (gF (ai Zf aJ)))) (i6 (bE (a9 (BR K) (a9 (cJ K) (ao 3) Zb) Zj)) (bE (a9 ((E3 K true)) (a9 (cJ K) (ao 3) Zd) (ao 1))))) (cD (ao 2)) b6)
def vA(K:Fg):TS:=(bx (cb (sE K "str" qb (a9 (cJ K) (ao 0) (ao 2)) (ai Ze aJ)) (aU 3)) (vz K))
def qo(K:Fg):TS:=(bx (kG (rT (ai (fj (eX K) (ai (ao 0) aJ)) aJ)) (aU 2) (vA K)) (EL K))
def vB(K:Fg):TS:=(dq (Kl (Ji (tB (bF (qd K) [] E0 (ai (ao 3) aJ)))) (i6 (bE (a9 (eC K) (ao 2) Zb)) (bE (a9 (BR K) (a9 (cJ K) (ao 3) Zb) Zj)))) (cD (ao 2)) b6)
def vC(K:Fg):TS:=(bx (cb (sE K "str" qb (a9 (cJ K) (ao 0) (ao 2)) (ai Ze aJ)) (aU 3)) (vB K))
def qp(K:Fg):TS:=(bx (kG (rT (ai (fj (eX K) (ai (ao 0) aJ)) aJ)) (aU 2) (vC K)) (qo K))
def uQ(K:Fg):TS:=(bx (cb (fE [] 1 (iT K (ao 0)) (aU 4) (bE (a9 (eC K) (uT (Rz K) (ao 4) dP (fX Zk)) (tC (.str "part ")))) (a9 (cJ K) (sE K "str" qb (ao 4) (ai Ze aJ)) Za)) (aU 1)) (qp K))
abbrev zy:List Str:=["_law_state","_law_word"]
abbrev kN:List Str:=["_law_state","_law_word","_law_some"]
def rh(K:Fg):TS:=(cD (a9 (cJ K) (a9 (cS K) (ao 2) (sE K "str" qb (tC (.str "part call say + = +- *< ab zz 0")) (ai Ze aJ))) (bF (dm K) [] E0 (ai (ao 0) (ai (tC (.int 23)) aJ)))))
def rj(K:Fg):TS:=(bx (cb (a9 (cS K) (ao 2) (gF (ai Zg (ai (tC (.str "aaaaaaaaa")) (ai (a9 (Sn) (tC (.str "1")) (tC (.int 21))) (ai (tC (.str "18446744073709551616")) (ai (tC (.str "99999999999999999999")) aJ))))))) (aU 2)) (rh K))
def oB(K:Fg):TS:=(bx (cb (a9 (cS K) (fE [] 1 (iT K (gF (ai (tC (.str "A")) (ai (tC (.str "1")) (ai (tC (.str "_")) (ai (tC (.str "_0")) aJ)))))) (aU 3) kH (a9 (cS K) (ao 1) (ao 3))) (fE [] 1 (iT K (gF (ai Zs (ai (tC (.str "-")) (ai (tC (.str "+")) (ai (tC (.str "1_")) aJ)))))) (aU 3) kH (a9 (cS K) (ao 3) (ao 1)))) (aU 2)) (rj K))
abbrev zt:List Str:=["_law_state","_law_line"]
abbrev tP:List Str:=["_law_state","_law_line","_law_words","_law_at","_law_some"]
def qK(K:Fg):TS:=(cD (a9 (cJ K) (ao 4) (bF (dm K) [] E0 (ai (ao 0) (ai (tC (.int 15)) aJ)))))
def qL(K:Fg):TS:=(bx (cb (a9 (cS K) (ao 4) (gF (ai (tC (.str "zz = call zz")) (ai Zj (ai Zi (ai (tC (.str "zz = zz")) (ai (tC (.str "zz = zz + zz")) (ai (tC (.str "jump 99999999999999999999")) (ai (tC (.str "zz = 7")) aJ))))))))) (aU 4)) (qK K))
def qM(K:Fg):TS:=(bx (iQ (sE K "list" gZ (ao 4) (ai (sE K "str" (ny K) Ze (ai (a9 (cS K) (a9 (cS K) (uT (vR K) (ao 2) dP (fX (ao 3))) (gF (ai (bF (iG K) [] E0 (ai (ao 0) (ai (a9 (cJ K) (ao 2) (ao 3)) aJ))) aJ))) (uT (vR K) (ao 2) (fX (a9 (cS K) (ao 3) Za)) dP)) aJ)) aJ))) (qL K))
def qN(K:Fg):TS:=(bx (iQ (sE K "list" gZ (ao 4) (ai (sE K "str" (ny K) Ze (ai (a9 (cS K) (a9 (cS K) (uT (vR K) (ao 2) dP (fX (ao 3))) (gF (ai (bF (iG K) [] E0 (ai (ao 0) (ai (a9 (cJ K) (ao 2) (ao 3)) aJ))) aJ))) (uT (vR K) (ao 2) (fX (a9 (cS K) (ao 3) Za)) dP)) aJ)) aJ))) (qM K))
def qO(K:Fg):TS:=(bx (cb (gF (ai (a9 Gi Ze (ao 1)) (ai (a9 Gi (ao 1) Ze) (ai (O2 (ao 1) " " "  ") (ai Zg (ai (a9 (cS K) (ao 1) (tC (.str " 0"))) (ai (sE K "str" (ny K) Ze (ai (uT (vR K) (ao 2) dP (fX (Sw L8 Za))) aJ)) aJ))))))) (aU 4)) (qN K))
def qP(K:Fg):TS:=(bx (cb (bF (dm K) [] E0 (ai (ao 0) (ai (fj (eX K) (ai (ao 2) aJ)) aJ))) (aU 3)) (qO K))
def ub(K:Fg):TS:=(bx (cb (sE K "str" qb (ao 1) (ai Ze aJ)) (aU 2)) (qP K))
end Bg
end
section
namespace L2
open PySem PySem.Spec PyProof.Rows
section
variable{X:Cx}
def cX(ha:QE X a ta)(hb:QE X b tb)(h:DV b:=by exact λ_ _=>rfl):QE X (.Subscript a b pos) (a9 (cJ X.K) ta tb):=Vy Te ha hb h
def gb{x:Str}(c:cO X.prog X.w X.K X.mg X.base x ps k sp)(ha:QA X (e::es) t)(hr:gB k X.A:=by exact gB.mono (by assumption) (by decide))(hg:Gl X x:=by rfl)(h1:(x==("__debug__":Str))=false:=by decide)
  (h2:aR (e::es) X.env=(false,eval e X.env)::aR es X.env:=by rfl) (h3:(eV pos (aR es X.env)).any (·.1)=false:=by rfl):QE X (.Call (.Name x p) (e::es) [] pos) (bF sp [] E0 t):=Vx c hr hg ha h1 h2 h3
def Sj{x:Str}(c:kL X.prog X.w X.K X.mg X.base x ps k sp)(hx:uC (Hq X.prog X.w) X E)(ha:QA X (e::es) t)(hr:gB k X.A:=by exact gB.mono (by assumption) (by decide))(hg:Gl X x:=by rfl)(h1:(x==("__debug__":Str))=false:=by decide)
  (h2:aR (e::es) X.env=(false,eval e X.env)::aR es X.env:=by rfl) (h3:(eV pos (aR es X.env)).any (·.1)=false:=by rfl):QE X (.Call (.Name x p) (e::es) [] pos) (bF sp [] E t):=Uu c hr hg hx ha h1 h2 h3
def fi(B:kK X.mg)(ha:QA X (e::es) t)(hg:Gl X "len":=by rfl)(h2:aR (e::es) X.env=(false,eval e X.env)::aR es X.env:=by rfl)(h3:(eV pos (aR es X.env)).any (·.1)=false:=by rfl):QE X (.Call (.Name "len" p) (e::es) [] pos) (fj (eX X.K) t):=fh Na hg B.len_ boot_len ha (by decide) (by decide) h2 h3
def gQ(i:Nat){x:Str}(he:QE X e te)(hi:X.N[i]?=some x:=by rfl)(hN:X.N.Nodup:=by assumption)(hx:MR X.env.scope x:=by first|exact Or.inl rfl|exact Or.inr rfl)(hs:gI e (some (.Name x pos')) pos.line X.env=pure false:=by rfl)
  (hf:X.fn x=true\/X.env.scope.names.lookup x=some .local:=by first|exact .inl rfl|exact .inr rfl|assumption):QS X (.Assign [.Name x pos'] e pos) (cb te (aU i)):=Ux hN hi hx he hs hf
def kg(i:Nat){x:Str}(hi:X.N[i]?=some x:=by rfl)(hN:X.N.Nodup:=by first|assumption|(dsimp only[eB];decide +kernel))(hx:MR X.env.scope x:=by first|exact Or.inl rfl|exact Or.inr rfl)
  (hf:X.fn x=true\/X.env.scope.names.lookup x=some .local:=by first|exact .inl rfl|exact .inr rfl|assumption):QG X (.Name x pos) (aU i):=Rq hN hi hx hf
def iJ{s1:Stmt}(hc:QT X c tc)(ha:QS X s1 t):QS X (.If c [s1] [] pos) (dq tc t b6):=xR hc (aY ha) vn
def bM(ha:QE X e te)(hs:aR [e] X.env=(false,eval e X.env)::aR [] X.env:=by rfl):QA X [e] (ai te aJ):=ay ha kA hs
def Ar(ho:QE X o to)(ha:QE X e te)(hbase:e7 o "append" X.env (eval o X.env)=eval o X.env:=by rfl)
  (hfew:((eV cpos (aR [e] X.env)).all (λx=>!x.1)&&(rC cpos (kQ [] X.env)).all (λx=>x.1.isSome)&&decide (([e]:List Expr).length+([]:List lS).length+(if([]:List lS).isEmpty then 0 else 1)<30))=true:=by rfl)
  (hline:(apos.endLine==cpos.line)=true:=by rfl) (hs:aR [e] X.env=(false,eval e X.env)::aR [] X.env:=by rfl) (hp:(eV cpos (aR [] X.env)).any (·.1)=false:=by rfl) :
  QE X (.Call (.Attribute o "append" apos) [e] [] cpos) (sE X.K "list" gZ to (ai te aJ)):=tU jv PySem.F.slot_list_append PySem.F.type_list_append C6 ho (bM ha hs) hbase hfew hline hs hp
def Rt(ho:QE X o to)(ha:QE X e te)(hbase:e7 o "join" X.env (eval o X.env)=eval o X.env:=by rfl)
  (hfew:((eV cpos (aR [e] X.env)).all (λx=>!x.1)&&(rC cpos (kQ [] X.env)).all (λx=>x.1.isSome)&&decide (([e]:List Expr).length+([]:List lS).length+(if([]:List lS).isEmpty then 0 else 1)<30))=true:=by rfl)
  (hline:(apos.endLine==cpos.line)=true:=by rfl) (hs:aR [e] X.env=(false,eval e X.env)::aR [] X.env:=by rfl) (hp:(eV cpos (aR [] X.env)).any (·.1)=false:=by rfl) :
  QE X (.Call (.Attribute o "join" apos) [e] [] cpos) (sE X.K "str" (ny X.K) to (ai te aJ)):=tU cU PySem.F.slot_str_join PySem.F.type_str_join Qx ho (bM ha hs) hbase hfew hline hs hp
def L6(st:Stmt)(N ext:List Str)(js:List Nat)(it:QI X target iter wi)(hg:∀{cl C s₀ H₀ fp},QG (eB X (N++ext) scope cl C s₀ H₀ fp) target g)(hi:∀{cl C s₀ H₀ fp},KR (eB X (N++ext) scope cl C s₀ H₀ fp) ifs tc)(he:∀{cl C s₀ H₀ fp},QE (eB X (N++ext) scope cl C s₀ H₀ fp) elt te)
  (ok:ux (bU st) N scope (N++ext) js:=by exact⟨rfl,by decide +kernel,by decide +kernel,by decide +kernel,rfl,by decide +kernel⟩) (h1:X.env.scope=bU st:=by rfl) (h2:X.N=N:=by rfl) (h3:(N++ext).length=N.length+k:=by rfl) (h4:X.calm=true:=by rfl)
  (hs:∀x,eL iter X.env x=pure x:=by intro _;rfl):QE X (.ListComp elt [⟨target,iter,ifs,0⟩] scope pos) (fE js k wi g tc te):=Rk ok h1 h2 h3 h4 it (λ_ _ _ _ _=>hg) (λ_ _ _ _ _=>hi) (λ_ _ _ _ _=>he) hs
def Si(st:Stmt)(N ext:List Str)(js:List Nat)(i:Nat){y:Str}(it:QI X target iter wi)(hg:∀{cl C s₀ H₀ fp},QG (eB X (N++ext) scope cl C s₀ H₀ fp) target g)(hi:∀{cl C s₀ H₀ fp},KR (eB X (N++ext) scope cl C s₀ H₀ fp) ifs tc)(he:∀{cl C s₀ H₀ fp},QE (eB X (N++ext) scope cl C s₀ H₀ fp) elt te)
  (ok:ux (bU st) N scope (N++ext) js:=by exact⟨rfl,by decide +kernel,by decide +kernel,by decide +kernel,rfl,by decide +kernel⟩) (h1:X.env.scope=bU st:=by rfl) (h2:X.N=N:=by rfl) (h3:(N++ext).length=N.length+k:=by rfl) (h4:X.calm=true:=by rfl)
  (nd:X.N.Nodup:=by assumption) (hy:X.N[i]?=some y:=by rfl) (hl:MR X.env.scope y:=by first|exact Or.inl rfl|exact Or.inr rfl) (hw:gI (.ListComp elt [⟨target,iter,ifs,0⟩] scope pos) (some (.Name y py)) spos.line X.env=pure true:=by rfl)
  (hs:∀x,eL iter X.env x=pure x:=by intro _;rfl) (hf:X.fn y=true\/X.env.scope.names.lookup y=some .local:=by first|exact .inl rfl|exact .inr rfl|assumption):QS X (.Assign [.Name y py] (.ListComp elt [⟨target,iter,ifs,0⟩] scope pos) spos) (cb (fE js k wi g tc te) (aU i)):=Rv ok h1 h2 h3 h4 it (λ_ _ _ _ _=>hg) (λ_ _ _ _ _=>hi) (λ_ _ _ _ _=>he) nd hy hl hw hs hf
end
end L2
namespace Bg
open PySem PySem.Spec PyProof.Rows L2
def dC(K:Fg)(x:Str)(st:Stmt):Prop:=∃(f:ar) (oc:aa) (od:Option ar) (kV doc pm:aa) (an:Option ar) (cdv ct:aa) (osl:Array (Option aa)),
 bB K aX x=some (some (.ref f))/\K.lookup f=some ⟨oc,od,.func (dv x x (ij st) (e9 st) (bU st) .none kV doc pm an cdv ct),osl⟩/\eN K cdv x=true/\cV K (.ref f)=true
def defAt{K:Fg}{x:Str}{st:Stmt}{f:ar}{oc:aa}{od:Option ar}{kV doc pm:aa}{an:Option ar}{cdv ct:aa}{osl:Array (Option aa)}(a:bB K aX x=some (some (.ref f)))(l:K.lookup f=some ⟨oc,od,.func (dv x x (ij st) (e9 st) (bU st) .none kV doc pm an cdv ct),osl⟩)(c:eN K cdv x=true)(k:cV K (.ref f)=true):dC K x st:=⟨f,oc,od,kV,doc,pm,an,cdv,ct,osl,a,l,c,k⟩
def mB(P:aW)(w:bK)(K:Fg)(mg:Str->Option aa)(base:Heap)(N:List Str)(q:Str)(st:Stmt)(k:Nat)(t:TS):Prop:=
 ∀{f:ar} {cdv:aa} {A:bj} {outer:List Env} {s:aq} {H:Hp} {E:XK},gB k (A.deeper (hZ q (bU st) s.heap.objs.size f cdv))->DT (tH EZ P w K mg base N q (bU st) f cdv A outer s H E).nox (e9 st) t
def Hr(P:aW)(w:bK)(K:Fg)(mg:Str->Option aa)(base:Heap)(N:List Str)(q:Str)(st:Stmt)(k:Nat)(t:XK->TS):Prop:=
 ∀{f:ar} {cdv:aa} {A:bj} {outer:List Env} {s:aq} {H:Hp} {E:XK},gB k (A.deeper (hZ q (bU st) s.heap.objs.size f cdv))->DT (tH (Hq P w) P w K mg base N q (bU st) f cdv A outer s H E) (e9 st) (t E)
section
variable{P:aW}{w:bK}{K:Fg}{mg:Str->Option aa}{base h:Heap}{x q:Str}{N ps:List Str}{st:Stmt}{k:Nat}{sp:Sp}
def ni{t:TS}(d:∀{f:ar} {cdv:aa} {A:bj} {outer:List Env} {s:aq} {H:Hp} {E:XK},N.Nodup->(A.deeper (hZ q (bU st) s.heap.objs.size f cdv)).units<cLine->(A.deeper (hZ q (bU st) s.heap.objs.size f cdv)).units+1<cLine->gB k (A.deeper (hZ q (bU st) s.heap.objs.size f cdv))->
  M3 (tH EZ P w K mg base N q (bU st) f cdv A outer s H E).nox (e9 st) t) (nd:N.Nodup:=by decide +kernel):mB P w K mg base N q st k t:=λhr=>(d nd hr.units0 (R7 hr) hr).up
def Nr{t:XK->TS}(d:∀{f:ar} {cdv:aa} {A:bj} {outer:List Env} {s:aq} {H:Hp} {E:XK},N.Nodup->(A.deeper (hZ q (bU st) s.heap.objs.size f cdv)).units<cLine->(A.deeper (hZ q (bU st) s.heap.objs.size f cdv)).units+1<cLine->gB k (A.deeper (hZ q (bU st) s.heap.objs.size f cdv))->
  M3 (tH (Hq P w) P w K mg base N q (bU st) f cdv A outer s H E) (e9 st) (t E)) (nd:N.Nodup:=by decide +kernel):Hr P w K mg base N q st k t:=λhr=>(d nd hr.units0 (R7 hr) hr).up
structure V8(x:Str)(N ps:List Str)(st:Stmt)(sp:Sp):Prop where
 S:lV N ps (bU st):=by exact⟨rfl,rfl,rfl,by decide +kernel,rfl,by decide +kernel,by decide +kernel⟩
 len:∀vs H Q E,sp vs H Q E->vs.length=ps.length:=by(intro _ _ _ _ h;(repeat obtain⟨_,h⟩:=h)<;>(subst_vars;rfl))
 bd:∀(kV doc pm:aa) (an:Option ar) (cdv ct:aa) (us:List aa),us.length=ps.length->bindArgs (dv x x (ij st) (e9 st) (bU st) .none kV doc pm an cdv ct) ⟨us,[]⟩=pure (ps.zip us):=by
   (intro _ _ _ _ _ _ us hl;first|(obtain⟨_,rfl⟩:=WD (us:=us) hl;rfl)|(obtain⟨_,_,rfl⟩:=Wf (us:=us) hl;rfl)|(obtain⟨_,_,_,rfl⟩:=WE (us:=us) hl;rfl)|(obtain⟨_,_,_,_,rfl⟩:=Ws (us:=us) hl;rfl)|(obtain⟨_,_,_,_,_,rfl⟩:=le5 (us:=us) hl;rfl)|(obtain⟨_,_,_,_,_,_,rfl⟩:=WG (us:=us) hl;rfl)|(obtain⟨_,_,_,_,_,_,_,rfl⟩:=le7 (us:=us) hl;rfl)|(obtain rfl:=le0 (us:=us) hl;rfl))
def oW{t:TS}(X:K.In h)(G:h.Ns aX mg)(l:dC K x st)(d:mB P w K mg base N x st k t)(r:∀vs H Q E,sp vs H Q E->t {nx:=λ_ H'=>Q .non H',rt:=Q} (cI N vs) H)(z:V8 x N ps st sp:=by exact{}):cO P w K mg base x ps (k+1) sp:=by
 obtain⟨f,oc,od,kV,doc,pm,an,cdv,ct,osl,a,lk,c,kp⟩:=l;have F:=zS lk c kp;exact⟨⟨f,_,dz X G a,kp,F.binds (ps:=ps) z.bd,F.ok z.S z.len λcdv A outer s H vs Q E hr z=>⟨t,d hr,r vs H Q E z⟩⟩⟩
def N2{t:XK->TS}(X:K.In h)(G:h.Ns aX mg)(l:dC K x st)(d:Hr P w K mg base N x st k t)(r:∀vs H Q E,sp vs H Q E->t E {nx:=λ_ H'=>Q .non H',rt:=Q} (cI N vs) H)(z:V8 x N ps st sp:=by exact{}):kL P w K mg base x ps (k+1) sp:=by
 obtain⟨f,oc,od,kV,doc,pm,an,cdv,ct,osl,a,lk,c,kp⟩:=l;have F:=zS lk c kp;exact⟨⟨f,_,dz X G a,kp,F.binds (ps:=ps) z.bd,Qh F z.S z.len λcdv A outer s H vs Q E hr z=>⟨t E,d hr,r vs H Q E z⟩⟩⟩
def Vg{p:Str}{fa:ar}{t:TS}(X:K.In h)(G:h.Ns aX mg)(hfa:mg "law"=some (.ref fa))(l:dC K "law" st)(d:∀base,mB P w K mg base N "law" st k t)(r:∀vs H Q E,sp vs H Q E->t {nx:=λ_ H'=>Q .non H',rt:=Q} (cI N vs) H)(z:V8 "law" N [p] st sp:=by exact{}) :
  ∃fd:dY,(∀(s:aq) (v:aa),sR s fd ⟨[v],[]⟩ [(p,v)])/\∀base:Heap,K.In base->base.Ns aX mg->pO P w K mg base EZ (k+1) fa fd [p] sp:=by
 obtain⟨f,oc,od,kV,doc,pm,an,cdv,ct,osl,a,lk,c,kp⟩:=l;have e:=hfa.symm.trans (dz X G a);cases e;have F:=zS lk c kp;exact⟨_,λs v=>.of_eq (z.bd kV doc pm an cdv ct [v] rfl),λbase _ _=>F.ok z.S z.len λcdv A outer s H vs Q E hr z=>⟨t,d base hr,r vs H Q E z⟩⟩
end
end Bg
end
section
namespace L2
open PySem PySem.Spec PyProof.Rows
def Km(K:Fg)(C0:ar)(i:Nat)(sp:Sp)(t:TA)(th:TS):TS:=λD σ H=>t σ H λvs H1=>
 sp (vs++[]) H1 (λ_ H2=>D.nx σ H2) (nq λx cls od H2=>∃C,cls=.ref C/\HN K C C0/\th {nx:=λσ2 H3=>D.nx (σ2.set i none) H3,rt:=D.rt} (σ.set i (some (.ref x))) H2)
section
variable{X:Cx}{k:Nat}{ps:List Str}{sp:Sp}{x:Str}{t:TA}{e:Expr}{es:List Expr}
def Re{suite:List Stmt}{b0:Stmt}{cn n:Str}{np hpos pos p cpos epos:Pos}{C0:ar}{i:Nat}{th:TS}(c:kL X.prog X.w X.K X.mg X.base x ps k sp)(hr:gB k X.A)(hgf:Gl X x)(ha:∀pl E',PA (X.tryIn pl E') (e::es) t)
  (hc:X.calm=true) (hst:X.stack=X.env::X.outer) (hfm:X.env.frame=some X.env.locals) (hg:Gl X cn) (hm:X.mg cn=some (.ref C0))
  (hN:X.N.Nodup) (hi:X.N[i]?=some n) (hk:X.env.kindOf n=some .local) (hs:∀x,DT (X.inSuite x) (b0::suite) th)
  (hdb:(cn==("__debug__":Str))=false:=by decide) (hdf:(x==("__debug__":Str))=false:=by decide) (he:aR (e::es) X.env=(false,eval e X.env)::aR es X.env:=by rfl) (hpl:(eV cpos (aR es X.env)).any (·.1)=false:=by rfl)
  (hsw:gI (.Call (.Name x p) (e::es) [] cpos) none epos.line X.env=pure false:=by rfl) :
  PS X (.Try [.Expr (.Call (.Name x p) (e::es) [] cpos) epos] [.ExceptHandler (some (.Name cn np)) (some n) (b0::suite) hpos] [] [] pos) (Km X.K C0 i sp t th):=by
 intro pins s σ H D I h;obtain⟨f,fd,hmf,hkf,hb,F⟩:=c.ex;refine wpAny_Try_except ?_;have hd:X.A.handled=none:=I.ok.hd hc;have pass:∀(pl:List (ar×Obj)) (H1:Hp) (s1:aq) (e:aa) (s':aq),bY (X.tryIn pins (λe s1=>aO (model X.prog X.w) X.A (jq e X.env) (λ_ s2=>aO (model X.prog X.w) X.A (sU e none) (λ_ s3=>aO (model X.prog X.w) X.A (handleBy e X.env [.ExceptHandler (some (.Name cn np)) (some n) (b0::suite) hpos]) (SP X pins D) X.xe s3) X.xe s2) X.xe s1)) pl σ H1 s1->
   Hq X.prog X.w X.stack H1 s1 (nq λx cls od H2=>∃C,cls=.ref C/\HN X.K C C0/\th {nx:=λσ2 H3=>D.nx (σ2.set i none) H3,rt:=D.rt} (σ.set i (some (.ref x))) H2) e s'->
   aO (model X.prog X.w) X.A (jq e X.env) (λ_ s2=>aO (model X.prog X.w) X.A (sU e none) (λ_ s3=>aO (model X.prog X.w) X.A (handleBy e X.env [.ExceptHandler (some (.Name cn np)) (some n) (b0::suite) hpos]) (SP X pins D) X.xe s3) X.xe s2) X.xe s':=by
  rintro pl H1 s1 e s' I1 ⟨x,C,od,T,H',rfl,os,bare,un,hok,hx,hT,hfl,ne,ndx,q⟩;have I2:=(I1.call' (ch:=[]) os un hok bare λb z=>absurd z (by simp)).unTry;refine Gc I2 hst hfm hx hT hfl ne λs2 T' nT nx I3 fl3=>?_;obtain⟨C',ec,m,q2⟩:=q x C T' rfl hx ndx nT nx;cases ec;obtain⟨vs,sl,hg3,h13⟩:=fl3;refine wpAny_handleBy_cons (codeAny_handlers_test (pT (X:=X.inSuite x) (I3.inSuite x) hg hm ?_ hdb)) (by intro z;cases z);refine UO I3.kIn m hg3 rfl (codeAny_handlers_suite_as ?_);obtain⟨oT,ts,t1,t2,t3⟩:=TB.get I3.hok aj;refine Ek (s:=s2) hg3 rfl h13 t1 t2 (bN.mp t3).1 λh5 k5 z5 t5=>?_;have I5:bY X pins σ (upd H' T' (TB T')) {s2 with heap:=h5}:=by
   have hTT:(upd H' T' (TB T')) T'=some (TB T'):=aj;obtain⟨un5,ok5⟩:=KB (P:=X.prog) (w:=X.w) (fs:=[]) (H':=upd H' T' (TB T')) (h':=h5) [T'] I3.hok (Eu hTT) (λb z=>absurd z (by simp))
    (λb u nb _ q=>(k5 b λz=>nb (aw.mpr z)).trans q) (λb u _ z=>absurd z (by simp)) (let⟨_,_,e,_⟩:=t5;Ew e) (λb _ _=>rfl) (λb hb o e=>by
     rcases hb with hb|hb
     ·rw[I3.hok.fresh hb] at e;cases e
     ·rw[aw.mp hb] at e ⊢;rw[hTT] at e;cases e;obtain⟨o,us,e1,e2,e3⟩:=t5;exact TB.ok e1 e2 e3)
   exact I3.un (t':=s2.toks) (un5.mono (λb z=>absurd z (by simp)) λb z=>z) ok5
  refine vy (X:=X) (v:=.ref x) I5 hN hi (.inl hk) rfl (λs6 I6=>?_) (.inr hk);refine dh (hs x pins s6 _ _ _ (I6.inSuite x) q2) (λf s7 h7=>?_) λ_ _ z=>False.elim z;have hd':X.calm=true->X.A.handled=none:=λ_=>hd;cases f with
  |next=>
   obtain⟨σ',H7,I7,q7⟩:=h7;exact DC (X:=X) (I7.unSuite hd') hN hi hk λs8 I8=>⟨_,_,I8,q7⟩
  |ret u=>
   obtain⟨v,σ',H7,I7,r7,q7⟩:=h7;exact DC (X:=X) (I7.unSuite hd') hN hi hk λs8 I8=>⟨v,_,_,I8,r7,q7⟩
  |brk=>obtain⟨_,_,_,q7⟩:=h7;exact False.elim q7
  |cont=>obtain⟨_,_,_,q7⟩:=h7;exact False.elim q7
 have body:∀E1:aa->aq->Prop,(∀(pl:List (ar×Obj)) (H1:Hp) (s1:aq) (e:aa) (s':aq),bY (X.tryIn pins E1) pl σ H1 s1->Hq X.prog X.w X.stack H1 s1 (nq λx cls od H2=>∃C,cls=.ref C/\HN X.K C C0/\th {nx:=λσ2 H3=>D.nx (σ2.set i none) H3,rt:=D.rt} (σ.set i (some (.ref x))) H2) e s'->E1 e s')->
   aO (model X.prog X.w) X.A (execs [.Expr (.Call (.Name x p) (e::es) [] cpos) epos] X.env) (SP (X.tryIn pins E1) [] D) E1 s:=by
  intro E1 pass;have I0:=I.tryIn E1;have one:aO (model X.prog X.w) X.A (exec (.Expr (.Call (.Name x p) (e::es) [] cpos) epos) X.env) (SP (X.tryIn pins E1) [] D) E1 s:=by
   refine wpAny_Expr_any ?_ I0.quiet hsw;refine eA (pT (X:=X.tryIn pins E1) I0 hgf hmf ?_ hdf);refine mz (h₀:=X.base) I0.ok.mod.kin hkf (fk (ha _ _ cpos [] s σ H _ I0 h) λus s1 ⟨vs,H1,I1,r,q⟩=>⟨I1.kIn,?_⟩) he hpl;have r2:c8 (vs++[]) (us++[]):=r.append .nil;have hl:(us++[]).length=ps.length:=by rw[<-r2.length];exact F.len _ _ _ _ q
   refine iw (gj (F.run X.A X.stack s1 H1 ⟨us,[]⟩ (us++[]) (vs++[]) _ _ hr I1.env0 (hb s1 us I1.kIn hl) r2 q) λr s' hq=>?_);cases r with
   |error e=>exact pass [] H1 s1 e s' I1 hq
   |ok fl=>
    cases fl with
    |ret u=>
     obtain⟨x,H2,I2,r2,q2⟩:=I1.after hq;exact⟨σ,H2,I2,q2⟩
    |next=>exact False.elim hq
    |brk=>exact False.elim hq
    |cont=>exact False.elim hq
  refine wpAny_execs_cons (fk one λf s1 q=>?_);cases f with
  |next=>exact i9 q
  |ret v=>exact q
  |brk=>exact q
  |cont=>exact q
 refine dh (body _ pass) (λf s1 h1=>?_) λ_ _ z=>z;have h2:=SP.unTry h1;cases f with
 |next=>exact aC h2
 |_=>exact h2
def Kb{suite:List Stmt}{b0:Stmt}{cn n:Str}{np hpos pos p cpos epos:Pos}{C0:ar}(i:Nat){th:TS}(c:kL X.prog X.w X.K X.mg X.base x ps k sp)(ha:∀pl E',QA (X.tryIn pl E') (e::es) t)(hm:X.mg cn=some (.ref C0))
  (hN:X.N.Nodup) (hs:∀x,M3 (X.inSuite x) (b0::suite) th) (hr:gB k X.A:=by exact gB.mono (by assumption) (by decide)) (hgf:Gl X x:=by rfl)
  (hc:X.calm=true:=by rfl) (hst:X.stack=X.env::X.outer:=by rfl) (hfm:X.env.frame=some X.env.locals:=by rfl) (hg:Gl X cn:=by rfl) (hi:X.N[i]?=some n:=by rfl) (hk:X.env.kindOf n=some .local:=by rfl)
  (hdb:(cn==("__debug__":Str))=false:=by decide) (hdf:(x==("__debug__":Str))=false:=by decide) (he:aR (e::es) X.env=(false,eval e X.env)::aR es X.env:=by rfl) (hpl:(eV cpos (aR es X.env)).any (·.1)=false:=by rfl)
  (hsw:gI (.Call (.Name x p) (e::es) [] cpos) none epos.line X.env=pure false:=by rfl) :
  QS X (.Try [.Expr (.Call (.Name x p) (e::es) [] cpos) epos] [.ExceptHandler (some (.Name cn np)) (some n) (b0::suite) hpos] [] [] pos) (Km X.K C0 i sp t th):=
 ⟨Re c hr hgf (λpl E'=>(ha pl E').up) hc hst hfm hg hm hN hi hk (λx=>(hs x).up) hdb hdf he hpl hsw⟩
end
end L2
end
section
namespace Bg
open PySem PySem.Spec PyProof.Rows L2
def md(i:Nat):Stmt:=PySem.Challenge.pw_beltgarth_k22_lines_refused.main.body.getD i (.Pass ⟨0,0,0,0⟩)
abbrev eZ:Stmt:=R9 (md 2) 0
def vv:lV ku fv (bU eZ):=⟨rfl,rfl,rfl,by decide +kernel,rfl,by decide +kernel,by decide +kernel⟩
abbrev gD:Stmt:=R9 (md 3) 0
def AJ:lV nV fV (bU gD):=⟨rfl,rfl,rfl,by decide +kernel,rfl,by decide +kernel,by decide +kernel⟩
abbrev Di:Stmt:=md 6
abbrev GB:Stmt:=md 7
abbrev GA:Stmt:=md 8
abbrev Dh:Stmt:=md 9
abbrev gE:Stmt:=md 10
def GC:lV uA kW (bU gE):=⟨rfl,rfl,rfl,by decide +kernel,rfl,by decide +kernel,by decide +kernel⟩
abbrev Dg:Stmt:=md 12
abbrev AI:Stmt:=md 13
abbrev qc:Stmt:=md 14
abbrev xU:Stmt:=md 15
abbrev qJ:Stmt:=md 16
abbrev qH:Stmt:=md 17
abbrev vt:Stmt:=md 18
abbrev qI:Stmt:=md 19
abbrev oo:Stmt:=md 20
abbrev sr:Stmt:=md 21
abbrev AH:Stmt:=md 27
abbrev oZ:Stmt:=md 28
abbrev oY:Stmt:=md 29
abbrev iE:Stmt:=md 30
abbrev mI:Stmt:=md 31
abbrev vq:Stmt:=md 32
abbrev tY:Stmt:=md 33
abbrev pd:Stmt:=md 34
abbrev oj:Stmt:=md 35
abbrev so:Stmt:=md 36
abbrev om:Stmt:=md 37
abbrev OP:Stmt:=md 39
abbrev EG:Stmt:=md 40
abbrev Ki:Stmt:=md 41
abbrev xV:Stmt:=md 42
abbrev Kg:Stmt:=md 43
abbrev Gz:Stmt:=md 44
abbrev nB:Stmt:=md 45
abbrev AG:Stmt:=md 46
abbrev Je:Stmt:=md 47
abbrev w4:Stmt:=md 48
abbrev uJ:Stmt:=md 49
abbrev Kh:Stmt:=md 50
abbrev wZ:Stmt:=md 51
abbrev sk:Stmt:=md 52
abbrev wY:Stmt:=md 53
abbrev xT:Stmt:=md 54
abbrev uI:Stmt:=md 55
abbrev kP:Stmt:=md 56
abbrev tX:Stmt:=md 57
abbrev Dj:Stmt:=md 58
abbrev HK:List Str:=["_law_text","_law_due"]
abbrev CC:List Str:=["_law_text","_law_due","_law_own","_law_said","e"]
def yh(K:Fg):TS:=(cD (ki (a9 (eC K) (ao 2) (ao 1)) (ki (O1 (fj (VD K) (ai (ao 2) (ai (tC (.ty "bool")) aJ)))) (a9 (eC K) (ao 3) (gF (ai (tC (.bl true)) (ai (tC (.bl true)) (ai (tC (.bl false)) aJ))))))))
def yi(K:Fg):TS:=(bx (Km K (cg K "BeltError") 4 (iM K) (ai (ao 0) aJ) (cb (gF (ai (fj (Ke K) (ai (ao 4) (ai (tC (.ty "ValueError")) aJ))) (ai (fj (Ke K) (ai (ao 4) (ai (tC (.ref (cg K "NoLine"))) aJ))) (ai (fj (Ke K) (ai (ao 4) (ai (gc (ai (tC (.ref (cg K "NoProgram"))) (ai (tC (.ref (cg K "Short"))) aJ))) aJ))) aJ)))) (aU 3))) (yh K))
def yj(K:Fg):TS:=(bx (Km K (cg K "NoLine") 4 (iM K) (ai (ao 0) aJ) (cb (OZ K (ao 4) "line") (aU 2))) (yi K))
def Hc(K:Fg):TS:=(bx (cb (gF aJ) (aU 3)) (yj K))
def DA(K:Fg):TS:=(bx (cb (Sw L8 Za) (aU 2)) (Hc K))
abbrev Su:Stmt:=md 59
abbrev MU:List Str:=["_law_script"]
abbrev R3:List Str:=["_law_script","_law_state","_law_many","_law_sort","_law_good","_law_old","_law_lines_here","_law_turn","_law_at","_law_due"]
def Kn(K:Fg):TS:=(cD (ki (bF (qh K) [] E0 (ai Zg (ai Zb aJ))) (a9 (VB K) (bF (iM K) [] E0 (ai (sE K "str" (ny K) (tC (.str "\n")) (ai (ao 5) aJ)) aJ)) (ao 4))))
def Ko(K:Fg):TS:=(bx (dq (i6 (bE (a9 (Uz) (ao 9) Zb)) (Ji (tB (bF (qh K) [] E0 (ai (sE K "str" (ny K) (tC (.str "\n")) (ai (ao 6) aJ)) (ai (ao 9) aJ)))))) (cD (tC (.bl false))) b6) (Kn K))
def EM(K:Fg):TS:=(bx (cb (bF (su K) [] E0 (ai (ao 6) aJ)) (aU 9)) (Ko K))
def Kp(K:Fg):TS:=(bx (dq (bE (a9 (rz) (ao 3) Zd)) (cb (a9 (cJ K) (gF (ai (a9 (cS K) (gF (ai Zg aJ)) (ao 5)) (ai (a9 (cS K) (ao 5) (gF (ai Zg aJ))) (ai (uT (vR K) (ao 5) (fX Za) dP) aJ)))) (ao 3)) (aU 6)) b6) (EM K))
def Kq(K:Fg):TS:=(cb (bF (mL K) [] E0 (ai (ao 1) (ai (a9 (cJ K) (ao 5) (ao 8)) aJ))) (tI (ao 6) (ao 8) qG))
def Kr(K:Fg):TS:=(bx (cb (bF (dm K) [] E0 (ai (ao 1) (ai (fj (eX K) (ai (ao 5) aJ)) aJ))) (aU 8)) (Kq K))
def Ks(K:Fg):TS:=(bx (kG (rT (ai (ao 2) aJ)) (aU 7) (Kr K)) (Kp K))
def Kt(K:Fg):TS:=(bx (cb (fj (vo K) (ai (ao 5) aJ)) (aU 6)) (Ks K))
def Ku(K:Fg):TS:=(bx (cb (bF (AN K) [] E0 (ai (ao 4) aJ)) (aU 5)) (Kt K))
def GN(K:Fg):TS:=(bx (cb (bF (uL K) [] E0 (ai (ao 1) (ai (tC (.int 10)) aJ))) (aU 4)) (Ku K))
def GO(K:Fg):TS:=(bx (cb (bF (dm K) [] E0 (ai (ao 1) (ai (tC (.int 9)) aJ))) (aU 3)) (GN K))
def GP(K:Fg):TS:=(bx (cb (a9 (cS K) Za (bF (dm K) [] E0 (ai (ao 1) (ai Zd aJ)))) (aU 2)) (GO K))
def Sx(K:Fg):TS:=(bx (cb (gF (ai (ao 0) (ai Zb (ai Zb aJ)))) (aU 1)) (GP K))
section
variable(P:aW)(w:bK)(K:Fg)(mg:Str->Option aa)(base:Heap)
abbrev zc:=cO P w K mg base "goal" CF Fc (ph K)
abbrev zf:=cO P w K mg base "sets" KQ MQ (xb K)
abbrev vT:=cO P w K mg base "leads" HH KG (qe K)
abbrev tN:=cO P w K mg base "unset_due" zx Bv (mN K)
abbrev ze:=kL P w K mg base "refuse" Fl Hu (jD K)
abbrev uY:=cO P w K mg base "ring_due" Bz DL (oy K)
abbrev xt:=cO P w K mg base "row_due" DQ Fe (qg K)
abbrev uW:=cO P w K mg base "name_due" Bx DJ (oq K)
abbrev qz:=cO P w K mg base "calls_amiss" v9 yn (kD K)
abbrev qB:=cO P w K mg base "goes_astray" we yq (kF K)
abbrev E6:=cO P w K mg base "goal" CF Fc (xc K)
abbrev qA:=cO P w K mg base "comes_round" wc yo (kE K)
abbrev rG:=cO P w K mg base "names_read" yt zk (lK K)
abbrev zg:=cO P w K mg base "walked" kW zm (lg K)
abbrev vU:=cO P w K mg base "reads" HI KH (qf K)
abbrev Cu:=kL P w K mg base "check" HG KF (uK K)
abbrev rH:=cO P w K mg base "program_of" yu zl (lL K)
abbrev oH:=kL P w K mg base "refuse_calls" u6 vW (j6 K)
abbrev kT:=cO P w K mg base "numbers_of_parts" rq rJ (ie K)
abbrev oJ:=kL P w K mg base "refuse_forms" u7 vX (j7 K)
abbrev tM:=cO P w K mg base "line_read" zw Bu (mM K)
abbrev uX:=cO P w K mg base "numbered" By DK (ou K)
abbrev nQ:=cO P w K mg base "is_number" zv Bt (iF K)
abbrev m6:=cO P w K mg base "is_name" DP Fd (gu K)
abbrev nO:=cO P w K mg base "are_names" zu Bs (j4 K)
abbrev oK:=cO P w K mg base "setting_read" u9 vY (j8 K)
abbrev nN:=cO P w K mg base "_law_draw" PM SA (dm K)
abbrev JI:=cO P w K mg base "_law_worth" MY PF (AO K)
abbrev JF:=cO P w K mg base "_law_leads" MV Py (AM K)
abbrev E4:=cO P w K mg base "_law_filled" KN ML (w9 K)
abbrev xw:=cO P w K mg base "_law_set_names" DS Fh (qj K)
abbrev E5:=cO P w K mg base "_law_mended" KO MO (xa K)
abbrev xu:=cO P w K mg base "_law_rough_row" DR Ff (qi K)
abbrev MH:=cO P w K mg base "_law_part" PN SC (EJ K)
abbrev JH:=cO P w K mg base "_law_names" MX PD (vx K)
abbrev zh:=cO P w K mg base "_law_row_text" Fm Hv (sv K)
abbrev vS:=cO P w K mg base "_law_is_name" HE KD (jm K)
abbrev Ct:=cO P w K mg base "_law_figures" HD KC (mK K)
abbrev xr:=cO P w K mg base "_law_names_all" DO Fb (jZ K)
abbrev xq:=cO P w K mg base "_law_line_good" DN E9 (qd K)
abbrev tO:=cO P w K mg base "_law_word_spoilt" zy Bw (iG K)
abbrev zd:=kL P w K mg base "read" KP MP (iM K)
abbrev Cw:=cO P w K mg base "_law_refused" HK KL (qh K)
abbrev zb:=cO P w K mg base "_law_bad_line" Fk Ht (su K)
abbrev tL:=cO P w K mg base "_law_line_spoilt" zt Br (mL K)
abbrev JG:=cO P w K mg base "_law_lines" MW Pz (AN K)
abbrev Cv:=cO P w K mg base "_law_program" HJ KI (uL K)
end
section
variable{P:aW}{w:bK}{K:Fg}{mg:Str->Option aa}{base:Heap}
def Le(B:kK mg) :mB P w K mg base CB "reads" Di LB (Dy K):=ni λnd hu hu1 hr=>by exact
 (ax (gQ 1 (cX (qv 0) au)) (ax (iJ (aS (bX hu) (qv 1) aM rfl) (bo (cZ (ay (cX (qv 0) au) (bM (cX (qv 0) au)))))) (ax (iJ (aS (bX hu) (qv 1) aM rfl) (bo (cN eK rfl B.tuple_ gz (bM (cX (qv 0) au))))) (ax (iJ (aS gO (qv 1) (cZ (ay aM (ay aM (bM aM)))) rfl) (bo (cZ (bM (cX (qv 0) au))))) (aY (bo (cZ kA)))))))
def zN(B:kK mg)(c_p_reads:vU P w K mg base):mB P w K mg base rN "names_read" sr z9 (sI K):=ni λnd hu hu1 hr=>by exact
 (ax (gQ 1 Au) (ax (fN cy.never rfl (fH (qv 0)) (kg 2) (aY (fN cy.never rfl (fH (gb c_p_reads (bM (qv 2)))) (kg 3) (aY (jX jW (kC (qv 1) (qv 3) (vw hu1))))))) (aY (bo (cN (HX rfl) rfl B.list_ oC (bM (qv 1)))))))
def Nl(B:kK mg) :mB P w K mg base Fj "sets" GB NM (G3 K):=ni λnd hu hu1 hr=>by exact
 (ax (iJ (aS gO (cX (qv 0) au) (cZ (ay aM (ay aM (bM aM)))) rfl) (bo (cX (qv 0) au))) (aY (bo lI)))
def FC(B:kK mg) :mB P w K mg base zp "goal" GA NK (A6 K):=ni λnd hu hu1 hr=>by exact
 (ax (iJ (aS (bX hu) (cX (qv 0) au) aM rfl) (bo (cX (qv 0) au))) (ax (iJ (aS (bX hu) (cX (qv 0) au) aM rfl) (bo (cX (qv 0) au))) (aY (bo lI))))
def Ld(B:kK mg)(c_p_goal:zc P w K mg base):mB P w K mg base CA "leads" Dh LA (Dx K):=ni λnd hu hu1 hr=>by exact
 (ax (gQ 2 (cX (cX (qv 0) (qv 1)) au)) (ax (iJ (aS (bX hu) (qv 2) aM rfl) (bo (cZ kA))) (ax (iJ (aS (bX hu) (qv 2) aM rfl) (bo (cZ (bM (gb c_p_goal (bM (cX (qv 0) (qv 1)))))))) (ax (iJ (aS (bX hu) (qv 2) aM rfl) (bo (cZ (ay (bO bQ (qv 1) au) (bM (gb c_p_goal (bM (cX (qv 0) (qv 1))))))))) (aY (bo (cZ (bM (bO bQ (qv 1) au)))))))))
def Ic(B:kK mg)(c_p_sets:zf P w K mg base)(c_p_leads:vT P w K mg base):mB P w K mg base uA "walked" gE Iw (Bh K):=ni λnd hu hu1 hr=>by exact
 (ax (gQ 2 (Rm (Ox au jW Ru) rfl rfl (by simp) (by decide))) (ax (gQ 3 (dG (bM au))) (ax (Ax cy.never (aS sf (fi B (bM (qv 3))) au rfl) (ax (gQ 4 (Ut jv PySem.F.slot_list_pop PySem.F.type_list_pop Tt (qv 3))) (aY (iJ (QW.pt (qF (aS N8 (qv 1) lI rfl) (oi (aS (pZ hu) (gb c_p_sets (bM (cX (qv 0) (qv 4)))) (qv 1) rfl)))) (fN cy.never rfl (fH (gb c_p_leads (ay (qv 0) (bM (qv 4))))) (kg 5) (aY (xR (aS (tw hu1) (qv 5) (qv 2) rfl) (ax (jX jW (kC (qv 2) (qv 5) (vw hu1))) (aY (fM (Ar (qv 3) (qv 5))))) vn))))))) (aY (bo (fh (HY rfl) rfl B.sorted_ boot_sorted (bM (qv 2))))))))
def BG(B:kK mg)(c_p_names_read:rG P w K mg base)(c_p_walked:zg P w K mg base)(c_p_reads:vU P w K mg base):mB P w K mg base nY "unset_due" oo BO (um K):=ni λnd hu hu1 hr=>by exact
 (ax (gQ 1 (cX (qv 0) au)) (ax (gQ 2 (dG kA)) (ax (fN cy.never rfl (fH (gb c_p_names_read (bM (qv 1)))) (kg 3) (aY (iJ (aS jV (qv 3) (cX (qv 0) au) rfl) (fM (tU jv PySem.F.slot_list_extend PySem.F.type_list_extend LO (qv 2) (bM (L6 oo nY ["n"] [] (fH (gb c_p_walked (ay (qv 1) (bM (qv 3))))) (kg 4) (yV (aS gO (qv 3) (gb c_p_reads (bM (cX (qv 1) (qv 4)))) rfl)) (qv 4)))))))) (aY (bo (Ro rfl rfl B.min_ (bM (qv 2))))))))
def wu(B:kK mg) :mB P w K mg base ku "NoProgram.__init__" eZ wG (pw K):=ni λnd hu hu1 hr=>by exact
 (ax (yW (qv 0) (qv 1) rfl) (ax (yW (qv 0) (qv 2) rfl) (aY (yW (qv 0) (qv 3) rfl))))
def Ib(B:kK mg)(mx_NoProgram:Cy P w K mg base "NoProgram" (cg K "NoProgram") fv kr (fB K)):Hr P w K mg base zr "refuse" AI Iv (Be K):=Nr λnd hu hu1 hr=>by exact
 (aY (iJ (aS J9 (qv 1) lI rfl) (Aw pU hr.hd (Av mx_NoProgram (hr.mono (by decide)) rfl (by decide) (ay (qv 0) (ay (qv 1) (bM (qv 2))))))))
def yy(B:kK mg)(c_p_goal:zc P w K mg base):mB P w K mg base qC "comes_round" qI yD (qQ K):=ni λnd hu hu1 hr=>by exact
 (ax (gQ 2 Au) (ax (gQ 3 (qv 1)) (ax (Ax cy.never (QW.pt (eI (aS (bX hu) (cX (cX (qv 0) (qv 3)) au) aM rfl) (fO (aS (tw hu1) (qv 3) (qv 2) rfl)))) (ax (jX jW (kC (qv 2) (qv 3) (vw hu1))) (aY (gQ 3 (gb c_p_goal (bM (cX (qv 0) (qv 3)))))))) (aY (bo (jj (eR (bX hu) (qv 3) (qv 1) rfl) (kB (eR (TF hu1) (qv 1) (qv 2) rfl))))))))
def Eh(B:kK mg)(c_p_comes_round:qA P w K mg base):mB P w K mg base u5 "ring_due" vt Ep (vL K):=ni λnd hu hu1 hr=>by exact
 (ax (fN cy.never rfl (iL rfl B.range_ (bM (fi B (bM (qv 0))))) (kg 1) (aY (iJ (gY (gb c_p_comes_round (ay (qv 0) (bM (qv 1))))) (bo (qv 1))))) (aY (bo lI)))
def yx(B:kK mg) :mB P w K mg base lD "calls_amiss" qH yC (lN K):=ni λnd hu hu1 hr=>by exact
 (ax (iJ (aS (pZ hu) (cX (qv 1) au) aM rfl) (bo jW)) (ax (gQ 2 (cX (qv 1) au)) (ax (iJ (QW.pt (qF (aS kZ (qv 2) au rfl) (oi (aS N7 (qv 2) (fi B (bM (qv 0))) rfl)))) (bo jW)) (aY (bo (eR (pZ hu) (fi B (bM (cX (qv 1) au))) (fi B (bM (cX (cX (qv 0) (qv 2)) au))) rfl))))))
def yz(B:kK mg)(c_w_goal:E6 P w K mg base):mB P w K mg base qD "goes_astray" qJ yE (qR K):=ni λnd hu hu1 hr=>by exact
 (ax (gQ 2 (gb c_w_goal (bM (qv 1)))) (aY (bo (jj (eR J9 (qv 2) lI rfl) (kB (Vz (eR kZ (qv 2) au rfl) (kB (eR N7 (qv 2) (fi B (bM (qv 0))) rfl))))))))
def FE(B:kK mg)(c_p_calls_amiss:qz P w K mg base)(c_p_goes_astray:qB P w K mg base):mB P w K mg base xA "row_due" xU FZ (x8 K):=ni λnd hu hu1 hr=>by exact
 (ax (gQ 2 (cX (cX (qv 0) (qv 1)) au)) (ax (iJ (aS (bX hu) (fi B (bM (qv 2))) au rfl) (bo au)) (ax (fN cy.never rfl (Gg rfl B.enumerate_ (bM (qv 2))) (qa rfl (d8 (kg 3) (d8 (kg 4) kO))) (aY (iJ (QW.pt (qF (gY (gb c_p_goes_astray (ay (qv 2) (bM (qv 4))))) (oi (gY (gb c_p_calls_amiss (ay (qv 0) (bM (qv 4)))))))) (bo (qv 3))))) (ax (iJ (aS jV (cX (cX (qv 2) (Dc xj au)) au) (cZ (ay aM (bM aM))) rfl) (bo (bO Ao (fi B (bM (qv 2))) au))) (aY (bo lI))))))
def Ef(B:kK mg) :mB P w K mg base pP "name_due" qc En (vJ K):=ni λnd hu hu1 hr=>by exact
 (ax (gQ 2 (cX (cX (qv 0) (qv 1)) au)) (ax (gQ 3 (cX (cX (qv 0) (qv 1)) au)) (ax (iJ (aS gO (qv 2) (L6 qc pP ["part"] [] (fH (dO fW (qv 0) eS (ef (qv 1)))) (kg 4) gr (cX (qv 4) au)) rfl) (bo au)) (ax (iJ (aS kZ (L7 rfl rfl B.len_ B.set_ rfl (bM (qv 3))) (fi B (bM (qv 3))) rfl) (bo au)) (aY (bo lI))))))
def Lc(B:kK mg)(c_p_unset_due:tN P w K mg base)(c_p_refuse:ze P w K mg base)(c_p_ring_due:uY P w K mg base)(c_p_row_due:xt P w K mg base)(c_p_name_due:uW P w K mg base):Hr P w K mg base Cz "check" Dg Lz (Dv K):=Nr λnd hu hu1 hr=>by exact
 (aY (fN cy.leaving rfl (Gg rfl B.enumerate_ (bM (qv 0))) (qa rfl (d8 (kg 1) (d8 (kg 2) kO))) (ax (fM (Sj c_p_refuse jh (ay (qv 1) (ay (gb c_p_name_due (ay (qv 0) (bM (qv 1)))) (bM aM))))) (ax (fM (Sj c_p_refuse jh (ay (qv 1) (ay (gb c_p_row_due (ay (qv 0) (bM (qv 1)))) (bM aM))))) (ax (fM (Sj c_p_refuse jh (ay (qv 1) (ay (gb c_p_ring_due (bM (cX (qv 2) au))) (bM aM))))) (aY (fM (Sj c_p_refuse jh (ay (qv 1) (ay (gb c_p_unset_due (bM (qv 2))) (bM aM)))))))))))
def Eg(B:kK mg) :mB P w K mg base u4 "numbered" vq Eo (vK K):=ni λnd hu hu1 hr=>by exact
 (ax (iJ (aS (bX hu) (cX (qv 0) au) aM rfl) (bo (cZ (ay aM (ay (cX (qv 0) au) (ay (Rl hu1 (qv 1) (cX (qv 0) au) (λ_ _=>rfl)) (bM (cX (qv 0) au)))))))) (aY (bo (qv 0))))
def zO(B:kK mg)(c_p_numbered:uX P w K mg base):mB P w K mg base mC "program_of" mI Aa (sJ K):=ni λnd hu hu1 hr=>by exact
 (ax (gQ 2 (dG kA)) (ax (fN cy.never rfl (fH (qv 0)) (kg 3) (aY (xR (aS (bX hu) (cX (qv 3) au) aM rfl) (aY (fM (Ar (qv 2) (cZ (ay (cX (qv 3) au) (ay (cX (qv 3) au) (bM (dG kA)))))))) (aY (fM (Ar (cX (cX (qv 2) (Dc xj au)) au) (gb c_p_numbered (ay (qv 3) (bM (qv 1)))))))))) (aY (bo (cN eK rfl B.tuple_ gz (bM (L6 mI mC ["part"] [] (fH (qv 2)) (kg 4) gr (cZ (ay (cX (qv 4) au) (ay (cX (qv 4) au) (bM (cN eK rfl B.tuple_ gz (bM (cX (qv 4) au))))))))))))))
def BB(B:kK mg) :mB P w K mg base nV "NoLine.__init__" gD BJ (tZ K):=ni λnd hu hu1 hr=>by exact
 (aY (yW (qv 0) (qv 1) rfl))
def wx(B:kK mg)(mx_NoLine:Cy P w K mg base "NoLine" (cg K "NoLine") fV kM (d9 K)):Hr P w K mg base oM "refuse_calls" oY wH (pE K):=Nr λnd hu hu1 hr=>by exact
 (aY (fN cy.leaving rfl (yU rfl B.enumerate_ (bM (qv 0))) (qa rfl (d8 (kg 2) (d8 (kg 3) kO))) (aY (iJ (QW.pt (eI (aS (bX hu) (cX (qv 3) au) aM rfl) (fO (aS (tw hu1) (cX (qv 3) au) (qv 1) rfl)))) (Aw pU hr.hd (Av mx_NoLine (hr.mono (by decide)) rfl (by decide) (bM (qv 2))))))))
def rR(B:kK mg) :mB P w K mg base iA "numbers_of_parts" iE rW (lh K):=ni λnd hu hu1 hr=>by exact
 (ax (Si iE iA ["line"] [] 1 (fH (qv 0)) (kg 5) (yV (aS (bX hu) (cX (qv 5) au) aM rfl)) (cX (qv 5) au)) (ax (gQ 2 Au) (ax (fN cy.never rfl (yU rfl B.enumerate_ (bM (qv 1))) (qa rfl (d8 (kg 3) (d8 (kg 4) kO))) (aY (iJ (aS (tw hu1) (qv 4) (qv 2) rfl) (jX (qv 3) (kC (qv 2) (qv 4) (vw hu1)))))) (aY (bo (qv 2))))))
def wz(B:kK mg)(mx_NoLine:Cy P w K mg base "NoLine" (cg K "NoLine") fV kM (d9 K)):Hr P w K mg base oN "refuse_forms" oZ wI (pF K):=Nr λnd hu hu1 hr=>by exact
 (aY (fN cy.leaving rfl (yU rfl B.enumerate_ (bM (qv 0))) (qa rfl (d8 (kg 1) (d8 (kg 2) kO))) (aY (iJ (QW.pt (qF (aS N8 (qv 2) lI rfl) (oi (QW.pt (eI (aS (bX hu) (qv 1) au rfl) (fO (aS (pZ hu) (cX (qv 2) au) aM rfl))))))) (Aw pU hr.hd (Av mx_NoLine (hr.mono (by decide)) rfl (by decide) (bM (qv 1))))))))
def BE(B:kK mg)(q_FIGURES:UQ mg "FIGURES" "0123456789"):mB P w K mg base nX "is_number" om BM (ud K):=ni λnd hu hu1 hr=>by exact
 (ax (iJ (QW.pt (qF (aS kZ (fi B (bM (qv 0))) au rfl) (oi (aS sf (fi B (bM (qv 0))) au rfl)))) (bo jW)) (ax (iJ (QW.pt (eI (aS (bX hu) (cX (qv 0) au) aM rfl) (fO (aS (pZ hu) (qv 0) aM rfl)))) (bo jW)) (aY (bo (fh (jx rfl) rfl B.all_ rA (bM (L6 om nX ["sign"] [] (EA (qv 0)) (kg 1) gr (eR An (qv 1) (Ov rfl q_FIGURES) rfl))))))))
def FD(B:kK mg)(q_LETTERS:UQ mg "LETTERS" "abcdefghijklmnopqrstuvwxyz")(q_WORDS:UR K mg "WORDS" [.str "part",.str "call",.str "say",.str "jump",.str "test",.str "give"]):mB P w K mg base rM "is_name" so FY (x6 K):=ni λnd hu hu1 hr=>by exact
 (ax (iJ (QW.pt (qF (aS kZ (fi B (bM (qv 0))) au rfl) (qF (aS sf (fi B (bM (qv 0))) au rfl) (oi (aS An (qv 0) (Ow rfl q_WORDS) rfl))))) (bo jW)) (aY (bo (fh (jx rfl) rfl B.all_ rA (bM (L6 so rM ["sign"] [] (EA (qv 0)) (kg 1) gr (eR An (qv 1) (Ov rfl q_LETTERS) rfl)))))))
def BD(B:kK mg)(c_p_is_name:m6 P w K mg base):mB P w K mg base nW "are_names" oj BL (uc K):=ni λnd hu hu1 hr=>by exact
 (aY (bo (fh (jx rfl) rfl B.all_ rA (bM (L6 oj nW ["word"] [] (fH (qv 0)) (kg 1) gr (gb c_p_is_name (bM (qv 1))))))))
def wA(B:kK mg)(q_SIGNS:UR K mg "SIGNS" [.str "+",.str "-",.str "*",.str "<",.str "="])(c_p_is_name:m6 P w K mg base)(c_p_are_names:nO P w K mg base)(c_p_is_number:nQ P w K mg base):mB P w K mg base oO "setting_read" pd wJ (pG K):=ni λnd hu hu1 hr=>by exact
 (ax (gQ 1 (cX (qv 0) au)) (ax (iJ (Ay (gY (gb c_p_is_name (bM (qv 1))))) (bo lI)) (ax (iJ (QW.pt (eI (aS (bX hu) (fi B (bM (qv 0))) au rfl) (eI (gY (gb c_p_is_number (bM (cX (qv 0) au)))) (fO (aS kZ (cN oR rfl B.int_ mh (bM (cX (qv 0) au))) (bO wQ au au) rfl))))) (bo (cZ (ay aM (ay (qv 1) (bM (cN oR rfl B.int_ mh (bM (cX (qv 0) au))))))))) (ax (iJ (QW.pt (eI (aS sf (fi B (bM (qv 0))) au rfl) (eI (aS (bX hu) (cX (qv 0) au) aM rfl) (fO (gY (gb c_p_are_names (bM (dO fW (qv 0) (ef au) eS)))))))) (bo (cZ (ay aM (ay (qv 1) (ay (cX (qv 0) au) (bM (cN eK rfl B.tuple_ gz (bM (dO fW (qv 0) (ef au) eS)))))))))) (ax (iJ (QW.pt (eI (aS (bX hu) (fi B (bM (qv 0))) au rfl) (eI (aS An (cX (qv 0) au) (Ow rfl q_SIGNS) rfl) (eI (gY (gb c_p_is_name (bM (cX (qv 0) au)))) (fO (gY (gb c_p_is_name (bM (cX (qv 0) au))))))))) (bo (cZ (ay aM (ay (qv 1) (ay (cX (qv 0) au) (ay (cX (qv 0) au) (bM (cX (qv 0) au))))))))) (aY (bo lI)))))))
def BF(B:kK mg)(c_p_is_number:nQ P w K mg base)(c_p_is_name:m6 P w K mg base)(c_p_are_names:nO P w K mg base)(c_p_setting_read:oK P w K mg base):mB P w K mg base tQ "line_read" tY BN (ue K):=ni λnd hu hu1 hr=>by exact
 (ax (gQ 1 (tU cU cG dX mG (qv 0) (bM aM))) (ax (iJ (QW.pt (eI (aS sf (fi B (bM (qv 1))) au rfl) (fO (aS (bX hu) (cX (qv 1) au) aM rfl)))) (bo (gb c_p_setting_read (bM (qv 1))))) (ax (iJ (QW.pt (eI (aS (bX hu) (cX (qv 1) au) aM rfl) (eI (aS sf (fi B (bM (qv 1))) au rfl) (fO (gY (gb c_p_are_names (bM (dO fW (qv 1) (ef au) eS)))))))) (bo (cZ (ay aM (ay (cX (qv 1) au) (bM (cN eK rfl B.tuple_ gz (bM (dO fW (qv 1) (ef au) eS))))))))) (ax (iJ (QW.pt (eI (aS An (cX (qv 1) au) (cZ (ay aM (bM aM))) rfl) (eI (aS (bX hu) (fi B (bM (qv 1))) au rfl) (fO (gY (gb c_p_is_name (bM (cX (qv 1) au)))))))) (bo (cZ (ay (cX (qv 1) au) (bM (cX (qv 1) au)))))) (ax (iJ (QW.pt (eI (aS (bX hu) (cX (qv 1) au) aM rfl) (eI (aS (bX hu) (fi B (bM (qv 1))) au rfl) (fO (gY (gb c_p_is_number (bM (cX (qv 1) au)))))))) (bo (cZ (ay aM (bM (cN oR rfl B.int_ mh (bM (cX (qv 1) au)))))))) (ax (iJ (QW.pt (eI (aS (bX hu) (cX (qv 1) au) aM rfl) (eI (aS (bX hu) (fi B (bM (qv 1))) au rfl) (eI (gY (gb c_p_is_name (bM (cX (qv 1) au)))) (fO (gY (gb c_p_is_number (bM (cX (qv 1) au))))))))) (bo (cZ (ay aM (ay (cX (qv 1) au) (bM (cN oR rfl B.int_ mh (bM (cX (qv 1) au))))))))) (aY (bo lI))))))))
def Nk(B:kK mg)(c_p_check:Cu P w K mg base)(c_p_program_of:rH P w K mg base)(c_p_refuse_calls:oH P w K mg base)(c_p_numbers_of_parts:kT P w K mg base)(c_p_refuse_forms:oJ P w K mg base)(c_p_line_read:tM P w K mg base):Hr P w K mg base zq "read" AH NL (GY K):=Nr λnd hu hu1 hr=>by exact
 (ax (Si AH zq ["line"] [] 1 (fH (tU cU cG dX mG (qv 0) (bM aM))) (kg 4) gr (gb c_p_line_read (bM (qv 4)))) (ax (fM (Sj c_p_refuse_forms jh (bM (qv 1)))) (ax (gQ 2 (gb c_p_numbers_of_parts (bM (qv 1)))) (ax (fM (Sj c_p_refuse_calls jh (ay (qv 1) (bM (qv 2))))) (ax (gQ 3 (gb c_p_program_of (ay (qv 1) (bM (qv 2))))) (ax (fM (Sj c_p_check jh (bM (qv 3)))) (aY (bo (qv 3)))))))))
def Lg(B:kK mg)(g_BeltError:mg "BeltError"=some (.ref (cg K "BeltError")))(z_ValueError:mg "ValueError"=none)(g_NoLine:mg "NoLine"=some (.ref (cg K "NoLine")))(g_NoProgram:mg "NoProgram"=some (.ref (cg K "NoProgram")))(g_Short:mg "Short"=some (.ref (cg K "Short")))(c_p_read:zd P w K mg base):mB P w K mg base CC "_law_refused" Dj LD (DA K):=ni λnd hu hu1 hr=>by exact
 (ax (gQ 2 (Dc xj au)) (ax (gQ 3 (dG kA)) (ax (Kb 4 c_p_read (λpl E1=>(bM (qv 0))) g_NoLine nd (λx=>(aY (gQ 2 (Rn (qv 4) rfl))))) (ax (Kb 4 c_p_read (λpl E1=>(bM (qv 0))) g_BeltError nd (λx=>(aY (gQ 3 (dG (ay (fh wt rfl B.isinstance_ i8 (ay (qv 4) (bM (Ez rfl z_ValueError yw (v:=.ty "ValueError") rfl)))) (ay (fh wt rfl B.isinstance_ i8 (ay (qv 4) (bM (IU rfl g_NoLine)))) (bM (fh wt rfl B.isinstance_ i8 (ay (qv 4) (bM (cZ (ay (IU rfl g_NoProgram) (bM (IU rfl g_Short))))))))))))))) (aY (bo (jj (eR (bX hu) (qv 2) (qv 1) rfl) (jj (Uv (fh Ft rfl B.isinstance_ i8 (ay (qv 2) (bM (Ez rfl B.bool_ boot_bool (v:=.ty "bool") rfl))))) (kB (eR (bX hu) (qv 3) (dG (ay jW (ay jW (bM jW)))) rfl))))))))))
def K9(B:kK mg) :mB P w K mg base vZ "_law_figures" wY Lx (Dl K):=ni λnd hu hu1 hr=>by exact
 (ax (iJ (QW.pt (qF (Ay (Oy si si au (fi B (bM (qv 0))) au)) (oi (QW.pt (eI (aS sf (fi B (bM (qv 0))) au rfl) (fO (aS (bX hu) (cX (qv 0) au) aM rfl))))))) (bo jW)) (aY (bo (fh (jx rfl) rfl B.all_ rA (bM (L6 wY vZ ["_law_sign"] [] (EA (qv 0)) (kg 1) gr (As si si aM (qv 1) aM)))))))
def Lb(B:kK mg) :mB P w K mg base v5 "_law_is_name" wZ Ly (Dm K):=ni λnd hu hu1 hr=>by exact
 (ax (iJ (aS gO (qv 0) (cZ (ay aM (ay aM (ay aM (ay aM (ay aM (bM aM))))))) rfl) (bo jW)) (aY (bo (jj (As si si au (fi B (bM (qv 0))) au) (kB (fh (jx rfl) rfl B.all_ rA (bM (L6 wZ v5 ["_law_sign"] [] (EA (qv 0)) (kg 1) gr (As si si aM (qv 1) aM)))))))))
def FB(B:kK mg)(c_is_name:vS P w K mg base):mB P w K mg base rL "_law_names_all" sk FX (xY K):=ni λnd hu hu1 hr=>by exact
 (aY (bo (fh (jx rfl) rfl B.all_ rA (bM (L6 sk rL ["_law_word"] [] (fH (qv 0)) (kg 1) gr (gb c_is_name (bM (qv 1))))))))
def FA(B:kK mg)(c_figures:Ct P w K mg base)(c_names_all:xr P w K mg base)(c_is_name:vS P w K mg base):mB P w K mg base xx "_law_line_good" xT FW (xX K):=ni λnd hu hu1 hr=>by exact
 (ax (iJ (aS (bX hu) (cX (qv 0) au) aM rfl) (bo (jj (eR sf (fi B (bM (qv 0))) au rfl) (kB (gb c_names_all (bM (dO fW (qv 0) (ef au) eS))))))) (ax (iJ (aS gO (cX (qv 0) au) (cZ (ay aM (bM aM))) rfl) (bo (jj (eR (bX hu) (fi B (bM (qv 0))) au rfl) (kB (gb c_is_name (bM (cX (qv 0) au))))))) (ax (iJ (aS (bX hu) (cX (qv 0) au) aM rfl) (bo (jj (eR (bX hu) (fi B (bM (qv 0))) au rfl) (kB (gb c_figures (bM (cX (qv 0) au))))))) (ax (iJ (aS (bX hu) (cX (qv 0) au) aM rfl) (bo (jj (eR (bX hu) (fi B (bM (qv 0))) au rfl) (jj (gb c_is_name (bM (cX (qv 0) au))) (kB (gb c_figures (bM (cX (qv 0) au)))))))) (ax (iJ (QW.pt (qF (aS kZ (fi B (bM (qv 0))) au rfl) (qF (Ay (gY (gb c_is_name (bM (cX (qv 0) au))))) (oi (aS (pZ hu) (cX (qv 0) au) aM rfl))))) (bo jW)) (ax (iJ (aS (bX hu) (cX (qv 0) au) aM rfl) (bo (jj (eR sf (fi B (bM (qv 0))) au rfl) (kB (gb c_names_all (bM (dO fW (qv 0) (ef au) eS))))))) (ax (iJ (aS (bX hu) (fi B (bM (qv 0))) au rfl) (bo (jj (gb c_names_all (bM (dG (ay (cX (qv 0) au) (bM (cX (qv 0) au)))))) (kB (eR gO (cX (qv 0) au) (cZ (ay aM (ay aM (ay aM (ay aM (bM aM)))))) rfl))))) (aY (bo (jj (eR (bX hu) (fi B (bM (qv 0))) au rfl) (jj (gb c_figures (bM (cX (qv 0) au))) (kB (eR kZ (cN oR rfl B.int_ mh (bM (cX (qv 0) au))) (bO wQ au au) rfl)))))))))))))
def Ia(B:kK mg)(c_line_good:xq P w K mg base):mB P w K mg base uz "_law_bad_line" uI Iu (uQ K):=ni λnd hu hu1 hr=>by exact
 (ax (Si uI uz ["_law_line"] [] 1 (fH (qv 0)) (kg 4) (yV (aS (bX hu) (dO Kk (qv 4) eS (ef au)) aM rfl)) (cX (tU cU cG dX mG (qv 4) (bM aM)) au)) (ax (fN cy.never rfl (iL rfl B.range_ (bM (fi B (bM (qv 0))))) (kg 2) (ax (gQ 3 (tU cU cG dX mG (cX (qv 0) (qv 2)) (bM aM))) (aY (iJ (QW.pt (qF (Ay (gY (gb c_line_good (bM (qv 3))))) (oi (QW.pt (eI (aS (bX hu) (qv 2) au rfl) (fO (aS (pZ hu) (cX (qv 3) au) aM rfl))))))) (bo (qv 2)))))) (ax (fN cy.never rfl (iL rfl B.range_ (bM (fi B (bM (qv 0))))) (kg 2) (ax (gQ 3 (tU cU cG dX mG (cX (qv 0) (qv 2)) (bM aM))) (aY (iJ (QW.pt (eI (aS (bX hu) (dO Kk (qv 3) (ef au) (ef au)) (dG (bM aM)) rfl) (eI (aS (pZ hu) (cX (qv 3) au) aM rfl) (fO (aS jV (cX (qv 3) au) (qv 1) rfl))))) (bo (qv 2)))))) (aY (bo (Dc xj au))))))
def SU(B:kK mg) :mB P w K mg base MS "_law_draw" OP Th (O3 K):=ni λnd hu hu1 hr=>by exact
 (ax (jX (dO fW (qv 0) eS (ef au)) (Rr rfl (d8 (kg 2) (d8 (kg 3) kO)))) (ax (jX (bO bQ (qv 3) au) (kC (qv 0) au jY)) (ax (xR (QW.pt (eI (aS kZ (bO bQ (bO Ex (qv 3) au) au) (fi B (bM (qv 2))) rfl) (fO (aS (bX hu) (bO kz (cX (qv 2) au) au) au rfl)))) (ax (iJ (aS (bX hu) (bO kz (qv 3) au) au rfl) (jX (cX (qv 2) (bO bQ (bO Ex (qv 3) au) au)) (kC (qv 0) au jY))) (aY (xR (aS jV (cX (qv 0) au) (cZ (ay au (bM (Dc xj au)))) rfl) (ax (jX (fh Ea rfl B.divmod_ boot_divmod (ay (cX (qv 0) au) (bM (qv 1)))) (qa rfl (d8 (kC (qv 0) au jY) (d8 (kg 4) kO)))) (aY (bo (qv 4)))) vn))) (aY (iJ (aS kZ (qv 3) (fi B (bM (qv 2))) rfl) (bo (bO kz (cX (qv 2) (qv 3)) (qv 1)))))) (ax (gQ 5 (bO bQ (bO iD (qv 3) au) au)) (ax (iJ (aS sf (fi B (bM (qv 2))) au rfl) (gQ 5 (bO bQ (qv 5) (bO iD (cX (qv 2) (bO kz (bO iD (qv 3) au) (fi B (bM (qv 2))))) (bO bQ au (qv 3)))))) (ax (gQ 5 (bO kz (bO iD (bO kz (qv 5) au) (bO bQ (qv 3) au)) au)) (ax (gQ 5 (bO kz (bO iD (qv 5) (qv 5)) au)) (aY (bo (bO kz (bO kz (bO iD (qv 5) (qv 5)) au) (qv 1)))))))))))
def BI(B:kK mg)(c_draw:nN P w K mg base):mB P w K mg base kN "_law_word_spoilt" kP BP (oB K):=ni λnd hu hu1 hr=>by exact
 (ax (gQ 2 (bO bQ (L6 kP kN ["_law_sign"] [] (fH (dG (ay aM (ay aM (ay aM (bM aM)))))) (kg 3) gr (bO bQ (qv 1) (qv 3))) (L6 kP kN ["_law_sign"] [] (fH (dG (ay aM (ay aM (ay aM (bM aM)))))) (kg 3) gr (bO bQ (qv 3) (qv 1))))) (ax (gQ 2 (bO bQ (qv 2) (dG (ay aM (ay aM (ay (bO QH aM au) (ay aM (bM aM)))))))) (aY (bo (cX (bO bQ (qv 2) (tU cU cG dX mG aM (bM aM))) (gb c_draw (ay (qv 0) (bM au))))))))
def BC(B:kK mg)(c_draw:nN P w K mg base)(c_word_spoilt:tO P w K mg base):mB P w K mg base tP "_law_line_spoilt" tX BK (ub K):=ni λnd hu hu1 hr=>by exact
 (ax (gQ 2 (tU cU cG dX mG (qv 1) (bM aM))) (ax (gQ 3 (gb c_draw (ay (qv 0) (bM (fi B (bM (qv 2))))))) (ax (gQ 4 (dG (Ou (Q3 Om (IQ 1)) (Ui (IQ 1) Om.le) (Q8 (IQ 1)) (ay aM (ay (bO bQ (qv 1) aM) (bM (Rt aM (dO fW (qv 2) eS (ef (Dc xj au)))))))))) (ax (fM (Ar (qv 4) (Rt aM (bO bQ (bO bQ (dO fW (qv 2) eS (ef (qv 3))) (dG (bM (gb c_word_spoilt (ay (qv 0) (bM (cX (qv 2) (qv 3)))))))) (dO fW (qv 2) (ef (bO bQ (qv 3) au)) eS))))) (ax (fM (Ar (qv 4) (Rt aM (bO bQ (bO bQ (dO fW (qv 2) eS (ef (qv 3))) (dG (bM (gb c_word_spoilt (ay (qv 0) (bM (cX (qv 2) (qv 3)))))))) (dO fW (qv 2) (ef (bO bQ (qv 3) au)) eS))))) (ax (gQ 4 (bO bQ (qv 4) (dG (ay aM (ay aM (ay aM (ay aM (ay aM (ay aM (bM aM)))))))))) (aY (bo (cX (qv 4) (gb c_draw (ay (qv 0) (bM au))))))))))))
def Ie(B:kK mg) :mB P w K mg base uB "_law_row_text" uJ Iy (Bi K):=ni λnd hu hu1 hr=>by exact
 (ax (iJ (aS (bX hu) (cX (qv 1) au) aM rfl) (bo (bO bQ (bO bQ (cX (qv 1) au) aM) (cN zG rfl B.str_ boot_str (bM (cX (qv 1) au)))))) (ax (iJ (aS (bX hu) (cX (qv 1) au) aM rfl) (bo (bO bQ (bO bQ (bO bQ (bO bQ (bO bQ (bO bQ (cX (qv 1) au) aM) (cX (qv 1) au)) aM) (cX (qv 1) au)) aM) (cX (qv 1) au)))) (ax (iJ (aS (bX hu) (cX (qv 1) au) aM rfl) (bo (Rt aM (bO bQ (dG (ay (cX (qv 1) au) (ay aM (ay aM (bM (cX (cX (qv 0) (cX (qv 1) au)) au)))))) (cN jQ rfl B.list_ oC (bM (cX (qv 1) au))))))) (aY (bo (Rt aM (L6 uJ uB ["_law_thing"] [] (fH (qv 1)) (kg 2) gr (cN zG rfl B.str_ boot_str (bM (qv 2))))))))))
def P1(B:kK mg)(c_row_text:zh P w K mg base):mB P w K mg base JM "_law_lines" Kh Qp (Kw K):=ni λnd hu hu1 hr=>by exact
 (ax (gQ 1 (dG kA)) (ax (fN cy.never rfl (fH (qv 0)) (qa rfl (d8 (kg 2) (d8 (kg 3) (d8 (kg 4) kO)))) (ax (fM (Ar (qv 1) (Rt aM (bO bQ (dG (ay aM (bM (qv 2)))) (cN jQ rfl B.list_ oC (bM (qv 3))))))) (aY (fN cy.never rfl (fH (qv 4)) (kg 5) (aY (fM (Ar (qv 1) (gb c_row_text (ay (qv 0) (bM (qv 5))))))))))) (aY (bo (qv 1)))))
def Ni(B:kK mg)(c_draw:nN P w K mg base):mB P w K mg base zo "_law_filled" AG NI (GL K):=ni λnd hu hu1 hr=>by exact
 (ax (gQ 3 (dG kA)) (ax (fN cy.never rfl (yU rfl B.enumerate_ (bM (qv 1))) (qa rfl (d8 (kg 4) (d8 (kg 5) kO))) (ax (gQ 6 (dG kA)) (ax (fN cy.never rfl (fH (dO fW (qv 5) (ef au) eS)) (kg 7) (ax (xR (aS (bX hu) (qv 7) aM rfl) (aY (gQ 7 (cX (cX (qv 2) (qv 4)) (gb c_draw (ay (qv 0) (bM (fi B (bM (cX (qv 2) (qv 4)))))))))) (aY (iJ (gY (fh Ft rfl B.isinstance_ i8 (ay (qv 7) (bM (Ez rfl B.tuple_ gz (v:=.ty "tuple") rfl))))) (gQ 7 (cN eK rfl B.tuple_ gz (bM (L6 AG zo ["_law_one"] [] (fH (qv 7)) (kg 8) gr (cX (cX (qv 2) (qv 4)) (gb c_draw (ay (qv 0) (bM (fi B (bM (cX (qv 2) (qv 4))))))))))))))) (aY (fM (Ar (qv 6) (qv 7)))))) (aY (fM (Ar (qv 3) (bO bQ (cZ (bM (cX (qv 5) au))) (cN eK rfl B.tuple_ gz (bM (qv 6)))))))))) (aY (bo (cN eK rfl B.tuple_ gz (bM (qv 3)))))))
def PZ(B:kK mg) :mB P w K mg base JL "_law_leads" Kg Qo (Kv K):=ni λnd hu hu1 hr=>by exact
 (ax (iJ (aS (bX hu) (cX (cX (qv 0) (qv 1)) au) aM rfl) (bo (dG (bM (cX (cX (qv 0) (qv 1)) au))))) (ax (iJ (aS (bX hu) (cX (cX (qv 0) (qv 1)) au) aM rfl) (bo (dG (ay (bO bQ (qv 1) au) (bM (cX (cX (qv 0) (qv 1)) au)))))) (ax (iJ (aS (bX hu) (cX (cX (qv 0) (qv 1)) au) aM rfl) (bo (dG kA))) (aY (bo (dG (bM (bO bQ (qv 1) au))))))))
def FG(B:kK mg)(c_leads:JF P w K mg base):mB P w K mg base m7 "_law_set_names" nB F1 (ym K):=ni λnd hu hu1 hr=>by exact
 (ax (Si nB m7 ["_law_row"] [] 3 (fH (qv 0)) (kg 9) gr (cN jQ rfl B.list_ oC (bM (qv 1)))) (ax (jX (cN jQ rfl B.list_ oC (bM (qv 2))) (kC (qv 3) au jY)) (ax (gQ 4 jW) (ax (Ax cy.never (gY (qv 4)) (ax (gQ 4 jW) (aY (fN cy.never rfl (iL rfl B.range_ (bM (fi B (bM (qv 0))))) (kg 5) (ax (gQ 6 (cX (qv 3) (qv 5))) (ax (iJ (aS gO (cX (cX (qv 0) (qv 5)) au) (cZ (ay aM (ay aM (bM aM)))) rfl) (gQ 6 (bO bQ (qv 6) (dG (bM (cX (cX (qv 0) (qv 5)) au)))))) (aY (fN cy.never rfl (fH (gb c_leads (ay (qv 0) (bM (qv 5))))) (kg 7) (ax (Si nB m7 ["_law_name"] [] 8 (fH (cX (qv 3) (qv 7))) (kg 9) (yV (aS gO (qv 9) (qv 6) rfl)) (qv 9)) (aY (xR (aS kZ (fi B (bM (qv 8))) (fi B (bM (cX (qv 3) (qv 7)))) rfl) (ax (jX (qv 8) (kC (qv 3) (qv 7) jY)) (aY (gQ 4 jW))) vn))))))))))) (aY (bo (qv 3)))))))
def Nj(B:kK mg) :mB P w K mg base Fi "_law_mended" Gz NJ (GQ K):=ni λnd hu hu1 hr=>by exact
 (ax (gQ 3 (bO Ao (fi B (bM (qv 0))) au)) (ax (iJ (aS jV (cX (cX (qv 0) (qv 3)) au) (cZ (ay aM (bM aM))) rfl) (jX (cZ (ay aM (bM aM))) (kC (qv 0) (qv 3) jY))) (ax (iJ (QW.pt (eI (gY (qv 2)) (eI (aS (pZ hu) (cX (cX (qv 0) au) au) aM rfl) (fO (aS sf (qv 3) au rfl))))) (jX (cZ (ay aM (ay (cX (qv 1) au) (bM au)))) (kC (qv 0) au jY))) (ax (fN cy.never rfl (iL rfl B.range_ (bM (fi B (bM (qv 0))))) (kg 4) (ax (gQ 5 (qv 4)) (ax (fN cy.never rfl (fH (qv 0)) (kg 6) (aY (iJ (aS (bX hu) (cX (cX (qv 0) (qv 5)) au) aM rfl) (gQ 5 (cX (cX (qv 0) (qv 5)) au))))) (aY (iJ (aS (bX hu) (cX (cX (qv 0) (qv 5)) au) aM rfl) (jX (cX (dG (ay (cZ (ay aM (bM aM))) (bM (cZ (ay aM (bM aM)))))) (cN wq rfl B.int_ mh (bM (eR (bX hu) (qv 4) (qv 3) rfl)))) (kC (qv 0) (qv 4) jY))))))) (aY (bo (qv 0)))))))
def P7(B:kK mg)(c_draw:nN P w K mg base):mB P w K mg base JN "_law_worth" Ki Qr (Ky K):=ni λnd hu hu1 hr=>by exact
 (ax (iJ (aS (bX hu) (gb c_draw (ay (qv 0) (bM au))) au rfl) (bo (bO bQ (bO iD (gb c_draw (ay (qv 0) (bM (bO wQ au au)))) (bO wQ au au)) (gb c_draw (ay (qv 0) (bM (bO wQ au au))))))) (aY (bo (cX (dG (ay au (ay au (ay (bO Ao (bO Ao (bO wQ au au) au) (gb c_draw (ay (qv 0) (bM au)))) (bM (gb c_draw (ay (qv 0) (bM au)))))))) (gb c_draw (ay (qv 0) (bM au)))))))
def FF(B:kK mg)(c_draw:nN P w K mg base)(c_worth:JI P w K mg base):mB P w K mg base xB "_law_rough_row" xV F0 (yk K):=ni λnd hu hu1 hr=>by exact
 (ax (gQ 4 (cX (qv 1) (gb c_draw (ay (qv 0) (bM (fi B (bM (qv 1)))))))) (ax (gQ 5 (gb c_draw (ay (qv 0) (bM au)))) (ax (iJ (aS kZ (qv 5) au rfl) (bo (cZ (ay aM (ay (qv 4) (bM (gb c_worth (bM (qv 0))))))))) (ax (iJ (aS kZ (qv 5) au rfl) (bo (cZ (ay aM (ay (qv 4) (ay (cX aM (gb c_draw (ay (qv 0) (bM au)))) (ay aM (bM aM)))))))) (ax (xR (aS (bX hu) (qv 5) au rfl) (ax (gQ 6 (gb c_draw (ay (qv 0) (bM (fi B (bM (qv 3))))))) (aY (bo (cZ (ay aM (ay (qv 4) (ay (qv 6) (bM (bO iD (cZ (bM aM)) (cX (qv 3) (qv 6))))))))))) vn) (ax (iJ (aS kZ (qv 5) au rfl) (bo (cZ (ay aM (bM aM))))) (ax (iJ (aS kZ (qv 5) au rfl) (bo (cZ (ay aM (ay aM (bM (gb c_draw (ay (qv 0) (bM (qv 2)))))))))) (aY (bo (cX (dG (ay (cZ (ay aM (bM (gb c_draw (ay (qv 0) (bM (qv 2))))))) (bM (cZ (ay aM (bM aM)))))) (bO Ao (qv 5) au)))))))))))
def SV(B:kK mg)(c_filled:E4 P w K mg base)(c_set_names:xw P w K mg base)(c_mended:E5 P w K mg base)(c_rough_row:xu P w K mg base)(c_draw:nN P w K mg base):mB P w K mg base Hy "_law_part" Je Ti (O9 K):=ni λnd hu hu1 hr=>by exact
 (ax (gQ 6 (fh (K6 rfl) rfl B.max_ boot_max (ay (bO bQ au (cN wq rfl B.int_ mh (bM (eR (bX hu) (fi B (bM (qv 3))) au rfl)))) (bM (bO bQ au (gb c_draw (ay (qv 0) (bM (qv 5))))))))) (ax (Si Je Hy ["_law_n"] [] 7 (iL rfl B.range_ (bM (qv 6))) (kg 9) gr (gb c_rough_row (ay (qv 0) (ay (qv 2) (ay (qv 6) (bM (qv 4))))))) (ax (gQ 7 (gb c_mended (ay (qv 7) (ay (qv 2) (bM (eR (bX hu) (fi B (bM (qv 3))) au rfl)))))) (ax (gQ 8 (gb c_set_names (ay (qv 7) (ay (qv 2) (bM (qv 3)))))) (aY (bo (cZ (ay (qv 1) (ay (cN eK rfl B.tuple_ gz (bM (qv 3))) (bM (gb c_filled (ay (qv 0) (ay (qv 7) (bM (qv 8)))))))))))))))
def P2(B:kK mg)(c_draw:nN P w K mg base):mB P w K mg base DM "_law_names" EG Qq (Kx K):=ni λnd hu hu1 hr=>by exact
 (ax (gQ 2 aM) (ax (gQ 3 (bO bQ au (gb c_draw (ay (qv 0) (bM au))))) (ax (gQ 4 (gb c_draw (ay (qv 0) (bM (qv 3))))) (ax (gQ 5 (gb c_draw (ay (qv 0) (bM au)))) (ax (Si EG DM ["_law_j"] [] 6 (iL rfl B.range_ (bM (qv 3))) (kg 11) gr (cX (qv 2) (bO kz (bO bQ (qv 5) (bO iD (bO iD au (qv 11)) (gb c_draw (ay (qv 0) (bM au))))) au))) (ax (gQ 7 (dG kA)) (ax (fN cy.never rfl (iL rfl B.range_ (bM (qv 1))) (kg 8) (ax (gQ 9 (bO bQ (bO bQ (dO fW (qv 6) eS (ef (qv 4))) (dG (bM (cX (qv 2) (bO kz (bO bQ (qv 5) (bO iD au (qv 8))) au))))) (dO fW (qv 6) (ef (bO bQ (qv 4) au)) eS))) (ax (gQ 10 (Rt aM (qv 9))) (ax (iJ (QW.pt (qF (aS gO (qv 10) (cZ (ay aM (ay aM (ay aM (ay aM (ay aM (bM aM))))))) rfl) (oi (QW.pt (eI (aS kZ (qv 3) au rfl) (fO (aS (bX hu) (bO kz (bO bQ (qv 3) (qv 8)) au) au rfl))))))) (gQ 10 (bO bQ (qv 10) aM))) (aY (fM (Ar (qv 7) (qv 10)))))))) (aY (bo (qv 7))))))))))
def Lf(B:kK mg)(c_part:MH P w K mg base)(c_draw:nN P w K mg base)(c_names:JH P w K mg base):mB P w K mg base v7 "_law_program" w4 LC (Dz K):=ni λnd hu hu1 hr=>by exact
 (ax (gQ 2 (cN wq rfl B.int_ mh (bM (eR (bX hu) (bO kz (bO Ex (fh (Ec rfl) rfl B.sum_ boot_sum (bM (dO fW (cX (qv 0) au) eS (ef au)))) au) au) au rfl)))) (ax (gQ 3 (dO fW (gb c_names (ay (qv 0) (bM au))) eS (ef (cX (dG (ay (bO bQ au (gb c_draw (ay (qv 0) (bM au)))) (bM au))) (qv 2))))) (ax (gQ 4 (gb c_names (ay (qv 0) (bM (bO bQ au (gb c_draw (ay (qv 0) (bM au)))))))) (ax (Si w4 v7 [] [7] 5 (fH (qv 3)) (kg 7) gr (gb c_draw (ay (qv 0) (bM (bO bQ (fh (K7 rfl) rfl B.min_ boot_min (ay au (bM (fi B (bM (qv 4)))))) au))))) (ax (gQ 6 (dG kA)) (ax (fN cy.never rfl (Uw rfl B.zip_ (ay (qv 3) (bM (qv 5)))) (qa rfl (d8 (kg 7) (d8 (kg 8) kO))) (ax (gQ 9 (gb c_draw (ay (qv 0) (bM (fi B (bM (qv 4))))))) (ax (gQ 10 (dO fW (bO bQ (dO fW (qv 4) (ef (qv 9)) eS) (dO fW (qv 4) eS (ef (qv 9)))) eS (ef (qv 8)))) (aY (fM (Ar (qv 6) (gb c_part (ay (qv 0) (ay (qv 7) (ay (qv 4) (ay (qv 10) (ay (qv 5) (bM (qv 1)))))))))))))) (aY (bo (cN eK rfl B.tuple_ gz (bM (qv 6)))))))))))
def U9(B:kK mg)(c_p_read:zd P w K mg base)(c_refused:Cw P w K mg base)(c_bad_line:zb P w K mg base)(c_line_spoilt:tL P w K mg base)(c_draw:nN P w K mg base)(c_lines:JG P w K mg base)(c_program:Cv P w K mg base):mB P w K mg base R3 "law" Su Se (Sx K):=ni λnd hu hu1 hr=>by exact
 (ax (gQ 1 (dG (ay (qv 0) (ay au (bM au))))) (ax (gQ 2 (bO bQ au (gb c_draw (ay (qv 1) (bM au))))) (ax (gQ 3 (gb c_draw (ay (qv 1) (bM au)))) (ax (gQ 4 (gb c_program (ay (qv 1) (bM au)))) (ax (gQ 5 (gb c_lines (bM (qv 4)))) (ax (gQ 6 (cN jQ rfl B.list_ oC (bM (qv 5)))) (ax (fN cy.never rfl (iL rfl B.range_ (bM (qv 2))) (kg 7) (ax (gQ 8 (gb c_draw (ay (qv 1) (bM (fi B (bM (qv 5))))))) (aY (jX (gb c_line_spoilt (ay (qv 1) (bM (cX (qv 5) (qv 8))))) (kC (qv 6) (qv 8) jY))))) (ax (iJ (aS kZ (qv 3) au rfl) (gQ 6 (cX (dG (ay (bO bQ (dG (bM aM)) (qv 5)) (ay (bO bQ (qv 5) (dG (bM aM))) (bM (dO fW (qv 5) (ef au) eS))))) (qv 3)))) (ax (gQ 9 (gb c_bad_line (bM (qv 6)))) (ax (iJ (QW.pt (eI (aS N7 (qv 9) au rfl) (fO (Ay (gY (gb c_refused (ay (Rt aM (qv 6)) (bM (qv 9))))))))) (bo jW)) (aY (bo (jj (gb c_refused (ay aM (bM au))) (kB (eR (TC (SZ hr)) (Sj c_p_read TN (bM (Rt aM (qv 5)))) (qv 4) rfl)))))))))))))))
end
end Bg
end
section
namespace Bg
open PySem L2
def xS{K:Fg}{st scr:ar}{m:Int}{k:Nat}{ns:List Int}{c:Int}{H H2:Hp}{Q:VK}{o4 o5:Option V}{nx:St->Hp->Prop}(hk:k<=1000000)(m0:0<m)
  (q:∀(d:Int) (H':Hp),0<=d->d<m->lF K H' st (k+1)->iq st H H'->Q (.int d) H') (hS:H2 st=some (.lst [.ref scr,.int ((k:Int)+1),.int c])) (hscr:m8 K H2 scr ns) (hns:ns.length<=63) (hB:iq st H H2) :
  vD K {nx:=nx,rt:=Q} [some (.ref st),some (.int m),some (.ref scr),some (.int (k:Nat)),o4,o5] H2:=by
 have e1:(((k+1:Nat):Nat):Int)=(k:Int)+1:=by lia
 have S2:lF K H2 st (k+1):=⟨scr,ns,c,by rw[e1];exact hS,hscr,hns⟩;refine⟨_,rfl,.inl ⟨_,_,rfl,rfl,.inr ⟨by decide,by decide⟩,.inl ⟨_,_,rfl,rfl,?_⟩⟩⟩;have rest:∀z:Int,GI K {nx:=nx,rt:=Q} [some (.ref st),some (.int m),some (.ref scr),some (.int (k:Nat)),o4,some (.int z)] H2:=λz=>by
  have b1:0<=z % 2147483629:=dS _ (by decide);have b2:z % 2147483629<2147483629:=dQ _ (by decide);refine⟨_,rfl,_,_,rfl,rfl,(by show(0:Int)<2147483629;decide),_,rfl,.inl ⟨_,_,rfl,rfl,.inl ⟨_,_,rfl,rfl,.inl ⟨by lia,by lia⟩,_,_,rfl,rfl,(by show(0:Int)<2147483629;decide),?_⟩⟩⟩;generalize hy:z % 2147483629*((k:Int)+3) % 2147483629=y;have c1:0<=y:=by rw[<-hy];exact dS _ (by decide)
  have c2:y<2147483629:=by rw[<-hy];exact dQ _ (by decide)
  refine⟨_,rfl,_,rfl,.inl ⟨_,_,rfl,rfl,.inl ⟨by lia,by lia⟩,_,_,rfl,rfl,(by show(0:Int)<2147483587;decide),?_⟩⟩;generalize hx:y*y % 2147483587=x;have d1:0<=x:=by rw[<-hx];exact dS _ (by decide)
  have d2:x<2147483587:=by rw[<-hx];exact dQ _ (by decide)
  refine⟨_,rfl,_,rfl,.inl ⟨_,_,rfl,rfl,.inl ⟨by lia,by lia⟩,_,_,rfl,rfl,(by show(0:Int)<1999999973;decide),_,rfl,_,_,rfl,rfl,m0,?_⟩⟩;exact q _ H2 (dS _ (by lia)) (dQ _ m0) S2 hB
 refine⟨_,rfl,_,_,rfl,.inl ⟨_,hscr.sq,rfl⟩,_,_,rfl,rfl,_,rfl,bC (λhl=>?_) (λ_=>rest _)⟩;rw[ae] at hl;have hlp:0<ns.length:=by lia
 refine⟨_,rfl,_,rfl,_,rfl,.inl ⟨_,_,rfl,rfl,.inr ⟨by decide,by decide⟩,_,rfl,_,_,rfl,.inl ⟨_,hscr.sq,rfl⟩,_,_,rfl,rfl,(by rw[ae];lia),?_⟩⟩;have i1:0<=(k:Int)*7 % ((ns.map V.int).length:Nat):=dS _ (by rw[ae];lia);have i2:(k:Int)*7 % ((ns.map V.int).length:Nat)<((ns.map V.int).length:Nat):=dQ _ (by rw[ae];lia);rw[ae] at i1 i2;have i3:((k:Int)*7 % (ns.length:Nat)).toNat<ns.length:=by lia
 refine pS hscr.sq (by rw[ae];exact i1) (v:=.int ns[((k:Int)*7 % (ns.length:Nat)).toNat]) (by simp only[ae];rw[aQ,af i3];rfl) ?_;exact⟨_,rfl,.inl ⟨_,_,rfl,rfl,.inl ⟨_,_,rfl,rfl,.inr ⟨by lia,by lia⟩,.inl ⟨_,_,rfl,rfl,rest _⟩⟩⟩⟩
def UA{K:Fg}{vs:List V}{H:Hp}{Q:VK}{E:XK}(h:dm K vs H Q E):O3 K {nx:=λ_ H'=>Q .non H',rt:=Q} (cI MS vs) H:=by
 obtain⟨st,m,k,rfl,S,hk,m0,m1,q⟩:=h;obtain⟨scr,ns,c,hst,hscr,hns⟩:=S;refine⟨_,rfl,_,rfl,.inl ⟨st,_,rfl,cB.of hst,λp hp=>?_⟩⟩;refine⟨p,_,rfl,cB.of aj,rfl,_,_,rfl,_,_,rfl,rfl,?_⟩;have np:st≠p:=aB hst hp;have B1:iq st H (upd H p (.lst (nZ [V.ref scr,V.int (k:Nat),V.int c] none (some 2)))):=(iq.refl st H).new hp;have h1:(upd H p (.lst (nZ [V.ref scr,V.int (k:Nat),V.int c] none (some 2)))) st=some (.lst [.ref scr,.int (k:Nat),.int c]):=by rw[aK np];exact hst
 have s1:m8 K (upd H p (.lst (nZ [V.ref scr,V.int (k:Nat),V.int c] none (some 2)))) scr ns:=hscr.mono (.of_but B1 hst);generalize upd H p (.lst (nZ [V.ref scr,V.int (k:Nat),V.int c] none (some 2)))=H1 at B1 h1 s1 ⊢;refine⟨_,rfl,.inl ⟨_,_,rfl,rfl,_,rfl,GD h1 (by decide) (by show 1<3;decide) ?_⟩⟩;have B2:iq st H (upd H1 st (.lst [.ref scr,.int ((k:Int)+1),.int c])):=B1.trans .upd_at;have h2:(upd H1 st (.lst [.ref scr,.int ((k:Int)+1),.int c])) st=some (.lst [.ref scr,.int ((k:Int)+1),.int c]):=aj;have s2:m8 K (upd H1 st (.lst [.ref scr,.int ((k:Int)+1),.int c])) scr ns:=s1.mono (.of_but .upd_at h1);show GK K _ [some (.ref st),some (.int m),some (.ref scr),some (.int (k:Nat)),none,none] (upd H1 st (.lst [.ref scr,.int ((k:Int)+1),.int c]));generalize upd H1 st (.lst [.ref scr,.int ((k:Int)+1),.int c])=H2 at B2 h2 s2 ⊢;have tail:=@xS K st scr m k ns c H H2 Q none none (λ_ H'=>Q .non H') hk m0 q h2 s2 hns B2;have dig:∀(c':Int) (H3:Hp),H3 st=some (.lst [.ref scr,.int ((k:Int)+1),.int c'])->m8 K H3 scr ns->iq st H H3->
   GJ K {nx:=vD K {nx:=λ_ H'=>Q .non H',rt:=Q},rt:=Q} [some (.ref st),some (.int m),some (.ref scr),some (.int (k:Nat)),none,none] H3:=λc' H3 h3 s3 B3=>by
  refine⟨_,rfl,pS (cB.of h3) (by decide) rfl ?_⟩;refine⟨_,rfl,Zz,λt ht=>⟨t,_,rfl,.inr (eO.of aj),rfl,rfl,_,rfl,?_⟩⟩;have n3:st≠t:=aB h3 ht;have B4:iq st H (upd H3 t (.tup [.int 0,.int (-1)])):=B3.new ht;have h4:(upd H3 t (.tup [.int 0,.int (-1)])) st=some (.lst [.ref scr,.int ((k:Int)+1),.int c']):=by rw[aK n3];exact h3
  have s4:m8 K (upd H3 t (.tup [.int 0,.int (-1)])) scr ns:=s3.mono (.of_same ((aL.refl H3).new ht));refine i4 (λ_=>?_) (λ_=>?_)
  ·-- _law_state[2],_law_digit=divmod(_law_state[2],_law_many)
   refine⟨_,rfl,.inl ⟨st,_,_,_,rfl,rfl,cB.of h4,D4 (by decide) rfl,_,rfl,_,_,rfl,⟨m0,m1⟩,λp2 hp2=>?_⟩⟩;have n4:st≠p2:=aB h4 hp2;refine⟨p2,_,rfl,eO.of aj,rfl,_,_,rfl,_,rfl,GD (by rw[aK n4];exact h4) (by decide) (by show 2<3;decide) ?_⟩;refine⟨_,_,rfl,rfl,_,rfl,?_⟩;have B5:=(B4.new (o:=.tup [.int (c' / m),.int (c' % m)]) hp2);have s5:m8 K (upd (upd H3 t (.tup [.int 0,.int (-1)])) p2 (.tup [.int (c' / m),.int (c' % m)])) scr ns:=s4.mono (.of_same ((aL.refl _).new hp2));have h5:(upd (upd H3 t (.tup [.int 0,.int (-1)])) p2 (.tup [.int (c' / m),.int (c' % m)])) st=some (.lst [.ref scr,.int ((k:Int)+1),.int c']):=by rw[aK n4];exact h4
   refine q _ _ (dS _ (by lia)) (dQ _ m0) ⟨scr,ns,c' / m,?_,s5.mono (.of_but .upd_at h5),hns⟩ (B5.trans .upd_at);have e1:(((k+1:Nat):Nat):Int)=(k:Int)+1:=by lia
   rw[aj,e1];rfl
  ·exact xS hk m0 q h4 s4 hns B4
 have e1:(((k+1:Nat):Nat):Int)=(k:Int)+1:=by lia
 have elif:dq (bE (a9 rz (ao 3) (fj (eX K) (ai (ao 2) aJ)))) (cD (a9 nA (a9 (cJ K) (ao 2) (ao 3)) (ao 1))) b6
   {nx:=vD K {nx:=λ_ H'=>Q V.non H',rt:=Q},rt:=Q} [some (V.ref st),some (V.int m),some (V.ref scr),some (V.int (k:Nat)),none,none] H2:=by
  refine⟨_,rfl,_,rfl,_,_,rfl,.inl ⟨_,s2.sq,rfl⟩,_,_,rfl,rfl,_,rfl,bC (λhlt=>?_) (λ_=>tail)⟩;rw[ae] at hlt;have j2:((k:Nat):Int).toNat<ns.length:=by lia
  refine⟨_,rfl,_,rfl,pS s2.sq (by lia) (v:=.int ns[((k:Nat):Int).toNat]) (by rw[aQ,af j2];rfl) ?_⟩;refine⟨_,rfl,_,_,rfl,rfl,m0,?_⟩;exact q _ H2 (dS _ (by lia)) (dQ _ m0) ⟨scr,ns,c,by rw[e1];exact h2,s2,hns⟩ B2
 refine⟨_,rfl,_,_,rfl,rfl,⟨by decide,by decide⟩,.inl ⟨_,_,rfl,rfl,_,rfl,_,_,rfl,.inl ⟨_,s2.sq,rfl⟩,_,_,rfl,rfl,_,rfl,bC (λhlt=>?_) (λ_=>?_)⟩⟩
 ·rw[ae] at hlt;have hlp:0<ns.length:=by lia
  have i0:(ns.map V.int)[(0:Int).toNat]?=some (.int ns[0]):=by
   show(ns.map V.int)[0]?=_;rw[aQ,af hlp];rfl
  refine⟨_,rfl,pS s2.sq (by decide) i0 ⟨_,_,rfl,rfl,(by show(0:Int)<2;decide),.inl ⟨rfl,_,rfl,bC (λ_=>?_) (λ_=>?_)⟩⟩⟩
  ·-- if _law_k % 12==0
   refine⟨_,rfl,_,_,rfl,rfl,(by show(0:Int)<12;decide),.inl ⟨rfl,_,rfl,bC (λ_=>?_) (λ_=>dig c H2 h2 s2 B2)⟩⟩;have j2:((k:Int) / 12+1).toNat<ns.length:=by lia
   refine⟨_,rfl,_,rfl,_,_,rfl,rfl,⟨by decide,by decide⟩,.inl ⟨_,_,rfl,rfl,pS s2.sq (by lia) (v:=.int ns[((k:Int) / 12+1).toNat]) (by rw[aQ,af j2];rfl) ?_⟩⟩;refine⟨_,rfl,GD h2 (by decide) (by show 2<3;decide) ?_⟩;exact dig _ _ aj (s2.mono (.of_but .upd_at h2)) (B2.trans .upd_at)
  ·exact elif
 ·exact f6 elif
def RD{K:Fg}{vs:List V}{H:Hp}{Q:VK}{E:XK}(h:AO K vs H Q E):Ky K {nx:=λ_ H'=>Q .non H',rt:=Q} (cI JN vs) H:=by
 obtain⟨st,k,rfl,S,hk,q⟩:=h;have e31:(2:Int) ^ fo 31=2147483648:=by decide
 have e33:(2:Int) ^ fo 33=8589934592:=by decide
 have e64:(2:Int) ^ fo 64=18446744073709551616:=by decide
 have f64:(2:Int) ^ 64=18446744073709551616:=by decide
 refine⟨_,rfl,st,2,k,rfl,S,by lia,by decide,by decide,λd H1 d0 d1 S1 B1=>?_⟩;refine .inl ⟨rfl,_,rfl,bC (λ_=>?_) (λ_=>?_)⟩
 ·refine⟨_,rfl,_,_,rfl,rfl,⟨by decide,by decide,by decide⟩,st,_,k+1,rfl,S1,by lia,by rw[e31];decide,by rw[e31];decide,λd2 H2 a0 a1 S2 B2=>?_⟩;rw[e31] at a1;refine⟨_,_,rfl,rfl,⟨by decide,by decide,by decide⟩,.inl ⟨_,_,rfl,rfl,.inl ⟨by lia,by lia⟩,?_⟩⟩;refine⟨_,rfl,_,_,rfl,rfl,⟨by decide,by decide,by decide⟩,st,_,k+2,rfl,S2,by lia,by rw[e31];decide,by rw[e31];decide,λd3 H3 b0 b1 S3 B3=>?_⟩;rw[e31] at b1;refine .inl ⟨_,_,rfl,rfl,q _ _ H3 ?_ ?_ S3 (by lia) ((B1.trans B2).trans B3)⟩
  ·show 0<=d2*(2:Int) ^ fo 33+d3;rw[e33];lia
  ·show d2*(2:Int) ^ fo 33+d3<2 ^ 64;rw[e33,f64];lia
 ·refine⟨_,_,rfl,rfl,⟨by decide,by decide,by decide⟩,_,_,rfl,rfl,_,rfl,st,3,k+1,rfl,S1,by lia,by decide,by decide,λd2 H2 a0 a1 S2 B2=>?_⟩;refine⟨_,_,rfl,rfl,_,rfl,st,12,k+2,rfl,S2,by lia,by decide,by decide,λd3 H3 b0 b1 S3 B3=>?_⟩;refine⟨ZC,λl hl=>?_⟩;refine⟨_,rfl,st,4,k+3,rfl,S3.new hl,by lia,by decide,by decide,λd4 H4 c0 c1 S4 B4=>?_⟩;obtain⟨ys,hys⟩:=S3.lst;have nl:l≠st:=λz=>by rw[z,hys] at hl;cases hl
  have h4:=B4 l _ nl aj;have B5:iq st H H4:=(((B1.trans B2).trans B3).new hl).trans B4;have fin:∀z:Int,0<=z->z<2 ^ 64->Q (.int z) H4:=λz z0 z1=>q z _ H4 z0 z1 S4 (by lia) B5;rcases(by lia:d4=0\/d4=1\/d4=2\/d4=3) with rfl|rfl|rfl|rfl
  ·exact pS (cB.of h4) (by decide) rfl (fin _ (by decide) (by decide))
  ·exact pS (cB.of h4) (by decide) rfl (fin _ (by decide) (by decide))
  ·refine pS (cB.of h4) (by decide) rfl (fin _ ?_ ?_)
   ·show 0<=(2:Int) ^ fo 64-1-d2;rw[e64];lia
   ·show(2:Int) ^ fo 64-1-d2<2 ^ 64;rw[e64,f64];lia
  ·exact pS (cB.of h4) (by decide) rfl (fin _ (by lia) (by lia))
def oS{K:Fg}{p:ar}{xs:List V}{i:Int}{v:V}{H:Hp}{Q:VK}(h:H p=some (.lst xs)\/H p=some (.tup xs))(h0:0<=i)(e:xs[i.toNat]?=some v)(q:Q v H):cJ K (.ref p) (.int i) H Q:=by
 rcases h with h|h
 ·exact pS (cB.of h) h0 e q
 ·exact dk h h0 e q
def RA{K:Fg}{vs:List V}{H:Hp}{Q:VK}{E:XK}(h:AM K vs H Q E):Kv K {nx:=λ_ H'=>Q .non H',rt:=Q} (cI JL vs) H:=by
 obtain⟨rt,n,rvs,v,r,rfl,hrt,hv,hr,q⟩:=h;have hn:rvs[((n:Nat):Int).toNat]?=some v:=by simpa using hv
 have n0:(0:Int)<=((n:Nat):Int):=by lia
 have e1:(((n+1:Nat):Nat):Int)=(n:Int)+1:=by lia
 cases r with
 |num x z=>
  obtain⟨p,rfl,h⟩:=hr;refine⟨_,rfl,_,rfl,oS hrt n0 hn (Zw h rfl (.inl ⟨rfl,_,rfl,Zv ?_⟩))⟩;refine⟨_,rfl,_,rfl,oS hrt n0 hn (Zw h rfl (.inl ⟨rfl,_,rfl,Zv ?_⟩))⟩;refine⟨_,rfl,_,rfl,oS hrt n0 hn (Zw h rfl (.inl ⟨rfl,_,rfl,Zv ?_⟩))⟩;exact⟨_,rfl,.inl ⟨_,_,rfl,rfl,⟨Zy,λt ht=>(by have z:=q t ht;unfold cW eG at z;simp only[aV,de,e1] at z;exact z)⟩⟩⟩
 |op x s a b=>
  obtain⟨p,rfl,h⟩:=hr;refine⟨_,rfl,_,rfl,oS hrt n0 hn (Zw h rfl (.inl ⟨rfl,_,rfl,Zv ?_⟩))⟩;refine⟨_,rfl,_,rfl,oS hrt n0 hn (Zw h rfl (.inl ⟨rfl,_,rfl,Zv ?_⟩))⟩;refine⟨_,rfl,_,rfl,oS hrt n0 hn (Zw h rfl (.inl ⟨rfl,_,rfl,Zv ?_⟩))⟩;exact⟨_,rfl,.inl ⟨_,_,rfl,rfl,⟨Zy,λt ht=>(by have z:=q t ht;unfold cW eG at z;simp only[aV,de,e1] at z;exact z)⟩⟩⟩
 |call x k as=>
  obtain⟨p,q1,rfl,h,h1⟩:=hr;refine⟨_,rfl,_,rfl,oS hrt n0 hn (Zw h rfl (.inl ⟨rfl,_,rfl,Zv ?_⟩))⟩;refine⟨_,rfl,_,rfl,oS hrt n0 hn (Zw h rfl (.inl ⟨rfl,_,rfl,Zv ?_⟩))⟩;refine⟨_,rfl,_,rfl,oS hrt n0 hn (Zw h rfl (.inl ⟨rfl,_,rfl,Zv ?_⟩))⟩;exact⟨_,rfl,.inl ⟨_,_,rfl,rfl,⟨Zy,λt ht=>(by have z:=q t ht;unfold cW eG at z;simp only[aV,de,e1] at z;exact z)⟩⟩⟩
 |say a=>
  obtain⟨p,rfl,h⟩:=hr;refine⟨_,rfl,_,rfl,oS hrt n0 hn (Zw h rfl (.inl ⟨rfl,_,rfl,Zv ?_⟩))⟩;refine⟨_,rfl,_,rfl,oS hrt n0 hn (Zw h rfl (.inl ⟨rfl,_,rfl,Zv ?_⟩))⟩;refine⟨_,rfl,_,rfl,oS hrt n0 hn (Zw h rfl (.inl ⟨rfl,_,rfl,Zv ?_⟩))⟩;exact⟨_,rfl,.inl ⟨_,_,rfl,rfl,⟨Zy,λt ht=>(by have z:=q t ht;unfold cW eG at z;simp only[aV,de,e1] at z;exact z)⟩⟩⟩
 |jump to=>
  obtain⟨p,rfl,h⟩:=hr;refine⟨_,rfl,_,rfl,oS hrt n0 hn (Zw h rfl (.inl ⟨rfl,_,rfl,ME ?_⟩))⟩;exact⟨_,rfl,_,rfl,oS hrt n0 hn (Zw h rfl ⟨Zy,λt ht=>(by have z:=q t ht;unfold cW eG at z;simp only[aV,de,e1] at z;exact z)⟩)⟩
 |test a to=>
  obtain⟨p,rfl,h⟩:=hr;refine⟨_,rfl,_,rfl,oS hrt n0 hn (Zw h rfl (.inl ⟨rfl,_,rfl,Zv ?_⟩))⟩;refine⟨_,rfl,_,rfl,oS hrt n0 hn (Zw h rfl (.inl ⟨rfl,_,rfl,ME ?_⟩))⟩;exact⟨_,rfl,.inl ⟨_,_,rfl,rfl,⟨_,rfl,_,rfl,oS hrt n0 hn (Zw h rfl ⟨Zz,λt ht=>(by have z:=q t ht;unfold cW eG at z;simp only[aV,de,e1] at z;exact z)⟩)⟩⟩⟩
 |give a=>
  obtain⟨p,rfl,h⟩:=hr;refine⟨_,rfl,_,rfl,oS hrt n0 hn (Zw h rfl (.inl ⟨rfl,_,rfl,Zv ?_⟩))⟩;refine⟨_,rfl,_,rfl,oS hrt n0 hn (Zw h rfl (.inl ⟨rfl,_,rfl,Zv ?_⟩))⟩;refine⟨_,rfl,_,rfl,oS hrt n0 hn (Zw h rfl (.inl ⟨rfl,_,rfl,ME ?_⟩))⟩;exact⟨Zx,λt ht=>(by have z:=q t ht;unfold cW eG at z;simp only[aV,de,e1] at z;exact z)⟩
def Md{K:Fg}{vs:List V}{H:Hp}{Q:VK}{E:XK}(h:qf K vs H Q E):Dy K {nx:=λ_ H'=>Q .non H',rt:=Q} (cI CB vs) H:=by
 obtain⟨v,r,rfl,hr,q⟩:=h;cases r with
 |num x z=>
  obtain⟨p,rfl,h⟩:=hr;refine⟨_,rfl,Zw h rfl ?_⟩;refine⟨_,rfl,.inl ⟨rfl,_,rfl,Zv ?_⟩⟩;refine⟨_,rfl,.inl ⟨rfl,_,rfl,Zv ?_⟩⟩;refine⟨_,rfl,ZA,λt ht=>⟨t,_,rfl,.inr (eO.of aj),rfl,rfl,_,rfl,Ls (by decide +kernel) ?_⟩⟩;have nt:p≠t:=aB h ht;exact⟨Zx,λt2 ht2=>q t2 _ aj (((aL.refl H).new ht).new ht2)⟩
 |op x s a b=>
  obtain⟨p,rfl,h⟩:=hr;refine⟨_,rfl,Zw h rfl ?_⟩;refine⟨_,rfl,.inl ⟨rfl,_,rfl,ME ?_⟩⟩;exact⟨_,rfl,Zw h rfl ⟨_,rfl,Zw h rfl ⟨Zz,λt ht=>q t _ aj ((aL.refl H).new ht)⟩⟩⟩
 |call x k as=>
  obtain⟨p,q1,rfl,h,h1⟩:=hr;refine⟨_,rfl,Zw h rfl ?_⟩;refine⟨_,rfl,.inl ⟨rfl,_,rfl,Zv ?_⟩⟩;refine⟨_,rfl,.inl ⟨rfl,_,rfl,ME ?_⟩⟩;exact⟨_,rfl,Zw h rfl ⟨_,_,rfl,.inr ⟨eO.of h1,q _ _ h1 (aL.refl H)⟩⟩⟩
 |say a=>
  obtain⟨p,rfl,h⟩:=hr;refine⟨_,rfl,Zw h rfl ?_⟩;refine⟨_,rfl,.inl ⟨rfl,_,rfl,Zv ?_⟩⟩;refine⟨_,rfl,.inl ⟨rfl,_,rfl,Zv ?_⟩⟩;refine⟨_,rfl,ZA,λt ht=>⟨t,_,rfl,.inr (eO.of aj),rfl,rfl,_,rfl,Lu (by decide +kernel) ?_⟩⟩;have nt:p≠t:=aB h ht;exact⟨_,rfl,dk (by rw[aK nt];exact h) (by decide) rfl ⟨Zy,λt2 ht2=>q t2 _ aj (((aL.refl H).new ht).new ht2)⟩⟩
 |jump to=>
  obtain⟨p,rfl,h⟩:=hr;refine⟨_,rfl,Zw h rfl ?_⟩;refine⟨_,rfl,.inl ⟨rfl,_,rfl,Zv ?_⟩⟩;refine⟨_,rfl,.inl ⟨rfl,_,rfl,Zv ?_⟩⟩;refine⟨_,rfl,ZA,λt ht=>⟨t,_,rfl,.inr (eO.of aj),rfl,rfl,_,rfl,Ls (by decide +kernel) ?_⟩⟩;have nt:p≠t:=aB h ht;exact⟨Zx,λt2 ht2=>q t2 _ aj (((aL.refl H).new ht).new ht2)⟩
 |test a to=>
  obtain⟨p,rfl,h⟩:=hr;refine⟨_,rfl,Zw h rfl ?_⟩;refine⟨_,rfl,.inl ⟨rfl,_,rfl,Zv ?_⟩⟩;refine⟨_,rfl,.inl ⟨rfl,_,rfl,Zv ?_⟩⟩;refine⟨_,rfl,ZA,λt ht=>⟨t,_,rfl,.inr (eO.of aj),rfl,rfl,_,rfl,Lu (by decide +kernel) ?_⟩⟩;have nt:p≠t:=aB h ht;exact⟨_,rfl,dk (by rw[aK nt];exact h) (by decide) rfl ⟨Zy,λt2 ht2=>q t2 _ aj (((aL.refl H).new ht).new ht2)⟩⟩
 |give a=>
  obtain⟨p,rfl,h⟩:=hr;refine⟨_,rfl,Zw h rfl ?_⟩;refine⟨_,rfl,.inl ⟨rfl,_,rfl,Zv ?_⟩⟩;refine⟨_,rfl,.inl ⟨rfl,_,rfl,Zv ?_⟩⟩;refine⟨_,rfl,ZA,λt ht=>⟨t,_,rfl,.inr (eO.of aj),rfl,rfl,_,rfl,Lu (by decide +kernel) ?_⟩⟩;have nt:p≠t:=aB h ht;exact⟨_,rfl,dk (by rw[aK nt];exact h) (by decide) rfl ⟨Zy,λt2 ht2=>q t2 _ aj (((aL.refl H).new ht).new ht2)⟩⟩
def OG{K:Fg}{vs:List V}{H:Hp}{Q:VK}{E:XK}(h:xb K vs H Q E):G3 K {nx:=λ_ H'=>Q .non H',rt:=Q} (cI Fj vs) H:=by
 obtain⟨v,r,rfl,hr,q⟩:=h;cases r with
 |num x z=>
  obtain⟨p,rfl,h⟩:=hr;refine⟨_,rfl,Zw h rfl ?_⟩;refine⟨ZA,λt ht=>⟨t,_,rfl,.inr (eO.of aj),rfl,rfl,_,rfl,Lu (by decide +kernel) ?_⟩⟩;have nt:p≠t:=aB h ht;exact⟨_,rfl,dk (by rw[aK nt];exact h) (by decide) rfl (q _ ((aL.refl H).new ht))⟩
 |op x s a b=>
  obtain⟨p,rfl,h⟩:=hr;refine⟨_,rfl,Zw h rfl ?_⟩;refine⟨ZA,λt ht=>⟨t,_,rfl,.inr (eO.of aj),rfl,rfl,_,rfl,Lu (by decide +kernel) ?_⟩⟩;have nt:p≠t:=aB h ht;exact⟨_,rfl,dk (by rw[aK nt];exact h) (by decide) rfl (q _ ((aL.refl H).new ht))⟩
 |call x k as=>
  obtain⟨p,q1,rfl,h,h1⟩:=hr;refine⟨_,rfl,Zw h rfl ?_⟩;refine⟨ZA,λt ht=>⟨t,_,rfl,.inr (eO.of aj),rfl,rfl,_,rfl,Lu (by decide +kernel) ?_⟩⟩;have nt:p≠t:=aB h ht;exact⟨_,rfl,dk (by rw[aK nt];exact h) (by decide) rfl (q _ ((aL.refl H).new ht))⟩
 |say a=>
  obtain⟨p,rfl,h⟩:=hr;refine⟨_,rfl,Zw h rfl ?_⟩;refine⟨ZA,λt ht=>⟨t,_,rfl,.inr (eO.of aj),rfl,rfl,_,rfl,Ls (by decide +kernel) ?_⟩⟩;have nt:p≠t:=aB h ht;exact q _ ((aL.refl H).new ht)
 |jump to=>
  obtain⟨p,rfl,h⟩:=hr;refine⟨_,rfl,Zw h rfl ?_⟩;refine⟨ZA,λt ht=>⟨t,_,rfl,.inr (eO.of aj),rfl,rfl,_,rfl,Ls (by decide +kernel) ?_⟩⟩;have nt:p≠t:=aB h ht;exact q _ ((aL.refl H).new ht)
 |test a to=>
  obtain⟨p,rfl,h⟩:=hr;refine⟨_,rfl,Zw h rfl ?_⟩;refine⟨ZA,λt ht=>⟨t,_,rfl,.inr (eO.of aj),rfl,rfl,_,rfl,Ls (by decide +kernel) ?_⟩⟩;have nt:p≠t:=aB h ht;exact q _ ((aL.refl H).new ht)
 |give a=>
  obtain⟨p,rfl,h⟩:=hr;refine⟨_,rfl,Zw h rfl ?_⟩;refine⟨ZA,λt ht=>⟨t,_,rfl,.inr (eO.of aj),rfl,rfl,_,rfl,Ls (by decide +kernel) ?_⟩⟩;have nt:p≠t:=aB h ht;exact q _ ((aL.refl H).new ht)
def OE{K:Fg}{vs:List V}{H:Hp}{Q:VK}{E:XK}(h:ph K vs H Q E):A6 K {nx:=λ_ H'=>Q .non H',rt:=Q} (cI zp vs) H:=by
 obtain⟨v,r,rfl,hr,q⟩:=h;cases r with
 |num x z=>
  obtain⟨p,rfl,h⟩:=hr;refine⟨_,rfl,Zw h rfl (.inl ⟨rfl,_,rfl,Zv ?_⟩)⟩;exact⟨_,rfl,Zw h rfl (.inl ⟨rfl,_,rfl,Zv q⟩)⟩
 |op x s a b=>
  obtain⟨p,rfl,h⟩:=hr;refine⟨_,rfl,Zw h rfl (.inl ⟨rfl,_,rfl,Zv ?_⟩)⟩;exact⟨_,rfl,Zw h rfl (.inl ⟨rfl,_,rfl,Zv q⟩)⟩
 |call x k as=>
  obtain⟨p,q1,rfl,h,h1⟩:=hr;refine⟨_,rfl,Zw h rfl (.inl ⟨rfl,_,rfl,Zv ?_⟩)⟩;exact⟨_,rfl,Zw h rfl (.inl ⟨rfl,_,rfl,Zv q⟩)⟩
 |say a=>
  obtain⟨p,rfl,h⟩:=hr;refine⟨_,rfl,Zw h rfl (.inl ⟨rfl,_,rfl,Zv ?_⟩)⟩;exact⟨_,rfl,Zw h rfl (.inl ⟨rfl,_,rfl,Zv q⟩)⟩
 |jump to=>
  obtain⟨p,rfl,h⟩:=hr;exact⟨_,rfl,Zw h rfl (.inl ⟨rfl,_,rfl,ME ⟨_,rfl,Zw h rfl q⟩⟩)⟩
 |test a to=>
  obtain⟨p,rfl,h⟩:=hr;refine⟨_,rfl,Zw h rfl (.inl ⟨rfl,_,rfl,Zv ?_⟩)⟩;exact⟨_,rfl,Zw h rfl (.inl ⟨rfl,_,rfl,ME ⟨_,rfl,Zw h rfl q⟩⟩)⟩
 |give a=>
  obtain⟨p,rfl,h⟩:=hr;refine⟨_,rfl,Zw h rfl (.inl ⟨rfl,_,rfl,Zv ?_⟩)⟩;exact⟨_,rfl,Zw h rfl (.inl ⟨rfl,_,rfl,Zv q⟩)⟩
def Mc{K:Fg}{vs:List V}{H:Hp}{Q:VK}{E:XK}(h:qe K vs H Q E):Dx K {nx:=λ_ H'=>Q .non H',rt:=Q} (cI CA vs) H:=by
 obtain⟨rt,n,rvs,v,r,rfl,hrt,hv,hr,q⟩:=h;have hn:rvs[((n:Nat):Int).toNat]?=some v:=by simpa using hv
 have n0:(0:Int)<=((n:Nat):Int):=by lia
 have e1:(((n+1:Nat):Nat):Int)=(n:Int)+1:=by lia
 cases r with
 |num x z=>
  have hr0:=hr;obtain⟨p,rfl,h⟩:=hr;refine⟨_,rfl,_,rfl,dk hrt n0 hn (Zw h rfl ?_)⟩;refine⟨_,rfl,.inl ⟨rfl,_,rfl,Zv ?_⟩⟩;refine⟨_,rfl,.inl ⟨rfl,_,rfl,Zv ?_⟩⟩;refine⟨_,rfl,.inl ⟨rfl,_,rfl,Zv ?_⟩⟩;exact⟨_,rfl,.inl ⟨_,_,rfl,rfl,⟨Zy,λt ht=>q t _ (by rw[aj];first|rfl|(unfold cW eG;simp only[aV,de,e1])) ((aL.refl H).new ht)⟩⟩⟩
 |op x s a b=>
  have hr0:=hr;obtain⟨p,rfl,h⟩:=hr;refine⟨_,rfl,_,rfl,dk hrt n0 hn (Zw h rfl ?_)⟩;refine⟨_,rfl,.inl ⟨rfl,_,rfl,Zv ?_⟩⟩;refine⟨_,rfl,.inl ⟨rfl,_,rfl,Zv ?_⟩⟩;refine⟨_,rfl,.inl ⟨rfl,_,rfl,Zv ?_⟩⟩;exact⟨_,rfl,.inl ⟨_,_,rfl,rfl,⟨Zy,λt ht=>q t _ (by rw[aj];first|rfl|(unfold cW eG;simp only[aV,de,e1])) ((aL.refl H).new ht)⟩⟩⟩
 |call x k as=>
  have hr0:=hr;obtain⟨p,q1,rfl,h,h1⟩:=hr;refine⟨_,rfl,_,rfl,dk hrt n0 hn (Zw h rfl ?_)⟩;refine⟨_,rfl,.inl ⟨rfl,_,rfl,Zv ?_⟩⟩;refine⟨_,rfl,.inl ⟨rfl,_,rfl,Zv ?_⟩⟩;refine⟨_,rfl,.inl ⟨rfl,_,rfl,Zv ?_⟩⟩;exact⟨_,rfl,.inl ⟨_,_,rfl,rfl,⟨Zy,λt ht=>q t _ (by rw[aj];first|rfl|(unfold cW eG;simp only[aV,de,e1])) ((aL.refl H).new ht)⟩⟩⟩
 |say a=>
  have hr0:=hr;obtain⟨p,rfl,h⟩:=hr;refine⟨_,rfl,_,rfl,dk hrt n0 hn (Zw h rfl ?_)⟩;refine⟨_,rfl,.inl ⟨rfl,_,rfl,Zv ?_⟩⟩;refine⟨_,rfl,.inl ⟨rfl,_,rfl,Zv ?_⟩⟩;refine⟨_,rfl,.inl ⟨rfl,_,rfl,Zv ?_⟩⟩;exact⟨_,rfl,.inl ⟨_,_,rfl,rfl,⟨Zy,λt ht=>q t _ (by rw[aj];first|rfl|(unfold cW eG;simp only[aV,de,e1])) ((aL.refl H).new ht)⟩⟩⟩
 |jump to=>
  have hr0:=hr;obtain⟨p,rfl,h⟩:=hr;refine⟨_,rfl,_,rfl,dk hrt n0 hn (Zw h rfl ?_)⟩;refine⟨_,rfl,.inl ⟨rfl,_,rfl,Zv ?_⟩⟩;refine⟨_,rfl,.inl ⟨rfl,_,rfl,ME ?_⟩⟩;exact⟨_,rfl,_,rfl,dk hrt n0 hn ⟨_,_,rfl,hr0,⟨Zy,λt ht=>q t _ (by rw[aj];first|rfl|(unfold cW eG;simp only[aV,de,e1])) ((aL.refl H).new ht)⟩⟩⟩
 |test a to=>
  have hr0:=hr;obtain⟨p,rfl,h⟩:=hr;refine⟨_,rfl,_,rfl,dk hrt n0 hn (Zw h rfl ?_)⟩;refine⟨_,rfl,.inl ⟨rfl,_,rfl,Zv ?_⟩⟩;refine⟨_,rfl,.inl ⟨rfl,_,rfl,Zv ?_⟩⟩;refine⟨_,rfl,.inl ⟨rfl,_,rfl,ME ?_⟩⟩;exact⟨_,rfl,.inl ⟨_,_,rfl,rfl,⟨_,rfl,_,rfl,dk hrt n0 hn ⟨_,_,rfl,hr0,⟨Zz,λt ht=>q t _ (by rw[aj];first|rfl|(unfold cW eG;simp only[aV,de,e1])) ((aL.refl H).new ht)⟩⟩⟩⟩⟩
 |give a=>
  have hr0:=hr;obtain⟨p,rfl,h⟩:=hr;refine⟨_,rfl,_,rfl,dk hrt n0 hn (Zw h rfl ?_)⟩;refine⟨_,rfl,.inl ⟨rfl,_,rfl,ME ?_⟩⟩;exact⟨Zx,λt ht=>q t _ (by rw[aj];first|rfl|(unfold cW eG;simp only[aV,de,e1])) ((aL.refl H).new ht)⟩
def Wl{K:Fg}{rl nm pr kl la l:ar}{H H':Hp}{ys ps ls:List Str}{w:Str}{rs:List bS}{kss0:List (List Str)}{B i mm j0:Nat}{ms:List Nat}{refs:List V}{kss:List (List Str)}{more:Bool}{o8:Option V}{rt:VK}{bk:St->Hp->Prop}
  (hkl:H kl=none) (nla:la≠kl) (nl:l≠kl) (hw:w∈ls) (hm:mm<rs.length) (hmj:ms[j0]?=some mm) (hz:DZ ps kss) (hc:more=false->kss=kss0/\zA rs i kss0/\∀j',j'<j0->∀m km,ms[j']?=some m->kss0[m]?=some km->∀y∈km,y∈ls) (k:KJ kl H ys ps w rs.length H' refs kss) (hB:2*xg kss+more.toNat<=B) (hla:H' la=some (.lst (ls.map V.str))) (hl:H' l=some (.lst (cW ms))) :
  uq K {nx:=V9 rl nm pr kl H ys ps w rs B i la l ls ms kss0 (j0+1),rt:=rt,ct:=V9 rl nm pr kl H ys ps w rs B i la l ls ms kss0 (j0+1),bk:=bk} [some (.ref rl),some (.ref nm),some (.ref pr),some (.ref kl),some (.bl more),some (.int (i:Nat)),some (.ref la),some (.int (mm:Nat)),o8] H':=by
 obtain⟨am,km,e1,e2,nam,ham⟩:=k.get hm;obtain⟨k1,k2,k3⟩:=k.wit mm km e2;have e1':refs[((mm:Nat):Int).toNat]?=some (.ref am):=by simpa using e1
 refine .inl ⟨_,rfl,_,rfl,pS (cB.of k.at_) (by lia) e1' ⟨am,rfl,⟨_,cB.of ham⟩,λD hD=>?_⟩⟩;have nD:kl≠D:=aB k.at_ hD;have naD:am≠D:=aB ham hD;have nlaD:la≠D:=aB hla hD;have nlD:l≠D:=aB hl hD;refine hW (xs:=km.map V.str) (λj σ' H2=>∃o,σ'=[some (.ref rl),some (.ref nm),some (.ref pr),some (.ref kl),some (.bl more),some (.int (i:Nat)),some (.ref la),some (.int (mm:Nat)),o8,o]/\H2=upd H' D (.lst (((km.take j).filter λy=>decide (y∈ls)).map V.str))) ?_ ?_ ?_ ?_
 ·exact⟨none,rfl,rfl⟩
 ·rintro j σ' H2 _ ⟨o,_,rfl⟩;exact cB.of (by rw[aK naD];exact ham)
 ·rintro j x σ' H2 hx ⟨o,rfl,rfl⟩;rw[aQ] at hx;obtain⟨y,hy,rfl⟩:∃y,km[j]?=some y/\V.str y=x:=by
   cases e:km[j]? with
   |none=>rw[e] at hx;cases hx
   |some y=>rw[e] at hx;exact⟨y,rfl,Option.some.inj hx⟩
  have jl:j<km.length:=(ak.mp hy).1;have fl:((km.take j).filter λy=>decide (y∈ls)).length<=100:=b9 (fZ _ _) (by rw[a8];lia);have ft:=xG (λy=>decide (y∈ls)) km j y hy;refine⟨_,rfl,_,rfl,la,_,rfl,.inl (cB.of (by rw[aK nlaD];exact hla)),rfl,sZ _,_,rfl,?_⟩;show if lY (.str y) (ls.map V.str)=true then _ else _;rw[hU];refine bC (λhin=>?_) (λhin=>?_)
  ·refine⟨_,rfl,_,aj,cq (by rw[ae];lia),_,rfl,?_⟩;rw[EW,ft,if_pos (by simpa using hin),aN];rfl
  ·refine⟨_,rfl,?_⟩;rw[ft,if_neg (by simpa using hin),dU]
 ·rintro σ' H2 ⟨o,_,rfl⟩;have et:km.take (km.map V.str).length=km:=bJ (by rw[ae];exact aD _);rw[et];have fl:(km.filter λy=>decide (y∈ls)).length<=km.length:=fZ _ _;have fm:∀y∈km.filter (λy=>decide (y∈ls)),y∈ys:=λy hy=>k2 y (g7.mp hy).1;have fw:w∈km.filter (λy=>decide (y∈ls))\/(mm=0/\ps=[]):=k3.imp (λz=>g7.mpr ⟨z,by simpa using hw⟩) id;have fs:∀y∈km.filter (λy=>decide (y∈ls)),y∈km:=λy hy=>(g7.mp hy).1;have fe:¬(km.filter (λy=>decide (y∈ls))).length<km.length->∀y∈km,y∈ls:=λhn y hy=>by
   have:=List.length_filter_eq_length_iff.mp (qy (fZ (λy=>decide (y∈ls)) km) (y4.mp hn)) y hy;simpa using this
  generalize km.filter (λy=>decide (y∈ls))=kp at fl fm fw fs fe;have k':=k.grown ((aL.refl H').new (o:=.lst (kp.map V.str)) hD);have hla':(upd H' D (.lst (kp.map V.str))) la=some (.lst (ls.map V.str)):=by rw[aK nlaD];exact hla
  have hl':(upd H' D (.lst (kp.map V.str))) l=some (.lst (cW ms)):=by rw[aK nlD];exact hl
  have ham':(upd H' D (.lst (kp.map V.str))) am=some (.lst (km.map V.str)):=by rw[aK naD];exact ham
  have hD':(upd H' D (.lst (kp.map V.str))) D=some (.lst (kp.map V.str)):=aj;generalize upd H' D (.lst (kp.map V.str))=H3 at k' hla' hl' ham' hD';show uo K _ [some (.ref rl),some (.ref nm),some (.ref pr),some (.ref kl),some (.bl more),some (.int (i:Nat)),some (.ref la),some (.int (mm:Nat)),some (.ref D)] H3;refine⟨_,rfl,_,_,rfl,.inl ⟨_,cB.of hD',rfl⟩,_,rfl,_,rfl,pS (cB.of k'.at_) (by lia) e1' ⟨_,_,rfl,.inl ⟨_,cB.of ham',rfl⟩,_,_,rfl,rfl,_,rfl,bC (λhlt=>?_) (λhlt=>?_)⟩⟩
  ·rw[ae,ae] at hlt;refine⟨_,rfl,_,rfl,_,rfl,GD k'.at_ (by lia) (by rw[k'.vlen];simpa using hm) ?_⟩;have ei:((mm:Nat):Int).toNat=mm:=by simp
   rw[ei];have ss:=GH (kp:=kp) e2;refine⟨_,kss.set mm kp,true,_,_,rfl,k'.set hkl (Ne.symm nD) hD' ⟨by lia,fm,fw⟩,?_,by rw[aK nla];exact hla',by rw[aK nl];exact hl',hz.set e2 fs,λz=>by cases z⟩;have:(true:Bool).toNat=1:=rfl;lia
  ·rw[ae,ae] at hlt;refine⟨refs,kss,more,_,_,rfl,k',hB,hla',hl',hz,λhmo=>?_⟩;obtain⟨c1,c2,c3⟩:=hc hmo;refine⟨c1,c2,λj' hj' m km' hm' hk'=>?_⟩;by_cases cj:j'<j0
   ·exact c3 j' cj m km' hm' hk'
   ·have:j'=j0:=by lia
    subst this;rw[hmj] at hm';cases hm';rw[<-c1,e2] at hk';cases hk';exact fe (by lia)
def vk{ms:List Nat}{j:Nat}{x:V}(h:(cW ms)[j]?=some x):∃m,ms[j]?=some m/\x=.int (m:Nat):=by
 unfold cW at h;rw[aQ] at h;cases e:ms[j]? with
 |none=>rw[e] at h;cases h
 |some m=>rw[e] at h;exact⟨m,rfl,(Option.some.inj h).symm⟩
def Wk{K:Fg}{rl nm pr kl:ar}{H H':Hp}{ys ps:List Str}{cs:List Nat}{w:Str}{B i:Nat}{rvs:List V}{rs:List bS}{refs:List V}{kss:List (List Str)}{more:Bool}{o6 o7 o8:Option V}{rt:VK}{bk:St->Hp->Prop}
  (hkl:H kl=none) (hrl:H rl=some (.lst rvs)) (hA:cR (e6 H) rvs rs) (hOk:zD ys cs rs) (hE:rs.getLast?.map jT=some true) (hw0:ps=[]->∃z,rs[0]?=some (.num w z)) (hi:i<rs.length) (k:KJ kl H ys ps w rs.length H' refs kss) (hB:2*xg kss+more.toNat<=B) (hz:DZ ps kss) (hP:more=false->zA rs i kss) :
  oA K {nx:=UU rl nm pr kl H ys ps w rs B (i+1),rt:=rt,ct:=UU rl nm pr kl H ys ps w rs B (i+1),bk:=bk} [some (.ref rl),some (.ref nm),some (.ref pr),some (.ref kl),some (.bl more),some (.int (i:Nat)),o6,o7,o8] H':=by
 obtain⟨a,ks,e1,e2,na,ha⟩:=k.get hi;obtain⟨k1,k2,k3⟩:=k.wit i ks e2;obtain⟨v,r,f1,f2,hra⟩:=hA.get (i:=i) hi;obtain⟨p,xs,rfl,hp⟩:=hra.ref;have e1':refs[((i:Nat):Int).toNat]?=some (.ref a):=by simpa using e1
 have f1':rvs[((i:Nat):Int).toNat]?=some (.ref p):=by simpa using f1
 have nkl:rl≠kl:=aB hrl hkl;have ways:∀(la:ar) (ls:List Str) (H2:Hp),la≠kl->w∈ls->(∀y∈ls,y∈ks\/mJ r=.str y)->KJ kl H ys ps w rs.length H2 refs kss->H2 la=some (.lst (ls.map V.str))->
   ur K {nx:=UU rl nm pr kl H ys ps w rs B (i+1),rt:=rt,ct:=UU rl nm pr kl H ys ps w rs B (i+1),bk:=bk} [some (.ref rl),some (.ref nm),some (.ref pr),some (.ref kl),some (.bl more),some (.int (i:Nat)),some (.ref la),o7,o8] H2:=λla ls H2 nla hwl hls k2 hla=>by
  refine .inl ⟨_,rfl,_,rfl,rl,i,rvs,.ref p,r,rfl,.inl (k2.same _ _ hrl),f1,hra.mono (.of_same k2.same),λl hl=>?_⟩;have nl:l≠kl:=λz=>by rw[z,k2.at_] at hl;cases hl
  have nlal:la≠l:=aB hla hl;refine⟨l,rfl,⟨_,cB.of aj⟩,rS (xs:=cW (eG i r)) (λj=>V9 rl nm pr kl H ys ps w rs B i la l ls (eG i r) kss j) ?_ ?_ ?_ ?_⟩
  ·exact⟨refs,kss,more,_,_,rfl,k2.grown ((aL.refl H2).new hl),hB,by rw[aK nlal];exact hla,aj,hz,λhmo=>⟨rfl,hP hmo,λj' hj'=>absurd hj' (bW _)⟩⟩
  ·rintro j σ' H3 _ ⟨_,_,_,_,_,_,_,_,_,h3,_,_⟩;exact cB.of h3
  ·rintro j x σ' H3 hx ⟨refs3,kss3,more3,o73,o83,rfl,k3',hB3,hla3,hl3,hz3,hc3⟩;obtain⟨mm,hmm,rfl⟩:=vk hx;exact Wl hkl nla nl hwl (NQ f2 (hOk.rough r (aF f2)) hE hmm) hmm hz3 hc3 k3' hB3 hla3 hl3
  ·rintro σ' H3 ⟨refs3,kss3,more3,o73,o83,rfl,k3',hB3,hla3,hl3,hz3,hc3⟩;refine⟨refs3,kss3,more3,_,_,_,_,rfl,k3',hB3,hz3,λhmo=>?_⟩;obtain⟨c1,c2,c3⟩:=hc3 hmo;subst c1;intro n m r' ks' km hn hr' hm' hks' hkm y hy;by_cases cn:n<i
   ·exact c2 n m r' ks' km cn hr' hm' hks' hkm y hy
   ·have:n=i:=by lia
    subst this;rw[f2] at hr';cases hr';rw[e2] at hks';cases hks';obtain⟨j',hj',hmj⟩:=bV.mp hm';have hmj':(eG n r)[j']?=some m:=by rw[af hj',hmj]
    exact hls y (c3 j' (by rw[fA];exact hj') m km hmj' hkm y hy)
 refine⟨_,rfl,_,rfl,pS (cB.of k.at_) (by lia) e1' ?_⟩;show uu K _ [some (.ref rl),some (.ref nm),some (.ref pr),some (.ref kl),some (.bl more),some (.int (i:Nat)),some (.ref a),o7,o8] H';refine⟨_,rfl,_,rfl,pS (cB.of (k.same _ _ hrl)) (by lia) f1' (dk (k.same _ _ hp) (by decide) rfl ⟨ZA,λt ht=>⟨t,_,rfl,.inr (eO.of aj),rfl,rfl,_,rfl,?_⟩⟩)⟩;have sm:=(aL.refl H').new (o:=.tup [V.str "num",V.str "op",V.str "call"]) ht;have kt:=k.grown sm;have hat:=sm _ _ ha;generalize upd H' t (.tup [V.str "num",V.str "op",V.str "call"])=H1 at sm kt hat ⊢;refine i4 (λhb=>?_) (λhb=>?_)
 ·have hb':lY (.str (yM r)) [V.str "num",V.str "op",V.str "call"]=true:=hb;obtain⟨x,hx⟩:=Qk hb';obtain⟨xs',hp'⟩:=RH hra hx;refine⟨_,rfl,_,rfl,_,rfl,pS (cB.of (kt.same _ _ hrl)) (by lia) f1' (dk (kt.same _ _ hp') (by decide) rfl ⟨Zy,λp1 hp1=>?_⟩)⟩;have na1:a≠p1:=aB hat hp1;refine .inr (.inr (.inl ⟨a,p1,_,_,rfl,rfl,by rw[aK na1];exact hat,aj,?_,λp2 hp2=>?_⟩))
  ·have:=cq (n:=101) (by decide);rw[ae];show ks.length+1<=av;lia
  have k5:=(kt.grown ((aL.refl H1).new (o:=.lst [V.str x]) hp1)).grown ((aL.refl _).new (o:=.lst (ks.map V.str++[V.str x])) hp2);have np2:p2≠kl:=λz=>by
   have:=(kt.grown ((aL.refl H1).new (o:=.lst [V.str x]) hp1)).at_;rw[z,this] at hp2;cases hp2
  refine ways p2 (ks++[x]) _ np2 ?_ (λy hy=>(aT.mp hy).imp id λz=>by rw[aw.mp z];exact hx) k5 (by rw[aj,aN];rfl);rcases k3 with z|⟨z1,z2⟩
  ·exact bR _ z
  ·obtain⟨zz,hz⟩:=hw0 z2;subst z1;rw[f2] at hz;cases hz;cases hx;exact bD _ (aw.mpr rfl)
 ·refine ways a ks _ na ?_ (λy hy=>.inl hy) kt hat;rcases k3 with z|⟨z1,z2⟩
  ·exact z
  ·obtain⟨zz,hz⟩:=hw0 z2;subst z1;rw[f2] at hz;cases hz;exact absurd (show lY (.str "num") [V.str "num",V.str "op",V.str "call"]=false from hb) (by decide +kernel)
def Mh{α:Type}(n:Nat)(a:α):bG (n+1) a=bG n a++[a]:=by
 exact List.replicate_succ'
def Gu{K:Fg}{vs:List V}{H:Hp}{Q:VK}{E:XK}(h:qj K vs H Q E):ym K {nx:=λ_ H'=>Q .non H',rt:=Q} (cI m7 vs) H:=by
 obtain⟨rl,nm,pr,rvs,rs,ys,ps,cs,rfl,hrl,hA,hOk,hE,hnm,ysl,hpr,psl,pin,hnum,q⟩:=h;have n1:1<=rs.length:=cP.mpr hOk.pos;obtain⟨w,wy,wp,w0⟩:∃w:Str,w∈ys/\(ps≠[]->w∈ps)/\(ps=[]->∃z,rs[0]?=some (.num w z)):=by
  cases ps with
  |cons p r=>exact⟨p,pin p bZ,λ_=>bZ,λz=>by cases z⟩
  |nil=>
   have h0:=hnum rfl;rw[jK] at h0;cases e:rs[0]? with
   |none=>rw[e] at h0;cases h0
   |some r=>
    rw[e,cv] at h0;cases r with
    |num x z=>exact⟨x,(hOk.rough _ (aF e)).1,λz=>absurd rfl z,λ_=>⟨z,rfl⟩⟩
    |_=>cases h0
 refine .inl ⟨_,rfl,rl,rfl,⟨_,cB.of hrl⟩,λkl hkl=>?_⟩;have nrl:rl≠kl:=aB hrl hkl;have nnm:nm≠kl:=aB hnm hkl;have npr:pr≠kl:=aB hpr hkl;refine hW (xs:=rvs) (λj σ' H'=>∃(refs:List V) (o:Option V),σ'=[some (.ref rl),some (.ref nm),some (.ref pr),none,none,none,none,none,none,o]/\H' kl=some (.lst refs)/\cR (R5 kl H') refs (bG j ys)/\aL H H') ?_ ?_ ?_ ?_
 ·exact⟨[],none,rfl,aj,.nil,(aL.refl H).new hkl⟩
 ·rintro j σ' H' _ ⟨_,_,_,_,_,s⟩;exact cB.of (s _ _ hrl)
 ·rintro j x σ' H' hx ⟨refs,o,rfl,hk,ha,s⟩;refine jc ?_;have jl:j<rvs.length:=(ak.mp hx).1;have rl100:rvs.length<=100:=by rw[hA.len];exact hOk.few
  have rlen:refs.length=j:=by rw[ha.len,c9]
  refine⟨_,rfl,nm,_,rfl,.inl (cB.of (s _ _ hnm)),λa ha0=>?_⟩;have nak:kl≠a:=aB hk ha0;refine⟨refs,by rw[aK nak];exact hk,cq (by lia),refs++[.ref a],_,rfl,aj,?_,λb o h=>?_⟩
  ·rw[Mh];refine cR.snoc (ha.imp λ_ _ z=>(z.same ((aL.refl H').new ha0)).upd) ⟨a,rfl,Ne.symm nak,?_⟩;rw[aK (Ne.symm nak),aj]
  ·have h1:=s b o h;rw[aK (aB h hkl),aK (aB h1 ha0)];exact h1
 ·rintro σ' H1 ⟨refs,o,_,hk,ha,s⟩;rw[hA.len] at ha;have rlen:refs.length=rs.length:=by rw[ha.len,c9]
  show sP K _ [some (.ref rl),some (.ref nm),some (.ref pr),some (.ref kl),none,none,none,none,none] H1;refine⟨_,rfl,pr,_,rfl,.inl (cB.of (s _ _ hpr)),λa ha0=>?_⟩;have nak:kl≠a:=aB hk ha0;have K0:KJ kl H ys [] w rs.length H1 refs (bG rs.length ys):=⟨hk,ha,by rw[c9],λi ks e=>by
   have hm:=aF e;rw[List.mem_replicate] at hm;rw[hm.2];exact⟨ysl,λy hy=>hy,.inl wy⟩,s⟩
  have K1:=K0.grown ((aL.refl H1).new (o:=.lst (ps.map V.str)) ha0);refine⟨_,rfl,GD K1.at_ (by decide) (by rw[rlen];exact n1) ?_⟩;have K2:KJ kl H ys ps w rs.length (upd (upd H1 a (.lst (ps.map V.str))) kl (.lst (refs.set 0 (.ref a)))) (refs.set 0 (.ref a)) ((bG rs.length ys).set 0 ps):=by
   have z:=K1.set (m:=0) (kp:=ps) (a:=a) hkl (Ne.symm nak) aj ⟨psl,pin,.inr ⟨rfl,rfl⟩⟩;refine⟨z.at_,z.all,z.len,λi ks e=>?_,z.same⟩;by_cases c:0=i
   ·subst c;rw[bI (by rw[c9];exact n1)] at e;cases e;refine⟨psl,pin,?_⟩;by_cases e:ps=[]
    ·exact .inr ⟨rfl,e⟩
    ·exact .inl (wp e)
   ·obtain⟨z1,z2,z3⟩:=z.wit i ks e;refine⟨z1,z2,?_⟩;rcases z3 with z3|z3
    ·exact .inl z3
    ·exact absurd z3.1.symm c
  show sO K _ [some (.ref rl),some (.ref nm),some (.ref pr),some (.ref kl),none,none,none,none,none] (upd (upd H1 a (.lst (ps.map V.str))) kl (.lst (refs.set 0 (.ref a))));generalize upd (upd H1 a (.lst (ps.map V.str))) kl (.lst (refs.set 0 (.ref a)))=H2 at K2 ⊢;generalize refs.set 0 (.ref a)=refs2 at K2;have Z2:DZ ps ((bG rs.length ys).set 0 ps):=λks e y hy=>by
   rw[bI (by rw[c9];exact n1)] at e;cases e;exact hy
  generalize (bG rs.length ys).set 0 ps=kss2 at K2 Z2;show sM K _ [some (.ref rl),some (.ref nm),some (.ref pr),some (.ref kl),some (.bl true),none,none,none,none] H2;refine⟨λm σ' H'=>∃(refs:List V) (kss:List (List Str)) (more:Bool) (o5 o6 o7 o8:Option V),σ'=[some (.ref rl),some (.ref nm),some (.ref pr),some (.ref kl),some (.bl more),o5,o6,o7,o8]/\KJ kl H ys ps w rs.length H' refs kss/\DZ ps kss/\(more=false->zA rs rs.length kss)/\2*xg kss+more.toNat=m,⟨_,refs2,kss2,true,_,_,_,_,rfl,K2,Z2,(λz=>by cases z),rfl⟩,?_⟩;rintro m σ' H' ⟨refs3,kss3,more,o5,o6,o7,o8,rfl,K3,Z3,P3,hm⟩;refine⟨_,rfl,more,rfl,i4 (λhmore=>?_) (λhmore=>?_)⟩
  ·subst hmore;refine⟨UU rl nm pr kl H ys ps w rs (2*xg kss3) rs.length,?_,?_⟩
   ·rintro σ4 H4 ⟨refs4,kss4,more4,p5,p6,p7,p8,rfl,K4,hB,Z4,P4⟩;refine⟨_,?_,refs4,kss4,more4,_,_,_,_,rfl,K4,Z4,P4,rfl⟩;have:(true:Bool).toNat=1:=rfl;lia
   ·-- more=False;for n in range(len(rows))
    show uv K _ [some (.ref rl),some (.ref nm),some (.ref pr),some (.ref kl),some (.bl false),o5,o6,o7,o8] H';have hlr:=K3.same _ _ hrl;refine⟨_,rfl,_,_,rfl,.inl ⟨_,cB.of hlr,rfl⟩,_,rfl,by lia,by rw[hA.len];have:=hOk.few;lia,jy (λi=>UU rl nm pr kl H ys ps w rs (2*xg kss3) i) ⟨refs3,kss3,false,_,_,_,_,rfl,K3,by simp,Z3,λ_ n _ _ _ _ hn=>absurd hn (bW _)⟩ ?_ ?_⟩
    ·rintro i σ5 H5 hi ⟨refs5,kss5,more5,p5,p6,p7,p8,rfl,K5,hB,Z5,P5⟩;have hi:i<rs.length:=by rw[hA.len] at hi;simpa using hi
     have e0:(0:Int)+(i:Int)=((i:Nat):Int):=by lia
     show oA K _ [some (.ref rl),some (.ref nm),some (.ref pr),some (.ref kl),some (.bl more5),some (.int ((0:Int)+(i:Int))),p6,p7,p8] H5;rw[e0];exact Wk hkl hrl hA hOk hE w0 hi K5 hB Z5 P5
    ·rintro σ5 H5 h5;rw[hA.len,dJ] at h5;exact h5
  ·refine⟨_,rfl,q kl refs3 kss3 H' hkl K3.at_ (K3.all.imp λ_ _ ⟨a,e,_,h⟩=>⟨a,e,h⟩) K3.len (λi ks e=>?_) ⟨Z3,λn m r ks km hr hm hks hkm=>P3 hmore n m r ks km (ak.mp hr).1 hr hm hks hkm⟩ K3.same⟩;obtain⟨z1,z2,z3⟩:=K3.wit i ks e;refine⟨z1,z2,z3.imp (λz e=>?_) id⟩;rw[e] at z;cases z
def WB(st nm cn fd wl:ar)(m:Nat)(f:Int)(ws ys:List Str)(cs:List Nat)(H:Hp)(K:Fg)(k i:Nat):St->Hp->Prop:=λσ' H'=>∃(pvs:List V) (bs:List eF) (k':Nat) (o7 o8 o9 o10:Option V),σ'=[some (.ref st),some (.int (m:Nat)),some (.int f),some (.ref wl),some (.ref nm),some (.ref cn),some (.ref fd),o7,o8,o9,o10]/\
 H' fd=some (.lst pvs)/\cR (mE H') pvs bs/\bs.length=i/\(∀b∈bs,rO ys cs b/\b.rows.length<=m+1)/\bs.map (·.name)=ws.take i/\bs.map (·.params.length)=cs.take i/\lF K H' st k'/\k'<=k+1001*i/\Bo st fd H H'
def Me{K:Fg}{vs:List V}{H:Hp}{Q:VK}{E:XK}(h:uL K vs H Q E):Dz K {nx:=λ_ H'=>Q .non H',rt:=Q} (cI v7 vs) H:=by
 obtain⟨st,m,k,rfl,S,hk,m1,m50,q⟩:=h;obtain⟨scr,ns,c,hst,hscr,hns⟩:=id S;refine⟨_,rfl,pS (cB.of hst) (by decide) rfl ⟨_,rfl,.inl ⟨scr,_,rfl,hscr.sq,λp hp=>?_⟩⟩⟩;rw[show((1:Int))=((1:Nat):Int) from rfl,mF,<-fP];refine⟨p,ns.take 1,rfl,cB.of aj,λz=>⟨_,_,rfl,rfl,⟨by decide,by decide⟩,_,_,rfl,rfl,(by show(0:Int)<16;decide),.inl ⟨rfl,.inr ⟨_,rfl,?_⟩⟩⟩⟩;have S1:=S.new (o:=.lst ((ns.take 1).map V.int)) hp;have B1:=(iq.refl st H).new (o:=.lst ((ns.take 1).map V.int)) hp;generalize upd H p (.lst ((ns.take 1).map V.int))=H1 at S1 B1 ⊢;obtain⟨f,hf,f01⟩:∃f:Int,(if decide (V.int (z / 4 % 16)=V.int 5)=true then(1:Int) else 0)=f/\(f=0\/f=1):=by
  cases decide (V.int (z / 4 % 16)=V.int 5) with
  |true=>exact⟨1,rfl,.inr rfl⟩
  |false=>exact⟨0,rfl,.inl rfl⟩
 rw[hf];show yg K _ [some (.ref st),some (.int (m:Nat)),some (.int f),none,none,none,none,none,none,none,none] H1;refine⟨_,rfl,st,5,k,rfl,S1,by lia,by decide,λl ws k1 H2 hl wl wnd wok h2 S2 l2 B2=>?_⟩;have nl:l≠st:=λz=>by obtain⟨_,e⟩:=S1.lst;rw[z,e] at hl;cases hl
 refine⟨_,rfl,st,3,k1,rfl,S2,by lia,by decide,by decide,λd H3 d0 d1 S3 B3=>.inl ⟨_,_,rfl,rfl,Zz,λl4 hl4=>?_⟩⟩;have h3:=B3 l _ nl h2;have S4:=S3.new (o:=.lst [V.int (1+d),V.int 5]) hl4;have B4:=(((B1.trans B2).trans B3).new (o:=.lst [V.int (1+d),V.int 5]) hl4);have h4:(upd H3 l4 (.lst [V.int (1+d),V.int 5])) l=some (.lst (ws.map V.str)):=by rw[aK (aB h3 hl4)];exact h3
 have g4:(upd H3 l4 (.lst [V.int (1+d),V.int 5])) l4=some (.lst [V.int (1+d),V.int 5]):=aj;have words:∀c5:Nat,1<=c5->c5<=5->vR K (V.ref l) none (some (c5:Int)) (upd H3 l4 (.lst [V.int (1+d),V.int 5])) λx H1=>yf K {nx:=λ_ H'=>Q .non H',rt:=Q} [some (.ref st),some (.int (m:Nat)),some (.int f),some x,none,none,none,none,none,none,none] H1:=λc5 c1 c2=>by
  generalize upd H3 l4 (.lst [V.int (1+d),V.int 5])=H4 at S4 B4 h4;refine .inl ⟨l,_,rfl,cB.of h4,λwp hwp=>?_⟩;rw[mF,<-fP];have wlen:(ws.take c5).length=c5:=by rw[a8];lia
  have S5:=S4.new (o:=.lst ((ws.take c5).map V.str)) hwp;have B5:=B4.new (o:=.lst ((ws.take c5).map V.str)) hwp;have h5:(upd H4 wp (.lst ((ws.take c5).map V.str))) wp=some (.lst ((ws.take c5).map V.str)):=aj;have nwp:wp≠st:=λz=>by obtain⟨_,e⟩:=S4.lst;rw[z,e] at hwp;cases hwp
  have wwnd:(ws.take c5).Nodup:=(jM c5 ws).nodup wnd;have wwnm:∀y∈ws.take c5,Nm y:=λy hy=>wok y (dR hy);generalize ws.take c5=ww at wlen S5 B5 h5 wwnd wwnm ⊢;generalize upd H4 wp (.lst (ww.map V.str))=H5 at S5 B5 h5 ⊢;refine⟨_,rfl,_,rfl,st,5,k1+1,rfl,S5,by lia,by decide,by decide,λe H6 e0 e1 S6 B6=>.inl ⟨_,_,rfl,rfl,?_⟩⟩;obtain⟨n,hn,n2,n6⟩:∃n:Nat,(2:Int)+e=(n:Int)/\2<=n/\n<=6:=⟨(2+e).toNat,by lia,by lia,by lia⟩;refine⟨st,n,k1+2,by show[V.ref st,V.int (2+e)]=_;rw[hn],S6,by lia,by lia,λnm ys k7 H7 hnm yl ynd yok h7 S7 l7 B7=>?_⟩;have nnm:nm≠st:=λz=>by obtain⟨_,e⟩:=S6.lst;rw[z,e] at hnm;cases hnm
  have nwn:wp≠nm:=aB (B6 wp _ nwp h5) hnm;have w7:=B7 wp _ nwp (B6 wp _ nwp h5);have BH7:=(B5.trans B6).trans B7;have yne:∀y∈ys,y≠"":=λy hy=>(yok y hy).ne;have ysne:ys≠[]:=λz=>by rw[z] at yl;simp at yl;lia
  show ye K _ [some (.ref st),some (.int (m:Nat)),some (.int f),some (.ref wp),some (.ref nm),none,none,none,none,none,none] H7;refine .inl ⟨_,rfl,wp,rfl,⟨_,cB.of w7⟩,λcn hcn=>?_⟩;have ncn:cn≠st:=λz=>by obtain⟨_,e⟩:=S7.lst;rw[z,e] at hcn;cases hcn
  have nwc:wp≠cn:=aB w7 hcn;have nnc:nm≠cn:=aB h7 hcn;refine hW (xs:=ww.map V.str) (λi σ' H'=>∃(cs:List Nat) (k':Nat) (o:Option V),σ'=[some (.ref st),some (.int (m:Nat)),some (.int f),some (.ref wp),some (.ref nm),none,none,o,none,none,none]/\H' cn=some (.lst (cW cs))/\cs.length=i/\(∀x∈cs,x<=4/\x<=ys.length)/\lF K H' st k'/\k'<=k7+i/\iq st H7 H') ?_ ?_ ?_ ?_
  ·exact⟨[],k7,none,rfl,aj,rfl,by simp,S7.new hcn,by lia,(iq.refl st H7).new hcn⟩
  ·rintro i σ' H' _ ⟨_,_,_,_,_,_,_,_,_,B⟩;exact cB.of (B wp _ nwp w7)
  ·rintro i x σ' H' hx ⟨cs,k',o,rfl,hc,cl,c4,S',hk',B'⟩;have il:i<ww.length:=by have:=(ak.mp hx).1;rw[ae] at this;exact this
   refine jc ⟨_,rfl,_,rfl,_,_,rfl,.inl ⟨_,cB.of (B' nm _ nnm h7),rfl⟩,_,_,rfl,.inl ⟨_,_,rfl,rfl,?_⟩⟩;rw[ae];refine⟨st,_,k',rfl,S',by lia,?_,?_,λg H8 g0 g1 S8 B8=>?_⟩
   ·by_cases z:((ys.length:Nat):Int)<4
    ·rw[if_pos z];lia
    ·rw[if_neg z];lia
   ·by_cases z:((ys.length:Nat):Int)<4
    ·rw[if_pos z];lia
    ·rw[if_neg z];lia
   obtain⟨gn,rfl⟩:∃j:Nat,g=(j:Int):=⟨g.toNat,by lia⟩;have g4:gn<=4/\gn<=ys.length:=by
    by_cases z:((ys.length:Nat):Int)<4
    ·rw[if_pos z] at g1;lia
    ·rw[if_neg z] at g1;lia
   have h8:=B8 cn _ ncn hc;refine⟨_,h8,cq (by rw[fA];lia),cs++[gn],k'+1,_,rfl,?_,by simp[cl],λx hx=>?_,S8.mono .upd_at h8 (Ne.symm ncn),by lia,?_⟩
   ·rw[aj];unfold cW;rw[aN];rfl
   ·rcases aT.mp hx with z|z
    ·exact c4 x z
    ·rw[aw.mp z];exact g4
   ·exact iq.past (B'.trans B8) hcn .upd_at
  ·rintro σ' H8 ⟨cs,k8,o,_,hc,cl,c4,S8,hk8,B8⟩;rw[ae] at cl hk8;have csne:cs≠[]:=λz=>by rw[z] at cl;simp at cl;lia
   have w8:=B8 wp _ nwp w7;have n8:=B8 nm _ nnm h7;have BH8:=BH7.trans B8;show yd K _ [some (.ref st),some (.int (m:Nat)),some (.int f),some (.ref wp),some (.ref nm),some (.ref cn),none,none,none,none,none] H8;refine⟨Zx,λfd hfd=>?_⟩;have nfd:fd≠st:=λz=>by obtain⟨_,e⟩:=S8.lst;rw[z,e] at hfd;cases hfd
   have s9:aL H8 (upd H8 fd (.lst [])):=(aL.refl H8).new hfd;have g9:(upd H8 fd (.lst [])) fd=some (.lst []):=aj;have HF:H fd=none:=BH8.free nfd hfd;have nwf:wp≠fd:=aB w8 hfd;have nnf:nm≠fd:=aB n8 hfd;have ncf:cn≠fd:=aB hc hfd;show yc K _ [some (.ref st),some (.int (m:Nat)),some (.int f),some (.ref wp),some (.ref nm),some (.ref cn),some (.ref fd),none,none,none,none] (upd H8 fd (.lst []));generalize upd H8 fd (.lst [])=H9 at s9 g9 ⊢;refine⟨_,rfl,_,rfl,wp,cn,rfl,⟨_,cB.of (s9 _ _ w8)⟩,⟨_,cB.of (s9 _ _ hc)⟩,Qf (xs:=ww.map V.str) (ys:=cW cs) (by rw[ae,fA,cl]) (WB st nm cn fd wp m f ww ys cs H9 K k8) ?_ ?_ ?_ ?_⟩
   ·exact⟨[],[],k8,none,none,none,none,rfl,g9,.nil,rfl,by simp,rfl,rfl,S8.same s9,by lia,.refl _ _ _⟩
   ·rintro i σ' H' _ ⟨_,_,_,_,_,_,_,_,_,_,_,_,_,_,_,_,B⟩;exact⟨cB.of (B wp _ nwp nwf (s9 _ _ w8)),cB.of (B cn _ ncn ncf (s9 _ _ hc))⟩
   ·rintro i x y σ' H' tp hx hy htp ⟨pvs,bs,k',o7,o8,o9,o10,rfl,hpv,hA,bl,b100,bnm,bct,S',hk',B'⟩;have il:i<ww.length:=by have:=(ak.mp hx).1;rw[ae] at this;exact this
    obtain⟨c,hcc,rfl⟩:=vk hy;rw[aQ,af il] at hx;obtain⟨w,hw,rfl⟩:∃w:Str,ww[i]?=some w/\x=.str w:=⟨ww[i],af il,(Option.some.inj hx).symm⟩;have s2:aL H' (upd H' tp (.tup [.str w,.int (c:Nat)])):=(aL.refl H').new htp;have g2:(upd H' tp (.tup [.str w,.int (c:Nat)])) tp=some (.tup [.str w,.int (c:Nat)]):=aj;generalize upd H' tp (.tup [.str w,.int (c:Nat)])=H10 at s2 g2 ⊢;refine⟨tp,_,rfl,eO.of g2,rfl,_,_,rfl,_,_,rfl,rfl,?_⟩;show yb K _ [some (.ref st),some (.int (m:Nat)),some (.int f),some (.ref wp),some (.ref nm),some (.ref cn),some (.ref fd),some (.str w),some (.int (c:Nat)),o9,o10] H10;have nm10:=s2 _ _ (B' nm _ nnm nnf (s9 _ _ n8));have cn10:=s2 _ _ (B' cn _ ncn ncf (s9 _ _ hc));have fd10:=s2 _ _ hpv;refine⟨_,rfl,_,rfl,_,_,rfl,.inl ⟨_,cB.of nm10,rfl⟩,st,_,k',rfl,S'.same s2,by lia,by rw[ae];lia,by rw[ae];lia,λt H11 t0 t1 S11 B11=>?_⟩;obtain⟨tn,rfl⟩:∃j:Nat,t=(j:Int):=⟨t.toNat,by lia⟩;show ya K _ [some (.ref st),some (.int (m:Nat)),some (.int f),some (.ref wp),some (.ref nm),some (.ref cn),some (.ref fd),some (.str w),some (.int (c:Nat)),some (.int (tn:Nat)),o10] H11;have nm11:=B11 nm _ nnm nm10;have cn11:=B11 cn _ ncn cn10;have fd11:=B11 fd _ nfd fd10;refine⟨_,rfl,_,rfl,_,rfl,.inl ⟨nm,_,rfl,cB.of nm11,λa1 ha1=>?_⟩⟩;rw[zM,<-nK];have nm12:(upd H11 a1 (.lst ((ys.drop tn).map V.str))) nm=some (.lst (ys.map V.str)):=by rw[aK (aB nm11 ha1)];exact nm11
    refine⟨_,rfl,_,rfl,_,rfl,.inl ⟨nm,_,rfl,cB.of nm12,λa2 ha2=>?_⟩⟩;rw[mF,<-fP];have n12:a1≠a2:=aB aj ha2;refine .inr (.inr (.inl ⟨a1,a2,_,_,rfl,rfl,by rw[aK n12,aj],aj,?_,λa3 ha3=>?_⟩))
    ·have:=cq (n:=100) (by decide);rw[ae,ae,dW,a8];lia
    rw[<-aN];refine⟨_,rfl,_,rfl,.inl ⟨a3,_,rfl,cB.of aj,λpr hpr=>?_⟩⟩;rw[mF,<-fP];have pin:∀y∈(ys.drop tn++ys.take tn).take c,y∈ys:=λy hy=>by
     rcases aT.mp (dR hy) with z|z
     ·exact gm z
     ·exact dR z
    have pnd:((ys.drop tn++ys.take tn).take c).Nodup:=by
     refine(jM c _).nodup ?_;have z:(ys.take tn++ys.drop tn).Nodup:=by rw[eY];exact ynd
     exact(List.perm_append_comm.nodup_iff).mp z
    have plc:((ys.drop tn++ys.take tn).take c).length=c:=by
     have:=(c4 c (aF hcc)).2;rw[a8,aG,dW,a8];lia
    have pl:((ys.drop tn++ys.take tn).take c).length<=100:=by
     rw[a8,aG,dW,a8];lia
    have s13:aL H11 (upd (upd (upd (upd H11 a1 (.lst ((ys.drop tn).map V.str))) a2 (.lst ((ys.take tn).map V.str))) a3 (.lst ((ys.drop tn++ys.take tn).map V.str))) pr (.lst (((ys.drop tn++ys.take tn).take c).map V.str))):=((((aL.refl H11).new ha1).new ha2).new ha3).new hpr;have g13:(upd (upd (upd (upd H11 a1 (.lst ((ys.drop tn).map V.str))) a2 (.lst ((ys.take tn).map V.str))) a3 (.lst ((ys.drop tn++ys.take tn).map V.str))) pr (.lst (((ys.drop tn++ys.take tn).take c).map V.str))) pr=some (.lst (((ys.drop tn++ys.take tn).take c).map V.str)):=aj;show x9 K _ [some (.ref st),some (.int (m:Nat)),some (.int f),some (.ref wp),some (.ref nm),some (.ref cn),some (.ref fd),some (.str w),some (.int (c:Nat)),some (.int (tn:Nat)),some (.ref pr)] (upd (upd (upd (upd H11 a1 (.lst ((ys.drop tn).map V.str))) a2 (.lst ((ys.take tn).map V.str))) a3 (.lst ((ys.drop tn++ys.take tn).map V.str))) pr (.lst (((ys.drop tn++ys.take tn).take c).map V.str)));generalize upd (upd (upd (upd H11 a1 (.lst ((ys.drop tn).map V.str))) a2 (.lst ((ys.take tn).map V.str))) a3 (.lst ((ys.drop tn++ys.take tn).map V.str))) pr (.lst (((ys.drop tn++ys.take tn).take c).map V.str))=H13 at s13 g13 ⊢;generalize (ys.drop tn++ys.take tn).take c=ps at pin pl pnd plc g13;have S13:=S11.same s13;have npr:pr≠st:=λz=>by
     have:=KA S13 (v:=.ref pr) ⟨pr,rfl,g13⟩;exact this (by rw[z])
    have fd13:=s13 _ _ fd11;refine⟨_,rfl,.inl ⟨rfl,_,cB.of fd13⟩,_,rfl,_,rfl,_,rfl,_,rfl,_,rfl,_,rfl,st,nm,pr,cn,w,m,k'+1,ys,ps,cs,rfl,S13,by lia,s13 _ _ nm11,ysne,by lia,yne,g13,pl,pnd,pin,s13 _ _ cn11,csne,by lia,λx hx=>(c4 x hx).1,m1,m50,nnm,npr,ncn,λv b k14 H14 hv hbn hbp bok br S14 l14 B14=>?_⟩;have fd14:=B14 fd _ nfd fd13;obtain⟨_,e11⟩:=(S'.same s2).lst;obtain⟨_,e13⟩:=S13.lst;have t14:Tp H' H14:=(((Tp.of_same s2).trans (.of_but B11 e11)).trans (.of_same s13)).trans (.of_but B14 e13);have t15:Tp H14 (upd H14 fd (.lst (pvs++[v]))):=(Tp.refl H14).lst fd14;refine⟨fd,_,_,rfl,rfl,fd14,cq (by rw[hA.len];lia),?_⟩;refine⟨pvs++[v],bs++[b],k14,_,_,_,_,rfl,aj,(hA.imp λ_ _ z=>(z.mono t14).mono t15).snoc (hv.mono t15),by simp[bl],λb' hb'=>(aT.mp hb').elim (b100 b') (λz=>by rw[aw.mp z];exact⟨bok,br⟩),by rw[aN,bnm,bL,hw,List.map_singleton,hbn];rfl,by rw[aN,bct,bL,hcc,List.map_singleton,hbp,plc];rfl,S14.mono .upd_at fd14 (Ne.symm nfd),by lia,?_⟩;exact λe u n1 n2 h=>by rw[aK n2];exact B14 e u n1 (s13 _ _ (B11 e u n1 (s2 _ _ (B' e u n1 n2 h))))
   ·rintro σ' H' ⟨pvs,bs,k',o7,o8,o9,o10,rfl,hpv,hA,bl,b100,bnm,bct,S',hk',B'⟩;rw[ae] at bl hk';refine⟨_,rfl,fd,_,rfl,.inl ⟨cB.of hpv,λl hl=>?_⟩⟩;rw[ae,<-cl] at bct;rw[ae] at bnm;rw[kj] at bnm bct;have ok:wg ys cs bs:=⟨ynd,yok,by lia,by lia,by lia,by lia,by rw[bnm];exact wwnd,λb hb=>wwnm _ (by rw[<-bnm];exact List.mem_map_of_mem hb),bct,λx hx=>(c4 x hx).1,λb hb=>(b100 b hb).1⟩;refine q l pvs bs ys cs k' _ aj (hA.imp λ_ _ z=>z.mono ((Tp.refl H').new hl)) ok (λb hb=>(b100 b hb).2) (S'.new hl) (by lia) (iq.new ?_ hl);exact λe u n1 h=>B' e u n1 (aB h HF) (s9 _ _ (BH8 e u n1 h))
 rcases f01 with rfl|rfl
 ·refine⟨_,rfl,pS (cB.of g4) (by decide) rfl ⟨_,rfl,?_⟩⟩;obtain⟨c5,h5,c1,c2⟩:∃c5:Nat,(1:Int)+d=(c5:Int)/\1<=c5/\c5<=5:=⟨(1+d).toNat,by lia,by lia,by lia⟩;have z:=words c5 c1 c2;rw[<-h5] at z;exact z
 ·refine⟨_,rfl,pS (cB.of g4) (by decide) rfl ⟨_,rfl,?_⟩⟩;exact words 5 (by decide) (by decide)
def f9{H H1:Hp}{a:ar}{o:HO}(s:aL H H1)(h:H a=none):aL H (upd H1 a o):=λb u e=>by
 rw[aK (aB e h)];exact s b u e
def lH(F:List Nat):List (g8×V):=F.map λ(n:Nat)=>(Sum.inl ((n:Nat):Int),V.bl true)
def Pd:∀(F:List Nat) (m:Nat),(iN (lH F) (Sum.inl (m:Int))).isSome=decide (m∈F)
 |[],m=>rfl
 |a::r,m=>by
  unfold iN lH;rw[aV,gg];by_cases c:m=a
  ·subst c;rw[decide_eq_true (by rfl:((Sum.inl (m:Int),V.bl true):g8×V).1=Sum.inl (m:Int))];rw[decide_eq_true bZ];rfl
  ·have e:decide (((Sum.inl (a:Int),V.bl true):g8×V).1=Sum.inl (m:Int))=false:=decide_eq_false λz=>c (by injection z with z;lia);rw[e];have ih:=Pd r m;unfold iN lH at ih;refine Eq.trans ih ?_;rw[Bool.eq_iff_iff,decide_eq_true_eq,decide_eq_true_eq,aE];exact⟨.inr,λz=>z.resolve_left c⟩
def oh{F:List Nat}{m:Nat}(h:m∉F):ma (lH F) (Sum.inl (m:Int)) (V.bl true)=lH (F++[m]):=by
 have e:iN (lH F) (Sum.inl (m:Int))=none:=by
  have:=Pd F m;rw[decide_eq_false h] at this;cases q:iN (lH F) (Sum.inl (m:Int)) with
  |none=>rfl
  |some v=>rw[q] at this;cases this
 rw[Aq _ e];unfold lH;rw[aN];rfl
def F2(F:List Nat):(lH F).length=F.length:=by unfold lH;rw[ae]
def Pu(rs:List bS)(un:Option Str)(F:List Nat)(n:Nat):Prop:=∀r,rs[n]?=some r->(∀y,un=some y->mJ r≠.str y)->∀m∈eG n r,m∈F
def Pu.mono{rs:List bS}{un:Option Str}{F F':List Nat}{n:Nat}(h:Pu rs un F n)(s:∀x∈F,x∈F'):Pu rs un F' n:=λr e hy m hm=>s m (h r e hy m hm)
structure WI(rs:List bS)(un:Option Str)(F W:List Nat)(now:Nat->Prop):Prop where
 nd:F.Nodup
 way:∀x∈F,JP rs un x
 zero:0∈F
 sub:∀x∈W,x∈F
 cl:∀x∈F,x∈W\/now x\/Pu rs un F x
def WI.add{rs:List bS}{un:Option Str}{F W:List Nat}{now:Nat->Prop}{m:Nat}(i:WI rs un F W now)(h:m∉F)(w:JP rs un m):WI rs un (F++[m]) (W++[m]) now:=by
 refine⟨yR i.nd h,λx hx=>?_,bR _ i.zero,λx hx=>?_,λx hx=>?_⟩
 ·rcases aT.mp hx with z|z
  ·exact i.way x z
  ·rw[aw.mp z];exact w
 ·rcases aT.mp hx with z|z
  ·exact bR _ (i.sub x z)
  ·exact bD _ z
 ·rcases aT.mp hx with z|z
  ·rcases i.cl x z with a|a|a
   ·exact .inl (bR _ a)
   ·exact .inr (.inl a)
   ·exact .inr (.inr (a.mono λy hy=>bR _ hy))
  ·exact .inl (bD _ z)
def Wa(rt fd wl:ar)(H:Hp)(rs:List bS)(un:Option Str)(m:Nat):St->Hp->Prop:=λσ' H'=>∃(F W:List Nat) (o4 o5:Option V),σ'=[some (.ref rt),some (Sy un),some (.ref fd),some (.ref wl),o4,o5]/\H' fd=some (.dK (lH F))/\H' wl=some (.lst (cW W))/\WI rs un F W (λ_=>False)/\aL H H'/\2*(rs.length-F.length)+W.length<=m
def WC(rt fd wl tp:ar)(H:Hp)(rs:List bS)(un:Option Str)(ms:List Nat)(n m j:Nat):St->Hp->Prop:=λσ' H'=>∃(F W:List Nat) (o5:Option V),σ'=[some (.ref rt),some (Sy un),some (.ref fd),some (.ref wl),some (.int (n:Nat)),o5]/\H' fd=some (.dK (lH F))/\H' wl=some (.lst (cW W))/\H' tp=some (.tup (cW ms))/\WI rs un F W (λx=>x=n)/\aL H H'/\2*(rs.length-F.length)+W.length<=m/\∀i,i<j->∀x,ms[i]?=some x->x∈F
def zW(ns:List Nat)(n:Nat):cW (ns++[n])=cW ns++[V.int (n:Nat)]:=by unfold cW;rw[aN];rfl
def WI.done{rs:List bS}{un:Option Str}{F:List Nat}(i:WI rs un F [] (λ_=>False))(m:Nat):m∈F↔JP rs un m:=by
 refine⟨i.way m,λh=>?_⟩
 induction h with
 |zero=>exact i.zero
 |step _ e hy hm ih=>
  rcases i.cl _ ih with z|z|z
  ·cases z
  ·exact z.elim
  ·exact z _ e hy _ hm
def WI.len{rs:List bS}{un:Option Str}{F W:List Nat}{now:Nat->Prop}(g:oP rs)(i:WI rs un F W now):F.length<=rs.length:=mH i.nd λx hx=>(i.way x hx).lt g
def Sz{K:Fg}{rt fd wl:ar}{H H1:Hp}{rvs:List V}{rs:List bS}{un:Option Str}{F W:List Nat}{n m:Nat}{r:bS}{v:V}{o5:Option V}{D:rn}(hrt:H rt=some (.tup rvs))(hfd:H fd=none)(hwl:H wl=none)(nfw:fd≠wl)(g:oP rs)
  (e1:rvs[n]?=some v) (e2:rs[n]?=some r) (hra:e6 H v r) (hy:∀y,un=some y->mJ r≠.str y) (hn:JP rs un n) (h1:H1 fd=some (.dK (lH F))) (h2:H1 wl=some (.lst (cW W))) (i:WI rs un F W (λx=>x=n)) (s:aL H H1) (hm:2*(rs.length-F.length)+W.length<=m) (hmb:m<=1000)
  (q:∀(σ':St) (H':Hp),Wa rt fd wl H rs un m σ' H'->D.nx σ' H') :
  kG (iT K (bF (qe K) [] E0 (ai (ao 0) (ai (ao 4) aJ)))) (aU 5) (qt K) D [some (.ref rt),some (Sy un),some (.ref fd),some (.ref wl),some (.int (n:Nat)),o5] H1:=by
 refine .inr ⟨_,rfl,_,rfl,rt,n,rvs,v,r,rfl,s _ _ hrt,e1,hra.mono (.of_same s),λtp H2 htp s2=>⟨tp,rfl,⟨_,eO.of htp⟩,pR (xs:=cW (eG n r)) (WC rt fd wl tp H rs un (eG n r) n m) ?_ ?_ ?_ ?_⟩⟩
 ·exact⟨F,W,_,rfl,s2 _ _ h1,s2 _ _ h2,htp,i,s.trans s2,hm,λi hi=>absurd hi (bW _)⟩
 ·rintro j σ' H' _ ⟨_,_,_,_,_,_,h3,_⟩;exact eO.of h3
 ·rintro j x σ' H' hx ⟨F',W',p5,rfl,h3,h4,h5,i',s',hm',hj⟩;obtain⟨to,hto,rfl⟩:=vk hx;have hw:JP rs un to:=.step hn e2 hy (aF hto);have fl:=i'.len g;have few:=g.few;show qt K _ [some (.ref rt),some (Sy un),some (.ref fd),some (.ref wl),some (.int (n:Nat)),some (.int (to:Nat))] H';refine⟨_,rfl,_,rfl,fd,_,rfl,uZ.k (k:=Sum.inl (to:Int)) h3,_,rfl,?_⟩;show if(!(iN (lH F') (Sum.inl (to:Int))).isSome)=true then _ else _;rw[Pd];refine jS (λhin=>?_) (λhin=>?_)
  ·have nd':=mH (yR i'.nd hin) (n:=rs.length) λy hy'=>by
    rcases aT.mp hy' with z|z
    ·exact(i'.way y z).lt g
    ·rw[aw.mp z];exact hw.lt g
   rw[aG,cM] at nd';refine⟨_,rfl,_,rfl,fd,_,rfl,E7.k (k:=Sum.inl (to:Int)) h3 (cq (by rw[F2];lia)),?_⟩;rw[oh hin];have h4':(upd H' fd (.dK (lH (F'++[to])))) wl=some (.lst (cW W')):=by rw[aK (Ne.symm nfw)];exact h4
   have nwl:W'.length<=100000:=by lia
   refine⟨_,rfl,.inl ⟨rfl,_,cB.of h4'⟩,_,rfl,wl,_,_,rfl,rfl,h4',cq (by rw[fA];exact nwl),?_⟩;have ntf:tp≠fd:=λz=>by rw[z,h3] at h5;cases h5
   have ntw:tp≠wl:=λz=>by rw[z,h4] at h5;cases h5
   refine⟨F'++[to],W'++[to],_,rfl,by rw[aK nfw,aj],by rw[aj,zW],by rw[aK ntw,aK ntf];exact h5,i'.add hin hw,f9 (f9 s' hfd) hwl,?_,λk hk x hxk=>?_⟩
   ·simp only[aG,cM];lia
   ·by_cases c:k<j
    ·exact bR _ (hj k c x hxk)
    ·have:k=j:=by lia
     subst this;rw[hto] at hxk;cases hxk;exact bD _ (aw.mpr rfl)
  ·refine⟨F',W',_,rfl,h3,h4,h5,i',s',hm',λk hk x hxk=>?_⟩;by_cases c:k<j
   ·exact hj k c x hxk
   ·have:k=j:=by lia
    subst this;rw[hto] at hxk;cases hxk;exact hin
 ·rintro σ' H' ⟨F',W',p5,rfl,h3,h4,h5,i',s',hm',hj⟩;rw[fA] at hj;refine q _ _ ⟨F',W',_,_,rfl,h3,h4,⟨i'.nd,i'.way,i'.zero,i'.sub,λx hx=>?_⟩,s',hm'⟩;rcases i'.cl x hx with z|z|z
  ·exact .inl z
  ·subst z;refine .inr (.inr λr' e _ m' hm'=>?_);rw[e2] at e;cases e;obtain⟨k,hk,ek⟩:=bV.mp hm';exact hj k hk m' (by rw[af hk,ek])
  ·exact .inr (.inr z)
def Jb{K:Fg}{vs:List V}{H:Hp}{Q:VK}{E:XK}(h:lg K vs H Q E):Bh K {nx:=λ_ H'=>Q .non H',rt:=Q} (cI uA vs) H:=by
 obtain⟨rt,un,rvs,rs,rfl,hrt,hA,g,q⟩:=h;refine λfd hfd=>⟨aj,[(Sum.inl 0,V.bl true)],rfl,by decide,?_⟩;have e0:upd (upd H fd (.dK [])) fd (.dK (sd [] [(Sum.inl 0,V.bl true)]))=upd H fd (.dK (lH [0])):=by
  rw[EW];have:sd [] [((Sum.inl 0:g8),V.bl true)]=lH [0]:=by
   show ma [] (Sum.inl 0) (V.bl true)=_;rw[Aq _ Hh];rfl
  rw[this]
 show vO K _ [some (.ref rt),some (Sy un),some (.ref fd),none,none,none] (upd (upd H fd (.dK [])) fd (.dK (sd [] [(Sum.inl 0,V.bl true)])));rw[e0];refine⟨Zy,λwl hwl0=>?_⟩;have nfw:fd≠wl:=aB aj hwl0;have hwl:H wl=none:=by
  have:(upd H fd (.dK (lH [0]))) wl=H wl:=aK (Ne.symm nfw);rw[<-this];exact hwl0
 show vN K _ [some (.ref rt),some (Sy un),some (.ref fd),some (.ref wl),none,none] (upd (upd H fd (.dK (lH [0]))) wl (.lst [V.int 0]));have few0:=g.few;refine⟨λm σ' H'=>m<=1000/\Wa rt fd wl H rs un m σ' H',⟨2*(rs.length-1)+1,by lia,[0],[0],none,none,rfl,by rw[aK nfw,aj],aj,⟨by simp,λx hx=>by rw[aw.mp hx];exact .zero,by simp,λx hx=>hx,λx hx=>.inl hx⟩,f9 (f9 (aL.refl H) hfd) hwl,by simp⟩,?_⟩;rintro m σ' H1 ⟨hmb,F,W,o4,o5,rfl,h1,h2,i,s,hm⟩;refine⟨_,rfl,_,_,rfl,.inl ⟨_,cB.of h2,rfl⟩,_,_,rfl,rfl,_,rfl,bC (λhl=>?_) (λhl=>?_)⟩
 ·rw[fA] at hl;obtain⟨L,n,rfl⟩:∃L n,W=L++[n]:=by
   rcases List.eq_nil_or_concat W with z|⟨L,n,z⟩
   ·subst z;simp at hl
   ·exact⟨L,n,by rw[z,List.concat_eq_append]⟩
  have hnF:=i.sub n (bD _ (aw.mpr rfl));have hn:=i.way n hnF;have nl:=hn.lt g;obtain⟨v,r,e1,e2,hra⟩:=hA.get nl;have hm1:2*(rs.length-F.length)+L.length<=m-1:=by rw[aG,cM] at hm;lia
  have m0:0<m:=by rw[aG,cM] at hm;lia
  refine⟨Wa rt fd wl H rs un (m-1),λσ4 H4 h4=>⟨m-1,by lia,by lia,h4⟩,?_⟩;rw[zW] at h2;refine⟨_,rfl,.inl ⟨rfl,_,cB.of h2⟩,wl,_,V.int (n:Nat),rfl,rfl,h2,?_,?_⟩
  ·rw[aG,cM,jf,bT (aD _),lU];rfl
  rw[List.dropLast_concat];show vM K _ [some (.ref rt),some (Sy un),some (.ref fd),some (.ref wl),some (.int (n:Nat)),o5] (upd H1 wl (.lst (cW L)));have h1':(upd H1 wl (.lst (cW L))) fd=some (.dK (lH F)):=by rw[aK nfw];exact h1
  have h2':(upd H1 wl (.lst (cW L))) wl=some (.lst (cW L)):=aj;have s':aL H (upd H1 wl (.lst (cW L))):=f9 s hwl;generalize upd H1 wl (.lst (cW L))=H2 at h1' h2' s';have i':WI rs un F L (λx=>x=n):=⟨i.nd,i.way,i.zero,λx hx=>i.sub x (bR _ hx),λx hx=>by
   rcases i.cl x hx with z|z|z
   ·rcases aT.mp z with z|z
    ·exact .inl z
    ·exact .inr (.inl (aw.mp z))
   ·exact z.elim
   ·exact .inr (.inr z)⟩
  have e1':rvs[((n:Nat):Int).toNat]?=some v:=by simpa using e1
  cases un with
  |none=>
   refine⟨_,rfl,rfl,_,rfl,ky (ky ?_)⟩;exact Sz hrt hfd hwl nfw g e1 e2 hra (λy z=>by cases z) hn h1' h2' i' s' hm1 (by lia) λ_ _ z=>z
  |some y=>
   refine⟨_,rfl,rfl,_,rfl,f6 ?_⟩;refine⟨_,rfl,_,rfl,dk (s' _ _ hrt) (by lia) e1' ⟨v,r,rfl,hra.mono (.of_same s'),λH3 s3=>⟨_,rfl,.inl ⟨?_,_,rfl,?_⟩⟩⟩⟩
   ·cases r<;>rfl
   ·refine jS (λhne=>?_) (λhe=>?_)
    ·exact Sz hrt hfd hwl nfw g e1 e2 hra (λy' z=>by cases z;exact hne) hn (s3 _ _ h1') (s3 _ _ h2') i' (s'.trans s3) hm1 (by lia) λ_ _ z=>z
    ·refine⟨F,L,_,_,rfl,s3 _ _ h1',s3 _ _ h2',⟨i'.nd,i'.way,i'.zero,i'.sub,λx hx=>?_⟩,s'.trans s3,hm1⟩;rcases i'.cl x hx with z|z|z
     ·exact .inl z
     ·subst z;refine .inr (.inr λr' e hy=>?_);rw[e2] at e;cases e;exact absurd he (hy y rfl)
     ·exact .inr (.inr z)
 ·rw[fA] at hl;have:W=[]:=di.mp (by lia);subst this;have fl:=i.len g;have few:=g.few;refine⟨_,rfl,fd,_,F.map (λn=>((n:Nat):Int)),rfl,h1,?_,by rw[ae];lia,λl ns' hl' hp hs=>?_⟩
  ·unfold lH;rw[dM,dM];rfl
  ·obtain⟨ks,rfl,hk,hr⟩:=LY hp hs i.nd;have e:(ks.map λn=>((n:Nat):Int)).map V.int=cW ks:=by unfold cW;rw[dM];rfl
   rw[e];refine q l ks _ (λm=>(hk m).trans (i.done m)) hr aj (s.free hl') (s.new hl')
def vj(a b:List Nat):cW (a++b)=cW a++cW b:=by unfold cW;rw[aN]
def wR{K:Fg}(T:PR K){vs:List V}{H:Hp}{Q:VK}{E:XK}(h:fB K vs H Q E):pw K {nx:=λ_ H'=>Q .non H',rt:=Q} (cI ku vs) H:=by
 obtain⟨x,a,b,c,rfl,hx,q⟩:=h;refine⟨_,rfl,_,rfl,x,_,rfl,T.clN,T.nNp,.inl ⟨hx,λdx hd ne=>?_⟩⟩;have gx:∀{fs},(upd (upd (upd H dx (XD dx [("part",a)])) x (XF x (cg K "NoProgram") (some dx))) dx (XD dx fs)) x=some (XF x (cg K "NoProgram") (some dx)):=λ{fs}=>by rw[aK (Ne.symm ne),aj]
 refine⟨_,rfl,_,rfl,x,_,rfl,T.clN,T.nNr,.inr ⟨dx,[("part",a)],aj,ne,by rw[aK ne,aj],by show 1<1000;decide,?_⟩⟩;refine⟨_,rfl,_,rfl,x,_,rfl,T.clN,T.nNw,.inr ⟨dx,_,gx,ne,aj,by show 2<1000;decide,?_⟩⟩;refine q dx _ hd ne (by rw[aK (Ne.symm ne),aK (Ne.symm ne),aj]) ?_ λp o n e=>?_
 ·rw[aj];rfl
 ·have np:p≠dx:=aB e hd;rw[aK np,aK np,aK n,aK np];exact e
def Ja{K:Fg}(T:PR K){vs:List V}{H:Hp}{Q:VK}{E:XK}(h:jD K vs H Q E):Be K E {nx:=λ_ H'=>Q .non H',rt:=Q} (cI zr vs) H:=by
 obtain⟨k,r,wd,rfl,h⟩:=h;rcases h with⟨rfl,q⟩|⟨n,rfl,q⟩
 ·exact⟨_,rfl,rfl,_,rfl,Sa rfl q⟩
 ·refine⟨_,rfl,rfl,_,rfl,?_⟩;rw[show(!decide (V.int n=V.non))=true from by simp];refine ky ?_;refine⟨_,rfl,_,rfl,_,rfl,λx hx=>⟨x,_,_,_,rfl,aj,λdx H' hd ne gx gd bt=>⟨rfl,x,_,_,rfl,T.clN,gx,(λz=>ne (Option.some.inj z)),λT' hT nT=>?_⟩⟩⟩;refine q dx _ (λp o e=>?_) ?_
  ·have n1:p≠x:=aB e hx;have e1:H' p=some o:=bt p o n1 (by rw[aK n1];exact e);rw[aK n1,aK (aB e1 hT)];exact e1
  ·rw[aK ne,aK (aB gd hT)];exact gd
def yF(ss:List Str):List (g8×V):=ss.map λy=>(Sum.inr y,V.bl true)
def HQ(ss:List Str)(y:Str):List Str:=if y∈ss then ss else ss++[y]
def NN(ss:List Str)(y:Str):((yF ss).any λkv=>decide (kv.1=(Sum.inr y:g8)))=decide (y∈ss):=by
 unfold yF;rw[List.any_map,Bool.eq_iff_iff,List.any_eq_true,decide_eq_true_eq];constructor
 ·rintro⟨z,hz,e⟩;have e':(Sum.inr z:g8)=Sum.inr y:=of_decide_eq_true e;injection e' with e';rw[<-e'];exact hz
 ·intro h;exact⟨y,h,by show decide ((Sum.inr y:g8)=Sum.inr y)=true;simp⟩
def Wh(ss:List Str)(y:Str):ma (yF ss) (Sum.inr y) (V.bl true)=yF (HQ ss y):=by
 unfold ma HQ;rw[NN];by_cases c:y∈ss
 ·rw[if_pos (decide_eq_true c),if_pos c];unfold yF;rw[dM];refine iS λz _=>?_;show(if(Sum.inr z:g8)=Sum.inr y then((Sum.inr z:g8),V.bl true) else(Sum.inr z,V.bl true))=_;split<;>rfl
 ·rw[if_neg (by rw[decide_eq_false c];decide),if_neg c];unfold yF;rw[aN];rfl
def NZ{ss:List Str}{y z:Str}:z∈HQ ss y↔z∈ss\/z=y:=by
 unfold HQ;split
 ·rename_i h;exact⟨.inl,λq=>q.elim id λe=>by rw[e];exact h⟩
 ·rw[aT,aw]
def NR(ss:List Str)(y:Str):(HQ ss y).length<=ss.length+1:=by
 unfold HQ;split
 ·lia
 ·rw[aG,cM];lia
def NO(ss:List Str):(yF ss).length=ss.length:=by unfold yF;rw[ae]
def LH(ss:List Str):(yF ss).map (λkv=>kV kv.1)=ss.map V.str:=by unfold yF;rw[dM];rfl
def ql{ys:List Str}{i:Nat}{x:V}(h:(ys.map V.str)[i]?=some x):∃y,ys[i]?=some y/\x=.str y:=by
 rw[aQ] at h;obtain⟨y,e,rfl⟩:=b4.mp h;exact⟨y,e,rfl⟩
def AB{K:Fg}{vs:List V}{H:Hp}{Q:VK}{E:XK}(h:lK K vs H Q E):sI K {nx:=λ_ H'=>Q .non H',rt:=Q} (cI rN vs) H:=by
 obtain⟨rt,rvs,rs,rfl,hrt,hA,few,rd,q⟩:=h;refine λfd hfd=>?_;show pA K _ [some (.ref rt),some (.ref fd),none,none] (upd H fd (.dK []));have s0:aL H (upd H fd (.dK [])):=(aL.refl H).new hfd;refine .inr ⟨_,rfl,rt,rfl,⟨_,eO.of (s0 _ _ hrt)⟩,pR (xs:=rvs) (λi σ' H'=>∃(ss:List Str) (o2 o3:Option V),σ'=[some (.ref rt),some (.ref fd),o2,o3]/\H' fd=some (.dK (yF ss))/\(∀y,y∈ss↔∃j r,j<i/\rs[j]?=some r/\y∈gs r)/\ss.length<=100*i/\aL H H')
  ⟨[],_,_,rfl,aj,λy=>⟨λz=>(by cases z),λ⟨j,_,z,_⟩=>absurd z (bW _)⟩,cA _,s0⟩ ?_ ?_ ?_⟩
 ·rintro i σ' H' _ ⟨_,_,_,_,_,_,_,s⟩;exact eO.of (s _ _ hrt)
 ·rintro i x σ' H1 hx ⟨ss,o2,o3,rfl,hd,mm,ln,s1⟩;obtain⟨r,hr,ra⟩:=hA.of_v hx;have ir:i<rs.length:=(ak.mp hr).1;have r100:=rd r (aF hr);show pz K _ [some (.ref rt),some (.ref fd),some x,o3] H1;refine .inr ⟨_,rfl,x,r,rfl,ra.mono (.of_same s1),λtp H2 htp s2=>⟨tp,rfl,⟨_,eO.of htp⟩,pR (xs:=(gs r).map V.str) (λj σ' H'=>∃(ss':List Str) (o3:Option V),σ'=[some (.ref rt),some (.ref fd),some x,o3]/\H' fd=some (.dK (yF ss'))/\H' tp=some (.tup ((gs r).map V.str))/\
   (∀y,y∈ss'↔y∈ss\/y∈(gs r).take j)/\ss'.length<=100*i+j/\aL H H') ⟨ss,_,rfl,s2 _ _ hd,htp,λy=>by simp,by lia,s1.trans s2⟩ ?_ ?_ ?_⟩⟩
  ·rintro j σ' H' _ ⟨_,_,_,_,h3,_⟩;exact eO.of h3
  ·rintro j z σ' H' hz ⟨ss',p3,rfl,hd',ht',mm',ln',s'⟩;obtain⟨y,hy,rfl⟩:=ql hz;have jl:j<(gs r).length:=(ak.mp hy).1;show px K _ [some (.ref rt),some (.ref fd),some x,some (.str y)] H';refine⟨_,rfl,_,rfl,fd,_,rfl,E7.k (k:=Sum.inr y) hd' (cq (by rw[NO];lia)),?_⟩;rw[Wh];have ntf:tp≠fd:=λz=>by rw[z,hd'] at ht';cases ht'
   refine⟨HQ ss' y,_,rfl,aj,by rw[aK ntf];exact ht',λw=>?_,by have:=NR ss' y;lia,f9 s' hfd⟩;rw[NZ,mm',bL,hy];simp only[Option.toList_some,aT,aw,or_assoc]
  ·rintro σ' H' ⟨ss',p3,rfl,hd',ht',mm',ln',s'⟩;rw[ae] at mm' ln';rw[bJ (aD _)] at mm';refine⟨ss',_,_,rfl,hd',λy=>?_,by lia,s'⟩;rw[mm',mm];constructor
   ·rintro(⟨j,r',lt,e,h⟩|h)
    ·exact⟨j,r',by lia,e,h⟩
    ·exact⟨i,r,by lia,hr,h⟩
   ·rintro⟨j,r',lt,e,h⟩;rcases dy.mp lt with z|z
    ·exact .inl ⟨j,r',z,e,h⟩
    ·subst z;rw[hr] at e;cases e;exact .inr h
 ·rintro σ' H1 ⟨ss,o2,o3,rfl,hd,mm,ln,s1⟩;rw[hA.len] at mm ln;refine⟨_,rfl,fd,_,rfl,.inl hd,λl hl=>?_⟩;rw[LH];refine q l ss _ (λy=>?_) (by lia) (s1.free hl) aj (s1.new hl);rw[mm];constructor
  ·rintro⟨j,r,_,e,h⟩;exact⟨r,aF e,h⟩
  ·rintro⟨r,hr,h⟩;obtain⟨j,hj,e⟩:=bV.mp hr;exact⟨j,r,hj,by rw[af hj,e],h⟩
def BZ(rs:List bS)(y:Str)(m:Nat):Bool:=match rs[m]? with
 |some r=>decide (y∈gs r)
 |none=>false
def Gv{rs:List bS}{y:Str}{m:Nat}:BZ rs y m=true↔∃r,rs[m]?=some r/\y∈gs r:=by
 unfold BZ;cases e:rs[m]? with
 |none=>exact⟨(λz=>by cases z),(λ⟨r,z,_⟩=>by cases z)⟩
 |some r=>exact⟨λz=>⟨r,rfl,of_decide_eq_true z⟩,(λ⟨r',z,q⟩=>by cases z;exact decide_eq_true q)⟩
def Ir(ns:List Nat):cW ns=(ns.map λ(n:Nat)=>(n:Int)).map V.int:=by unfold cW;rw[dM];rfl
def BX{K:Fg}{vs:List V}{H:Hp}{Q:VK}{E:XK}(h:mN K vs H Q E):um K {nx:=λ_ H'=>Q .non H',rt:=Q} (cI nY vs) H:=by
 obtain⟨v,b,cs,rfl,⟨pt,pa,rt,rvs,rfl,hpt,hpa,hrt,hR⟩,sh,q1,q2⟩:=h;have g:=sh.good;have few:=g.few;refine⟨_,rfl,Zw hpt rfl ?_⟩;show rf K _ [some (.ref pt),some (.ref rt),none,none] H;refine⟨Zx,λdu hdu=>?_⟩;show q9 K _ [some (.ref pt),some (.ref rt),some (.ref du),none] (upd H du (.lst []));have s0:aL H (upd H du (.lst [])):=(aL.refl H).new hdu;refine .inl ⟨_,rfl,rt,rvs,b.rows,rfl,s0 _ _ hrt,hR.imp λ_ _ z=>z.mono (.of_same s0),few,sh.rd,λl ss H1 mss lss hl0 hl s1=>⟨l,rfl,⟨_,cB.of hl⟩,rS (xs:=ss.map V.str) (λi σ' H'=>∃(DU:List Nat) (o:Option V),σ'=[some (.ref pt),some (.ref rt),some (.ref du),o]/\H' du=some (.lst (cW DU))/\H' l=some (.lst (ss.map V.str))/\
  (∀m,m∈DU↔∃y,y∈ss.take i/\y∉b.params/\JP b.rows (some y) m/\BZ b.rows y m=true)/\DU.length<=64*i/\aL H H') ⟨[],_,rfl,s1 _ _ aj,hl,λm=>by simp,cA _,s0.trans s1⟩ ?_ ?_ ?_⟩⟩
 ·rintro i σ' H' _ ⟨_,_,_,_,h3,_⟩;exact cB.of h3
 ·rintro i x σ' H2 hx ⟨DU,o,rfl,hd,hl2,mm,ln,s2⟩;obtain⟨y,hy,rfl⟩:=ql hx;have il:i<ss.length:=(ak.mp hy).1;have tk:∀z,z∈ss.take (i+1)↔z∈ss.take i\/z=y:=λz=>by rw[bL,hy];simp
  show qZ K _ [some (.ref pt),some (.ref rt),some (.ref du),some (.str y)] H2;refine⟨_,rfl,_,rfl,dk (s2 _ _ hpt) (by decide) rfl ⟨pa,_,rfl,.inr (eO.of (s2 _ _ hpa)),rfl,sZ _,_,rfl,?_⟩⟩;rw[hU];refine jS (λhny=>?_) (λhin=>?_)
  ·refine⟨_,rfl,.inl ⟨rfl,_,cB.of hd⟩,?_⟩;refine .inl ⟨_,rfl,_,rfl,rt,some y,rvs,b.rows,rfl,s2 _ _ hrt,hR.imp λ_ _ z=>z.mono (.of_same s2),g,λlw ns H3 hns hr hlw hlw0 s3=>⟨lw,rfl,⟨_,cB.of hlw⟩,λD hD=>?_⟩⟩;have s3':=s2.trans s3;have nD:lw≠D:=aB hlw hD;have nlt:∀m∈ns,m<b.rows.length:=λm hm=>((hns m).mp hm).lt g;have nsl:ns.length<=b.rows.length:=mH (hr.imp λh=>bu h) nlt;refine hW (xs:=cW ns) (λj σ' H'=>∃o,σ'=[some (.ref pt),some (.ref rt),some (.ref du),some (.str y),o]/\H' D=some (.lst (cW ((ns.take j).filter (BZ b.rows y))))/\aL H3 H') ?_ ?_ ?_ ?_
   ·exact⟨none,rfl,aj,(aL.refl H3).new hD⟩
   ·rintro j σ' H' _ ⟨o,_,_,s⟩;exact cB.of (s _ _ hlw)
   ·rintro j x σ' H4 hx4 ⟨o4,rfl,hD4,s4⟩;obtain⟨m,hm,rfl⟩:=vk hx4;have ml:=nlt m (aF hm);have s4':=s3'.trans s4;obtain⟨w,r,e1,e2,hra⟩:=(hR.imp λ_ _ z=>z.mono (Tp.of_same s4')).get ml;have e1':rvs[((m:Nat):Int).toNat]?=some w:=by simpa using e1
    have ft:=xG (BZ b.rows y) ns j m hm;have jl:j<ns.length:=(ak.mp hm).1;have fl:((ns.take j).filter (BZ b.rows y)).length<=100:=b9 (fZ _ _) (by rw[a8];lia);refine⟨_,rfl,_,rfl,_,rfl,dk (s4' _ _ hrt) (by lia) e1' ⟨w,r,rfl,hra,λtp H5 htp s5=>⟨tp,_,rfl,.inr (eO.of htp),rfl,sZ _,_,rfl,?_⟩⟩⟩;rw[hU];have rv:BZ b.rows y m=decide (y∈gs r):=by unfold BZ;rw[e2]
    show if decide (y∈gs r)=true then _ else _;rw[<-rv];refine i4 (λhb=>?_) (λhb=>?_)
    ·refine⟨_,rfl,_,s5 _ _ hD4,cq (by rw[fA];lia),_,rfl,?_,f9 (s4.trans s5) hD⟩;rw[aj,ft,if_pos hb,vj];rfl
    ·refine⟨_,rfl,?_,s4.trans s5⟩;rw[ft,if_neg (by rw[hb];decide),dU];exact s5 _ _ hD4
   ·rintro σ' H4 ⟨o4,_,hD4,s4⟩;rw[fA,bJ (aD _)] at hD4;have dl:(ns.filter (BZ b.rows y)).length<=64:=b9 (fZ _ _) (by lia);have hd4:=s4 _ _ (s3 _ _ hd);refine⟨du,D,_,_,rfl,rfl,hd4,hD4,?_,?_⟩
    ·rw[fA,fA];have:(7000:Nat)*64+64<=av:=by decide
     lia
    ·have n1:l≠du:=λz=>by rw[z,aj] at hl0;cases hl0
     refine⟨DU++ns.filter (BZ b.rows y),_,rfl,by rw[aj,vj],by rw[aK n1];exact s4 _ _ (s3 _ _ hl2),λm=>?_,by rw[aG];lia,f9 (s3'.trans s4) hdu⟩;rw[aT,mm,g7,hns];constructor
     ·rintro(⟨z,hz,q⟩|⟨wy,rdm⟩)
      ·exact⟨z,(tk z).mpr (.inl hz),q⟩
      ·exact⟨y,(tk y).mpr (.inr rfl),hny,wy,rdm⟩
     ·rintro⟨z,hz,np,q⟩;rcases(tk z).mp hz with z1|z1
      ·exact .inl ⟨z,z1,np,q⟩
      ·subst z1;exact .inr q
  ·refine⟨DU,_,rfl,hd,hl2,λm=>?_,by lia,s2⟩;rw[mm];constructor
   ·rintro⟨z,hz,q⟩;exact⟨z,(tk z).mpr (.inl hz),q⟩
   ·rintro⟨z,hz,q⟩;rcases(tk z).mp hz with z1|z1
    ·exact⟨z,z1,q⟩
    ·subst z1;exact absurd hin q.1
 ·rintro σ' H2 ⟨DU,o,rfl,hd,hl2,mm,ln,s2⟩;rw[ae,bJ (aD _)] at mm;have mu:∀m,m∈DU↔SJ b m:=λm=>by
   rw[mm];constructor
   ·rintro⟨y,hy,np,wy,rdm⟩;obtain⟨r,er,yr⟩:=Gv.mp rdm;exact⟨r,y,er,yr,np,wy⟩
   ·rintro⟨r,y,er,yr,np,wy⟩;exact⟨y,(mss y).mpr ⟨r,aF er,yr⟩,np,wy,Gv.mpr ⟨r,er,yr⟩⟩
  refine⟨_,rfl,du,DU.map λ(n:Nat)=>(n:Int),rfl,cB.of (by rw[<-Ir];exact hd),λe=>?_,λz hz mn=>?_⟩
  ·refine q1 (λn u=>?_) H2 s2;have:=(mu n).mpr u;rw[List.map_eq_nil_iff.mp e] at this;cases this
  ·obtain⟨n,hn,rfl⟩:=bA.mp hz;refine q2 n ((mu n).mp hn) (λm lt u=>?_) H2 s2;have:=mn (m:Int) (bA.mpr ⟨m,(mu m).mpr u,rfl⟩);lia
def OH{K:Fg}{vs:List V}{H:Hp}{Q:VK}{E:XK}(h:xc K vs H Q E):A6 K {nx:=λ_ H'=>Q .non H',rt:=Q} (cI zp vs) H:=by
 obtain⟨v,r,rfl,hr,q⟩:=h;cases r with
 |num x z=>
  obtain⟨p,rfl,h⟩:=hr;refine⟨_,rfl,Zw h rfl (.inl ⟨rfl,_,rfl,Zv ?_⟩)⟩;exact⟨_,rfl,Zw h rfl (.inl ⟨rfl,_,rfl,Zv q⟩)⟩
 |op x s a b=>
  obtain⟨p,rfl,h⟩:=hr;refine⟨_,rfl,Zw h rfl (.inl ⟨rfl,_,rfl,Zv ?_⟩)⟩;exact⟨_,rfl,Zw h rfl (.inl ⟨rfl,_,rfl,Zv q⟩)⟩
 |call x k as=>
  obtain⟨p,q1,rfl,h,h1⟩:=hr;refine⟨_,rfl,Zw h rfl (.inl ⟨rfl,_,rfl,Zv ?_⟩)⟩;exact⟨_,rfl,Zw h rfl (.inl ⟨rfl,_,rfl,Zv q⟩)⟩
 |say a=>
  obtain⟨p,rfl,h⟩:=hr;refine⟨_,rfl,Zw h rfl (.inl ⟨rfl,_,rfl,Zv ?_⟩)⟩;exact⟨_,rfl,Zw h rfl (.inl ⟨rfl,_,rfl,Zv q⟩)⟩
 |give a=>
  obtain⟨p,rfl,h⟩:=hr;refine⟨_,rfl,Zw h rfl (.inl ⟨rfl,_,rfl,Zv ?_⟩)⟩;exact⟨_,rfl,Zw h rfl (.inl ⟨rfl,_,rfl,Zv q⟩)⟩
 |jump to=>
  obtain⟨p,rfl,h⟩:=hr;refine⟨_,rfl,Zw h rfl (.inl ⟨rfl,_,rfl,bC (λ_=>?_) λz=>absurd rfl z⟩)⟩;exact⟨_,rfl,Zw h rfl q⟩
 |test a to=>
  obtain⟨p,rfl,h⟩:=hr;refine⟨_,rfl,Zw h rfl (.inl ⟨rfl,_,rfl,Zv ?_⟩)⟩;refine⟨_,rfl,Zw h rfl (.inl ⟨rfl,_,rfl,bC (λ_=>?_) λz=>absurd rfl z⟩)⟩;exact⟨_,rfl,Zw h rfl q⟩
def BS{K:Fg}(T:KY K){vs:List V}{H:Hp}{Q:VK}{E:XK}(h:d9 K vs H Q E):tZ K {nx:=λ_ H'=>Q .non H',rt:=Q} (cI nV vs) H:=by
 obtain⟨x,a,rfl,hx,q⟩:=h;refine⟨_,rfl,_,rfl,x,_,rfl,T.clL,T.nLl,.inl ⟨hx,λdx hd ne=>?_⟩⟩;refine q dx _ hd ne aj (by rw[aK ne,aj]) λp o n e=>?_;rw[aK n,aK (aB e hd)];exact e
def yJ{K:Fg}{vs:List V}{H:Hp}{Q:VK}{E:XK}(h:kF K vs H Q E):qR K {nx:=λ_ H'=>Q .non H',rt:=Q} (cI qD vs) H:=by
 obtain⟨rt,v,rvs,r,rfl,hrt,ra,q⟩:=h;refine⟨_,rfl,v,r,rfl,ra,?_⟩;show ik K _ [some (.ref rt),some v,some (CU r)] H;have non:CU r=.non->¬DI rvs.length r->ik K {nx:=λ_ H'=>Q .non H',rt:=Q} [some (.ref rt),some v,some (CU r)] H:=λe na=>by
  rw[e];exact⟨_,rfl,rfl,_,rfl,Sa rfl (q false ⟨λz=>(by cases z),λz=>absurd z na⟩)⟩
 have int:∀t:Int,CU r=.int t->(DI rvs.length r↔t<0\/(rvs.length:Int)<=t)->ik K {nx:=λ_ H'=>Q .non H',rt:=Q} [some (.ref rt),some v,some (CU r)] H:=λt e ia=>by
  rw[e];refine⟨_,rfl,rfl,_,rfl,?_⟩;rw[show(!decide (V.int t=V.non))=true from by simp];refine ky ⟨_,rfl,_,_,rfl,rfl,_,rfl,bC (λz=>q true ⟨λ_=>ia.mpr (.inl z),λ_=>rfl⟩) λnz=>⟨_,rfl,_,rfl,_,_,rfl,.inr ⟨_,eO.of hrt,rfl⟩,_,_,rfl,rfl,?_⟩⟩;refine q _ ⟨λz=>ia.mpr (.inr (of_decide_eq_true z)),λz=>decide_eq_true ?_⟩;rcases ia.mp z with y|y
  ·exact absurd y nz
  ·exact y
 cases r with
 |jump t=>exact int t rfl Iff.rfl
 |test a t=>exact int t rfl Iff.rfl
 |num x z=>exact non rfl id
 |op x s a b=>exact non rfl id
 |call x k as=>exact non rfl id
 |say a=>exact non rfl id
 |give a=>exact non rfl id
def yH{K:Fg}{vs:List V}{H:Hp}{Q:VK}{E:XK}(h:kD K vs H Q E):lN K {nx:=λ_ H'=>Q .non H',rt:=Q} (cI lD vs) H:=by
 obtain⟨p,v,bs,r,rfl,⟨pvs,hpt,hA⟩,ra,q⟩:=h;have other:(∀p' xs,v=.ref p'->H p'=some (.tup (.str (Hi r)::xs))->Hi r≠"call"->¬MG (tG bs) r->lN K {nx:=λ_ H'=>Q .non H',rt:=Q} (cI lD [.ref p,v]) H):=λp' xs ev hp' ne na=>by
  subst ev;refine⟨_,rfl,Zw hp' rfl (.inl ⟨rfl,_,rfl,?_⟩)⟩;exact jS (λ_=>q false ⟨λz=>(by cases z),λz=>absurd z na⟩) λz=>absurd (by injection z) ne
 cases r with
 |call x k as=>
  obtain⟨p',q1,rfl,hp',hq1⟩:=ra;refine⟨_,rfl,Zw hp' rfl (.inl ⟨rfl,_,rfl,jS (λz=>absurd rfl z) λ_=>?_⟩)⟩;refine⟨_,rfl,Zw hp' rfl ?_⟩;show nE K _ [some (.ref p),some (.ref p'),some (.int k)] H;refine⟨_,rfl,_,_,rfl,rfl,_,rfl,bC (λz=>q true ⟨λ_=>.inl z,λ_=>rfl⟩) λk0=>⟨_,rfl,_,rfl,_,_,rfl,.inr ⟨_,eO.of hpt,rfl⟩,_,_,rfl,rfl,_,rfl,bC (λz=>q true ⟨λ_=>.inr ?_,λ_=>rfl⟩) λkl=>?_⟩⟩
  ·rw[dF (by show(bs.map _).length<=_;rw[ae,<-hA.len];lia)];intro y;cases y
  ·have kb:k.toNat<bs.length:=by rw[<-hA.len];lia
   obtain⟨w,b,e1,e2,hP⟩:=hA.get kb;obtain⟨pt,pa,rt,rvs,rfl,hpt4,hpa4,hrt4,hR4⟩:=hP;have ec:(tG bs)[k.toNat]?=some b.params.length:=by show(bs.map _)[k.toNat]?=_;rw[aQ,e2];rfl
   refine⟨_,rfl,Zw hp' rfl ⟨_,_,rfl,.inr ⟨_,eO.of hq1,rfl⟩,_,rfl,_,rfl,dk hpt (by lia) e1 (Zw hpt4 rfl ⟨_,_,rfl,.inr ⟨_,eO.of hpa4,rfl⟩,.inl ⟨rfl,?_⟩⟩)⟩⟩;rw[ae,ae];refine q _ ⟨λz=>.inr λy=>?_,λz=>?_⟩
   ·rw[ec] at y;have y':=Option.some.inj y;rw[y'] at z;simp at z
   ·rcases z with z|z
    ·exact absurd z k0
    ·rw[ec] at z;rw[Bool.not_eq_true',decide_eq_false_iff_not];intro y;injection y with y;exact z (by rw[show b.params.length=as.length from by lia])
 |num x z=>obtain⟨p',e,h⟩:=ra;exact other p' _ e h (show("num":Str)≠"call" by decide +kernel) id
 |op x s a b=>obtain⟨p',e,h⟩:=ra;exact other p' _ e h (show("op":Str)≠"call" by decide +kernel) id
 |say a=>obtain⟨p',e,h⟩:=ra;exact other p' _ e h (show("say":Str)≠"call" by decide +kernel) id
 |jump t=>obtain⟨p',e,h⟩:=ra;exact other p' _ e h (show("jump":Str)≠"call" by decide +kernel) id
 |test a t=>obtain⟨p',e,h⟩:=ra;exact other p' _ e h (show("test":Str)≠"call" by decide +kernel) id
 |give a=>obtain⟨p',e,h⟩:=ra;exact other p' _ e h (show("give":Str)≠"call" by decide +kernel) id
def yI{K:Fg}{vs:List V}{H:Hp}{Q:VK}{E:XK}(h:kE K vs H Q E):qQ K {nx:=λ_ H'=>Q .non H',rt:=Q} (cI qC vs) H:=by
 obtain⟨rt,n,rvs,rs,rfl,hrt,hA,few,hg,hn,q⟩:=h;refine λfd hfd=>⟨_,rfl,?_⟩;show nG K _ [some (.ref rt),some (.int (n:Nat)),some (.ref fd),some (.int (n:Nat))] (upd H fd (.dK []));refine⟨λm σ' H'=>∃k,m=rs.length-k/\σ'=[some (.ref rt),some (.int (n:Nat)),some (.ref fd),some (.int (runJ rs k n:Nat))]/\H' fd=some (.dK (lH ((cK k).map λj=>runJ rs j n)))/\((cK k).map λj=>runJ rs j n).Nodup/\
  (∀i,i<k->nU rs (runJ rs i n))/\aL H H',⟨_,0,rfl,rfl,aj,List.nodup_nil,(λi z=>absurd z (bW _)),(aL.refl H).new hfd⟩,?_⟩
 rintro m σ' H1 ⟨k,rfl,rfl,hd,nd,jp,s1⟩;have kl:k<=rs.length:=by
  have:=mH nd (n:=rs.length) λx hx=>by
   obtain⟨j,_,rfl⟩:=bA.mp hx;exact tD hg j hn
  rw[ae,jL] at this;exact this
 have lt:=tD hg k hn;obtain⟨v,r,e1,e2,hra⟩:=hA.get lt;have hra1:=hra.mono (.of_same s1);obtain⟨p,xs,rfl,hp⟩:=hra1.ref;have hrt1:=s1 _ _ hrt;have e1':rvs[((runJ rs k n:Nat):Int).toNat]?=some (.ref p):=by simpa using e1
 have df:∀a b,a<b->b<k->runJ rs a n≠runJ rs b n:=λa b ab bk z=>by
  have la:a<((cK k).map λj=>runJ rs j n).length:=by rw[ae,jL];lia
  have:=(List.getElem?_inj la nd (j:=b)).mp (by
   rw[aQ,aQ,iR (by lia),iR bk];exact congrArg some z)
  lia
 have n0:n∈((cK k).map λj=>runJ rs j n)↔0<k/\n∈((cK k).map λj=>runJ rs j n):=⟨λz=>⟨by
   obtain⟨j,hj,_⟩:=bA.mp z;have:=eM.mp hj;lia,z⟩,λz=>z.2⟩
 have fin:(¬nU rs (runJ rs k n)\/∃j,j<k/\runJ rs k n=runJ rs j n)->nF K {nx:=λ_ H'=>Q .non H',rt:=Q} [some (.ref rt),some (.int (n:Nat)),some (.ref fd),some (.int (runJ rs k n:Nat))] H1:=λen=>by
  have is:=OM hg hn df jp en;refine⟨_,rfl,_,rfl,.inl ⟨rfl,_,rfl,bC (λz=>?_) λnz=>q false H1 ⟨λz=>(by cases z),λrg=>absurd (by rw[(is.mpr rg).1]) nz⟩ s1⟩⟩;have ez:runJ rs k n=n:=by injection z with z;lia
  refine⟨_,rfl,_,rfl,fd,_,rfl,uZ.k (k:=Sum.inl (n:Int)) hd,?_⟩;show Q (.bl (iN (lH ((cK k).map λj=>runJ rs j n)) (Sum.inl (n:Int))).isSome) H1;rw[Pd];refine q _ H1 ⟨λb=>is.mp ⟨ez,(n0.mp (of_decide_eq_true b)).1⟩,λrg=>decide_eq_true ?_⟩ s1;exact bA.mpr ⟨0,eM.mpr (is.mpr rg).2,rfl⟩
 refine⟨_,rfl,_,rfl,dk hrt1 (by lia) e1' (Zw hp rfl (.inl ⟨rfl,_,rfl,bC (λhw=>?_) (λhw=>?_)⟩))⟩
 ·refine⟨_,rfl,_,rfl,fd,_,rfl,uZ.k (k:=Sum.inl (runJ rs k n:Int)) hd,_,rfl,?_⟩;show if(!(iN (lH ((cK k).map λj=>runJ rs j n)) (Sum.inl (runJ rs k n:Int))).isSome)=true then _ else _;rw[Pd];obtain⟨t',rfl⟩:=xm (yY hw);refine jS (λhin=>?_) (λhin=>?_)
  ·have nd2:((cK (k+1)).map λj=>runJ rs j n).Nodup:=by
    rw[lA,aN];exact yR nd hin
   have kl2:k+1<=rs.length:=by
    have:=mH nd2 (n:=rs.length) λx hx=>by
     obtain⟨j,_,rfl⟩:=bA.mp hx;exact tD hg j hn
    rw[ae,jL] at this;exact this
   refine⟨λσ' H''=>∃m',m'<rs.length-k/\_,λσ4 H4 z=>z,?_⟩;refine⟨_,rfl,_,rfl,fd,_,rfl,E7.k (k:=Sum.inl (runJ rs k n:Int)) hd (cq (by rw[F2,ae,jL];lia)),?_⟩;rw[oh hin];have nrt:rt≠fd:=λz=>by rw[z,hd] at hrt1;cases hrt1
   have npf:p≠fd:=λz=>by rw[z,hd] at hp;cases hp
   have s2:aL H (upd H1 fd (.dK (lH (((cK k).map λj=>runJ rs j n)++[runJ rs k n])))):=f9 s1 hfd;refine⟨_,rfl,_,rfl,dk (by rw[aK nrt];exact hrt1) (by lia) e1' ⟨_,.jump t',rfl,hra.mono (.of_same s2),?_⟩⟩;have e:runJ rs (k+1) n=t':=by rw[tF];unfold stp;rw[e2]
   refine⟨rs.length-(k+1),by lia,k+1,rfl,by rw[e];rfl,?_,nd2,λi hi=>?_,s2⟩
   ·rw[aj,lA,aN];rfl
   ·rcases dy.mp hi with z|z
    ·exact jp i z
    ·subst z;exact⟨_,e2,rfl⟩
  ·obtain⟨j,hj,ej⟩:=bA.mp hin;exact fin (.inr ⟨j,eM.mp hj,ej.symm⟩)
 ·refine f6 ?_;refine fin (.inl ?_);rintro⟨r',er,jr⟩;rw[e2] at er;cases er;rw[Al λz=>hw (by rw[z])] at jr;cases jr
def EE{K:Fg}{vs:List V}{H:Hp}{Q:VK}{E:XK}(h:oy K vs H Q E):vL K {nx:=λ_ H'=>Q .non H',rt:=Q} (cI u5 vs) H:=by
 obtain⟨rt,rvs,rs,rfl,hrt,hA,r64,hg,q1,q2⟩:=h;have rl:=hA.len;refine⟨_,rfl,_,_,rfl,.inr ⟨_,eO.of hrt,rfl⟩,_,rfl,by lia,by lia,jy (λi σ' H'=>∃o1,σ'=[some (.ref rt),o1]/\aL H H'/\∀m,m<i->¬vc rs m) ⟨_,rfl,aL.refl H,λm z=>absurd z (bW _)⟩ ?_ ?_⟩
 ·rintro i σ' H1 hi ⟨o1,rfl,s1,ah⟩;have hi':i<rs.length:=by lia
  show sL K _ [some (.ref rt),some (.int (0+(i:Int)))] H1;rw[Int.zero_add];refine⟨_,rfl,_,rfl,rt,i,rvs,rs,rfl,s1 _ _ hrt,hA.imp λ_ _ z=>z.mono (.of_same s1),r64,hg,hi',λb H2 ib s2=>⟨_,rfl,i4 (λhb=>?_) λhb=>?_⟩⟩
  ·exact⟨_,rfl,q1 i ⟨ib.mp hb,ah⟩ H2 (s1.trans s2)⟩
  ·refine⟨_,rfl,s1.trans s2,λm lt=>?_⟩;rcases dy.mp lt with z|z
   ·exact ah m z
   ·subst z;intro rg;rw[ib.mpr rg] at hb;cases hb
 ·rintro σ' H1 ⟨o1,rfl,s1,ah⟩;refine q2 (λm rg=>ah m ?_ rg) H1 s1;obtain⟨⟨r,e,_⟩,_⟩:=rg;have:=(ak.mp e).1;lia
def Ak{ss ss':List Str}(nd:ss.Nodup)(nd':ss'.Nodup)(h:∀x,x∈ss'↔x∈ss):ss'.length=ss.length:=
 qy (NS nd' λy hy=>(h y).mp hy) (NS nd λy hy=>(h y).mpr hy)
def R6:∀(l:List Str),∃d:List Str,d.Nodup/\(∀x,x∈d↔x∈l)/\d.length<=l.length/\(¬l.Nodup->d.length<l.length)
 |[]=>⟨[],.nil,λx=>Iff.rfl,aD _,λh=>absurd .nil h⟩
 |a::l=>by
  obtain⟨d,nd,mm,le,lt⟩:=R6 l;by_cases c:a∈l
  ·refine⟨d,nd,λx=>?_,by rw[aI];lia,λ_=>by rw[aI];lia⟩;rw[mm,aE];exact⟨λz=>.inr z,λz=>z.elim (λe=>by rw[e];exact c) id⟩
  ·refine⟨a::d,dw.mpr ⟨λz=>c ((mm a).mp z),nd⟩,λx=>by rw[aE,aE,mm],by rw[aI,aI];lia,λh=>?_⟩;rw[aI,aI];have:=lt λz=>h (dw.mpr ⟨c,z⟩);lia
def BQ{l ss:List Str}(nd:ss.Nodup)(mm:∀x,x∈ss↔x∈l):ss.length<l.length↔¬l.Nodup:=by
 constructor
 ·intro lt z;have:=Ak z nd mm;lia
 ·intro z;obtain⟨d,nd',mm',_,lt⟩:=R6 l;have:=lt z;have e:=Ak nd' nd λx=>(mm x).trans (mm' x).symm;lia
def II{xs:List V}{k:Nat}(h:k<xs.length):¬(HT.sIx xs.length 0 none=0/\HT.sIx xs.length xs.length (some (k:Int))=xs.length):=λz=>by
 have:=z.2;rw[HT.sIx_nat] at this;lia
def M6{α:Type}{xs:List α}{v:α}(e:xs.getLast?=some v):Pp xs (-1)=some v:=by
 have ne:xs≠[]:=λz=>by rw[z] at e;cases e
 have l1:0<xs.length:=cP.mpr ne;rw[cF] at e;unfold Pp Pq;rw[if_neg (by decide),if_pos (by lia)];have:(-1+(xs.length:Int)).toNat=xs.length-1:=by lia
 rw[this];exact e
def Td{K:Fg}{p:ar}{xs:List V}{v:V}{H:Hp}{Q:VK}(h:H p=some (.tup xs))(e:xs.getLast?=some v)(q:Q v H):cJ K (.ref p) (.int (-1)) H Q:=
 .inr (.inl ⟨p,xs,-1,v,rfl,rfl,eO.of h,M6 e,q⟩)
def Wd(r:eJ):lY (.str (Hi r)) [V.str "jump",V.str "give"]=wD r:=by
 cases r with
 |num x z=>show lY (.str "num") _=false;decide +kernel
 |op x s a b=>show lY (.str "op") _=false;decide +kernel
 |call x k as=>show lY (.str "call") _=false;decide +kernel
 |say a=>show lY (.str "say") _=false;decide +kernel
 |jump t=>show lY (.str "jump") _=true;decide +kernel
 |test a t=>show lY (.str "test") _=false;decide +kernel
 |give a=>show lY (.str "give") _=true;decide +kernel
def EC{K:Fg}{vs:List V}{H:Hp}{Q:VK}{E:XK}(h:oq K vs H Q E):vJ K {nx:=λ_ H'=>Q .non H',rt:=Q} (cI pP vs) H:=by
 obtain⟨p,k,bs,b,rfl,⟨pvs,hpt,hA⟩,wd,e2,q1,q2⟩:=h;have kb:k<bs.length:=(ak.mp e2).1;obtain⟨w,b0,e1,e2',hP⟩:=hA.get kb;rw[e2] at e2';cases e2';obtain⟨pt,pa,rt,rvs,rfl,hp1,hp2,hp3,hp4⟩:=id hP;have e1':pvs[((k:Nat):Int).toNat]?=some (.ref pt):=by simpa using e1
 have ps:=wd.part b (aF e2);have few:=wd.few;refine⟨_,rfl,_,rfl,dk hpt (by lia) e1' (Zw hp1 rfl ?_)⟩;show sH K _ [some (.ref p),some (.int (k:Nat)),some (.str b.name),none] H;refine⟨_,rfl,_,rfl,dk hpt (by lia) e1' (Zw hp1 rfl ?_)⟩;show sG K _ [some (.ref p),some (.int (k:Nat)),some (.str b.name),some (.ref pa)] H;refine⟨_,rfl,.inr ⟨_,rfl,_,rfl,_,rfl,.inr ⟨p,pvs,rfl,eO.of hpt,II (by rw[hA.len];exact kb),λtp htp=>?_⟩⟩⟩;rw[mF];have s1:aL H (upd H tp (.tup (pvs.take k))):=(aL.refl H).new htp;have ht1:upd H tp (.tup (pvs.take k)) tp=some (.tup (pvs.take k)):=aj;generalize upd H tp (.tup (pvs.take k))=H1 at s1 ht1 ⊢;refine⟨tp,rfl,⟨_,eO.of ht1⟩,λD hD=>?_⟩;refine zL (xs:=pvs.take k) (λj σ' H'=>∃o,σ'=[some (.ref p),some (.int (k:Nat)),some (.str b.name),some (.ref pa),o]/\H'=upd H1 D (.lst (((bs.take j).map (·.name)).map V.str))) ⟨none,rfl,rfl⟩ ?_ ?_ ?_
 ·rintro j σ' H' _ ⟨o,_,rfl⟩;exact eO.of (by rw[aK (aB ht1 hD)];exact ht1)
 ·rintro j x σ' H' hx ⟨o,rfl,rfl⟩;have jk:j<k:=by have:=(ak.mp hx).1;rw[a8] at this;lia
  rw[iW jk] at hx;obtain⟨b',hb',hP'⟩:=hA.of_v hx;obtain⟨pt',pa',rt',rvs',rfl,hp1',_⟩:=hP';refine jc ⟨_,rfl,dk (by rw[aK (aB (s1 _ _ hp1') hD)];exact s1 _ _ hp1') (by decide) rfl ⟨_,aj,cq (by rw[ae,ae,a8];lia),_,rfl,?_⟩⟩;rw[EW,bL,hb'];simp
 ·rintro σ' H' ⟨o,_,rfl⟩;have tl:(pvs.take k).length=k:=by rw[a8,hA.len];lia
  rw[tl];refine⟨D,_,rfl,.inl (cB.of aj),rfl,sZ _,_,rfl,?_⟩;have s2:aL H (upd H1 D (.lst (((bs.take k).map (·.name)).map V.str))):=s1.new hD;show if(lY (.str b.name) (((bs.take k).map (·.name)).map V.str))=true then _ else _;rw[hU];generalize upd H1 D (.lst (((bs.take k).map (·.name)).map V.str))=H2 at s2 ⊢;refine bC (λz=>q1 (.inl z) H2 s2) λnz=>?_;show sF K _ [some (.ref p),some (.int (k:Nat)),some (.str b.name),some (.ref pa)] H2;refine⟨_,rfl,pa,true,b.params,rfl,eO.of (s2 _ _ hp2),by have:=ps.p9;lia,λss nd' mm=>⟨_,rfl,_,_,rfl,.inr ⟨_,eO.of (s2 _ _ hp2),rfl⟩,_,_,rfl,rfl,_,rfl,?_⟩⟩;have il:=BQ nd' mm;refine bC (λz=>q1 (.inr (il.mp (by rw[ae] at z;lia))) H2 s2) λz=>q2 (λnf=>?_) H2 s2;rcases nf with y|y
  ·exact nz y
  ·exact z (by rw[ae];have:=il.mpr y;lia)
def Gr{K:Fg}{vs:List V}{H:Hp}{Q:VK}{E:XK}(h:qg K vs H Q E):x8 K {nx:=λ_ H'=>Q .non H',rt:=Q} (cI xA vs) H:=by
 obtain⟨p,k,bs,b,rfl,hp,wd,e2,q1,q2⟩:=h;obtain⟨pvs,hpt,hA⟩:=id hp;have kb:k<bs.length:=(ak.mp e2).1;obtain⟨w,b0,e1,e2',hP⟩:=hA.get kb;rw[e2] at e2';cases e2';obtain⟨pt,pa,rt,rvs,rfl,hp1,hp2,hrt,hR⟩:=id hP;have e1':pvs[((k:Nat):Int).toNat]?=some (.ref pt):=by simpa using e1
 have rl:=hR.len;refine⟨_,rfl,_,rfl,dk hpt (by lia) e1' (Zw hp1 rfl ?_)⟩;show uk K _ [some (.ref p),some (.int (k:Nat)),some (.ref rt),none,none] H;refine⟨_,rfl,_,_,rfl,.inr ⟨_,eO.of hrt,rfl⟩,.inl ⟨rfl,_,rfl,bC (λz=>?_) λnz=>?_⟩⟩
 ·have e0:b.rows=[]:=di.mp (by injection z with z;lia);exact q1 0 ⟨.inl ⟨e0,rfl⟩,λm z=>absurd z (bW _)⟩ H (aL.refl H)
 have ne:b.rows≠[]:=λz=>nz (by rw[rl,z];rfl);have pos:0<b.rows.length:=cP.mpr ne;show uh K _ [some (.ref p),some (.int (k:Nat)),some (.ref rt),none,none] H;refine⟨_,rfl,rt,rfl,⟨_,eO.of hrt⟩,CT (xs:=rvs) (λi σ' H'=>∃o3 o4,σ'=[some (.ref p),some (.int (k:Nat)),some (.ref rt),o3,o4]/\aL H H'/\∀(m:Nat) r,m<i->b.rows[m]?=some r->¬Pr (tG bs) b.rows.length r) ⟨_,_,rfl,aL.refl H,λm r z=>absurd z (bW _)⟩ ?_ ?_ ?_⟩
 ·rintro i σ' H' _ ⟨_,_,_,s,_⟩;exact eO.of (s _ _ hrt)
 ·rintro i x σ' H1 a hx na ⟨o3,o4,rfl,s1,ah⟩;obtain⟨r,hr,ra⟩:=hR.of_v hx;have il:i<b.rows.length:=(ak.mp hr).1;refine⟨a,_,rfl,eO.of aj,rfl,_,_,rfl,_,_,rfl,rfl,?_⟩;have s2:aL H (upd H1 a (.tup [.int (i:Nat),x])):=s1.new na;show ug K _ [some (.ref p),some (.int (k:Nat)),some (.ref rt),some (.int (i:Nat)),some x] _;generalize upd H1 a (.tup [.int (i:Nat),x])=H2 at s2 ⊢;have lst:Pr (tG bs) b.rows.length r->jP (yv (tG bs) b) i:=λbd=>⟨.inr ⟨r,hr,.inl bd⟩,λm lt=>by
   rintro(⟨z,_⟩|⟨r',e',z|⟨z,_⟩⟩)
   ·exact ne z
   ·exact ah m r' lt e' z
   ·lia⟩
  refine⟨_,rfl,_,rfl,rt,x,rvs,r,rfl,s2 _ _ hrt,ra.mono (.of_same s2),λb1 i1=>⟨_,rfl,i4 (λh1=>ky ⟨_,rfl,q1 i (lst (D6.mpr (.inl (by rw[<-rl];exact i1.mp h1)))) H2 s2⟩) λh1=>?_⟩⟩;refine⟨_,rfl,_,rfl,p,x,bs,r,rfl,hp.mono (.of_same s2),ra.mono (.of_same s2),λb2 i2=>⟨_,rfl,i4 (λh2=>⟨_,rfl,q1 i (lst (D6.mpr (.inr (i2.mp h2)))) H2 s2⟩) λh2=>⟨_,_,rfl,s2,λm r' lt e'=>?_⟩⟩⟩;rcases dy.mp lt with z|z
  ·exact ah m r' z e'
  ·subst z;rw[hr] at e';cases e';intro bd;rcases D6.mp bd with y|y
   ·rw[i1.mpr (by rw[rl];exact y)] at h1;cases h1
   ·rw[i2.mpr y] at h2;cases h2
 ·rintro σ' H1 ⟨o3,o4,rfl,s1,ah⟩;rw[rl] at ah;have lt:b.rows.length-1<b.rows.length:=by lia
  obtain⟨v,r,ev,er,ra⟩:=hR.get lt;obtain⟨p',xs,rfl,hp'⟩:=ra.ref;have ev':rvs.getLast?=some (.ref p'):=by rw[cF,rl];exact ev
  show uf K _ [some (.ref p),some (.int (k:Nat)),some (.ref rt),o3,o4] H1;refine⟨_,rfl,1,rfl,Td (s1 _ _ hrt) ev' (dk (s1 _ _ hp') (by decide) rfl ⟨Zz,λt ht=>⟨t,_,rfl,.inr (eO.of aj),rfl,rfl,_,rfl,?_⟩⟩)⟩;have s2:aL H (upd H1 t (.tup [.str "jump",.str "give"])):=s1.new ht;show if(!lY (.str (Hi r)) [V.str "jump",V.str "give"])=true then _ else _;rw[Wd];generalize upd H1 t (.tup [.str "jump",.str "give"])=H2 at s2 ⊢;cases c:wD r with
  |true=>
   refine f6 (q2 (λm=>?_) H2 s2);rintro(⟨z,_⟩|⟨r',e',z|⟨z,y⟩⟩)
   ·exact ne z
   ·exact ah m r' ((ak.mp e').1) e' z
   ·rw[show m=b.rows.length-1 from by lia,er] at e';cases e';rw[c] at y;cases y
  |false=>
   refine ky ⟨_,rfl,_,_,rfl,.inr ⟨_,eO.of (s2 _ _ hrt),rfl⟩,_,_,rfl,rfl,?_⟩;show Q (.int ((rvs.length:Int)-1)) H2;rw[rl,show((b.rows.length:Nat):Int)-1=((b.rows.length-1:Nat):Int) from by lia];refine q1 _ ⟨.inr ⟨r,er,.inr ⟨by lia,c⟩⟩,λm lt'=>?_⟩ H2 s2;rintro(⟨z,_⟩|⟨r',e',z|⟨z,y⟩⟩)
   ·exact ne z
   ·exact ah m r' ((ak.mp e').1) e' z
   ·lia
def Ob{E:XK}{k n:Int}{wd:Str}{C:ar}{H:Hp}(h:∀(dx:ar) (H':Hp),aL H H'->H' dx=some (XD dx (zi k n wd))->E (.ref C) (some dx) H') :
  ∀(dx:ar) (H':Hp),aL H H'->H' dx=some (XD dx (zi k n wd))->(nq λ_=>E) (.ref C) (some dx) H':=λdx H' s g x C' T' ec hx nd hT nx=>
 h dx _ (s.new hT) (by rw[aK (aB g hT)];exact g)
def RF{cs:List Nat}{H:Hp}{rvs:List V}{b:bw}(hR:cR (h9 H) rvs b.rows)(ok:∀m,¬yv cs b m):cR (e6 H) rvs b.low.rows:=by
 refine⟨by rw[hR.len];exact(ae ..).symm,λi v r' ev er=>?_⟩;have er:(b.rows.map eJ.low)[i]?=some r':=er;rw[aQ] at er;obtain⟨r0,e0,rfl⟩:=b4.mp er;exact(hR.at_ i v r0 ev e0).low (Pr.ok0 (yX ok r0 (aF e0)))
def Mb{K:Fg}{vs:List V}{H:Hp}{Q:VK}{E:XK}(h:uK K vs H Q E):Dv K E {nx:=λ_ H'=>Q .non H',rt:=Q} (cI Cz vs) H:=by
 obtain⟨p,bs,rfl,hp,wd,q1,q2⟩:=h;obtain⟨pvs,hpt,hA⟩:=id hp;refine⟨_,rfl,p,rfl,⟨_,eO.of hpt⟩,CT (xs:=pvs) (λi σ' H'=>∃o1 o2,σ'=[some (.ref p),o1,o2]/\aL H H'/\∀(j:Nat) b,j<i->bs[j]?=some b->JO bs j b) ⟨_,_,rfl,aL.refl H,λj b z=>absurd z (bW _)⟩ ?_ ?_ ?_⟩
 ·rintro i σ' H' _ ⟨_,_,_,s,_⟩;exact eO.of (s _ _ hpt)
 ·rintro i x σ' H1 a hx na ⟨o1,o2,rfl,s1,ah⟩;obtain⟨b,hb,hP⟩:=hA.of_v hx;have ps:=wd.part b (aF hb);refine⟨a,_,rfl,eO.of aj,rfl,_,_,rfl,_,_,rfl,rfl,?_⟩;have s2:aL H (upd H1 a (.tup [.int (i:Nat),x])):=s1.new na;show xZ K E _ [some (.ref p),some (.int (i:Nat)),some x] _;generalize upd H1 a (.tup [.int (i:Nat),x])=H2 at s2 ⊢;have out:∀(n:Nat) (w:Str),xD bs i b n w->∀H3,aL H H3->∀(dx:ar) (H':Hp),aL H3 H'->H' dx=some (XD dx (zi (i:Nat) (n:Nat) w))->(nq λ_=>E) (.ref (cg K "NoProgram")) (some dx) H':=λn w pf H3 s3=>
   Ob λdx H' s g=>q2 i n w ⟨⟨b,hb,pf⟩,ah⟩ dx H' (s3.trans s) g
  refine⟨_,rfl,_,rfl,_,rfl,p,i,bs,b,rfl,hp.mono (.of_same s2),wd,hb,λnf H3 s3=>⟨i,_,"name",rfl,.inr ⟨0,rfl,out 0 _ (.name nf) H3 (s2.trans s3)⟩⟩,λnn H3 s3=>⟨i,.non,"name",rfl,.inl ⟨rfl,?_⟩⟩⟩;have s3':=s2.trans s3;refine⟨_,rfl,_,rfl,_,rfl,p,i,bs,b,rfl,hp.mono (.of_same s3'),wd,hb,λn lf H4 s4=>⟨i,_,"row",rfl,.inr ⟨(n:Nat),rfl,out n _ (.row nn lf) H4 (s3'.trans s4)⟩⟩,λnr H4 s4=>⟨i,.non,"row",rfl,.inl ⟨rfl,?_⟩⟩⟩;have s4':=s3'.trans s4;obtain⟨pt,pa,rt,rvs,rfl,hpt4,hpa4,hrt4,hR4⟩:=hP.mono (.of_same s4');have R4:=RF hR4 nr;have few:b.low.rows.length<64:=by show(b.rows.map eJ.low).length<64;rw[ae];exact ps.few
  refine⟨_,rfl,_,rfl,Zw hpt4 rfl ⟨rt,rvs,b.low.rows,rfl,hrt4,R4,few,FP nr,λn lf H5 s5=>⟨i,_,"ring",rfl,.inr ⟨(n:Nat),rfl,out n _ (.ring nn nr lf) H5 (s4'.trans s5)⟩⟩,λng H5 s5=>⟨i,.non,"ring",rfl,.inl ⟨rfl,?_⟩⟩⟩⟩;have s5':=s4'.trans s5;refine⟨_,rfl,_,rfl,_,b.low,_,rfl,(hP.mono (.of_same s5')).low nr,OS ps nn nr ng,λcl H6 s6=>⟨i,.non,"unset",rfl,.inl ⟨rfl,?_⟩⟩,λn un mn H6 s6=>⟨i,_,"unset",rfl,.inr ⟨(n:Nat),rfl,out n _ (.unset nn nr ng ⟨un,mn⟩) H6 (s5'.trans s6)⟩⟩⟩;refine⟨_,_,rfl,s5'.trans s6,λj b' lt e=>?_⟩;rcases dy.mp lt with z|z
  ·exact ah j b' z e
  ·subst z;rw[hb] at e;cases e;exact⟨nn,nr,ng,cl⟩
 ·rintro σ' H' ⟨_,_,_,s,ah⟩;refine q1 (λk b e=>ah k b ?_ e) H' s;have:=(ak.mp e).1;rw[hA.len];exact this
def M5{b:List Bool}:b.all id=true↔∀x∈b,x=true:=by
 rw[eE];exact⟨λh x hx=>h x hx,λh x hx=>h x hx⟩
def IA{K:Fg}{z:Str}{H:Hp}(hz:z.length<=99000):PH K (.str z) H z.length:=⟨cT (cq (by lia)),rfl⟩
def Ac(c:Nat):c∈("abcdefghijklmnopqrstuvwxyz":Str).cps.toList↔97<=c/\c<=122:=by
 have e:("abcdefghijklmnopqrstuvwxyz":Str).cps.toList=(cK 26).map (·+97):=by decide +kernel
 rw[e,bA];constructor
 ·rintro⟨i,hi,rfl⟩;have:=eM.mp hi;exact⟨by lia,by lia⟩
 ·rintro⟨h1,h2⟩;exact⟨c-97,eM.mpr (by lia),by lia⟩
def zQ(c:Nat):c∈("0123456789":Str).cps.toList↔48<=c/\c<=57:=by
 have e:("0123456789":Str).cps.toList=(cK 10).map (·+48):=by decide +kernel
 rw[e,bA];constructor
 ·rintro⟨i,hi,rfl⟩;have:=eM.mp hi;exact⟨by lia,by lia⟩
 ·rintro⟨h1,h2⟩;exact⟨c-48,eM.mpr (by lia),by lia⟩
def SM{y:Str}{i c:Nat}(h:y.cps[i]?=some c):y.cps.toList[i]?=some c:=by rw[dD];exact h
def HS{K:Fg}{y:Str}{te:TE}{P:Nat->Bool}{H:Hp}{Q:VK}(hte:∀(c:Nat) (H:Hp) (Q:VK),Q (.bl (P c)) H->te [some (.str y),some (.str ⟨#[c]⟩)] H Q)(hy:y.length<=99000)(q:∀(b:Bool) (H':Hp),(b=true↔∀c∈y.cps.toList,P c=true)->aL H H'->Q (.bl b) H') :
  fj (Gh K) (ai (fE [] 1 (FS (ao 0)) (aU 1) kH te) aJ) [some (.str y)] H Q:=by
 refine⟨_,rfl,y,rfl,λD nD=>?_⟩;refine Nf (λi σ' H'=>∃(bs:List Bool) (o:Option V),σ'=[some (.str y),o]/\H' D=some (.lst (bs.map V.bl))/\bs.length=i/\(∀(j:Nat) b,bs[j]?=some b->∃c,y.cps.toList[j]?=some c/\b=P c)/\aL H H') ?_ ?_ ?_
 ·exact⟨[],none,rfl,aj,rfl,λj b z=>by simp at z,(aL.refl H).new nD⟩
 ·rintro i c σ' H' hc ⟨bs,o,rfl,hD,hl,hb,s⟩;have hi:i<y.length:=(bN.mp hc).1;refine jc (hte c _ _ ⟨_,hD,cq (by rw[ae];lia),bs++[P c],_,rfl,by rw[aj,aN];rfl,by simp[hl],λj b z=>?_,f9 s nD⟩);by_cases hj:j<bs.length
  ·rw[cE hj] at z;exact hb j b z
  ·rw[bT (by lia)] at z;have e0:j-bs.length=0:=by
    have:=(ak.mp z).1;simp at this;lia
   rw[e0] at z;have ej:j=i:=by lia
   subst ej;exact⟨c,SM hc,by simpa using z.symm⟩
 ·rintro σ' H' ⟨bs,o,_,hD,hl,hb,s⟩;refine⟨D,bs,rfl,cB.of hD,q _ H' ?_ s⟩;rw[M5];constructor
  ·intro h c hc;obtain⟨j,hj,e⟩:=bV.mp hc;have jl:j<bs.length:=by rw[hl,<-bg];exact hj
   obtain⟨c',e1,e2⟩:=hb j bs[j] (af jl);rw[af hj,e] at e1;cases e1;have:=h bs[j] (ck jl);rw[this] at e2;exact e2.symm
  ·intro h x hx;obtain⟨j,hj,e⟩:=bV.mp hx;obtain⟨c,e1,e2⟩:=hb j x (by rw[af hj,e]);rw[e2];exact h c (aF e1)
def CG{K:Fg}{y Z:Str}{H:Hp}{Q:VK}(hy:y.length<=99000)(q:∀(b:Bool) (H':Hp),(b=true↔∀c∈y.cps.toList,c∈Z.cps.toList)->aL H H'->Q (.bl b) H') :
  fj (Gh K) (ai (fE [] 1 (FS (ao 0)) (aU 1) kH (a9 (Gj K) (ao 1) (tC (.str Z)))) aJ) [some (.str y)] H Q:=
 HS (P:=λc=>decide (c∈Z.cps.toList)) (λc _ _ q=>⟨_,rfl,.inr ⟨c,Z,rfl,rfl,q⟩⟩) hy λb H' hb s=>q b H' (hb.trans ⟨λh c hc=>of_decide_eq_true (h c hc),λh c hc=>decide_eq_true (h c hc)⟩) s
def Gq{K:Fg}{vs:List V}{H:Hp}{Q:VK}{E:XK}(h:gu K vs H Q E):x6 K {nx:=λ_ H'=>Q .non H',rt:=Q} (cI rM vs) H:=by
 obtain⟨y,rfl,hy,q⟩:=h;refine⟨_,rfl,_,_,rfl,IA hy,_,_,rfl,rfl,_,rfl,bC (λc=>?_) (λc=>?_)⟩
 ·exact ky (q false H ⟨λz=>(by cases z),λn=>absurd n.l1 (by lia)⟩ (aL.refl H))
 refine⟨_,rfl,_,_,rfl,IA hy,_,_,rfl,rfl,_,rfl,bC (λc2=>?_) (λc2=>?_)⟩
 ·exact ky (q false H ⟨λz=>(by cases z),λn=>absurd n.l8 (by lia)⟩ (aL.refl H))
 refine⟨_,rfl,λp hp=>.inl ⟨p,_,rfl,.inr (hp H),rfl,rfl,_,rfl,?_⟩⟩;have e:lY (.str y) [.str "part",.str "call",.str "say",.str "jump",.str "test",.str "give"]=decide (y∈vp):=hU y vp;rw[show(if false=true then !lY (V.str y) [.str "part",.str "call",.str "say",.str "jump",.str "test",.str "give"] else lY (.str y) [.str "part",.str "call",.str "say",.str "jump",.str "test",.str "give"])=decide (y∈vp) from e];refine bC (λc3=>q false H ⟨λz=>(by cases z),λn=>absurd c3 n.no⟩ (aL.refl H)) λc3=>?_;refine CG hy λb H' hb s=>q b H' ?_ s;rw[hb];exact⟨λh=>⟨by lia,by lia,λc hc=>(Ac c).mp (h c hc),c3⟩,λn c hc=>(Ac c).mpr (n.abc c hc)⟩
def BV{K:Fg}{vs:List V}{H:Hp}{Q:VK}{E:XK}(h:iF K vs H Q E):ud K {nx:=λ_ H'=>Q .non H',rt:=Q} (cI nX vs) H:=by
 obtain⟨y,rfl,hy,q⟩:=h;refine⟨_,rfl,_,_,rfl,IA hy,_,_,rfl,rfl,_,rfl,bC (λc=>?_) (λc=>?_)⟩
 ·exact ky (q false H ⟨λz=>(by cases z),λn=>absurd n.l1 (by lia)⟩ (aL.refl H))
 refine⟨_,rfl,_,_,rfl,IA hy,_,_,rfl,rfl,_,rfl,bC (λc2=>?_) (λc2=>?_)⟩
 ·exact q false H ⟨λz=>(by cases z),λn=>absurd n.l20 (by lia)⟩ (aL.refl H)
 have pos:0<y.cps.toList.length:=by
  rw[bg];show 0<y.length;lia
 obtain⟨c0,r0,e0⟩:∃c r,y.cps.toList=c::r:=by
  cases h:y.cps.toList with
  |nil=>rw[h] at pos;cases pos
  |cons c r=>exact⟨c,r,rfl⟩
 have fin:(y.cps.toList.head?=some 48->y="0")->qS K {nx:=λ_ H'=>Q .non H',rt:=Q} [some (.str y)] H:=λld=>
  CG hy λb H' hb s=>q b H' (by
   rw[hb];exact⟨λh=>⟨by lia,by lia,λc hc=>(zQ c).mp (h c hc),ld⟩,λn c hc=>(zQ c).mpr (n.dig c hc)⟩) s
 show qT K _ [some (.str y)] H;refine⟨_,rfl,Vd (cT (cq (by lia))) (by decide) (by rw[e0];rfl) (.inl ⟨rfl,_,rfl,bC (λc3=>?_) (λc3=>?_)⟩)⟩
 ·refine⟨_,rfl,.inl ⟨rfl,_,rfl,jS (λc4=>?_) (λc4=>?_)⟩⟩
  ·refine q false H ⟨λz=>(by cases z),λn=>?_⟩ (aL.refl H);have:c0=48:=by
    have c3:(V.str ⟨#[c0]⟩)=V.str "0":=c3;injection c3 with c3;have:(⟨#[c0]⟩:Str).cps.toList=("0":Str).cps.toList:=by rw[c3]
    rw[show("0":Str).cps.toList=[48] from by decide +kernel] at this;injection this
   exact absurd (by rw[n.lead (by rw[e0,this];rfl)]) c4
  ·exact fin λ_=>by injection c4
 ·refine f6 (fin λz=>?_);rw[e0] at z;have:c0=48:=by simpa using z
  subst this;exact absurd (by rw[show("0":Str)=⟨#[48]⟩ from by decide +kernel]) c3
def tV{K:Fg}{vs:List V}{H:Hp}{Q:VK}{E:XK}(h:j4 K vs H Q E):uc K {nx:=λ_ H'=>Q .non H',rt:=Q} (cI nW vs) H:=by
 obtain⟨l,ys,rfl,hl,few,sh,q⟩:=h;refine .inl ⟨_,rfl,l,rfl,⟨_,cB.of hl⟩,λD nD=>?_⟩;have nl:l≠D:=aB hl nD;refine hW (xs:=ys.map V.str) (λi σ' H'=>∃(bs:List Bool) (o:Option V),σ'=[some (.ref l),o]/\H' D=some (.lst (bs.map V.bl))/\bs.length=i/\(∀(j:Nat) b,bs[j]?=some b->∃y,ys[j]?=some y/\(b=true↔Nm y))/\aL H H') ?_ ?_ ?_ ?_
 ·exact⟨[],none,rfl,aj,rfl,λj b z=>by simp at z,(aL.refl H).new nD⟩
 ·rintro i σ' H' _ ⟨bs,o,rfl,_,_,_,s⟩;exact cB.of (s _ _ hl)
 ·rintro i x σ' H' hx ⟨bs,o,rfl,hD,hbl,hb,s⟩;obtain⟨y,hy,rfl⟩:=ql hx;have hi:i<ys.length:=(ak.mp hy).1;refine jc ⟨_,rfl,y,rfl,sh y (aF hy),λb H2 eb s2=>⟨_,s2 _ _ hD,cq (by rw[ae];lia),bs++[b],_,rfl,by rw[aj,aN];rfl,by simp[hbl],λj b' z=>?_,f9 (s.trans s2) nD⟩⟩;by_cases hj:j<bs.length
  ·rw[cE hj] at z;exact hb j b' z
  ·rw[bT (by lia)] at z;have e0:j-bs.length=0:=by
    have:=(ak.mp z).1;simp at this;lia
   rw[e0] at z;have ej:j=i:=by lia
   subst ej;have:b=b':=by simpa using z
   subst this;exact⟨y,hy,eb⟩
 ·rintro σ' H' ⟨bs,o,_,hD,hbl,hb,s⟩;rw[ae] at hbl;refine⟨D,bs,rfl,cB.of hD,q _ H' ?_ s⟩;rw[M5];constructor
  ·intro h y hy;obtain⟨j,hj,e⟩:=bV.mp hy;have jl:j<bs.length:=by lia
   obtain⟨y',e1,e2⟩:=hb j bs[j] (af jl);rw[af hj,e] at e1;cases e1;exact e2.mp (h _ (ck jl))
  ·intro h x hx;obtain⟨j,hj,e⟩:=bV.mp hx;obtain⟨y,e1,e2⟩:=hb j x (by rw[af hj,e]);exact e2.mpr (h y (aF e1))
def lG{K:Fg}{l:ar}{ws:List Str}{i:Nat}{w:Str}{H:Hp}{Q:VK}(hl:H l=some (.lst (ws.map V.str)))(e:ws[i]?=some w)(q:Q (.str w) H):cJ K (.ref l) (.int (i:Nat)) H Q:=
 pS (cB.of hl) (Int.natCast_nonneg _) (by rw[dJ];exact sy e) q
def jA{K:Fg}{l:ar}{ws:List Str}{H:Hp}(hl:H l=some (.lst (ws.map V.str))):PH K (.ref l) H ws.length:=.inl ⟨_,cB.of hl,by rw[ae]⟩
def pQ(ws:List Str)(c:Nat):nZ (ws.map V.str) (some (c:Int)) none=(ws.drop c).map V.str:=by rw[zM,nK]
def Ai{y:Str}(h:Nb y):PySem.intText? y=some ((qu y:Nat):Int):=by
 refine PySem.intText_digits h.dig ?_ (by have:=h.l20;lia);intro z;have:=h.l1;rw[show y.length=y.cps.toList.length from(bg ..).symm,z] at this;cases this
def Tr{α:Type}{l:List α}(h:l.length=2):∃a b,l=[a,b]:=by
 match l,h with
 |[a,b],_=>exact⟨a,b,rfl⟩
def Ts{α:Type}{l:List α}(h:l.length=3):∃a b c,l=[a,b,c]:=by
 match l,h with
 |[a,b,c],_=>exact⟨a,b,c,rfl⟩
def zE(ws:List Str):Prop:=(∃y,ws=[y]/\Nb y/\qu y<2 ^ 64)\/(∃f as,ws=(("call":Str)::f::as)/\Nm f/\∀y∈as,Nm y)\/∃a s b,ws=[a,s,b]/\s∈jC/\Nm a/\Nm b
def OR{x:Str}{ws:List Str}{r:cL}(h:dn (x::"="::ws) r):Nm x/\zE ws:=by
 rcases h.key with⟨t,e,m⟩|⟨e,x',t,ex,nx⟩
 ·cases r with
  |part y ps=>obtain⟨e,n,_⟩:=h;injection e with _ e;injection e with e _;exact absurd n (by rw[<-e];exact J8)
  |say a=>obtain⟨e,n⟩:=h;injection e with _ e;injection e with e _;exact absurd n (by rw[<-e];exact J8)
  |jump to=>obtain⟨y,e,n,_⟩:=h;injection e with _ e;injection e with e _;exact absurd n (by rw[<-e];exact Vh)
  |test a to=>obtain⟨y,e,n,_⟩:=h;injection e with _ e;injection e with e _;exact absurd n (by rw[<-e];exact J8)
  |give a=>obtain⟨e,n⟩:=h;injection e with _ e;injection e with e _;exact absurd n (by rw[<-e];exact J8)
  |_=>exact absurd m (by simp only[iK];decide +kernel)
 ·cases r with
  |num y z=>obtain⟨w,e,n,nb,_,lt⟩:=h;injection e with e1 e;injection e with _ e;exact⟨by rw[e1];exact n,.inl ⟨w,e,nb,lt⟩⟩
  |op y s a b=>obtain⟨e,n,ns,na,nb⟩:=h;injection e with e1 e;injection e with _ e;exact⟨by rw[e1];exact n,.inr (.inr ⟨a,s,b,e,ns,na,nb⟩)⟩
  |call y f as=>obtain⟨e,n,nf,na⟩:=h;injection e with e1 e;injection e with _ e;exact⟨by rw[e1];exact n,.inr (.inl ⟨f,as,e,nf,na⟩)⟩
  |_=>exact absurd e (by simp only[iK];decide +kernel)
def N4:(2:Nat) ^ 64=18446744073709551616:=by decide
def Sh:(2:Int) ^ fo 64=18446744073709551616:=by decide
def wW{K:Fg}{vs:List V}{H:Hp}{Q:VK}{E:XK}(h:j8 K vs H Q E):pG K {nx:=λ_ H'=>Q .non H',rt:=Q} (cI oO vs) H:=by
 obtain⟨l,ws,rfl,hl,l2,e1,few,sh,q⟩:=h;obtain⟨x,ws',rfl⟩:∃x r,ws=x::r:=by
  cases ws with
  |nil=>cases l2
  |cons x r=>exact⟨x,r,rfl⟩
 obtain⟨ws',rfl⟩:∃r,ws'=(("=":Str)::r):=by
  cases ws' with
  |nil=>simp at e1
  |cons y r=>
   have:y=("=":Str):=by simpa using e1
   exact⟨r,by rw[this]⟩
 have none_of:∀{H':Hp},aL H H'->¬(Nm x/\zE ws')->Q .non H':=λs n=>q .non _ (by rw[kX λr z=>n (OR z)];rfl) s;have some_of:∀{H':Hp} {v:V} {r:cL},aL H H'->dn (x::"="::ws') r->gN H' v r->Q v H':=λs lr la=>q _ _ (by rw[kY lr];exact la) s;have shx:=sh x (by simp);have k2:∀H1,aL H H1->Nm x->(¬∃y,ws'=[y]/\Nb y/\qu y<2 ^ 64)->(¬∃f as,ws'=(("call":Str)::f::as)/\Nm f/\∀y∈as,Nm y)->mQ K {nx:=λ_ H'=>Q .non H',rt:=Q} [some (.ref l),some (.str x)] H1:=λH1 s1 nx n1 n2=>by
  have hl1:=s1 _ _ hl;have bad:∀{H':Hp},aL H H'->(¬∃a s b,ws'=[a,s,b]/\s∈jC/\Nm a/\Nm b)->Q .non H':=λs n3=>none_of s λ⟨_,z⟩=>z.elim n1 λz=>z.elim n2 n3;refine⟨_,rfl,_,_,rfl,jA hl1,.inl ⟨rfl,_,rfl,bC (λc=>?_) (λc=>f6 (bad s1 ?_))⟩⟩
  ·obtain⟨a,s,b,rfl⟩:∃a s b,ws'=[a,s,b]:=by
    have c:V.int (((x::"="::ws').length:Nat):Int)=V.int 5:=c;injection c with c;have:(ws').length=3:=by rw[aI,aI] at c;lia
    exact Ts this
   have sha:=sh a (by simp);have shb:=sh b (by simp);refine⟨_,rfl,lG (i:=3) hl1 rfl λp hp=>.inl ⟨p,_,rfl,.inr (hp H1),rfl,rfl,_,rfl,?_⟩⟩;have e:lY (.str s) [.str "+",.str "-",.str "*",.str "<",.str "="]=decide (s∈jC):=hU s jC;rw[show(if false=true then !lY (V.str s) [.str "+",.str "-",.str "*",.str "<",.str "="] else lY (.str s) [.str "+",.str "-",.str "*",.str "<",.str "="])=decide (s∈jC) from e];refine bC (λc3=>?_) λc3=>f6 (bad s1 λ⟨a',s',b',e,m,_⟩=>?_);rotate_left
   ·injection e with _ e;injection e with e _;exact c3 (by rw[e];exact m)
   refine⟨_,rfl,lG (i:=2) hl1 rfl ⟨a,rfl,sha,λba H2 hba s2=>⟨_,rfl,i4 (λea=>?_) (λea=>f6 (bad (s1.trans s2) λ⟨a',s',b',e,_,m,_⟩=>?_))⟩⟩⟩;rotate_left
   ·injection e with e _;rw[<-e] at m;rw[hba.mpr m] at ea;cases ea
   have hl2:=s2 _ _ hl1;refine⟨_,rfl,lG (i:=4) hl2 rfl ⟨b,rfl,shb,λbb H3 hbb s3=>⟨_,rfl,i4 (λeb=>?_) (λeb=>bad ((s1.trans s2).trans s3) λ⟨a',s',b',e,_,_,m⟩=>?_)⟩⟩⟩;rotate_left
   ·injection e with _ e;injection e with _ e;injection e with e _;rw[<-e] at m;rw[hbb.mpr m] at eb;cases eb
   have hl3:=s3 _ _ hl2;refine⟨_,rfl,_,rfl,lG (i:=3) hl3 rfl ⟨_,rfl,lG (i:=2) hl3 rfl ⟨_,rfl,lG (i:=4) hl3 rfl ⟨ZD,λt ht=>?_⟩⟩⟩⟩;exact some_of (((s1.trans s2).trans s3).new ht) (r:=.op x s a b) ⟨rfl,nx,c3,hba.mp ea,hbb.mp eb⟩ ⟨t,rfl,aj⟩
  ·rintro⟨a,s,b,rfl,_⟩;exact c rfl
 have k3:∀H1,aL H H1->Nm x->(¬∃y,ws'=[y]/\Nb y/\qu y<2 ^ 64)->mR K {nx:=λ_ H'=>Q .non H',rt:=Q} [some (.ref l),some (.str x)] H1:=λH1 s1 nx n1=>by
  have hl1:=s1 _ _ hl;refine⟨_,rfl,_,_,rfl,jA hl1,_,_,rfl,rfl,_,rfl,bC (λc=>?_) (λc=>f6 (k2 H1 s1 nx n1 ?_))⟩
  ·obtain⟨w,f,as,rfl⟩:∃w f as,ws'=w::f::as:=by
    match ws',c with
    |[],c=>exact absurd c (by simp)
    |[w],c=>exact absurd c (by simp)
    |w::f::as,_=>exact⟨w,f,as,rfl⟩
   refine⟨_,rfl,lG (i:=2) hl1 rfl (.inl ⟨rfl,_,rfl,bC (λc2=>?_) (λc2=>f6 (k2 H1 s1 nx n1 λ⟨f',as',e,_⟩=>?_))⟩)⟩;rotate_left
   ·injection e with e _;exact c2 (by rw[e])
   have:w="call":=by injection c2
   subst this;refine⟨_,rfl,3,rfl,.inl ⟨l,_,rfl,cB.of hl1,λD nD=>?_⟩⟩;rw[show((3:Int))=((3:Nat):Int) from rfl,pQ];have s2:aL H1 (upd H1 D (.lst (((x::"="::"call"::f::as).drop 3).map V.str))):=(aL.refl H1).new nD;have hD:upd H1 D (.lst (((x::"="::"call"::f::as).drop 3).map V.str)) D=some (.lst ((f::as).map V.str)):=aj;generalize upd H1 D (.lst (((x::"="::"call"::f::as).drop 3).map V.str))=H2 at s2 hD ⊢;have fewl:(f::as).length<=99000:=by simp only[aI] at few ⊢;lia
   refine⟨D,f::as,rfl,hD,fewl,λy hy=>sh y (by simp only[aE] at hy ⊢;rcases hy with z|z<;>simp[z]),λb H3 hb s3=>⟨_,rfl,i4 (λeb=>?_) (λeb=>k2 H3 ((s1.trans s2).trans s3) nx n1 λ⟨f',as',e,nf,na⟩=>?_)⟩⟩;rotate_left
   ·injection e with _ e;injection e with e1 e2;subst e1;subst e2;rw[hb.mpr λy hy=>(aE.mp hy).elim (λe=>by rw[e];exact nf) (na y)] at eb;cases eb
   have nm:=hb.mp eb;have s3':=(s1.trans s2).trans s3;have hl3:=s3' _ _ hl;refine⟨_,rfl,_,rfl,lG (i:=3) hl3 rfl ⟨_,rfl,4,rfl,.inl ⟨l,_,rfl,cB.of hl3,λD2 nD2=>?_⟩⟩⟩;rw[show((4:Int))=((4:Nat):Int) from rfl,pQ];have s4:aL H3 (upd H3 D2 (.lst (((x::"="::"call"::f::as).drop 4).map V.str))):=(aL.refl H3).new nD2;have hD2:upd H3 D2 (.lst (((x::"="::"call"::f::as).drop 4).map V.str)) D2=some (.lst (as.map V.str)):=aj;generalize upd H3 D2 (.lst (((x::"="::"call"::f::as).drop 4).map V.str))=H4 at s4 hD2 ⊢;refine⟨D2,_,rfl,.inl ⟨cB.of hD2,λt nt=>⟨ZC,λu nu=>?_⟩⟩⟩;exact some_of (((s3'.trans s4).new nt).new nu) (r:=.call x f as) ⟨rfl,nx,nm f (by simp),λy hy=>nm y (by simp[hy])⟩ ⟨u,t,rfl,aj,(aL.refl _).new nu _ _ aj⟩
  ·rintro⟨f,as,rfl,_⟩;exact c (by simp only[aI];lia)
 refine⟨_,rfl,lG (i:=0) hl rfl ?_⟩;show mT K _ [some (.ref l),some (.str x)] H;refine⟨_,rfl,x,rfl,shx,λb H1 hb s1=>⟨_,rfl,?_⟩⟩;cases b with
 |false=>exact ky (none_of s1 λz=>by cases hb.mpr z.1)
 |true=>
  refine f6 ?_;have nx:=hb.mp rfl;have hl1:=s1 _ _ hl;show mS K _ [some (.ref l),some (.str x)] H1;refine⟨_,rfl,_,_,rfl,jA hl1,.inl ⟨rfl,_,rfl,bC (λc=>?_) (λc=>f6 (k3 H1 s1 nx ?_))⟩⟩
  ·obtain⟨y,rfl⟩:∃y,ws'=[y]:=by
    have c:V.int (((x::"="::ws').length:Nat):Int)=V.int 3:=c;injection c with c;have:ws'.length=1:=by rw[aI,aI] at c;lia
    match ws',this with
    |[y],_=>exact⟨y,rfl⟩
   have shy:=sh y (by simp);refine⟨_,rfl,lG (i:=2) hl1 rfl ⟨y,rfl,shy,λb H2 hb s2=>⟨_,rfl,i4 (λeb=>?_) (λeb=>f6 (k3 H2 (s1.trans s2) nx λ⟨y',e,nb,_⟩=>?_))⟩⟩⟩;rotate_left
   ·injection e with e _;subst e;rw[hb.mpr nb] at eb;cases eb
   have nb:=hb.mp eb;have s2':=s1.trans s2;have hl2:=s2' _ _ hl;have l640:y.length<=640:=by have:=nb.l20;lia
   obtain⟨M,hM,hM'⟩:∃M:Int,(2:Int) ^ fo 64=M/\M=18446744073709551616:=⟨_,rfl,Sh⟩;refine⟨_,rfl,lG (i:=2) hl2 rfl ⟨y,_,rfl,Ai nb,l640,_,_,rfl,rfl,⟨by decide,by decide,by decide⟩,_,_,rfl,rfl,_,rfl,?_⟩⟩;rw[hM];refine bC (λc3=>?_) (λc3=>k3 H2 s2' nx λ⟨y',e,_,lt⟩=>?_)
   ·rw[hM'] at c3;refine⟨_,rfl,_,rfl,lG (i:=2) hl2 rfl ⟨y,_,rfl,Ai nb,l640,ZA,λt ht=>?_⟩⟩;exact some_of (s2'.new ht) (r:=.num x (qu y)) ⟨y,rfl,nx,nb,rfl,by rw[N4];lia⟩ ⟨t,rfl,aj⟩
   ·injection e with e _;subst e;rw[N4] at lt;rw[hM'] at c3;lia
  ·rintro⟨y,rfl,_⟩;exact c rfl
def xf(z y:Str):(Txt.split z y).length<=z.length+2:=by
 unfold Txt.split;split
 ·show 1<=_;lia
 ·split
  ·show 1<=_;lia
  ·have e1:=StrLaws.occ_length_le z y 0 z.length (z.length+1);rw[PySem.length_partsBetween];lia
def sx{z y w:Str}(h:w∈Txt.split z y):w.length<=z.length:=PyProof.Rows.part_short h
def Tb{K:Fg}{H:Hp}{t:ar}{w a b:Str}{Q:VK}(ht:H t=some (.tup [.str a,.str b]))(q:Q (.bl (decide (w∈[a,b]))) H):Gj K (.str w) (.ref t) H Q:=by
 refine .inl ⟨t,_,rfl,.inr (eO.of ht),rfl,rfl,?_⟩;have e:lY (.str w) [.str a,.str b]=decide (w∈[a,b]):=hU w [a,b];show Q (.bl (lY (.str w) [.str a,.str b])) H;rw[e];exact q
def BW{K:Fg}{vs:List V}{H:Hp}{Q:VK}{E:XK}(h:mM K vs H Q E):ue K {nx:=λ_ H'=>Q .non H',rt:=Q} (cI tQ vs) H:=by
 obtain⟨x,rfl,hx,q⟩:=h;have few:(Txt.split x " ").length<=99000:=by have:=xf x " ";lia
 have sh:∀y∈Txt.split x " ",y.length<=99000:=λy hy=>by have:=sx hy;lia
 have ne:=pj x " ";refine⟨_,rfl,rfl,x," ",rfl,rfl,by decide +kernel,(by have:=cq (n:=x.length+3) (by lia);lia),λl nl=>?_⟩;show qY K _ [some (.str x),some (.ref l)] _;have s0:aL H (upd H l (.lst ((Txt.split x " ").map V.str))):=(aL.refl H).new nl;have hl0:upd H l (.lst ((Txt.split x " ").map V.str)) l=some (.lst ((Txt.split x " ").map V.str)):=aj;generalize upd H l (.lst ((Txt.split x " ").map V.str))=H0 at s0 hl0 ⊢;generalize Txt.split x " "=ws at few sh ne q hl0;obtain⟨w0,rest,rfl⟩:∃w r,ws=w::r:=by
  cases ws with
  |nil=>exact absurd rfl ne
  |cons w r=>exact⟨w,r,rfl⟩
 have sh0:=sh w0 (by simp);have some_of:∀{H':Hp} {v:V} {r:cL},aL H0 H'->dn (w0::rest) r->gN H' v r->Q v H':=λs lr la=>q _ _ (by rw[kY lr];exact la) (s0.trans s);have k1:∀H1,aL H0 H1->(¬∃t,rest=(("=":Str)::t))->(¬∃y ps,w0="part"/\rest=y::ps/\Nm y/\∀z∈ps,Nm z)->(¬∃a,(w0="say"\/w0="give")/\rest=[a]/\Nm a)->(¬∃y,w0="jump"/\rest=[y]/\Nb y)->(¬∃a y,w0="test"/\rest=[a,y]/\Nm a/\Nb y)->Q .non H1:=λH1 s1 n0 n5 n4 n3 n2=>by
  refine q .non H1 ?_ (s0.trans s1);rw[kX λr h=>?_]
  ·rfl
  rcases h.key with⟨t,e,m⟩|⟨e,x',t,ex,nx⟩
  ·cases r with
   |part y ps=>obtain⟨e,n,np⟩:=h;injection e with e1 e;exact n5 ⟨y,ps,e1,e,n,np⟩
   |say a=>obtain⟨e,n⟩:=h;injection e with e1 e;exact n4 ⟨a,.inl e1,e,n⟩
   |jump to=>obtain⟨y,e,n,_⟩:=h;injection e with e1 e;exact n3 ⟨y,e1,e,n⟩
   |test a to=>obtain⟨y,e,n,nb,_⟩:=h;injection e with e1 e;exact n2 ⟨a,y,e1,e,n,nb⟩
   |give a=>obtain⟨e,n⟩:=h;injection e with e1 e;exact n4 ⟨a,.inr e1,e,n⟩
   |_=>exact absurd m (by simp only[iK];decide +kernel)
  ·injection ex with _ ex;exact n0 ⟨t,ex⟩
 have k2:∀H1,aL H0 H1->(¬∃t,rest=(("=":Str)::t))->(¬∃y ps,w0="part"/\rest=y::ps/\Nm y/\∀z∈ps,Nm z)->(¬∃a,(w0="say"\/w0="give")/\rest=[a]/\Nm a)->(¬∃y,w0="jump"/\rest=[y]/\Nb y)->qU K {nx:=λ_ H'=>Q .non H',rt:=Q} [some (.str x),some (.ref l)] H1:=λH1 s1 n0 n5 n4 n3=>by
  have hl1:=s1 _ _ hl0;refine⟨_,rfl,lG (i:=0) hl1 rfl (.inl ⟨rfl,_,rfl,bC (λc=>?_) (λc=>f6 (k1 H1 s1 n0 n5 n4 n3 λ⟨a,y,e,_⟩=>c (by rw[e])))⟩)⟩;have ew:w0="test":=by injection c
  refine⟨_,rfl,_,_,rfl,jA hl1,.inl ⟨rfl,_,rfl,bC (λc2=>?_) (λc2=>f6 (k1 H1 s1 n0 n5 n4 n3 λ⟨a,y,_,e,_⟩=>c2 (by rw[e];rfl)))⟩⟩;obtain⟨a,y,rfl⟩:∃a y,rest=[a,y]:=by
   have c2:V.int (((w0::rest).length:Nat):Int)=V.int 3:=c2;injection c2 with c2;exact Tr (by rw[aI] at c2;lia)
  refine⟨_,rfl,lG (i:=1) hl1 rfl ⟨a,rfl,sh a (by simp),λba H2 hba s2=>⟨_,rfl,i4 (λea=>?_) (λea=>f6 (k1 H2 (s1.trans s2) n0 n5 n4 n3 λ⟨a',y',_,e,n,_⟩=>?_))⟩⟩⟩;rotate_left
  ·injection e with e _;subst e;rw[hba.mpr n] at ea;cases ea
  have hl2:=s2 _ _ hl1;refine⟨_,rfl,lG (i:=2) hl2 rfl ⟨y,rfl,sh y (by simp),λby_ H3 hby s3=>⟨_,rfl,i4 (λey=>?_) (λey=>k1 H3 ((s1.trans s2).trans s3) n0 n5 n4 n3 λ⟨a',y',_,e,_,n⟩=>?_)⟩⟩⟩;rotate_left
  ·injection e with _ e;injection e with e _;subst e;rw[hby.mpr n] at ey;cases ey
  have hl3:=s3 _ _ hl2;have nb:=hby.mp ey;refine⟨_,rfl,lG (i:=1) hl3 rfl ⟨_,rfl,lG (i:=2) hl3 rfl ⟨y,_,rfl,Ai nb,(by have:=nb.l20;lia),ZA,λt ht=>?_⟩⟩⟩;exact some_of (((s1.trans s2).trans s3).new ht) (r:=.test a (qu y)) ⟨y,by rw[ew],hba.mp ea,nb,rfl⟩ ⟨t,rfl,aj⟩
 have k3:∀H1,aL H0 H1->(¬∃t,rest=(("=":Str)::t))->(¬∃y ps,w0="part"/\rest=y::ps/\Nm y/\∀z∈ps,Nm z)->(¬∃a,(w0="say"\/w0="give")/\rest=[a]/\Nm a)->qV K {nx:=λ_ H'=>Q .non H',rt:=Q} [some (.str x),some (.ref l)] H1:=λH1 s1 n0 n5 n4=>by
  have hl1:=s1 _ _ hl0;refine⟨_,rfl,lG (i:=0) hl1 rfl (.inl ⟨rfl,_,rfl,bC (λc=>?_) (λc=>f6 (k2 H1 s1 n0 n5 n4 λ⟨y,e,_⟩=>c (by rw[e])))⟩)⟩;have ew:w0="jump":=by injection c
  refine⟨_,rfl,_,_,rfl,jA hl1,.inl ⟨rfl,_,rfl,bC (λc2=>?_) (λc2=>f6 (k2 H1 s1 n0 n5 n4 λ⟨y,_,e,_⟩=>c2 (by rw[e];rfl)))⟩⟩;obtain⟨y,rfl⟩:∃y,rest=[y]:=by
   have c2:V.int (((w0::rest).length:Nat):Int)=V.int 2:=c2;injection c2 with c2;have:rest.length=1:=by rw[aI] at c2;lia
   match rest,this with
   |[y],_=>exact⟨y,rfl⟩
  refine⟨_,rfl,lG (i:=1) hl1 rfl ⟨y,rfl,sh y (by simp),λb H2 hb s2=>⟨_,rfl,i4 (λeb=>?_) (λeb=>k2 H2 (s1.trans s2) n0 n5 n4 λ⟨y',_,e,n⟩=>?_)⟩⟩⟩;rotate_left
  ·injection e with e _;subst e;rw[hb.mpr n] at eb;cases eb
  have hl2:=s2 _ _ hl1;have nb:=hb.mp eb;refine⟨_,rfl,lG (i:=1) hl2 rfl ⟨y,_,rfl,Ai nb,(by have:=nb.l20;lia),Zz,λt ht=>?_⟩⟩;exact some_of ((s1.trans s2).new ht) (r:=.jump (qu y)) ⟨y,by rw[ew],nb,rfl⟩ ⟨t,rfl,aj⟩
 have k4:∀H1,aL H0 H1->(¬∃t,rest=(("=":Str)::t))->(¬∃y ps,w0="part"/\rest=y::ps/\Nm y/\∀z∈ps,Nm z)->qW K {nx:=λ_ H'=>Q .non H',rt:=Q} [some (.str x),some (.ref l)] H1:=λH1 s1 n0 n5=>by
  have hl1:=s1 _ _ hl0;refine⟨_,rfl,lG (i:=0) hl1 rfl ⟨Zz,λt nt=>Tb aj ⟨_,rfl,?_⟩⟩⟩;have s2:aL H0 (upd H1 t (.tup [.str "say",.str "give"])):=s1.new nt;generalize upd H1 t (.tup [.str "say",.str "give"])=H2 at s2 ⊢;have hl2:=s2 _ _ hl0;refine bC (λc=>?_) (λc=>f6 (k3 H2 s2 n0 n5 λ⟨a,e,_⟩=>c (by rcases e with e|e<;>rw[e]<;>decide +kernel)));refine⟨_,rfl,_,_,rfl,jA hl2,.inl ⟨rfl,_,rfl,bC (λc2=>?_) (λc2=>f6 (k3 H2 s2 n0 n5 λ⟨a,_,e,_⟩=>c2 (by rw[e];rfl)))⟩⟩;obtain⟨a,rfl⟩:∃y,rest=[y]:=by
   have c2:V.int (((w0::rest).length:Nat):Int)=V.int 2:=c2;injection c2 with c2;have:rest.length=1:=by rw[aI] at c2;lia
   match rest,this with
   |[y],_=>exact⟨y,rfl⟩
  refine⟨_,rfl,lG (i:=1) hl2 rfl ⟨a,rfl,sh a (by simp),λb H3 hb s3=>⟨_,rfl,i4 (λeb=>?_) (λeb=>k3 H3 (s2.trans s3) n0 n5 λ⟨a',_,e,n⟩=>?_)⟩⟩⟩;rotate_left
  ·injection e with e _;subst e;rw[hb.mpr n] at eb;cases eb
  have hl3:=s3 _ _ hl2;refine⟨_,rfl,lG (i:=0) hl3 rfl ⟨_,rfl,lG (i:=1) hl3 rfl ⟨Zz,λu nu=>?_⟩⟩⟩;simp only[aE,bH,or_false] at c;rcases c with rfl|rfl
  ·exact some_of ((s2.trans s3).new nu) (r:=.say a) ⟨rfl,hb.mp eb⟩ ⟨u,rfl,aj⟩
  ·exact some_of ((s2.trans s3).new nu) (r:=.give a) ⟨rfl,hb.mp eb⟩ ⟨u,rfl,aj⟩
 have k5:(¬∃t,rest=(("=":Str)::t))->qX K {nx:=λ_ H'=>Q .non H',rt:=Q} [some (.str x),some (.ref l)] H0:=λn0=>by
  refine⟨_,rfl,lG (i:=0) hl0 rfl (.inl ⟨rfl,_,rfl,bC (λc=>?_) (λc=>f6 (k4 H0 (aL.refl H0) n0 λ⟨y,ps,e,_⟩=>c (by rw[e])))⟩)⟩;have ew:w0="part":=by injection c
  refine⟨_,rfl,_,_,rfl,jA hl0,_,_,rfl,rfl,_,rfl,bC (λc2=>?_) (λc2=>f6 (k4 H0 (aL.refl H0) n0 λ⟨y,ps,_,e,_⟩=>c2 (by rw[e];simp only[aI];lia)))⟩;obtain⟨y,ps,rfl⟩:∃y ps,rest=y::ps:=by
   cases rest with
   |nil=>exact absurd c2 (by simp)
   |cons y ps=>exact⟨y,ps,rfl⟩
  refine⟨_,rfl,1,rfl,.inl ⟨l,_,rfl,cB.of hl0,λD nD=>?_⟩⟩;rw[show((1:Int))=((1:Nat):Int) from rfl,pQ];have s2:aL H0 (upd H0 D (.lst (((w0::y::ps).drop 1).map V.str))):=(aL.refl H0).new nD;have hD:upd H0 D (.lst (((w0::y::ps).drop 1).map V.str)) D=some (.lst ((y::ps).map V.str)):=aj;generalize upd H0 D (.lst (((w0::y::ps).drop 1).map V.str))=H2 at s2 hD ⊢;refine⟨D,y::ps,rfl,hD,by simp only[aI] at few ⊢;lia,λz hz=>sh z (bq _ hz),λb H3 hb s3=>⟨_,rfl,i4 (λeb=>?_) (λeb=>k4 H3 (s2.trans s3) n0 λ⟨y',ps',_,e,n,np⟩=>?_)⟩⟩;rotate_left
  ·injection e with e1 e2;subst e1;subst e2;rw[hb.mpr λz hz=>(aE.mp hz).elim (λe=>by rw[e];exact n) (np z)] at eb;cases eb
  have nm:=hb.mp eb;have s3':=s2.trans s3;have hl3:=s3' _ _ hl0;refine⟨_,rfl,lG (i:=1) hl3 rfl ⟨_,rfl,2,rfl,.inl ⟨l,_,rfl,cB.of hl3,λD2 nD2=>?_⟩⟩⟩;rw[show((2:Int))=((2:Nat):Int) from rfl,pQ];have s4:aL H3 (upd H3 D2 (.lst (((w0::y::ps).drop 2).map V.str))):=(aL.refl H3).new nD2;have hD2:upd H3 D2 (.lst (((w0::y::ps).drop 2).map V.str)) D2=some (.lst (ps.map V.str)):=aj;generalize upd H3 D2 (.lst (((w0::y::ps).drop 2).map V.str))=H4 at s4 hD2 ⊢;refine⟨D2,_,rfl,.inl ⟨cB.of hD2,λt nt=>⟨ZA,λu nu=>?_⟩⟩⟩;exact some_of (((s3'.trans s4).new nt).new nu) (r:=.part y ps) ⟨by rw[ew],nm y (by simp),λz hz=>nm z (by simp[hz])⟩ ⟨u,t,rfl,aj,(aL.refl _).new nu _ _ aj⟩
 refine⟨_,rfl,_,_,rfl,jA hl0,_,_,rfl,rfl,_,rfl,bC (λc=>?_) (λc=>f6 (k5 λ⟨t,e⟩=>c (by rw[e];simp only[aI];lia)))⟩;obtain⟨y,ps,rfl⟩:∃y ps,rest=y::ps:=by
  cases rest with
  |nil=>exact absurd c (by simp)
  |cons y ps=>exact⟨y,ps,rfl⟩
 refine⟨_,rfl,lG (i:=1) hl0 rfl (.inl ⟨rfl,_,rfl,bC (λc2=>?_) (λc2=>k5 λ⟨t,e⟩=>?_)⟩)⟩
 ·have ey:y="=":=by injection c2
  subst ey;exact⟨_,rfl,l,_,rfl,hl0,by simp only[aI];lia,rfl,few,sh,λv H' la s=>q v H' la (s0.trans s)⟩
 ·injection e with e _;exact c2 (by rw[e])
def oX{r:cL}:Bn r="part"↔kx r=true:=by
 cases r<;>first|exact⟨λ_=>rfl,λ_=>rfl⟩|exact⟨λz=>absurd z (by simp only[Bn];decide +kernel),λz=>by cases z⟩
def AD{K:Fg}(T:KY K){E:XK}{D:rn}{σ:St}{H H1:Hp}{i n:Nat}(hi:σ[i]?=some (some (.int (n:Nat))))(s:aL H H1)
  (q:∀(dx:ar) (H':Hp),aL H H'->H' dx=some (XD dx (rK (n:Nat)))->E (.ref (cg K "NoLine")) (some dx) H'):uN K E (uM (cg K "NoLine") (d9 K) (ai (ao i) aJ)) D σ H1:=by
 refine⟨_,hi,λx hx=>⟨x,_,rfl,aj,λdx H' hd ne gx gd bt=>⟨rfl,x,_,_,rfl,T.clL,gx,(λz=>ne (Option.some.inj z)),λT' hT nT=>?_⟩⟩⟩;refine q dx _ (λp o e=>?_) ?_
 ·have e0:=s p o e;have n1:p≠x:=aB e0 hx;have e1:H' p=some o:=bt p o n1 (by rw[aK n1];exact e0);rw[aK n1,aK (aB e1 hT)];exact e1
 ·rw[aK ne,aK (aB gd hT)];exact gd
def wV{K:Fg}(T:KY K){vs:List V}{H:Hp}{Q:VK}{E:XK}(h:j7 K vs H Q E):pF K E {nx:=λ_ H'=>Q .non H',rt:=Q} (cI oN vs) H:=by
 obtain⟨l,ls,rfl,⟨lvs,hl,hA⟩,q1,q2⟩:=h;refine⟨_,rfl,l,rfl,⟨_,cB.of hl⟩,vh (xs:=lvs) (λi σ' H'=>∃o1 o2,σ'=[some (.ref l),o1,o2]/\aL H H'/\∀j,j<i->¬jw ls j) ⟨_,_,rfl,aL.refl H,λj z=>absurd z (bW _)⟩ ?_ ?_ ?_⟩
 ·rintro i σ' H' _ ⟨_,_,_,s,_⟩;exact cB.of (s _ _ hl)
 ·rintro i v σ' H1 a hv na ⟨o1,o2,rfl,s1,ah⟩;obtain⟨ro,hr,la⟩:=hA.of_v hv;refine⟨a,_,rfl,eO.of aj,rfl,_,_,rfl,_,_,rfl,rfl,?_⟩;have s2:aL H (upd H1 a (.tup [.int (i:Nat),v])):=s1.new na;show mP K E _ [some (.ref l),some (.int (i:Nat)),some v] _;generalize upd H1 a (.tup [.int (i:Nat),v])=H2 at s2 ⊢;have out:jw ls i->uN K E (uM (cg K "NoLine") (d9 K) (ai (ao 1) aJ)) {nx:=λσ' H'=>∃o1 o2,σ'=[some (.ref l),o1,o2]/\aL H H'/\∀j,j<i+1->¬jw ls j,rt:=Q,bk:=λ_ H'=>Q .non H',ct:=λσ' H'=>∃o1 o2,σ'=[some (.ref l),o1,o2]/\aL H H'/\∀j,j<i+1->¬jw ls j} [some (.ref l),some (.int (i:Nat)),some v] H2:=λf=>
   AD T (i:=1) (n:=i) rfl s2 (q2 i ⟨f,ah⟩)
  have on:¬jw ls i->∃o1 o2,[some (V.ref l),some (.int (i:Nat)),some v]=[some (.ref l),o1,o2]/\aL H H2/\∀j,j<i+1->¬jw ls j:=λnf=>⟨_,_,rfl,s2,λj lt=>by
   rcases dy.mp lt with z|z
   ·exact ah j z
   ·rw[z];exact nf⟩
  refine⟨_,rfl,rfl,_,rfl,bC (λc=>ky (out ?_)) (λc=>?_)⟩
  ·cases ro with
   |none=>exact .inl hr
   |some r=>obtain⟨p,_,e,_⟩:=gN.ref la;rw[e] at c;cases c
  cases ro with
  |none=>exact absurd la c
  |some r=>
   obtain⟨p,xs,rfl,hp⟩:=gN.ref la;refine⟨_,rfl,.inl ⟨rfl,_,rfl,bC (λc0=>?_) (λc0=>f6 (on ?_))⟩⟩
   ·have i0:i=0:=by
     have c0:V.int ((i:Nat):Int)=V.int 0:=c0;injection c0 with c0;lia
    refine⟨_,rfl,dk (s2 _ _ hp) (by decide) rfl (.inl ⟨rfl,_,rfl,jS (λne=>out ?_) (λeq=>on ?_)⟩)⟩
    ·refine .inr ⟨i0,r,by rw[<-i0];exact hr,?_⟩;cases c1:kx r with
     |false=>rfl
     |true=>exact absurd (by rw[oX.mpr c1]) ne
    ·rintro(z|⟨_,r',e,z⟩)
     ·rw[hr] at z;cases z
     ·rw[<-i0,hr] at e;cases e;have:Bn r="part":=by injection eq
      rw[oX.mp this] at z;cases z
   ·rintro(z|⟨i0,_⟩)
    ·rw[hr] at z;cases z
    ·exact c0 (by rw[i0];rfl)
 ·rintro σ' H' ⟨_,_,_,s,ah⟩;refine q1 (λn f=>?_) H' s;have lt:n<ls.length:=by
   rcases f with z|⟨rfl,r,e,_⟩
   ·exact(ak.mp z).1
   ·exact(ak.mp e).1
  exact ah n (by rw[hA.len];exact lt) f
def CQ:∀{xs:List Str} {i:Nat} {y:Str},xs[i]?=some y->y∉xs.take i->jR xs y=i
 |[],i,y,h,_=>by simp at h
 |x::xs,0,y,h,_=>by
  have:x=y:=by simpa using h
  unfold jR;rw[if_pos this]
 |x::xs,i+1,y,h,nd=>by
  have h:xs[i]?=some y:=by simpa using h
  rw[List.take_succ_cons] at nd;have ne:x≠y:=λz=>nd (by rw[z];exact bZ);unfold jR;rw[if_neg ne,CQ h λz=>nd (bq _ z)]
def IG(ls:List cL)(i:Nat){r:cL}(h:ls[i]?=some r):eQ (ls.take (i+1))=eQ (ls.take i)++(pX r).toList:=by
 unfold eQ;rw[bL,h,fY];cases e:pX r<;>simp[e]
def C7(ls:List cL):(eQ ls).length<=ls.length:=List.length_filterMap_le _ _
def Hz.mono{H H':Hp}{d:ar}{nm:List Str}(h:Hz H d nm)(s:aL H H'):Hz H' d nm:=by
 obtain⟨kvs,e,q⟩:=h;exact⟨kvs,s _ _ e,q⟩
def lW.mono{H H':Hp}{l:ar}{ls:List (Option cL)}(h:lW H l ls)(s:aL H H'):lW H' l ls:=by
 obtain⟨vs,e,q⟩:=h;exact⟨vs,s _ _ e,q.imp λ_ _ z=>z.mono (.of_same s)⟩
def uH{H:Hp}{lvs:List V}{ls:List cL}(h:cR (u0 H) lvs (ls.map some)){i:Nat}{v:V}(e:lvs[i]?=some v):∃r,ls[i]?=some r/\gN H v r:=by
 obtain⟨ro,er,la⟩:=h.of_v e;rw[aQ] at er;obtain⟨r,e',rfl⟩:=b4.mp er;exact⟨r,e',la⟩
def sj{K:Fg}{vs:List V}{H:Hp}{Q:VK}{E:XK}(h:ie K vs H Q E):lh K {nx:=λ_ H'=>Q .non H',rt:=Q} (cI iA vs) H:=by
 obtain⟨l,ls,rfl,⟨lvs,hl,hA⟩,few,q⟩:=h;have al:lvs.length=ls.length:=by rw[hA.len,ae]
 refine .inl ⟨_,rfl,l,rfl,⟨_,cB.of hl⟩,λD nD=>?_⟩;refine hW (xs:=lvs) (λi σ' H'=>∃(o:Option V),σ'=[some (.ref l),none,none,none,none,o]/\H' D=some (.lst ((eQ (ls.take i)).map V.str))/\aL H H') ?_ ?_ ?_ ?_
 ·exact⟨none,rfl,aj,(aL.refl H).new nD⟩
 ·rintro i σ' H' _ ⟨o,rfl,_,s⟩;exact cB.of (s _ _ hl)
 ·rintro i v σ' H' hv ⟨o,rfl,hD,s⟩;obtain⟨r,hr,la⟩:=uH hA hv;have la':=gN.mono la (.of_same s);obtain⟨p,xs,rfl,hp⟩:=gN.ref la';have nt:=IG ls i hr;refine⟨_,rfl,Zw hp rfl (.inl ⟨rfl,_,rfl,bC (λc=>?_) (λc=>?_)⟩)⟩
  ·have c:Bn r="part":=by injection c
   have ip:=oX.mp c;cases r with
   |part x ps=>
    obtain⟨p',q',e,hp',_⟩:=la';cases e;refine⟨_,rfl,Zw hp' rfl ⟨_,hD,cq ?_,_,rfl,?_,f9 s nD⟩⟩
    ·rw[ae];have:=C7 (ls.take i);have:(ls.take i).length<=ls.length:=by rw[a8];lia
     lia
    ·rw[aj,nt,aN];rfl
   |_=>cases ip
  ·refine⟨_,rfl,?_,s⟩;have np:pX r=none:=by
    cases r with
    |part x ps=>exact absurd rfl c
    |_=>rfl
   rw[hD,nt,np];show _=some (HO.lst ((eQ (ls.take i)++[]).map V.str));rw[dU]
 ·rintro σ' H1 ⟨o,_,hD,s1⟩;rw[al,bJ (aD _)] at hD;have nf:=C7 ls;generalize eQ ls=nm at hD nf q;show ke K _ [some (.ref l),some (.ref D),none,none,none] H1;refine λd nd=>?_;show kc K _ [some (.ref l),some (.ref D),some (.ref d),none,none] _;have s2:aL H (upd H1 d (.dK [])):=s1.new nd;have hd2:upd H1 d (.dK []) d=some (.dK []):=aj;have hD2:upd H1 d (.dK []) D=some (.lst (nm.map V.str)):=by rw[aK (aB hD nd)];exact hD
  generalize upd H1 d (.dK [])=H2 at s2 hd2 hD2 ⊢;have dH:H d=none:=s1.free nd;refine⟨_,rfl,D,rfl,⟨_,cB.of hD2⟩,vh (xs:=nm.map V.str) (λi σ' H'=>∃(o3 o4:Option V) (kvs:List (g8×V)),σ'=[some (.ref l),some (.ref D),some (.ref d),o3,o4]/\H' d=some (.dK kvs)/\kvs.length<=i/\(∀y,iN kvs (Sum.inr y)=if y∈nm.take i then some (V.int ((jR nm y:Nat):Int)) else none)/\H' D=some (.lst (nm.map V.str))/\aL H H')
   ⟨_,_,[],rfl,hd2,cA _,λy=>by simp[Hh],hD2,s2⟩ ?_ ?_ ?_⟩
  ·rintro i σ' H' _ ⟨_,_,_,_,_,_,_,h3,_⟩;exact cB.of h3
  ·rintro i v σ' H3 a hv na ⟨o3,o4,kvs,rfl,hd,kl,kq,hD3,s3⟩;obtain⟨y,hy,rfl⟩:=ql hv;have hi:i<nm.length:=(ak.mp hy).1;refine⟨a,_,rfl,eO.of aj,rfl,_,_,rfl,_,_,rfl,rfl,?_⟩;have sa:aL H3 (upd H3 a (.tup [.int (i:Nat),.str y])):=(aL.refl H3).new na;show j9 K _ [some (.ref l),some (.ref D),some (.ref d),some (.int (i:Nat)),some (.str y)] _;generalize upd H3 a (.tup [.int (i:Nat),.str y])=H4 at sa ⊢;have hd4:=sa _ _ hd;have hD4:=sa _ _ hD3;have tk:nm.take (i+1)=nm.take i++[y]:=by rw[bL,hy];rfl
   refine⟨_,rfl,_,rfl,d,_,rfl,uZ.k (k:=Sum.inr y) hd4,_,rfl,?_⟩;rw[kq y];by_cases c:y∈nm.take i
   ·rw[if_pos c];refine f6 ⟨_,_,kvs,rfl,hd4,by lia,λz=>?_,hD4,s3.trans sa⟩;rw[kq z,tk];by_cases cz:z∈nm.take i
    ·rw[if_pos cz,if_pos (bR _ cz)]
    ·rw[if_neg cz,if_neg λh=>by
      rcases aT.mp h with h|h
      ·exact cz h
      ·rw[aw.mp h] at cz;exact cz c]
   ·rw[if_neg c];refine ky ⟨_,rfl,_,rfl,_,rfl,d,_,rfl,E7.k (k:=Sum.inr y) hd4 (cq (by lia)),?_⟩;have nDd:D≠d:=λz=>by rw[z,hd4] at hD4;cases hD4
    have lk:(ma kvs (Sum.inr y) (V.int (i:Nat))).length<=i+1:=by
     rw[Aq _ (by rw[kq y,if_neg c]),aG];show kvs.length+1<=i+1;lia
    refine⟨_,_,_,rfl,aj,lk,λz=>?_,by rw[aK nDd];exact hD4,f9 (s3.trans sa) dH⟩;rw[Pe,tk];by_cases cz:z=y
    ·subst cz;rw[if_pos rfl,if_pos (bD _ (aw.mpr rfl)),CQ hy c]
    ·rw[if_neg λh=>cz (Sum.inr.inj h),kq z];by_cases cz2:z∈nm.take i
     ·rw[if_pos cz2,if_pos (bR _ cz2)]
     ·rw[if_neg cz2,if_neg λh=>by
       rcases aT.mp h with h|h
       ·exact cz2 h
       ·exact cz (aw.mp h)]
  ·rintro σ' H3 ⟨o3,o4,kvs,rfl,hd,_,kq,_,s3⟩;rw[ae,bJ (aD _)] at kq;exact⟨_,rfl,q d H3 ⟨kvs,hd,kq⟩ s3⟩
def CN{r:cL}:Bn r="call"↔∃x f as,r=.call x f as:=by
 cases r<;>first|exact⟨λ_=>⟨_,_,_,rfl⟩,λ_=>rfl⟩|exact⟨λz=>absurd z (by simp only[Bn];decide +kernel),λ⟨_,_,_,z⟩=>by cases z⟩
def wU{K:Fg}(T:KY K){vs:List V}{H:Hp}{Q:VK}{E:XK}(h:j6 K vs H Q E):pE K E {nx:=λ_ H'=>Q .non H',rt:=Q} (cI oM vs) H:=by
 obtain⟨l,d,ls,rfl,⟨lvs,hl,hA⟩,hN,q1,q2⟩:=h;have al:lvs.length=ls.length:=by rw[hA.len,ae]
 refine⟨_,rfl,l,rfl,⟨_,cB.of hl⟩,vh (xs:=lvs) (λi σ' H'=>∃o1 o2,σ'=[some (.ref l),some (.ref d),o1,o2]/\aL H H'/\∀j,j<i->¬kU ls j) ⟨_,_,rfl,aL.refl H,λj z=>absurd z (bW _)⟩ ?_ ?_ ?_⟩
 ·rintro i σ' H' _ ⟨_,_,_,s,_⟩;exact cB.of (s _ _ hl)
 ·rintro i v σ' H1 a hv na ⟨o1,o2,rfl,s1,ah⟩;obtain⟨r,hr,la⟩:=uH hA hv;refine⟨a,_,rfl,eO.of aj,rfl,_,_,rfl,_,_,rfl,rfl,?_⟩;have s2:aL H (upd H1 a (.tup [.int (i:Nat),v])):=s1.new na;show mO K E _ [some (.ref l),some (.ref d),some (.int (i:Nat)),some v] _;generalize upd H1 a (.tup [.int (i:Nat),v])=H2 at s2 ⊢;have on:¬kU ls i->∃o1 o2,[some (V.ref l),some (.ref d),some (.int (i:Nat)),some v]=[some (.ref l),some (.ref d),o1,o2]/\aL H H2/\∀j,j<i+1->¬kU ls j:=λnf=>⟨_,_,rfl,s2,λj lt=>by
   rcases dy.mp lt with z|z
   ·exact ah j z
   ·rw[z];exact nf⟩
  have la2:=gN.mono la (.of_same s2);obtain⟨p,xs,rfl,hp⟩:=gN.ref la2;refine⟨_,rfl,Zw hp rfl (.inl ⟨rfl,_,rfl,bC (λc=>?_) (λc=>f6 (on ?_))⟩)⟩
  ·obtain⟨x,f,as,rfl⟩:=CN.mp (by injection c);obtain⟨p',q',e,hp',_⟩:=la2;cases e;obtain⟨kvs,hd,kq⟩:=hN.mono s2;refine⟨_,rfl,Zw hp' rfl ⟨_,rfl,d,_,rfl,uZ.k (k:=Sum.inr f) hd,_,rfl,?_⟩⟩;rw[kq f];by_cases cf:f∈eQ ls
   ·rw[if_pos cf];refine f6 (on ?_);rintro⟨x',f',as',e,nf⟩;rw[hr] at e;cases e;exact nf cf
   ·rw[if_neg cf];exact ky (AD T (i:=2) (n:=i) rfl s2 (q2 i ⟨⟨x,f,as,hr,cf⟩,ah⟩))
  ·rintro⟨x',f',as',e,_⟩;rw[hr] at e;cases e;exact c rfl
 ·rintro σ' H' ⟨_,_,_,s,ah⟩;refine q1 (λn f=>?_) H' s;obtain⟨x',f',as',e,_⟩:=id f;exact ah n (by rw[al];exact(ak.mp e).1) f
def ED{K:Fg}{vs:List V}{H:Hp}{Q:VK}{E:XK}(h:ou K vs H Q E):vK K {nx:=λ_ H'=>Q .non H',rt:=Q} (cI u4 vs) H:=by
 obtain⟨v,d,r,nm,rfl,la,np,hN,hc,q⟩:=h;obtain⟨p,xs,rfl,hp⟩:=gN.ref la;refine⟨_,rfl,Zw hp rfl (.inl ⟨rfl,_,rfl,bC (λc=>?_) (λc=>?_)⟩)⟩
 ·obtain⟨x,f,as,rfl⟩:=CN.mp (by injection c);obtain⟨p',t,e,hp',ht⟩:=la;cases e;obtain⟨kvs,hd,kq⟩:=hN;have kf:=kq f;rw[if_pos (hc x f as rfl)] at kf;refine⟨_,rfl,Zw hp' rfl ⟨_,rfl,_,rfl,Zw hp' rfl ⟨d,_,rfl,(by rw[<-kf];exact uZ.k (k:=Sum.inr f) hd),_,rfl,Zw hp' rfl ⟨ZC,λu nu=>?_⟩⟩⟩⟩;exact q _ _ ⟨u,t,rfl,aj,(aL.refl H).new nu _ _ ht⟩ ((aL.refl H).new nu)
 ·refine⟨_,rfl,q _ H ?_ (aL.refl H)⟩;cases r with
  |part x ps=>cases np
  |call x f as=>exact absurd rfl c
  |num x z=>exact la
  |op x s a b=>exact la
  |say a=>exact la
  |jump to=>exact la
  |test a to=>exact la
  |give a=>exact la
structure MT where
 p:ar
 q:ar
 a:ar
 rvs:List V
 b:bw
structure JJ(H:Hp)(e:MT):Prop where
 tp:H e.p=some (.tup [.str e.b.name,.ref e.q,.ref e.a])
 tq:H e.q=some (.tup (e.b.params.map V.str))
 la:H e.a=some (.lst e.rvs)
 rw_:cR (h9 H) e.rvs e.b.rows
def JJ.mono{H H':Hp}{e:MT}(h:JJ H e)(t:Tp H H')(l:H' e.a=some (.lst e.rvs)):JJ H' e:=⟨t _ _ h.tp,t _ _ h.tq,l,h.rw_.imp λ_ _ z=>z.mono t⟩
structure PB(H0 H:Hp)(P:ar)(es:List MT):Prop where
 lp:H P=some (.lst (es.map λe=>V.ref e.p))
 nd:(es.map (·.a)).Nodup
 np:P∉es.map (·.a)
 ok:∀e∈es,JJ H e/\H0 e.a=none
def PB.same{H0 H H':Hp}{P:ar}{es:List MT}(h:PB H0 H P es)(s:aL H H'):PB H0 H' P es:=
 ⟨s _ _ h.lp,h.nd,h.np,λe he=>⟨(h.ok e he).1.mono (.of_same s) (s _ _ (h.ok e he).1.la),(h.ok e he).2⟩⟩
def HP(acc:List bw)(w:eJ)(h:acc≠[]):(wk acc w).length=acc.length:=by
 obtain⟨a,b,rfl⟩:∃a b,acc=a++[b]:=⟨acc.dropLast,acc.getLast h,(List.dropLast_concat_getLast h).symm⟩;rw[rQ,aG,aG];rfl
def SQ{nm:List Str}{acc:List bw}{r:cL}(h:acc≠[]):M9 nm acc r≠[]:=by
 cases c:kx r with
 |true=>
  cases r with
  |part x ps=>show acc++_≠[];simp
  |_=>cases c
 |false=>
  rw[D9 c];intro z;have:=HP acc (tW nm r) h;rw[z] at this;exact h (di.mp this.symm)
def SL{nm:List Str}{r0:cL}{ls:List cL}(h0:ls[0]?=some r0)(hp:kx r0=true):∀i,0<i->(ls.take i).foldl (M9 nm) []≠[]:=by
 intro i
 induction i with
 |zero=>intro z;cases z
 |succ i ih=>
  intro _;by_cases c:0<i
  ·cases e:ls[i]? with
   |none=>rw[bL,e];simpa using ih c
   |some r=>rw[bL,e,mX];exact SQ (ih c)
  ·have:i=0:=by lia
   subst this;rw[bL,h0];cases r0 with
   |part x ps=>show[]++_≠[];simp
   |_=>cases hp
def Ql{K:Fg}{p:ar}{xs:List V}{v:V}{H:Hp}{Q:VK}(h:cB K H p xs)(e:xs[xs.length-1]?=some v)(q:Q v H):cJ K (.ref p) (.int (-1)) H Q:=by
 have lt:xs.length-1<xs.length:=(ak.mp e).1;refine .inl ⟨p,xs,-1,v,rfl,rfl,h,?_,q⟩;unfold Pp Pq;rw[if_neg (by decide),if_pos (by lia)];show xs[((-1:Int)+(xs.length:Int)).toNat]?=some v;rw[show((-1:Int)+(xs.length:Int)).toNat=xs.length-1 by lia];exact e
def AC{K:Fg}{vs:List V}{H:Hp}{Q:VK}{E:XK}(h:lL K vs H Q E):sJ K {nx:=λ_ H'=>Q .non H',rt:=Q} (cI mC vs) H:=by
 obtain⟨l,d,ls,rfl,⟨lvs,hl,hA⟩,few,hN,nf,nc,q⟩:=h;have al:lvs.length=ls.length:=by rw[hA.len,ae]
 refine⟨Zx,λP nP=>?_⟩;show pD K _ [some (.ref l),some (.ref d),some (.ref P),none] _;have s1:aL H (upd H P (.lst [])):=(aL.refl H).new nP;have hP1:upd H P (.lst []) P=some (.lst []):=aj;generalize upd H P (.lst [])=H1 at s1 hP1 ⊢;refine .inl ⟨_,rfl,l,rfl,⟨_,cB.of (s1 _ _ hl)⟩,rS (xs:=lvs) (λi σ' H'=>∃(o3:Option V) (es:List MT),σ'=[some (.ref l),some (.ref d),some (.ref P),o3]/\PB H H' P es/\es.map (·.b)=(ls.take i).foldl (M9 (eQ ls)) []/\es.length<=i/\(∀e∈es,e.rvs.length<=i)/\aL H H')
  ⟨_,[],rfl,⟨hP1,List.nodup_nil,(by simp),λe he=>by cases he⟩,rfl,cA _,(λe he=>by cases he),s1⟩ ?_ ?_ ?_⟩
 ·rintro i σ' H' _ ⟨_,_,_,_,_,_,_,s⟩;exact cB.of (s _ _ hl)
 ·rintro i v σ' H2 hv ⟨o3,es,rfl,pb,eb,el,er,s2⟩;obtain⟨r,hr,la⟩:=uH hA hv;have hi:i<ls.length:=(ak.mp hr).1;have la2:=gN.mono la (.of_same s2);have tk:(ls.take (i+1)).foldl (M9 (eQ ls)) []=M9 (eQ ls) (es.map (·.b)) r:=by
   rw[bL,hr,mX,<-eb];rfl
  show pC K _ [some (.ref l),some (.ref d),some (.ref P),some v] H2;obtain⟨p0,xs0,rfl,hp0⟩:=gN.ref la2;refine⟨_,rfl,Zw hp0 rfl (.inl ⟨rfl,_,rfl,bC (λc=>?_) (λc=>?_)⟩)⟩
  ·have ip:=oX.mp (by injection c);cases r with
   |part x ps=>
    obtain⟨p',t,e,hp',ht⟩:=la2;cases e;refine⟨_,rfl,.inl ⟨rfl,_,cB.of pb.lp⟩,_,rfl,Zw hp' rfl ⟨_,rfl,Zw hp' rfl ⟨Zx,λa na=>⟨ZA,λu nu=>?_⟩⟩⟩⟩;have s3:aL H2 (upd H2 a (.lst [])):=(aL.refl H2).new na;have ha3:upd H2 a (.lst []) a=some (.lst []):=aj;generalize upd H2 a (.lst [])=H3 at s3 ha3 nu ⊢;have s4:aL H3 (upd H3 u (.tup [.str x,.ref t,.ref a])):=(aL.refl H3).new nu;have hu4:upd H3 u (.tup [.str x,.ref t,.ref a]) u=some (.tup [.str x,.ref t,.ref a]):=aj;generalize upd H3 u (.tup [.str x,.ref t,.ref a])=H4 at s4 hu4 ⊢;have s24:=s3.trans s4;have hP4:=s24 _ _ pb.lp;refine⟨P,_,_,rfl,rfl,hP4,cq (by rw[ae];lia),?_⟩;have nPa:P≠a:=λz=>by rw[z] at hP4;have:=pb.lp;rw[z,na] at this;cases this
    have t4:Tp H2 (upd H4 P (.lst (es.map (λe=>V.ref e.p)++[.ref u]))):=(Tp.of_same s24).lst hP4;have aH:H a=none:=s2.free na;refine⟨_,es++[⟨u,t,a,[],⟨x,ps,[]⟩⟩],rfl,⟨?_,?_,?_,λe he=>?_⟩,?_,by rw[aG];show es.length+1<=i+1;lia,λe he=>?_,f9 (s2.trans s24) nP⟩
    ·rw[aj,aN];rfl
    ·rw[aN];refine List.nodup_append.mpr ⟨pb.nd,by simp,λb hb c hc=>?_⟩;have ec:c=a:=by simpa using hc
     subst ec;obtain⟨e,he,rfl⟩:=bA.mp hb;exact λz=>by have:=(pb.ok e he).1.la;rw[z,na] at this;cases this
    ·rw[aN,aT];rintro(z|z)
     ·exact pb.np z
     ·exact nPa (by simpa using z)
    ·rcases aT.mp he with he|he
     ·obtain⟨ok,hn⟩:=pb.ok e he;refine⟨ok.mono t4 ?_,hn⟩;have ne:e.a≠P:=λz=>pb.np (bA.mpr ⟨e,he,z⟩);rw[aK ne];exact s24 _ _ ok.la
     ·have:e=⟨u,t,a,[],⟨x,ps,[]⟩⟩:=by simpa using he
      subst this;refine⟨⟨?_,t4 _ _ ht,?_,cR.nil⟩,aH⟩
      ·show upd H4 P _ u=_;rw[aK (λz=>by rw[z,hP4] at hu4;cases hu4)];exact hu4
      ·show upd H4 P _ a=_;rw[aK (Ne.symm nPa)];exact s4 _ _ ha3
    ·rw[tk,aN];rfl
    ·rcases aT.mp he with he|he
     ·have:=er e he;lia
     ·have:e=⟨u,t,a,[],⟨x,ps,[]⟩⟩:=by simpa using he
      subst this;exact cA _
   |_=>cases ip
  ·have np:kx r=false:=by
    cases z:kx r with
    |false=>rfl
    |true=>exact absurd (by rw[oX.mpr z]) c
   have ne:es≠[]:=by
    obtain⟨r0,h0⟩:∃r0,ls[0]?=some r0:=⟨ls[0],af (by lia)⟩;have hp:kx r0=true:=by
     cases z:kx r0 with
     |true=>rfl
     |false=>exact absurd (.inr ⟨rfl,r0,by rw[aQ,h0];rfl,z⟩) (nf 0)
    have i0:0<i:=by
     apply Nat.pos_of_ne_zero;intro z;rw[z,h0] at hr;cases hr;rw[hp] at np;cases np
    intro z;have:=SL (nm:=eQ ls) h0 hp i i0;rw[<-eb,z] at this;exact this rfl
   obtain⟨es0,e,rfl⟩:∃a b,es=a++[b]:=⟨es.dropLast,es.getLast ne,(List.dropLast_concat_getLast ne).symm⟩;have ee:e∈es0++[e]:=bD _ (by simp);obtain⟨ok,hn⟩:=pb.ok e ee;have lastv:((es0++[e]).map λe=>V.ref e.p)[((es0++[e]).map λe=>V.ref e.p).length-1]?=some (.ref e.p):=by
    rw[aN,aG];show((es0.map λe=>V.ref e.p)++[V.ref e.p])[(es0.map λe=>V.ref e.p).length+1-1]?=_;rw[jf,bT (aD _),lU];rfl
   refine⟨_,rfl,_,rfl,Ql (cB.of pb.lp) lastv (Zw ok.tp rfl ⟨.inl ⟨rfl,_,cB.of ok.la⟩,_,rfl,_,rfl,_,d,r,eQ ls,rfl,la2,np,hN.mono s2,λx f as z=>?_,λw H3 rw s3=>?_⟩)⟩
   ·apply Classical.byContradiction;intro cf;exact nc i ⟨x,f,as,by rw[hr,z],cf⟩
   have la3:=s3 _ _ ok.la;have pb3:=pb.same s3;refine⟨e.a,_,_,rfl,rfl,la3,cq (by have:=er e ee;lia),?_⟩;have t4:Tp H3 (upd H3 e.a (.lst (e.rvs++[w]))):=(Tp.refl H3).lst la3;have nPa:P≠e.a:=λz=>pb.np (bA.mpr ⟨e,ee,z.symm⟩);refine⟨_,es0++[⟨e.p,e.q,e.a,e.rvs++[w],⟨e.b.name,e.b.params,e.b.rows++[tW (eQ ls) r]⟩⟩],rfl,⟨?_,?_,?_,λe' he=>?_⟩,?_,?_,λe' he=>?_,f9 (s2.trans s3) hn⟩
   ·rw[aK nPa,pb3.lp,aN,aN];rfl
   ·have:=pb.nd;rw[aN] at this ⊢;exact this
   ·have:=pb.np;rw[aN] at this ⊢;exact this
   ·have ok3:=(pb3.ok e ee).1;rcases aT.mp he with he|he
    ·obtain⟨ok',hn'⟩:=pb3.ok e' (bR _ he);refine⟨ok'.mono t4 ?_,hn'⟩;have nd:=pb.nd;rw[aN] at nd;have dj:=(List.nodup_append.mp nd).2.2 e'.a (bA.mpr ⟨e',he,rfl⟩) e.a (by simp);rw[aK dj];exact ok'.la
    ·have:e'=⟨e.p,e.q,e.a,e.rvs++[w],⟨e.b.name,e.b.params,e.b.rows++[tW (eQ ls) r]⟩⟩:=by simpa using he
     subst this;exact⟨⟨t4 _ _ ok3.tp,t4 _ _ ok3.tq,aj,(ok3.rw_.imp λ_ _ z=>z.mono t4).snoc (rw.mono t4)⟩,hn⟩
   ·rw[tk,D9 np,aN,aN];show _=wk (es0.map (·.b)++[e.b]) _;rw[rQ];rfl
   ·rw[aG] at el ⊢;exact Nat.le_succ_of_le el
   ·rcases aT.mp he with he|he
    ·have:=er e' (bR _ he);lia
    ·have:e'=⟨e.p,e.q,e.a,e.rvs++[w],⟨e.b.name,e.b.params,e.b.rows++[tW (eQ ls) r]⟩⟩:=by simpa using he
     subst this;have:=er e ee;show(e.rvs++[w]).length<=i+1;rw[aG];show e.rvs.length+1<=i+1;lia
 ·rintro σ' H2 ⟨o3,es,rfl,pb,eb,el,er,s2⟩;rw[al,bJ (aD _)] at eb;have eb:es.map (·.b)=xQ ls:=eb;rw[al] at el;show pB K _ [some (.ref l),some (.ref d),some (.ref P),o3] H2;refine .inl ⟨_,rfl,P,rfl,⟨_,cB.of pb.lp⟩,λD nD=>?_⟩;refine hW (xs:=es.map λe=>V.ref e.p) (λi σ' H'=>∃(o:Option V) (pvs:List V),σ'=[some (.ref l),some (.ref d),some (.ref P),o3,o]/\H' D=some (.lst pvs)/\cR (lX H') pvs ((es.take i).map (·.b))/\aL H2 H') ?_ ?_ ?_ ?_
  ·exact⟨none,[],rfl,aj,cR.nil,(aL.refl H2).new nD⟩
  ·rintro i σ' H' _ ⟨o,pvs,rfl,_,_,s⟩;exact cB.of (s _ _ pb.lp)
  ·rintro i v σ' H3 hv ⟨o,pvs,rfl,hD,hP,s3⟩;rw[aQ] at hv;obtain⟨e,he,rfl⟩:=b4.mp hv;have hi:i<es.length:=(ak.mp he).1;obtain⟨ok,_⟩:=(pb.same s3).ok e (aF he);refine jc ⟨_,rfl,Zw ok.tp rfl ⟨_,rfl,Zw ok.tp rfl ⟨_,rfl,Zw ok.tp rfl ⟨e.a,_,rfl,.inl ⟨cB.of ok.la,λt nt=>⟨ZA,λu nu=>?_⟩⟩⟩⟩⟩⟩;have s4:aL H3 (upd (upd H3 t (.tup e.rvs)) u (.tup [.str e.b.name,.ref e.q,.ref t])):=((aL.refl H3).new nt).new nu;have ht4:upd (upd H3 t (.tup e.rvs)) u (.tup [.str e.b.name,.ref e.q,.ref t]) t=some (.tup e.rvs):=(aL.refl _).new nu _ _ aj;have hu4:upd (upd H3 t (.tup e.rvs)) u (.tup [.str e.b.name,.ref e.q,.ref t]) u=some (.tup [.str e.b.name,.ref e.q,.ref t]):=aj;generalize upd (upd H3 t (.tup e.rvs)) u (.tup [.str e.b.name,.ref e.q,.ref t])=H4 at s4 ht4 hu4 ⊢;have hD4:=s4 _ _ hD;have t5:Tp H4 (upd H4 D (.lst (pvs++[.ref u]))):=(Tp.refl H4).lst hD4;have T5:Tp H3 (upd H4 D (.lst (pvs++[.ref u]))):=(Tp.of_same s4).trans t5;have pl:pvs.length<=i:=by rw[hP.len,ae,a8];lia
   refine⟨_,hD4,cq (by lia),_,pvs++[.ref u],rfl,aj,?_,f9 (s3.trans s4) nD⟩;rw[bL,he,aN];exact(hP.imp λ_ _ z=>z.mono T5).snoc ⟨u,e.q,t,e.rvs,rfl,t5 _ _ hu4,T5 _ _ ok.tq,t5 _ _ ht4,ok.rw_.imp λ_ _ z=>z.mono T5⟩
  ·rintro σ' H3 ⟨o,pvs,_,hD,hP,s3⟩;rw[ae,bJ (aD _),eb] at hP;refine⟨D,_,rfl,.inl ⟨cB.of hD,λt nt=>?_⟩⟩;exact q t _ ⟨pvs,aj,hP.imp λ_ _ z=>z.mono (.of_same ((aL.refl H3).new nt))⟩ ((s2.trans s3).new nt)
def Oa{E:XK}{n:Int}{C:ar}{H:Hp}(h:∀(dx:ar) (H':Hp),aL H H'->H' dx=some (XD dx (rK n))->E (.ref C) (some dx) H') :
  ∀(dx:ar) (H':Hp),aL H H'->H' dx=some (XD dx (rK n))->(nq λ_=>E) (.ref C) (some dx) H':=λdx H' s g x C' T' ec hx nd hT nx=>
 h dx _ (s.new hT) (by rw[aK (aB g hT)];exact g)
def zR:∀(L:List (Option cL)),(∀n:Nat,L[n]?≠some none)->∃ls:List cL,L=ls.map some
 |[],_=>⟨[],rfl⟩
 |none::r,h=>absurd rfl (h 0)
 |some x::r,h=>by
  obtain⟨ls,e⟩:=zR r λn z=>h (n+1) (by simpa using z);exact⟨x::ls,by rw[e];rfl⟩
def OF{K:Fg}{vs:List V}{H:Hp}{Q:VK}{E:XK}(h:iM K vs H Q E):GY K E {nx:=λ_ H'=>Q .non H',rt:=Q} (cI zq vs) H:=by
 obtain⟨x,rfl,hx,q1,q2⟩:=h;have few:(Txt.split x "\n").length<=99000:=by have:=xf x "\n";lia
 refine .inl ⟨_,rfl,rfl,x,"\n",rfl,rfl,by decide +kernel,(by have:=cq (n:=x.length+3) (by lia);lia),λl nl=>?_⟩;have s0:aL H (upd H l (.lst ((Txt.split x "\n").map V.str))):=(aL.refl H).new nl;have hl0:upd H l (.lst ((Txt.split x "\n").map V.str)) l=some (.lst ((Txt.split x "\n").map V.str)):=aj;generalize upd H l (.lst ((Txt.split x "\n").map V.str))=H0 at s0 hl0 ⊢;refine⟨l,rfl,⟨_,cB.of hl0⟩,λD nD=>?_⟩;refine hW (xs:=(Txt.split x "\n").map V.str) (λi σ' H'=>∃(o:Option V) (lvs:List V),σ'=[some (.str x),none,none,none,o]/\H' D=some (.lst lvs)/\cR (u0 H') lvs (((Txt.split x "\n").take i).map λy=>lineOf? (Txt.split y " "))/\aL H0 H') ?_ ?_ ?_ ?_
 ·exact⟨none,[],rfl,aj,cR.nil,(aL.refl H0).new nD⟩
 ·rintro i σ' H' _ ⟨o,lvs,rfl,_,_,s⟩;exact cB.of (s _ _ hl0)
 ·rintro i v σ' H1 hv ⟨o,lvs,rfl,hD,hA,s1⟩;obtain⟨y,hy,rfl⟩:=ql hv;have hi:i<(Txt.split x "\n").length:=(ak.mp hy).1;have hyl:y.length<=90000:=by have:=sx (aF hy);lia
  refine jc ⟨_,rfl,y,rfl,hyl,λv H2 la s2=>?_⟩;have hD2:=s2 _ _ hD;have t3:Tp H2 (upd H2 D (.lst (lvs++[v]))):=(Tp.refl H2).lst hD2;have ll:lvs.length<=i:=by rw[hA.len,ae,a8];lia
  refine⟨_,hD2,cq (by lia),_,lvs++[v],rfl,aj,?_,f9 (s1.trans s2) nD⟩;rw[bL,hy,aN];exact(hA.imp λ_ _ z=>z.mono ((Tp.of_same s2).trans t3)).snoc (la.mono t3)
 ·rintro σ' H1 ⟨o,lvs,_,hD,hA,s1⟩;rw[ae,bJ (aD _)] at hA;have hA:cR (u0 H1) lvs (parse x):=hA;have S1:=s0.trans s1;have fewp:(parse x).length<=99000:=by show(rE _ _).length<=99000;rw[ae];exact few
  show Bd K E _ [some (.str x),some (.ref D),none,none] H1;refine⟨_,rfl,D,parse x,rfl,⟨lvs,hD,hA⟩,λnf H2 s2=>?_,λn f=>Oa λdx H' s g=>q1 n f dx H' (S1.trans s) g⟩;obtain⟨ls,els⟩:=zR (parse x) λn z=>nf n (.inl z);obtain⟨q3,q4⟩:=q2 ls els nf;have S2:=S1.trans s2;have L2:lW H2 D (ls.map some):=by rw[<-els];exact lW.mono ⟨lvs,hD,hA⟩ s2
  have fewl:ls.length<=99000:=by rw[els,ae] at fewp;exact fewp
  show Bc K E _ [some (.str x),some (.ref D),none,none] H2;refine⟨_,rfl,D,ls,rfl,L2,fewl,λd H3 hN s3=>?_⟩;have S3:=S2.trans s3;show Bb K E _ [some (.str x),some (.ref D),some (.ref d),none] H3;refine⟨_,rfl,_,rfl,D,d,ls,rfl,L2.mono s3,hN,λnc H4 s4=>?_,λn f=>Oa λdx H' s g=>q3 n f dx H' (S3.trans s) g⟩;obtain⟨wd,q5,q6⟩:=q4 nc;have S4:=S3.trans s4;show Ba K E _ [some (.str x),some (.ref D),some (.ref d),none] H4;refine⟨_,rfl,_,rfl,D,d,ls,rfl,(L2.mono s3).mono s4,fewl,hN.mono s4,by rw[<-els];exact nf,nc,λp H5 hp s5=>?_⟩;have S5:=S4.trans s5;show A9 K E _ [some (.str x),some (.ref D),some (.ref d),some (.ref p)] H5;refine⟨_,rfl,p,_,rfl,hp,wd,λcl H6 s6=>⟨_,rfl,q5 cl p H6 (hp.mono (.of_same s6)) (S5.trans s6)⟩,λk n w f=>Ob λdx H' s g=>q6 k n w f dx H' (S5.trans s) g⟩
def Ve{K:Fg}{H:Hp}{l:ar}{sep:Str}{ws:List Str}{b:Nat}{Q:VK}(hl:H l=some (.lst (ws.map V.str)))(hb:∀w∈ws,w.length<=b)(hs:sep.length=1)(hn:ws.length*(b+1)<=100000)(q:Q (.str (Txt.join sep ws)) H):ny K (.str sep) [.ref l] H Q:=by
 refine⟨sep,l,ws,rfl,rfl,cB.of hl,?_,q⟩;have h2:(ws.map (·.length)).sum<=ws.length*b:=StrLaws.sumLen_le ws hb;have:ws.length*(b+1)=ws.length*b+ws.length:=Nat.mul_succ ..;rw[hs];lia
def Sb{sep:Str}{ws:List Str}{b:Nat}(hb:∀w∈ws,w.length<=b)(hs:sep.length=1)(hn:ws.length*(b+1)<=100000):(ws.map (·.length)).sum+ws.length*sep.length<=16777216:=by
 have h2:(ws.map (·.length)).sum<=ws.length*b:=StrLaws.sumLen_le ws hb;have:ws.length*(b+1)=ws.length*b+ws.length:=Nat.mul_succ ..;rw[hs];lia
def rV{K:Fg}{H:Hp}{l:ar}{ps:List bw}{r:eJ}{Q:VK}(hn:∀b∈ps,b.name.length<=8)(hw:zF ps r)(hl:H l=some (.lst ((lO ps r).map V.str)))(q:Q (.str (Ae ps r)) H):ny K (.str " ") [.ref l] H Q:=by
 obtain⟨h1,h2⟩:=NU hn hw;have:(lO ps r).length*21<=12*21:=dr _ h1;exact Ve hl h2 VZ (by lia) q
def NF{ps:List bw}{b:bw}(h:DY ps b):(("part":Str)::b.name::b.params).length*9<=90:=by
 have:=(wC h).1;lia
def Bj{ps:List bw}{i:Nat}{b:bw}(h:ps[i]?=some b):((ps.take (i+1)).map (fK ps)).flatten=((ps.take i).map (fK ps)).flatten++fK ps b:=by
 rw[bL,h,aN,List.flatten_append];show _++(fK ps b++[])=_;rw[dU]
def Pa{ps:List bw}(hp:uD ps)(i:Nat):((ps.take i).map (fK ps)).flatten.length<=520:=by
 have h1:=(wM hp (ps.take i) λb hb=>dR hb).1;have h2:(ps.take i).length<=8:=by rw[a8];have:=hp.few;lia
 have:(ps.take i).length*65<=8*65:=dr _ h2;lia
def tj(sep x y:Str)(r:List Str):Txt.join sep (x::y::r)=x++sep++Txt.join sep (y::r):=by
 show Builtin.Str.glued sep (x::y::r)=x++sep++Builtin.Str.glued sep (y::r);rw[StrLaws.glued_eq_join,StrLaws.glued_eq_join];rfl
def xP{K:Fg}{H:Hp}{a b:Str}{Q:VK}(h:a.length+b.length<=100000)(q:Q (.str (a++b)) H):cS K (.str a) (.str b) H Q:=.inr (.inl ⟨a,b,rfl,rfl,cT (cq h),q⟩)
def Nu:(" = ":Str)=(" ":Str)++"="++" ":=by decide +kernel
def c3:(" = ":Str).length=3:=by decide +kernel
def c1:(" ":Str).length=1:=by decide +kernel
def NV(ps:List bw)(x:Str)(z:Int):Ae ps (.num x z)=x++" = "++sN z:=by
 show Txt.join " " [x,"=",sN z]=_;rw[tj,FV,Nu];simp only[CH]
def Qv(ps:List bw)(x s a b:Str):Ae ps (.op x s a b)=x++" = "++a++" "++s++" "++b:=by
 show Txt.join " " [x,"=",a,s,b]=_;rw[tj,tj,tj,FV,Nu];simp only[CH]
def SK(v:V)(w:Str):Prop:=v=.str w\/∃z:Int,v=.int z/\IR z/\w=sN z
def vQ{K:Fg}{H:Hp}{p t:ar}{xs:List V}{ws:List Str}{Q:VK}(ht:H t=some (.tup xs))(few:ws.length<=1000)(al:cR SK xs ws)(q:∀(D:ar) (H':Hp),H' D=some (.lst (ws.map V.str))->aL H H'->Q (.ref D) H') :
  fE [] 1 (iT K (ao 1)) (aU 2) kH (fj (EB) (ai (ao 2) aJ)) [some (.ref p),some (.ref t)] H Q:=by
 refine .inr ⟨_,rfl,t,rfl,⟨_,eO.of ht⟩,λD nD=>?_⟩;refine zL (xs:=xs) (λi σ' H'=>∃(o:Option V),σ'=[some (.ref p),some (.ref t),o]/\H' D=some (.lst ((ws.take i).map V.str))/\aL H H') ?_ ?_ ?_ ?_
 ·exact⟨none,rfl,aj,(aL.refl H).new nD⟩
 ·rintro i σ' H' _ ⟨o,rfl,_,s⟩;exact eO.of (s _ _ ht)
 ·rintro i v σ' H1 hv ⟨o,rfl,hD,s1⟩;obtain⟨w,hw,wa⟩:=al.of_v hv;have hi:i<ws.length:=(ak.mp hw).1;have fin:∃ys,H1 D=some (.lst ys)/\ys.length<av/\∃(o:Option V),([some (V.ref p),some (.ref t),some v]:St)=[some (.ref p),some (.ref t),o]/\upd H1 D (.lst (ys++[.str w])) D=some (.lst ((ws.take (i+1)).map V.str))/\aL H (upd H1 D (.lst (ys++[.str w]))):=
   ⟨_,hD,cq (by rw[ae,a8];lia),_,rfl,by rw[aj,bL,hw,aN];rfl,f9 s1 nD⟩
  rcases wa with rfl|⟨z,rfl,iz,rfl⟩
  ·exact jc ⟨_,rfl,.inr ⟨w,rfl,fin⟩⟩
  ·exact jc ⟨_,rfl,.inl ⟨z,rfl,NX iz,fin⟩⟩
 ·rintro σ' H1 ⟨o,_,hD,s1⟩;rw[al.len,bJ (aD _)] at hD;exact q D H1 hD s1
def Jc{K:Fg}{vs:List V}{H:Hp}{Q:VK}{E:XK}(h:sv K vs H Q E):Bi K {nx:=λ_ H'=>Q .non H',rt:=Q} (cI uB vs) H:=by
 obtain⟨p,v,ps,r,rfl,hp,hn,hr,hw,q⟩:=h;cases r with
 |num x z=>
  obtain⟨t,rfl,ht⟩:=hr;have h20:=AE hw.2;refine⟨_,rfl,Zw ht rfl (.inl ⟨rfl,_,rfl,ME ?_⟩)⟩;refine⟨_,rfl,Zw ht rfl (xP (by rw[c3];have:=hw.1;lia) ⟨_,rfl,Zw ht rfl (.inl ⟨z,rfl,NX hw.2,xP (a:=x++" = ") (b:=sN z) (by rw[gG,c3];have:=hw.1;lia) ?_⟩)⟩)⟩;rw[<-NV ps];exact q H (aL.refl H)
 |op x s a b=>
  obtain⟨t,rfl,ht⟩:=hr;obtain⟨h1,h2,h3,h4⟩:=hw;refine⟨_,rfl,Zw ht rfl (.inl ⟨rfl,_,rfl,Zv ?_⟩)⟩;refine⟨_,rfl,Zw ht rfl (.inl ⟨rfl,_,rfl,ME ?_⟩)⟩;refine⟨_,rfl,Zw ht rfl (xP (by rw[c3];lia) ⟨_,rfl,Zw ht rfl (xP (by rw[gG,c3];lia) (xP (by rw[gG,gG,c3,c1];lia) ⟨_,rfl,Zw ht rfl (xP (by rw[gG,gG,gG,c3,c1];lia) (xP (by rw[gG,gG,gG,gG,c3,c1];lia) ⟨_,rfl,Zw ht rfl (xP (by rw[gG,gG,gG,gG,gG,c3,c1];lia) ?_)⟩))⟩))⟩)⟩;rw[<-Qv ps];exact q H (aL.refl H)
 |call x k as=>
  obtain⟨t,u,rfl,ht,hu⟩:=hr;obtain⟨h1,h2,h3,h4,h5⟩:=id hw;obtain⟨b,eb,_,en⟩:=ve h2 h3;obtain⟨pvs,hpt,hA⟩:=hp;have hk:k.toNat<pvs.length:=by rw[hA.len];exact(ak.mp eb).1
  obtain⟨pa,q0,r0,rs0,epv,hpa,_⟩:=hA.at_ k.toNat _ b (af hk) eb;refine⟨_,rfl,Zw ht rfl (.inl ⟨rfl,_,rfl,Zv ?_⟩)⟩;refine⟨_,rfl,Zw ht rfl (.inl ⟨rfl,_,rfl,Zv ?_⟩)⟩;refine⟨_,rfl,Zw ht rfl (.inl ⟨rfl,_,rfl,ME ?_⟩)⟩;refine⟨rfl,_,rfl,Zw ht rfl ⟨_,rfl,_,rfl,Zw ht rfl (dk hpt h2 (by rw[af hk,epv]) (Zw hpa rfl ⟨ZC,λl nl=>?_⟩))⟩⟩;have s1:aL H (upd H l (.lst [.str x,.str "=",.str "call",.str b.name])):=(aL.refl H).new nl;have hl1:upd H l (.lst [.str x,.str "=",.str "call",.str b.name]) l=some (.lst [.str x,.str "=",.str "call",.str b.name]):=aj;generalize upd H l (.lst [.str x,.str "=",.str "call",.str b.name])=H1 at s1 hl1 ⊢;refine⟨_,rfl,dk (s1 _ _ ht) (by decide) rfl ⟨u,_,rfl,.inr (eO.of (s1 _ _ hu)),λl2 nl2=>?_⟩⟩;have s2:aL H1 (upd H1 l2 (.lst (as.map V.str))):=(aL.refl H1).new nl2;have hl2:upd H1 l2 (.lst (as.map V.str)) l2=some (.lst (as.map V.str)):=aj;generalize upd H1 l2 (.lst (as.map V.str))=H2 at s2 hl2 ⊢;refine .inr (.inr (.inl ⟨l,l2,_,_,rfl,rfl,s2 _ _ hl1,hl2,cT (cq (by rw[ae];show 4+as.length<=_;lia)),λl3 nl3=>?_⟩));refine rV (r:=.call x k as) hn hw ?_ (q _ ((s1.trans s2).new nl3));rw[aj];show some (HO.lst _)=some (HO.lst ((x::"="::"call"::se ps k::as).map V.str));rw[en];rfl
 |say a=>
  obtain⟨t,rfl,ht⟩:=hr;refine⟨_,rfl,Zw ht rfl (.inl ⟨rfl,_,rfl,Zv ?_⟩)⟩;refine⟨_,rfl,Zw ht rfl (.inl ⟨rfl,_,rfl,Zv ?_⟩)⟩;refine⟨_,rfl,Zw ht rfl (.inl ⟨rfl,_,rfl,Zv ?_⟩)⟩;exact⟨rfl,vQ ht (ws:=["say",a]) (by show 2<=1000;decide) ((cR.nil.snoc (.inl rfl)).snoc (.inl rfl)) λD H' hD s=>rV (r:=.say a) hn hw hD (q H' s)⟩
 |jump to=>
  obtain⟨t,rfl,ht⟩:=hr;refine⟨_,rfl,Zw ht rfl (.inl ⟨rfl,_,rfl,Zv ?_⟩)⟩;refine⟨_,rfl,Zw ht rfl (.inl ⟨rfl,_,rfl,Zv ?_⟩)⟩;refine⟨_,rfl,Zw ht rfl (.inl ⟨rfl,_,rfl,Zv ?_⟩)⟩;exact⟨rfl,vQ ht (ws:=["jump",sN to]) (by show 2<=1000;decide) ((cR.nil.snoc (.inl rfl)).snoc (.inr ⟨to,rfl,hw,rfl⟩)) λD H' hD s=>rV (r:=.jump to) hn hw hD (q H' s)⟩
 |test a to=>
  obtain⟨t,rfl,ht⟩:=hr;refine⟨_,rfl,Zw ht rfl (.inl ⟨rfl,_,rfl,Zv ?_⟩)⟩;refine⟨_,rfl,Zw ht rfl (.inl ⟨rfl,_,rfl,Zv ?_⟩)⟩;refine⟨_,rfl,Zw ht rfl (.inl ⟨rfl,_,rfl,Zv ?_⟩)⟩;exact⟨rfl,vQ ht (ws:=["test",a,sN to]) (by show 3<=1000;decide) (((cR.nil.snoc (.inl rfl)).snoc (.inl rfl)).snoc (.inr ⟨to,rfl,hw.2,rfl⟩)) λD H' hD s=>rV (r:=.test a to) hn hw hD (q H' s)⟩
 |give a=>
  obtain⟨t,rfl,ht⟩:=hr;refine⟨_,rfl,Zw ht rfl (.inl ⟨rfl,_,rfl,Zv ?_⟩)⟩;refine⟨_,rfl,Zw ht rfl (.inl ⟨rfl,_,rfl,Zv ?_⟩)⟩;refine⟨_,rfl,Zw ht rfl (.inl ⟨rfl,_,rfl,Zv ?_⟩)⟩;exact⟨rfl,vQ ht (ws:=["give",a]) (by show 2<=1000;decide) ((cR.nil.snoc (.inl rfl)).snoc (.inl rfl)) λD H' hD s=>rV (r:=.give a) hn hw hD (q H' s)⟩
def RB{K:Fg}{vs:List V}{H:Hp}{Q:VK}{E:XK}(h:AN K vs H Q E):Kw K {nx:=λ_ H'=>Q .non H',rt:=Q} (cI JM vs) H:=by
 obtain⟨p,ps,rfl,hp,hw,q⟩:=h;obtain⟨pvs,hpt,hA⟩:=id hp;have hn:∀b∈ps,b.name.length<=8:=λb hb=>(hw.part b hb).nm;refine⟨Zx,λL nL=>?_⟩;show Dq K _ [some (.ref p),some (.ref L),none,none,none,none] _;have s1:aL H (upd H L (.lst [])):=(aL.refl H).new nL;have hL1:upd H L (.lst []) L=some (.lst []):=aj;generalize upd H L (.lst [])=H1 at s1 hL1 ⊢;refine .inr ⟨_,rfl,p,rfl,⟨_,eO.of (s1 _ _ hpt)⟩,pR (xs:=pvs) (λi σ' H'=>∃(o2 o3 o4 o5:Option V),σ'=[some (.ref p),some (.ref L),o2,o3,o4,o5]/\H' L=some (.lst ((((ps.take i).map (fK ps)).flatten).map V.str))/\aL H H') ⟨_,_,_,_,rfl,hL1,s1⟩ ?_ ?_ ?_⟩
 ·rintro i σ' H' _ ⟨_,_,_,_,_,_,s⟩;exact eO.of (s _ _ hpt)
 ·rintro i v σ' H2 hv ⟨o2,o3,o4,o5,rfl,hL,s2⟩;obtain⟨b,hb,pa⟩:=hA.of_v hv;have bm:=aF hb;have wb:=hw.part b bm;have lf1:=Pa hw (i+1);rw[Bj hb,aG] at lf1;have lfb:(fK ps b).length=b.rows.length+1:=by unfold fK;rw[aI,ae]
  obtain⟨pp,pq,pr,rvs,rfl,h1,h2,h3,h4⟩:=pa.mono (.of_same s2);refine⟨pp,_,rfl,eO.of h1,rfl,_,_,rfl,_,_,rfl,_,_,rfl,rfl,?_⟩;show Dp K _ [some (.ref p),some (.ref L),some (.str b.name),some (.ref pq),some (.ref pr),o5] H2;refine⟨_,rfl,.inl ⟨rfl,_,cB.of hL⟩,rfl,_,rfl,Zz,λl nl=>?_⟩;have s3:aL H2 (upd H2 l (.lst [.str "part",.str b.name])):=(aL.refl H2).new nl;have hl3:upd H2 l (.lst [.str "part",.str b.name]) l=some (.lst [.str "part",.str b.name]):=aj;generalize upd H2 l (.lst [.str "part",.str b.name])=H3 at s3 hl3 ⊢;refine⟨_,rfl,pq,_,rfl,.inr (eO.of (s3 _ _ h2)),λl2 nl2=>?_⟩;have s4:aL H3 (upd H3 l2 (.lst (b.params.map V.str))):=(aL.refl H3).new nl2;have hl4:upd H3 l2 (.lst (b.params.map V.str)) l2=some (.lst (b.params.map V.str)):=aj;generalize upd H3 l2 (.lst (b.params.map V.str))=H4 at s4 hl4 ⊢;refine .inr (.inr (.inl ⟨l,l2,_,_,rfl,rfl,s4 _ _ hl3,hl4,cT (cq (by rw[ae];have:=wb.p8;show 2+b.params.length<=_;lia)),λl3 nl3=>?_⟩));have s5:aL H4 (upd H4 l3 (.lst ([.str "part",.str b.name]++b.params.map V.str))):=(aL.refl H4).new nl3;have hl5:upd H4 l3 (.lst ([.str "part",.str b.name]++b.params.map V.str)) l3=some (.lst ((("part":Str)::b.name::b.params).map V.str)):=aj;generalize upd H4 l3 (.lst ([.str "part",.str b.name]++b.params.map V.str))=H5 at s5 hl5 ⊢;have s25:=(s3.trans s4).trans s5;have hL5:=s25 _ _ hL;refine⟨_,l3,_,rfl,rfl,cB.of hl5,Sb (wC wb).2 VZ (by have:=NF wb;lia),L,_,_,rfl,rfl,hL5,cq (by rw[ae];lia),?_⟩;have S6:aL H (upd H5 L (.lst ((((ps.take i).map (fK ps)).flatten).map V.str++[.str (tR b)]))):=f9 (s2.trans s25) nL;have t6:Tp H5 (upd H5 L (.lst ((((ps.take i).map (fK ps)).flatten).map V.str++[.str (tR b)]))):=(Tp.refl H5).lst hL5;have hL6:upd H5 L (.lst ((((ps.take i).map (fK ps)).flatten).map V.str++[.str (tR b)])) L=some (.lst ((((ps.take i).map (fK ps)).flatten++[tR b]).map V.str)):=by rw[aj,aN];rfl
  show Do K _ [some (.ref p),some (.ref L),some (.str b.name),some (.ref pq),some (.ref pr),o5] (upd H5 L (.lst ((((ps.take i).map (fK ps)).flatten).map V.str++[.str (tR b)])));generalize upd H5 L (.lst ((((ps.take i).map (fK ps)).flatten).map V.str++[.str (tR b)]))=H6 at S6 t6 hL6 ⊢;have T6:Tp H2 H6:=(Tp.of_same s25).trans t6;refine .inr ⟨_,rfl,pr,rfl,⟨_,eO.of (T6 _ _ h3)⟩,pR (xs:=rvs) (λj σ' H'=>∃(o5:Option V),σ'=[some (.ref p),some (.ref L),some (.str b.name),some (.ref pq),some (.ref pr),o5]/\H' L=some (.lst ((((ps.take i).map (fK ps)).flatten++tR b::(b.rows.take j).map (Ae ps)).map V.str))/\Tp H2 H'/\aL H H') ⟨_,rfl,hL6,T6,S6⟩ ?_ ?_ ?_⟩
  ·rintro j σ' H' _ ⟨_,_,_,t,_⟩;exact eO.of (t _ _ h3)
  ·rintro j v σ' H7 hv ⟨o5,rfl,hL7,t7,s7⟩;obtain⟨r,hr,ra⟩:=h4.of_v hv;have rm:=aF hr;have jl:j<b.rows.length:=(ak.mp hr).1;show Dn K _ [some (.ref p),some (.ref L),some (.str b.name),some (.ref pq),some (.ref pr),some v] H7;refine⟨_,rfl,.inl ⟨rfl,_,cB.of hL7⟩,_,rfl,_,rfl,p,v,ps,r,rfl,hp.mono (.of_same s7),hn,ra.mono t7,wb.rows r rm,λH8 s8=>?_⟩;have hL8:=s8 _ _ hL7;refine⟨L,_,_,rfl,rfl,hL8,cq ?_,_,rfl,?_,(t7.trans (.of_same s8)).lst hL8,f9 (s7.trans s8) nL⟩
   ·rw[ae,aG,aI,ae,a8];lia
   ·rw[aj,bL,hr,aN (l₁:=b.rows.take j)];simp only[aN,aV,fq,List.cons_append];rfl
  ·rintro σ' H7 ⟨o5,rfl,hL7,t7,s7⟩;rw[h4.len,bJ (aD _)] at hL7;refine⟨_,_,_,_,rfl,?_,s7⟩;rw[hL7,Bj hb];rfl
 ·rintro σ' H2 ⟨o2,o3,o4,o5,rfl,hL,s2⟩;rw[hA.len,bJ (aD _)] at hL;exact⟨_,rfl,q L H2 nL hL s2⟩
def lZ{α:Type}:∀{a b:List α},a.map some=b.map some->a=b
 |[],[],_=>rfl
 |[],y::b,h=>by cases h
 |x::a,[],h=>by cases h
 |x::a,y::b,h=>by
  rw[aV,aV] at h;injection h with h1 h2;rw[Option.some.inj h1,lZ h2]
def Mg{K:Fg}{ps:List bw}{H:Hp}{Q:VK}{E:XK}(nm:lE ps)(nd:(ps.map (·.name)).Nodup)(q1:vV ps->∀(p:ar) (H':Hp),fz H' p ps->aL H H'->Q (.ref p) H')
  (q2:∀(k n:Nat) (w:Str),zj ps k n w->∀(dx:ar) (H':Hp),aL H H'->H' dx=some (XD dx (zi k n w))->E (.ref (cg K "NoProgram")) (some dx) H'):iM K [.str (He ps)] H Q E:=by
 have e:=IL nm;refine⟨He ps,rfl,DB nm.wr,λn f=>?_,λls els nf=>?_⟩
 ·rw[e] at f;exact absurd f.1 (NB nm.pos n)
 ·rw[e] at els;have:=lZ els;subst this;refine⟨λn f=>absurd f.1 (Nc nm n),λ_=>?_⟩;rw[L5 nm nd];exact⟨nm.wd,q1,q2⟩
def Qi{ys:List Str}{cs:List Nat}{bs:List eF}(ok:wg ys cs bs):lE (bs.map eF.up):=by
 refine⟨by have:=ok.pos;intro z;have:(bs.map eF.up).length=0:=(by rw[z];rfl);rw[ae] at this;lia,by rw[ae];have:=ok.few;lia,λb' hb'=>?_⟩;obtain⟨b,hb,rfl⟩:=bA.mp hb';have p:=ok.part b hb;have pl:b.params.length<=4:=ok.c4 _ (by rw[<-ok.cnt];exact bA.mpr ⟨b,hb,rfl⟩);refine⟨ok.nnm b hb,by show b.params.length<=8;lia,λy hy=>ok.ynm y (p.pin y hy),by show(b.rows.map bS.up).length<64;rw[ae];have:=p.few;lia,λr' hr'=>?_⟩;obtain⟨r,hr,rfl⟩:=bA.mp (show r'∈b.rows.map bS.up from hr');have q:=p.rows r hr;have few:=p.few;have big:∀n:Nat,n<b.rows.length->IR (n:Nat):=λn h=>by
  have h61:n<61:=by lia
  exact⟨by lia,Int.lt_of_lt_of_le (b:=61) (by lia) (by decide)⟩
 cases r with
 |num x z=>exact⟨ok.ynm x q.1,q.2⟩
 |op x s a b=>exact⟨ok.ynm x q.1,q.2.1,ok.ynm a q.2.2.1,ok.ynm b q.2.2.2⟩
 |call x k as=>
  have hk:=(ak.mp q.2.1).1;have h4:as.length<=4:=ok.c4 _ (aF q.2.1);rw[<-ok.cnt,ae] at hk;exact⟨ok.ynm x q.1,by lia,by rw[ae];lia,by lia,λa ha=>ok.ynm a (q.2.2 a ha)⟩
 |say a=>exact ok.ynm a q
 |jump to=>exact big to q
 |test a to=>exact⟨ok.ynm a q.1,big to q.2⟩
 |give a=>exact ok.ynm a q
def Pc(bs:List eF):(bs.map eF.up).map (·.name)=bs.map (·.name):=by rw[dM];rfl
def J3{a c:Nat}:(!decide (([c]:List Nat)<[a]))=decide (a<=c):=by
 by_cases h:a<=c
 ·have n:¬([c]:List Nat)<[a]:=λz=>by
   rcases List.cons_lt_cons_iff.mp z with z|⟨_,z⟩
   ·lia
   ·exact absurd z (by simp)
  rw[decide_eq_true h,decide_eq_false n];rfl
 ·have n:([c]:List Nat)<[a]:=List.cons_lt_cons_iff.mpr (.inl (by lia));rw[decide_eq_false h,decide_eq_true n];rfl
def JT{x z:Str}{a b:Nat}{y:Str}(ha:x=⟨#[a]⟩)(hb:z=⟨#[b]⟩)(c:Nat)(H:Hp)(Q:VK)(q:Q (.bl (decide (a<=c)&&decide (c<=b))) H) :
  qm AA AA (tC (.str x)) (ao 1) (tC (.str z)) [some (.str y),some (.str ⟨#[c]⟩)] H Q:=by
 subst ha hb;refine⟨_,rfl,.inr ⟨_,_,rfl,rfl,_,rfl,?_⟩⟩;have e1:(!decide ((⟨#[c]⟩:Str).cps.toList<(⟨#[a]⟩:Str).cps.toList))=decide (a<=c):=J3;have e2:(!decide ((⟨#[b]⟩:Str).cps.toList<(⟨#[c]⟩:Str).cps.toList))=decide (c<=b):=J3;rw[e1];refine bC (λh=>?_) λh=>?_
 ·refine .inr ⟨_,_,rfl,rfl,?_⟩;rw[e2];rw[decide_eq_true h,Bool.true_and] at q;exact q
 ·rw[decide_eq_false h,Bool.false_and] at q;exact q
def Ma{K:Fg}{vs:List V}{H:Hp}{Q:VK}{E:XK}(h:jm K vs H Q E):Dm K {nx:=λ_ H'=>Q .non H',rt:=Q} (cI v5 vs) H:=by
 obtain⟨y,rfl,hy,q⟩:=h;refine⟨_,rfl,ZE,λp hp=>⟨p,_,rfl,.inr (eO.of aj),rfl,rfl,_,rfl,?_⟩⟩;have s0:aL H (upd H p (.tup [.str "part",.str "call",.str "say",.str "jump",.str "test",.str "give"])):=(aL.refl H).new hp;have e:lY (.str y) [.str "part",.str "call",.str "say",.str "jump",.str "test",.str "give"]=decide (y∈vp):=hU y vp;rw[show(if false=true then !lY (V.str y) [.str "part",.str "call",.str "say",.str "jump",.str "test",.str "give"] else lY (.str y) [.str "part",.str "call",.str "say",.str "jump",.str "test",.str "give"])=decide (y∈vp) from e];refine bC (λc3=>q false _ ⟨λz=>(by cases z),λn=>absurd c3 n.no⟩ s0) λc3=>?_;refine⟨_,rfl,_,_,rfl,IA hy,.inl ⟨_,_,rfl,rfl,_,rfl,bC (λc1=>?_) (λc1=>?_)⟩⟩
 ·refine .inl ⟨_,_,rfl,rfl,_,rfl,bC (λc2=>?_) (λc2=>?_)⟩
  ·refine HS (P:=λc=>decide (97<=c)&&decide (c<=122)) (JT (by decide +kernel) (by decide +kernel)) hy λb H' hb s=>q b H' ?_ (s0.trans s);rw[hb];exact⟨λh=>⟨by lia,by lia,λc hc=>by simpa using h c hc,c3⟩,λn c hc=>by simpa using n.abc c hc⟩
  ·exact q false _ ⟨λz=>(by cases z),λn=>absurd n.l8 (by lia)⟩ s0
 ·exact⟨false,rfl,f6 (q false _ ⟨λz=>(by cases z),λn=>absurd n.l1 (by lia)⟩ s0)⟩
def L9{K:Fg}{vs:List V}{H:Hp}{Q:VK}{E:XK}(h:mK K vs H Q E):Dl K {nx:=λ_ H'=>Q .non H',rt:=Q} (cI vZ vs) H:=by
 obtain⟨y,rfl,hy,q⟩:=h;have fin:1<=y.length->y.length<=20->(y.cps.toList.head?=some 48->y="0")->xW K {nx:=λ_ H'=>Q .non H',rt:=Q} [some (.str y)] H:=λl1 l2 ld=>
  HS (P:=λc=>decide (48<=c)&&decide (c<=57)) (JT (by decide +kernel) (by decide +kernel)) hy λb H' hb s=>q b H' (by
   rw[hb];exact⟨λh=>⟨l1,l2,λc hc=>by simpa using h c hc,ld⟩,λn c hc=>by simpa using n.dig c hc⟩) s
 refine⟨_,rfl,_,_,rfl,IA hy,.inl ⟨_,_,rfl,rfl,_,rfl,bC (λc1=>?_) (λc1=>?_)⟩⟩
 ·refine .inl ⟨_,_,rfl,rfl,_,rfl,?_⟩;refine jS (λc2=>ky (q false _ ⟨λz=>(by cases z),λn=>absurd n.l20 (by lia)⟩ (aL.refl H))) (λc2=>?_);obtain⟨c0,r0,e0⟩:∃c r,y.cps.toList=c::r:=by
   cases h:y.cps.toList with
   |nil=>
    have:y.cps.toList.length=0:=by rw[h];rfl
    rw[bg] at this;have:y.length=0:=this;lia
   |cons c r=>exact⟨c,r,rfl⟩
  have one:(V.str ⟨#[c0]⟩=V.str "0")↔c0=48:=by
   rw[show("0":Str)=⟨#[48]⟩ from by decide +kernel];constructor
   ·intro z;injection z with z;injection z with z;injection z with z;injection z
   ·intro z;rw[z]
  refine⟨_,rfl,_,_,rfl,IA hy,_,_,rfl,rfl,_,rfl,bC (λc3=>?_) (λc3=>?_)⟩
  ·refine⟨_,rfl,Vd (cT (cq (by lia))) (by decide) (by rw[e0];rfl) (.inl ⟨rfl,_,rfl,bC (λc4=>?_) (λc4=>?_)⟩)⟩
   ·refine q false H ⟨λz=>(by cases z),λn=>?_⟩ (aL.refl H);have e:=n.lead (by rw[e0,one.mp c4];rfl);rw[e] at c3;exact absurd c3 (by decide +kernel)
   ·refine fin (by lia) (by lia) λz=>?_;rw[e0] at z;exact absurd (one.mpr (by simpa using z)) c4
  ·refine f6 (fin (by lia) (by lia) λz=>?_);have l1:y.cps.toList.length=1:=by rw[bg];show y.length=1;lia
   rw[e0] at z l1;have e1:r0=[]:=by simpa using l1
   have e2:c0=48:=by simpa using z
   have e3:y=⟨y.cps⟩:=rfl;rw[e3,show y.cps=#[48] from by rw[<-oF,e0,e1,e2],show("0":Str)=⟨#[48]⟩ from by decide +kernel]
 ·exact⟨false,rfl,ky (q false _ ⟨λz=>(by cases z),λn=>absurd n.l1 (by lia)⟩ (aL.refl H))⟩
def Gp{K:Fg}{vs:List V}{H:Hp}{Q:VK}{E:XK}(h:jZ K vs H Q E):xY K {nx:=λ_ H'=>Q .non H',rt:=Q} (cI rL vs) H:=by
 obtain⟨l,ys,rfl,hl,few,sh,q⟩:=h;exact tV (K:=K) (E:=E) ⟨l,ys,rfl,hl,few,sh,q⟩
def oU{x:Str}{t:List Str}{r:cL}(h:dn (x::t) r)(m:x∈vp):iK r=x:=by
 rcases h.key with⟨t',e,_⟩|⟨_,x',t',e,nx⟩
 ·injection e with e _;exact e.symm
 ·injection e with e _;exact absurd nx (by rw[<-e];exact yT m)
def CW{t:List Str}:(∃r,dn (("part":Str)::t) r)↔1<=t.length/\∀y∈t,Nm y:=by
 constructor
 ·rintro⟨r,h⟩;have k:=oU h (by decide +kernel);cases r with
  |part x ps=>
   obtain⟨e,n,np⟩:=h;injection e with _ e;rw[e];exact⟨by simp,λy hy=>(aE.mp hy).elim (λe=>by rw[e];exact n) (np y)⟩
  |_=>exact absurd k (by simp only[iK];decide +kernel)
 ·rintro⟨l,n⟩;cases t with
  |nil=>cases l
  |cons x ps=>exact⟨.part x ps,rfl,n x (by simp),λy hy=>n y (by simp[hy])⟩
def ND{t:List Str}:(∃r,dn (("say":Str)::t) r)↔∃a,t=[a]/\Nm a:=by
 constructor
 ·rintro⟨r,h⟩;have k:=oU h (by decide +kernel);cases r with
  |say a=>obtain⟨e,n⟩:=h;injection e with _ e;exact⟨a,e,n⟩
  |_=>exact absurd k (by simp only[iK];decide +kernel)
 ·rintro⟨a,rfl,n⟩;exact⟨.say a,rfl,n⟩
def Ln{t:List Str}:(∃r,dn (("give":Str)::t) r)↔∃a,t=[a]/\Nm a:=by
 constructor
 ·rintro⟨r,h⟩;have k:=oU h (by decide +kernel);cases r with
  |give a=>obtain⟨e,n⟩:=h;injection e with _ e;exact⟨a,e,n⟩
  |_=>exact absurd k (by simp only[iK];decide +kernel)
 ·rintro⟨a,rfl,n⟩;exact⟨.give a,rfl,n⟩
def CV{t:List Str}:(∃r,dn (("jump":Str)::t) r)↔∃y,t=[y]/\Nb y:=by
 constructor
 ·rintro⟨r,h⟩;have k:=oU h (by decide +kernel);cases r with
  |jump to=>obtain⟨y,e,n,_⟩:=h;injection e with _ e;exact⟨y,e,n⟩
  |_=>exact absurd k (by simp only[iK];decide +kernel)
 ·rintro⟨y,rfl,n⟩;exact⟨.jump (qu y),y,rfl,n,rfl⟩
def wB{t:List Str}:(∃r,dn (("test":Str)::t) r)↔∃a y,t=[a,y]/\Nm a/\Nb y:=by
 constructor
 ·rintro⟨r,h⟩;have k:=oU h (by decide +kernel);cases r with
  |test a to=>obtain⟨y,e,n,nb,_⟩:=h;injection e with _ e;exact⟨a,y,e,n,nb⟩
  |_=>exact absurd k (by simp only[iK];decide +kernel)
 ·rintro⟨a,y,rfl,n,nb⟩;exact⟨.test a (qu y),y,rfl,n,nb,rfl⟩
def NG:List Str:=["part","say","give","jump","test"]
def FQ{x:Str}{t:List Str}(hx:x∉NG):(∃r,dn (x::t) r)↔Nm x/\∃ws,t=("=":Str)::ws/\zE ws:=by
 constructor
 ·rintro⟨r,h⟩;rcases h.key with⟨t',e,m⟩|⟨_,x',t',e,nx⟩
  ·injection e with e _;exfalso;cases r with
   |part a b=>exact hx (by rw[e];simp only[iK];decide +kernel)
   |say a=>exact hx (by rw[e];simp only[iK];decide +kernel)
   |give a=>exact hx (by rw[e];simp only[iK];decide +kernel)
   |jump a=>exact hx (by rw[e];simp only[iK];decide +kernel)
   |test a b=>exact hx (by rw[e];simp only[iK];decide +kernel)
   |_=>exact absurd m (by simp only[iK];decide +kernel)
  ·injection e with e1 e2;subst e2;obtain⟨n,s⟩:=OR h;exact⟨n,t',rfl,s⟩
 ·rintro⟨n,ws,rfl,s⟩;rcases s with⟨y,rfl,nb,lt⟩|⟨f,as,rfl,nf,na⟩|⟨a,s,b,rfl,ms,na,nb⟩
  ·exact⟨.num x (qu y),y,rfl,n,nb,rfl,lt⟩
  ·exact⟨.call x f as,rfl,n,nf,na⟩
  ·exact⟨.op x s a b,rfl,n,ms,na,nb⟩
def OQ{r:List Str}:zE (("call":Str)::r)↔1<=r.length/\∀y∈r,Nm y:=by
 constructor
 ·rintro(⟨y,e,nb,_⟩|⟨f,as,e,nf,na⟩|⟨a,s,b,e,_,na,_⟩)
  ·injection e with e _;exact absurd nb (by rw[<-e];exact Es)
  ·injection e with _ e;rw[e];exact⟨by simp,λy hy=>(aE.mp hy).elim (λe=>by rw[e];exact nf) (na y)⟩
  ·injection e with e _;exact absurd na (by rw[<-e];exact m9)
 ·rintro⟨l,n⟩;cases r with
  |nil=>cases l
  |cons f as=>exact .inr (.inl ⟨f,as,rfl,n f (by simp),λy hy=>n y (by simp[hy])⟩)
def Mm{w:Str}{r:List Str}(h:w≠"call"):zE (w::r)↔(r=[]/\Nb w/\qu w<2 ^ 64)\/∃s b,r=[s,b]/\s∈jC/\Nm w/\Nm b:=by
 constructor
 ·rintro(⟨y,e,nb,lt⟩|⟨f,as,e,nf,na⟩|⟨a,s,b,e,ms,na,nb⟩)
  ·injection e with e1 e2;subst e1;exact .inl ⟨e2,nb,lt⟩
  ·injection e with e _;exact absurd e h
  ·injection e with e1 e2;subst e1;exact .inr ⟨s,b,e2,ms,na,nb⟩
 ·rintro(⟨rfl,nb,lt⟩|⟨s,b,rfl,ms,na,nb⟩)
  ·exact .inl ⟨w,rfl,nb,lt⟩
  ·exact .inr (.inr ⟨w,s,b,rfl,ms,na,nb⟩)
def tf{a b:Int}(h:V.int a=V.int b):a=b:=by injection h
def Gn{K:Fg}{vs:List V}{H:Hp}{Q:VK}{E:XK}(h:qd K vs H Q E):xX K {nx:=λ_ H'=>Q .non H',rt:=Q} (cI xx vs) H:=by
 obtain⟨l,ws,rfl,hl,l1,few,sh,q⟩:=h;obtain⟨x,t,rfl⟩:∃x r,ws=x::r:=by
  cases ws with
  |nil=>cases l1
  |cons x r=>exact⟨x,r,rfl⟩
 have shx:=sh x (by simp);have cut:∀{H1:Hp} (c:Nat) (R:VK),H1 l=some (.lst ((x::t).map V.str))->(∀D,H1 D=none->R (.ref D) (upd H1 D (.lst (((x::t).drop c).map V.str))))->uT (vR K) (ao 0) (fX (tC (.int (c:Nat)))) dP [some (.ref l)] H1 R:=λc R h1 r=>
  ⟨_,rfl,_,rfl,.inl ⟨l,_,rfl,cB.of h1,λD nD=>by rw[pQ];exact r D nD⟩⟩
 have set1:∀H1,aL H H1->x∉NG->t8 K {nx:=λ_ H'=>Q .non H',rt:=Q} [some (.ref l)] H1:=by
  intro H1 s1 nh;have hl1:=s1 _ _ hl;have bad:∀{H':Hp},aL H H'->(Nm x->∀ws,t=("=":Str)::ws->¬zE ws)->Q (.bl false) H':=λs n=>q false _ ⟨λz=>(by cases z),λz=>by
   obtain⟨nx,ws,e,z⟩:=(FQ nh).mp z;exact absurd z (n nx ws e)⟩ s
  refine⟨_,rfl,_,_,rfl,jA hl1,_,_,rfl,rfl,_,rfl,bC (λc=>ky (bad s1 λ_ ws e z=>?_)) (λc=>?_)⟩
  ·subst e;have:1<=ws.length:=by rcases z with⟨y,rfl,_⟩|⟨f,as,rfl,_⟩|⟨a,s,b,rfl,_⟩<;>simp
   simp only[aI] at c;lia
  obtain⟨y,w,r,rfl⟩:∃y w r,t=y::w::r:=by
   match t,c with
   |[],c=>exact absurd (by simp) c
   |[a],c=>exact absurd (by simp) c
   |y::w::r,_=>exact⟨y,w,r,rfl⟩
  refine⟨_,rfl,lG (i:=0) hl1 rfl ⟨x,rfl,shx,λb H2 hb s2=>⟨_,rfl,?_⟩⟩⟩;have s2:=s1.trans s2;have hl2:=s2 _ _ hl;cases b with
  |false=>exact ky (ky (bad s2 λn=>by cases hb.mpr n))
  |true=>
  have nx:=hb.mp rfl;refine f6 ?_;refine⟨_,rfl,lG (i:=1) hl2 rfl (.inl ⟨rfl,_,rfl,jS (λc2=>bad s2 λ_ ws e=>?_) (λc2=>?_)⟩)⟩
  ·injection e with e _;exact absurd (by rw[e]) c2
  have e:y="=":=by injection c2
  subst e;have g:(∃r',dn (x::"="::w::r) r')↔zE (w::r):=(FQ nh).trans ⟨λ⟨_,ws,e,z⟩=>by injection e with _ e;rw[e];exact z,λz=>⟨nx,_,rfl,z⟩⟩;clear bad;refine⟨_,rfl,lG (i:=2) hl2 rfl (.inl ⟨rfl,_,rfl,bC (λc3=>?_) (λc3=>?_)⟩)⟩
  ·have e:w="call":=by injection c3
   subst e;rw[OQ] at g;refine⟨_,rfl,_,_,rfl,jA hl2,_,_,rfl,rfl,_,rfl,bC (λc4=>?_) (λc4=>?_)⟩
   ·refine cut 3 _ hl2 λD nD=>⟨D,r,rfl,aj,by simp only[aI] at few;lia,λy hy=>sh y (by simp[hy]),λb H3 hb s3=>q b H3 ?_ ((s2.new nD).trans s3)⟩;rw[hb,g];exact⟨λn=>⟨by simp only[aI] at c4;lia,n⟩,λn=>n.2⟩
   ·refine q false H2 ⟨λz=>(by cases z),λz=>?_⟩ s2;have:=(g.mp z).1;simp only[aI] at c4;lia
  have nc:w≠"call":=λz=>c3 (by rw[z]);rw[Mm nc] at g;refine⟨_,rfl,_,_,rfl,jA hl2,.inl ⟨rfl,_,rfl,bC (λc4=>?_) (λc4=>?_)⟩⟩
  ·have c4:=tf c4;obtain⟨s,b,rfl⟩:=Tr (l:=r) (by simp only[aI] at c4;lia);refine⟨_,rfl,lG (i:=2) hl2 rfl ⟨_,rfl,lG (i:=4) hl2 rfl ⟨Zz,λD nD=>⟨D,[w,b],rfl,aj,by simp,λy hy=>sh y (by simp at hy ⊢;rcases hy with z|z<;>simp[z]),λb3 H3 hb3 s3=>⟨_,rfl,i4 (λeb=>?_) (λeb=>?_)⟩⟩⟩⟩⟩
   ·have s3:=(s2.new nD).trans s3;have hl3:=s3 _ _ hl;have nn:=hb3.mp eb;refine⟨_,rfl,lG (i:=3) hl3 rfl ⟨ZD,λp hp=>⟨p,_,rfl,.inr (eO.of aj),rfl,rfl,?_⟩⟩⟩;have e:lY (.str s) [.str "+",.str "-",.str "*",.str "<",.str "="]=decide (s∈jC):=hU s jC;rw[show(if false=true then !lY (V.str s) [.str "+",.str "-",.str "*",.str "<",.str "="] else lY (.str s) [.str "+",.str "-",.str "*",.str "<",.str "="])=decide (s∈jC) from e];refine q _ _ ?_ (s3.new hp);rw[decide_eq_true_iff,g];exact⟨λm=>.inr ⟨s,b,rfl,m,nn w (by simp),nn b (by simp)⟩,λz=>by
     rcases z with⟨z,_⟩|⟨s',b',e,m,_⟩
     ·cases z
     ·injection e with e _;rw[e];exact m⟩
   ·refine q false H3 ⟨λz=>(by cases z),λz=>?_⟩ ((s2.new nD).trans s3);rcases g.mp z with⟨z,_⟩|⟨s',b',e,_,n1,n2⟩
    ·cases z
    ·injection e with _ e;injection e with e _;rw[hb3.mpr λy hy=>(aE.mp hy).elim (λz=>by rw[z];exact n1) (λz=>by rw[aw.mp z,e];exact n2)] at eb;cases eb
  ·have n5:¬∃s b,r=[s,b]/\s∈jC/\Nm w/\Nm b:=λ⟨s,b,e,_⟩=>by subst e;exact c4 rfl
   have g:(∃r',dn (x::"="::w::r) r')↔r=[]/\Nb w/\qu w<2 ^ 64:=g.trans ⟨λz=>z.elim id λz=>absurd z n5,.inl⟩;refine⟨_,rfl,_,_,rfl,jA hl2,.inl ⟨rfl,_,rfl,bC (λc5=>?_) (λc5=>?_)⟩⟩;rotate_left
   ·refine q false H2 ⟨λz=>(by cases z),λz=>?_⟩ s2;obtain⟨rfl,_⟩:=g.mp z;exact absurd rfl c5
   have c5:=tf c5;have er:r=[]:=di.mp (by simp only[aI] at c5;lia);refine⟨_,rfl,lG (i:=2) hl2 rfl ⟨w,rfl,sh w (by simp),λb H3 hb3 s3=>⟨_,rfl,i4 (λeb=>?_) (λeb=>?_)⟩⟩⟩;rotate_left
   ·refine q false H3 ⟨λz=>(by cases z),λz=>?_⟩ (s2.trans s3);rw[hb3.mpr (g.mp z).2.1] at eb;cases eb
   have nb:=hb3.mp eb;have s3:=s2.trans s3;have hl3:=s3 _ _ hl;have l640:w.length<=640:=by have:=nb.l20;lia
   obtain⟨M,hM,hM'⟩:∃M:Int,(2:Int) ^ fo 64=M/\M=18446744073709551616:=⟨_,rfl,Sh⟩;refine⟨_,rfl,lG (i:=2) hl3 rfl ⟨w,_,rfl,Ai nb,l640,_,_,rfl,rfl,⟨by decide,by decide,by decide⟩,_,_,rfl,rfl,?_⟩⟩;rw[hM];refine q _ _ ?_ s3;rw[decide_eq_true_iff,g,hM',N4];exact⟨λz=>⟨er,nb,by lia⟩,λz=>by have:=z.2.2;lia⟩
 have test1:∀H1,aL H H1->x≠"part"->x≠"say"->x≠"give"->x≠"jump"->t9 K {nx:=λ_ H'=>Q .non H',rt:=Q} [some (.ref l)] H1:=by
  intro H1 s1 n1 n2 n3 n4;have hl1:=s1 _ _ hl;refine⟨_,rfl,lG (i:=0) hl1 rfl (.inl ⟨rfl,_,rfl,bC (λc=>?_) (λc=>?_)⟩)⟩
  ·have e:x="test":=by injection c
   subst e;refine⟨_,rfl,_,_,rfl,jA hl1,.inl ⟨rfl,_,rfl,bC (λc2=>?_) (λc2=>?_)⟩⟩
   ·have c2:=tf c2;obtain⟨a,y,rfl⟩:=Tr (l:=t) (by simp only[aI] at c2;lia);refine⟨_,rfl,lG (i:=1) hl1 rfl ⟨a,rfl,sh a (by simp),λb H2 hb s2=>⟨_,rfl,i4 (λeb=>?_) (λeb=>?_)⟩⟩⟩
    ·have hl2:=s2 _ _ hl1;refine⟨_,rfl,lG (i:=2) hl2 rfl ⟨y,rfl,sh y (by simp),λb3 H3 hb3 s3=>q b3 H3 ?_ ((s1.trans s2).trans s3)⟩⟩;rw[hb3,wB];exact⟨λn=>⟨a,y,rfl,hb.mp eb,n⟩,λ⟨a',y',e,_,n⟩=>by injection e with _ e;injection e with e _;rw[e];exact n⟩
    ·refine q false H2 ⟨λz=>(by cases z),λz=>?_⟩ (s1.trans s2);obtain⟨a',y',e,n,_⟩:=wB.mp z;injection e with e _;rw[hb.mpr (by rw[e];exact n)] at eb;cases eb
   ·refine q false H1 ⟨λz=>(by cases z),λz=>?_⟩ s1;obtain⟨a',y',rfl,_⟩:=wB.mp z;exact absurd rfl c2
  ·exact set1 H1 s1 (by
    have n5:x≠"test":=λz=>c (by rw[z]);simp only[NG,aE,bH,or_false,not_or];exact⟨n1,n2,n3,n4,n5⟩)
 have jump1:∀H1,aL H H1->x≠"part"->x≠"say"->x≠"give"->oz K {nx:=λ_ H'=>Q .non H',rt:=Q} [some (.ref l)] H1:=by
  intro H1 s1 n1 n2 n3;have hl1:=s1 _ _ hl;refine⟨_,rfl,lG (i:=0) hl1 rfl (.inl ⟨rfl,_,rfl,bC (λc=>?_) (λc=>test1 H1 s1 n1 n2 n3 λz=>c (by rw[z]))⟩)⟩;have e:x="jump":=by injection c
  subst e;refine⟨_,rfl,_,_,rfl,jA hl1,.inl ⟨rfl,_,rfl,bC (λc2=>?_) (λc2=>?_)⟩⟩
  ·have c2:=tf c2;obtain⟨y,rfl⟩:∃y,t=[y]:=List.length_eq_one_iff.mp (by simp only[aI] at c2;lia);refine⟨_,rfl,lG (i:=1) hl1 rfl ⟨y,rfl,sh y (by simp),λb H2 hb s2=>q b H2 ?_ (s1.trans s2)⟩⟩;rw[hb,CV];exact⟨λn=>⟨y,rfl,n⟩,λ⟨y',e,n⟩=>by injection e with e _;rw[e];exact n⟩
  ·refine q false H1 ⟨λz=>(by cases z),λz=>?_⟩ s1;obtain⟨y',rfl,_⟩:=CV.mp z;exact absurd rfl c2
 have one1:∀H1,aL H H1->((∃r,dn (x::t) r)↔∃a,t=[a]/\Nm a)->cD (ki (a9 (eC K) (fj (eX K) (ai (ao 0) aJ)) Zc) (bF (jm K) [] E0 (ai (a9 (cJ K) (ao 0) Za) aJ))) {nx:=oz K {nx:=λ_ H'=>Q .non H',rt:=Q},rt:=Q} [some (.ref l)] H1:=by
  intro H1 s1 g;have hl1:=s1 _ _ hl;refine⟨_,rfl,_,_,rfl,jA hl1,.inl ⟨rfl,_,rfl,bC (λc2=>?_) (λc2=>?_)⟩⟩
  ·have c2:=tf c2;obtain⟨y,rfl⟩:∃y,t=[y]:=List.length_eq_one_iff.mp (by simp only[aI] at c2;lia);refine⟨_,rfl,lG (i:=1) hl1 rfl ⟨y,rfl,sh y (by simp),λb H2 hb s2=>q b H2 ?_ (s1.trans s2)⟩⟩;rw[hb,g];exact⟨λn=>⟨y,rfl,n⟩,λ⟨y',e,n⟩=>by injection e with e _;rw[e];exact n⟩
  ·refine q false H1 ⟨λz=>(by cases z),λz=>?_⟩ s1;obtain⟨y',rfl,_⟩:=g.mp z;exact absurd rfl c2
 have say1:x≠"part"->ua K {nx:=λ_ H'=>Q .non H',rt:=Q} [some (.ref l)] H:=by
  intro n1;refine⟨_,rfl,lG (i:=0) hl rfl ⟨Zz,λp hp=>⟨p,_,rfl,.inr (eO.of aj),rfl,rfl,_,rfl,?_⟩⟩⟩;have s0:aL H (upd H p (.tup [.str "say",.str "give"])):=(aL.refl H).new hp;have e:lY (.str x) [.str "say",.str "give"]=decide (x∈(["say","give"]:List Str)):=hU x ["say","give"];rw[show(if false=true then !lY (V.str x) [.str "say",.str "give"] else lY (.str x) [.str "say",.str "give"])=decide (x∈(["say","give"]:List Str)) from e];refine bC (λc=>?_) (λc=>?_)
  ·refine one1 _ s0 ?_;rcases aE.mp c with rfl|c
   ·exact ND
   ·rw[aw.mp c];exact Ln
  ·exact jump1 _ s0 n1 (λz=>c (by rw[z];simp)) (λz=>c (by rw[z];simp))
 refine⟨_,rfl,lG (i:=0) hl rfl (.inl ⟨rfl,_,rfl,bC (λc=>?_) (λc=>say1 λz=>c (by rw[z]))⟩)⟩;have e:x="part":=by injection c
 subst e;refine⟨_,rfl,_,_,rfl,jA hl,_,_,rfl,rfl,_,rfl,bC (λc2=>?_) (λc2=>?_)⟩
 ·refine cut 1 _ hl λD nD=>⟨D,t,rfl,aj,by simp only[aI] at few;lia,λy hy=>sh y (by simp[hy]),λb H2 hb s2=>q b H2 ?_ (((aL.refl H).new nD).trans s2)⟩;rw[hb,CW];exact⟨λn=>⟨by simp only[aI] at c2;lia,n⟩,λn=>n.2⟩
 ·refine q false H ⟨λz=>(by cases z),λz=>?_⟩ (aL.refl H);have:=(CW.mp z).1;simp only[aI] at c2;lia
def FO{c:Nat}:∀{a b u v:List Nat},a++c::u=b++c::v->c∉a->c∉b->a=b/\u=v
 |[],[],_,_,h,_,_=>by injection h with _ h;exact⟨rfl,h⟩
 |[],y::b,_,_,h,_,hb=>by injection h with h _;exact absurd (by rw[h];simp) hb
 |x::a,[],_,_,h,ha,_=>by injection h with h _;exact absurd (by rw[h];simp) ha
 |x::a,y::b,_,_,h,ha,hb=>by
  injection h with h1 h2;obtain⟨e1,e2⟩:=FO h2 (λz=>ha (by simp[z])) (λz=>hb (by simp[z]));exact⟨by rw[h1,e1],e2⟩
def C9(l:List Nat):∀m,(cK m).filterMap (l[·]?)=l.take m
 |0=>rfl
 |m+1=>by rw[lA,fY,C9 l m,bL];cases h:l[m]?<;>simp[h]
def Qn(c n:Nat):Builtin.Str.strSliceIndices none (some (c:Int)) 1 n=cK (min c n):=by
 have e:Builtin.Str.strSliceIndices none (some (c:Int)) 1 n=sliceRange ((0:Nat):Int) ((min c n:Nat):Int) 1:=by
  have h1:¬((c:Int)<0):=by lia
  have h2:max 0 (min (c:Int) (n:Int))=((min c n:Nat):Int):=by lia
  show sliceRange 0 (max 0 (min (if(c:Int)<0 then(c:Int)+n else c) (n:Int))) 1=_;rw[if_neg h1,h2];rfl
 rw[e,sliceRange_one];simp
def Jf(x:Str)(c:Nat):(Txt.slice x none (some (c:Int))).cps.toList=x.cps.toList.take c:=by
 unfold Txt.slice;rw[Qn];split
 ·rename_i h;rw[bJ];have:min c x.length=x.length:=by simpa using h
  rw[bg];show x.length<=c;lia
 ·have e:(cK (min c x.length)).filterMap (x.cps[·]?)=x.cps.toList.take (min c x.length):=by
   rw[<-C9];congr 1;funext i;rw[dD]
  rw[e];show x.cps.toList.take (min c x.length)=_;rw[show x.length=x.cps.toList.length from(bg ..).symm,<-List.take_eq_take_min]
def CY(x:Str):(∃w r,Txt.split x " "=("part":Str)::w::r)↔Txt.slice x none (some 5)="part ":=by
 have hs:("part ":Str).cps.toList=[112,97,114,116]++[32]:=by decide +kernel
 have hp:("part":Str).cps.toList=[112,97,114,116]:=by decide +kernel
 have hb:(" ":Str)=⟨#[32]⟩:=by decide +kernel
 have ext:∀{a b:Str},a.cps.toList=b.cps.toList->a=b:=λ{a b} h=>by
  have:a.cps=b.cps:=oF.mp h;cases a;cases b;simp only at this;rw[this]
 have st:=Jf x 5;have jn:Str.join " " (Txt.split x " ")=x:=PySem.StrLaws.join_split x " ";have fr:=PySem.StrLaws.split_free x 32;rw[hb] at jn ⊢;constructor
 ·rintro⟨w,r,e⟩;rw[e] at jn;apply ext;rw[show((5:Int))=((5:Nat):Int) from rfl,st,<-jn,fb,hp,hs];rfl
 ·intro h;rw[show((5:Int))=((5:Nat):Int) from rfl] at h;rw[h,hs] at st;have ne:=pj x ⟨#[32]⟩;have tk:x.cps.toList=[112,97,114,116]++32::x.cps.toList.drop 5:=by
   have:=eY 5 x.cps.toList;rw[<-st] at this;exact this.symm
  cases e:Txt.split x ⟨#[32]⟩ with
  |nil=>exact absurd e ne
  |cons p q=>
   rw[e] at jn fr;have np:=fr p (by simp);cases q with
   |nil=>
    have e2:x=p:=jn.symm.trans rfl;rw[<-e2,tk] at np;exact absurd (by simp) np
   |cons w r=>
    have j2:=fb 32 p w r;rw[jn,tk] at j2;obtain⟨e1,_⟩:=FO j2 (by decide) np;exact⟨w,r,by rw[ext (hp.trans e1)]⟩
def vi:List Str->Option Str
 |p::w::_=>if p="part" then some w else none
 |_=>none
def nj(xs:List Str):List Str:=xs.filterMap λx=>vi (Txt.split x " ")
def zU(w:Str)(r:List Str):vi (("part":Str)::w::r)=some w:=by unfold vi;exact if_pos rfl
def iC{p w:Str}(r:List Str)(h:p≠"part"):vi (p::w::r)=none:=by unfold vi;exact if_neg h
def yS{x:Str}(n:Nm x):x≠"part":=λe=>n.no (by rw[e];decide +kernel)
def Lq{ws:List Str}{r:cL}(h:dn ws r):vi ws=pX r:=by
 cases r with
 |part x ps=>obtain⟨rfl,_⟩:=h;exact zU x ps
 |num x z=>obtain⟨y,rfl,n,_⟩:=h;exact iC _ (yS n)
 |op x s a b=>obtain⟨rfl,n,_⟩:=h;exact iC _ (yS n)
 |call x f as=>obtain⟨rfl,n,_⟩:=h;exact iC _ (yS n)
 |say a=>obtain⟨rfl,_⟩:=h;exact iC _ (by decide +kernel)
 |jump to=>obtain⟨y,rfl,_⟩:=h;exact iC _ (by decide +kernel)
 |test a to=>obtain⟨y,rfl,_⟩:=h;exact iC _ (by decide +kernel)
 |give a=>obtain⟨rfl,_⟩:=h;exact iC _ (by decide +kernel)
def xO:∀{xs:List Str} {ls:List cL},readL xs=ls.map some->nj xs=eQ ls
 |[],[],_=>rfl
 |[],_::_,h=>by cases h
 |_::_,[],h=>by cases h
 |x::xs,r::ls,h=>by
  have h1:lineOf? (Txt.split x " ")=some r:=by injection h
  have h2:readL xs=ls.map some:=by injection h
  have e:=Lq (C5 h1);show List.filterMap _ (x::xs)=List.filterMap pX (r::ls);rw[dc,dc,e];have ih:=xO h2;unfold nj eQ at ih;rw[ih]
def Iq{x:Str}(h:Txt.slice x none (some 5)="part "):∃w r,Txt.split x " "=("part":Str)::w::r/\vi (Txt.split x " ")=some w:=by
 obtain⟨w,r,e⟩:=(CY x).mpr h;exact⟨w,r,e,by rw[e];exact zU w r⟩
def Ip{x:Str}(h:Txt.slice x none (some 5)≠"part "):vi (Txt.split x " ")=none:=by
 cases e:Txt.split x " " with
 |nil=>rfl
 |cons p q=>
  cases q with
  |nil=>rfl
  |cons w r=>
   refine iC _ λz=>h ((CY x).mp ⟨w,r,?_⟩);rw[e,z]
def xi{α:Type}{xs:List α}{i:Nat}{y:α}(h:xs[i]?=some y):xs.take (i+1)=xs.take i++[y]:=by rw[bL,h];rfl
def IM{K:Fg}{l:ar}{xs:List Str}{H:Hp}{Q:VK}(hl:H l=some (.lst (xs.map V.str)))(few:xs.length<=9000)(sh:∀x∈xs,x.length<=90000)
  (q:∀(D:ar) (H':Hp),H' D=some (.lst ((nj xs).map V.str))->aL H H'->Q (.ref D) H') :
  fE [] 1 (iT K (ao 0)) (aU 4) (bE (a9 (eC K) (uT (Rz K) (ao 4) dP (fX Zk)) (tC (.str "part ")))) (a9 (cJ K) (sE K "str" qb (ao 4) (ai Ze aJ)) Za) [some (.ref l),none,none,none] H Q:=by
 refine .inl ⟨_,rfl,l,rfl,⟨_,cB.of hl⟩,λD nD=>?_⟩;refine hW (xs:=xs.map V.str) (λi σ' H'=>∃(o:Option V),σ'=[some (.ref l),none,none,none,o]/\H' D=some (.lst ((nj (xs.take i)).map V.str))/\aL H H') ?_ ?_ ?_ ?_
 ·exact⟨none,rfl,aj,(aL.refl H).new nD⟩
 ·rintro i σ' H' _ ⟨o,rfl,_,s⟩;exact cB.of (s _ _ hl)
 ·rintro i x σ' H' hx ⟨o,rfl,hD,s⟩;obtain⟨y,hy,rfl⟩:=ql hx;have ly:=sh y (aF hy);show wX D _ _ _ [some (.ref l),none,none,none,some (.str y)] H';refine⟨_,rfl,5,rfl,.inr ⟨y,rfl,cT (cq (by lia)),.inl ⟨rfl,_,rfl,bC (λc=>?_) (λc=>?_)⟩⟩⟩
  ·have c:Txt.slice y none (some 5)="part ":=by injection c
   obtain⟨w,r,e,hN⟩:=Iq c;refine⟨_,rfl,rfl,y," ",rfl,rfl,by decide +kernel,(by have:=cq (n:=y.length+3) (by lia);lia),λL nL=>?_⟩;refine lG (i:=1) (ws:=Txt.split y " ") (w:=w) aj (by rw[e];rfl) ⟨(nj (xs.take i)).map V.str,(aL.refl H').new nL _ _ hD,cq ?_,_,rfl,?_,?_⟩
   ·rw[ae];have:=List.length_filterMap_le (λx=>vi (Txt.split x " ")) (xs.take i);rw[a8] at this;unfold nj;lia
   ·rw[aj,xi hy];unfold nj;rw[fY,dc,hN,aN];rfl
   ·exact f9 (s.new nL) nD
  ·have c:Txt.slice y none (some 5)≠"part ":=λz=>c (by rw[z]);refine⟨_,rfl,?_,s⟩;rw[xi hy];unfold nj at hD ⊢;rw[fY,dc,Ip c];simpa using hD
 ·rintro σ' H' ⟨o,_,hD,s⟩;rw[ae,kj] at hD;exact q D H' hD s
def Gw{xs:List Str}{m:Nat}{x:Str}(h:xs[m]?=some x):(readL xs)[m]?=some (lineOf? (Txt.split x " ")):=by
 unfold readL;rw[aQ,h];rfl
def FT{w:Str}{t:List Str}{r:cL}(h:dn (w::t) r):kx r=decide (w="part"):=by
 by_cases c:w="part"
 ·subst c;have k:=oU h (by decide +kernel);cases r with
  |part x ps=>rw[decide_eq_true rfl];rfl
  |_=>exact absurd k (by simp only[iK];decide +kernel)
 ·rw[decide_eq_false c];cases r with
  |part x ps=>obtain⟨e,_⟩:=h;injection e with e _;exact absurd e c
  |_=>rfl
def Im{K:Fg}{l D:ar}{xs:List Str}{H:Hp}{Q:VK}(hl:H l=some (.lst (xs.map V.str)))(few:xs.length<=9000)(sh:∀x∈xs,x.length<=90000)
  (q:∀(n:Nat) (H':Hp),jP (jw (readL xs)) n->aL H H'->Q (.int (n:Nat)) H')
  (k:∀(o2 o3:Option V) (H':Hp),(∀n,¬jw (readL xs) n)->aL H H'->qo K {nx:=λ_ H'=>Q .non H',rt:=Q} [some (.ref l),some (.ref D),o2,o3] H') :
  qp K {nx:=λ_ H'=>Q .non H',rt:=Q} [some (.ref l),some (.ref D),none,none] H:=by
 refine⟨_,rfl,_,_,rfl,jA hl,_,rfl,by lia,by lia,jy (λi σ' H'=>∃o2 o3,σ'=[some (.ref l),some (.ref D),o2,o3]/\(∀n,n<i->¬jw (readL xs) n)/\aL H H') ⟨_,_,rfl,λn z=>absurd z (bW _),aL.refl H⟩ ?_ ?_⟩
 ·rintro m σ' H1 hm ⟨o2,o3,rfl,no,s1⟩;have hm:m<xs.length:=by simpa using hm
  have e0:(0:Int)+(m:Int)=((m:Nat):Int):=by lia
  have hx:xs[m]?=some xs[m]:=af hm;generalize xs[m]=x at hx;have lx:=sh x (aF hx);have hl1:=s1 _ _ hl;show vC K _ [some (.ref l),some (.ref D),some (.int (0+(m:Int))),o3] H1;rw[e0];refine⟨_,rfl,_,rfl,lG (i:=m) hl1 hx ⟨rfl,x," ",rfl,rfl,by decide +kernel,(by have:=cq (n:=x.length+3) (by lia);lia),λL nL=>?_⟩⟩;have s2:=s1.new (o:=.lst ((Txt.split x " ").map V.str)) nL;have hL:upd H1 L (.lst ((Txt.split x " ").map V.str)) L=some (.lst ((Txt.split x " ").map V.str)):=aj;generalize upd H1 L (.lst ((Txt.split x " ").map V.str))=H2 at s2 hL ⊢;show vB K _ [some (.ref l),some (.ref D),some (.int (m:Nat)),some (.ref L)] H2;have fw:(Txt.split x " ").length<=99000:=by have:=xf x " ";lia
  have sw:∀y∈Txt.split x " ",y.length<=99000:=λy hy=>by have:=sx hy;lia
  have hP:=Gw hx;obtain⟨w,t,ew⟩:∃w t,Txt.split x " "=w::t:=by
   cases e:Txt.split x " " with
   |nil=>exact absurd e (pj x " ")
   |cons w t=>exact⟨w,t,rfl⟩
  refine⟨_,rfl,L,_,rfl,hL,by rw[ew];simp,fw,sw,λb H3 hb s3=>⟨_,rfl,?_⟩⟩;have hL4:=s3 _ _ hL;have s3:=s2.trans s3;cases b with
  |false=>
   refine ky (ky ?_);refine⟨_,rfl,q m H3 ⟨.inl ?_,no⟩ s3⟩;rw[hP,kX λr z=>by cases hb.mpr ⟨r,z⟩]
  |true=>
   obtain⟨r,lr⟩:=hb.mp rfl;rw[kY lr] at hP;have ip:=FT (by rw[ew] at lr;exact lr);refine f6 ⟨_,rfl,.inl ⟨rfl,_,rfl,bC (λc=>?_) (λc=>?_)⟩⟩
   ·have c:m=0:=by have:=tf c;lia
    subst c;refine⟨_,rfl,lG (i:=0) (ws:=Txt.split x " ") (w:=w) hL4 (by rw[ew];rfl) (.inl ⟨rfl,_,rfl,jS (λc2=>?_) (λc2=>?_)⟩)⟩
    ·refine⟨_,rfl,q 0 H3 ⟨.inr ⟨rfl,r,hP,?_⟩,no⟩ s3⟩;rw[ip,decide_eq_false λz=>c2 (by rw[z])]
    ·have e:w="part":=by injection c2
     rw[decide_eq_true e] at ip;refine⟨_,_,rfl,λn hn z=>?_,s3⟩;obtain rfl:n=0:=by lia
     rcases z with z|⟨_,r',z,i'⟩
     ·rw[hP] at z;cases z
     ·rw[hP] at z;cases z;rw[ip] at i';cases i'
   ·refine⟨_,_,rfl,λn hn z=>?_,s3⟩;by_cases e:n<m
    ·exact no n e z
    obtain rfl:n=m:=by lia
    rcases z with z|⟨z,_⟩
    ·rw[hP] at z;cases z
    ·subst z;exact c rfl
 ·rintro σ' H1 ⟨o2,o3,rfl,no,s1⟩;refine k o2 o3 H1 (λn z=>no n ?_ z) s1;rcases z with z|⟨rfl,r,z,_⟩
  ·have:=(ak.mp z).1;simpa[readL] using this
  ·have:=(ak.mp z).1;simpa[readL] using this
def U8(ws:List Str):nZ (ws.map V.str) (some 2) (some 3)=((ws.drop 2).take 1).map V.str:=by
 unfold nZ;rw[show(2:Int)=((2:Nat):Int) from rfl,show(3:Int)=((3:Nat):Int) from rfl,HT.sIx_nat,HT.sIx_nat,ae]
 match ws with
 |[]=>rfl
 |[a]=>rfl
 |[a,b]=>rfl
 |a::b::c::r=>
  have e2:min 2 (a::b::c::r).length=2:=by simp only[aI];lia
  have e3:min 3 (a::b::c::r).length=3:=by simp only[aI];lia
  rw[e2,e3];rfl
def Qc(ws:List Str):mV (((ws.drop 2).take 1).map V.str) [.str "call"]=decide (ws[2]?=some ("call":Str)):=by
 match ws with
 |[]=>rfl
 |[a]=>rfl
 |[a,b]=>rfl
 |a::b::c::r=>
  show mV [.str c] [.str "call"]=decide (some c=some ("call":Str));have e:mV [.str c] [.str "call"]=Ho (.str c) (.str "call"):=by simp[mV]
  rw[e];by_cases h:c="call"
  ·subst h;rw[decide_eq_true rfl];decide +kernel
  ·rw[decide_eq_false (λz=>h (by injection z))];simp[Ho,h]
def Ju{ws:List Str}{r:cL}(h:dn ws r)(c:ws[2]?=some ("call":Str))(n:ws[0]?≠some ("part":Str)):∃x f as,r=.call x f as/\ws[0]?=some x/\ws[3]?=some f:=by
 cases r with
 |part x ps=>obtain⟨rfl,_⟩:=h;exact absurd rfl n
 |num x z=>
  obtain⟨y,rfl,_,nb,_⟩:=h;have:y="call":=by simpa using c
  exact absurd nb (by rw[this];exact Es)
 |op x s a b=>
  obtain⟨rfl,_,_,na,_⟩:=h;have:a="call":=by simpa using c
  exact absurd na (by rw[this];exact m9)
 |call x f as=>obtain⟨rfl,_⟩:=h;exact⟨x,f,as,rfl,rfl,rfl⟩
 |say a=>obtain⟨rfl,_⟩:=h;simp at c
 |jump to=>obtain⟨y,rfl,_⟩:=h;simp at c
 |test a to=>
  obtain⟨y,rfl,_,nb,_⟩:=h;have:y="call":=by simpa using c
  exact absurd nb (by rw[this];exact Es)
 |give a=>obtain⟨rfl,_⟩:=h;simp at c
def HZ{K:Fg}{l D:ar}{xs:List Str}{ls:List cL}{H:Hp}{Q:VK}{o2 o3:Option V}(hl:H l=some (.lst (xs.map V.str)))(hD:H D=some (.lst ((eQ ls).map V.str)))(few:xs.length<=9000)(sh:∀x∈xs,x.length<=90000)(hP:readL xs=ls.map some)
  (q:∀(n:Nat) (H':Hp),jP (kU ls) n->aL H H'->Q (.int (n:Nat)) H') (k:∀(H':Hp),(∀n,¬kU ls n)->aL H H'->Q (.int (-1)) H') :
  qo K {nx:=λ_ H'=>Q .non H',rt:=Q} [some (.ref l),some (.ref D),o2,o3] H:=by
 refine⟨_,rfl,_,_,rfl,jA hl,_,rfl,by lia,by lia,jy (λi σ' H'=>∃o2 o3,σ'=[some (.ref l),some (.ref D),o2,o3]/\(∀n,n<i->¬kU ls n)/\aL H H') ⟨_,_,rfl,λn z=>absurd z (bW _),aL.refl H⟩ ?_ ?_⟩
 ·rintro m σ' H1 hm ⟨o2,o3,rfl,no,s1⟩;have hm:m<xs.length:=by simpa using hm
  have e0:(0:Int)+(m:Int)=((m:Nat):Int):=by lia
  have hx:xs[m]?=some xs[m]:=af hm;generalize xs[m]=x at hx;have lx:=sh x (aF hx);have hl1:=s1 _ _ hl;show vA K _ [some (.ref l),some (.ref D),some (.int (0+(m:Int))),o3] H1;rw[e0];refine⟨_,rfl,_,rfl,lG (i:=m) hl1 hx ⟨rfl,x," ",rfl,rfl,by decide +kernel,(by have:=cq (n:=x.length+3) (by lia);lia),λL nL=>?_⟩⟩;have s2:=s1.new (o:=.lst ((Txt.split x " ").map V.str)) nL;have hL:upd H1 L (.lst ((Txt.split x " ").map V.str)) L=some (.lst ((Txt.split x " ").map V.str)):=aj;generalize upd H1 L (.lst ((Txt.split x " ").map V.str))=H2 at s2 hL ⊢;show vz K _ [some (.ref l),some (.ref D),some (.int (m:Nat)),some (.ref L)] H2;obtain⟨r,hr,lr⟩:∃r,ls[m]?=some r/\dn (Txt.split x " ") r:=by
   have h:=Gw hx;rw[hP,aQ] at h;cases e:ls[m]? with
   |none=>rw[e] at h;cases h
   |some r=>
    rw[e] at h;have h:some r=lineOf? (Txt.split x " "):=by injection h
    exact⟨r,rfl,C5 h.symm⟩
  generalize Txt.split x " "=ws at hL lr;have go:∀(H3:Hp) (L':ar),aL H H3->¬kU ls m->∃o2 o3,[some (V.ref l),some (.ref D),some (.int (m:Nat)),some (.ref L')]=[some (.ref l),some (.ref D),o2,o3]/\(∀n,n<m+1->¬kU ls n)/\aL H H3:=λH3 L' s3 nc=>
   ⟨_,_,rfl,λn hn z=>by
    by_cases e:n<m
    ·exact no n e z
    ·obtain rfl:n=m:=by lia
     exact nc z,s3⟩
  refine⟨_,rfl,2,rfl,3,rfl,.inl (.inr (.inl ⟨L,_,rfl,cB.of hL,λD2 nD2=>?_⟩))⟩;rw[U8];have s3:=s2.new (o:=.lst (((ws.drop 2).take 1).map V.str)) nD2;have hD2:upd H2 D2 (.lst (((ws.drop 2).take 1).map V.str)) D2=some (.lst (((ws.drop 2).take 1).map V.str)):=aj;have hL3:=(aL.refl H2).new (o:=.lst (((ws.drop 2).take 1).map V.str)) nD2 _ _ hL;generalize upd H2 D2 (.lst (((ws.drop 2).take 1).map V.str))=H3 at s3 hD2 hL3 ⊢;have fl:(((ws.drop 2).take 1).map V.str).all kh=true:=by
   rw[eE];intro v hv;obtain⟨y,_,rfl⟩:=bA.mp hv;rfl
  refine⟨Zy,λp hp=>.inr (.inr (.inr ⟨D2,p,_,_,rfl,rfl,cB.of ((aL.refl H3).new hp _ _ hD2),cB.of aj,fl,rfl,_,rfl,?_⟩))⟩;have s4:=s3.new (o:=.lst [.str "call"]) hp;have hL4:=(aL.refl H3).new (o:=.lst [.str "call"]) hp _ _ hL3;generalize upd H3 p (.lst [.str "call"])=H4 at s4 hL4 ⊢;have hD4:=s4 _ _ hD;rw[show(if false=true then !mV (((ws.drop 2).take 1).map V.str) [.str "call"] else mV (((ws.drop 2).take 1).map V.str) [.str "call"])=decide (ws[2]?=some ("call":Str)) from Qc ws];refine bC (λc=>?_) (λc=>?_);rotate_left
  ·refine f6 (go H4 L s4 ?_);rintro⟨a,f,as,e,_⟩;rw[hr] at e;cases e;obtain⟨e,_⟩:=lr;exact c (by rw[e];rfl)
  obtain⟨w,hw⟩:∃w,ws[0]?=some w:=by
   cases ws with
   |nil=>simp at c
   |cons w t=>exact⟨w,rfl⟩
  refine⟨_,rfl,lG (i:=0) hL4 hw (.inl ⟨rfl,_,rfl,jS (λc2=>?_) (λc2=>?_)⟩)⟩;rotate_left
  ·refine f6 (go H4 L s4 ?_);rintro⟨a,f,as,e,_⟩;rw[hr] at e;cases e;obtain⟨e,n,_⟩:=lr;rw[e] at hw;have:a=w:=by simpa using hw
   have e2:w="part":=by injection c2
   exact yS n (by rw[this,e2])
  obtain⟨a,f,as,rfl,_,h3⟩:=Ju lr c (by rw[hw];intro z;exact c2 (by injection z with z;rw[z]));refine⟨_,rfl,lG (i:=3) hL4 h3 ⟨_,rfl,D,_,rfl,.inl (cB.of hD4),rfl,?_,_,rfl,?_⟩⟩
  ·rw[eE];intro v hv;obtain⟨y,_,rfl⟩:=bA.mp hv;rfl
  rw[show(if true=true then !lY (V.str f) ((eQ ls).map V.str) else lY (V.str f) ((eQ ls).map V.str))=!decide (f∈eQ ls) from by rw[<-hU];rfl];refine jS (λc3=>?_) (λc3=>?_)
  ·exact⟨_,rfl,q m H4 ⟨⟨a,f,as,hr,c3⟩,no⟩ s4⟩
  ·refine go H4 L s4 ?_;rintro⟨a',f',as',e,nf⟩;rw[hr] at e;cases e;exact nf c3
 ·rintro σ' H1 ⟨o2,o3,rfl,no,s1⟩;refine⟨_,rfl,k H1 (λn z=>no n ?_ z) s1⟩;obtain⟨a,f,as,e,_⟩:=z;have h1:=(ak.mp e).1;have h2:(readL xs).length=ls.length:=by rw[hP,ae]
  have h3:(readL xs).length=xs.length:=by unfold readL;rw[ae]
  simp only[dJ,Int.sub_zero];lia
def Fp:∀{P:List (Option cL)},(∀n:Nat,P[n]?≠some none)->∃ls:List cL,P=ls.map some
 |[],_=>⟨[],rfl⟩
 |none::_,h=>absurd rfl (h 0)
 |some r::P,h=>by
  obtain⟨ls,e⟩:=Fp (P:=P) λn=>h (n+1);exact⟨r::ls,by rw[e];rfl⟩
def IZ{K:Fg}{vs:List V}{H:Hp}{Q:VK}{E:XK}(h:su K vs H Q E):uQ K {nx:=λ_ H'=>Q .non H',rt:=Q} (cI uz vs) H:=by
 obtain⟨l,xs,rfl,hl,few,sh,q⟩:=h;unfold uQ bx cb;refine IM (H:=H) hl few sh λD H1 hD s1=>?_;show qp K _ [some (.ref l),some (.ref D),none,none] H1;refine Im (s1 _ _ hl) few sh (λn H2 hn s2=>q _ H2 (.inr ⟨n,rfl,.inl hn⟩) (s1.trans s2)) λo2 o3 H2 no s2=>?_;obtain⟨ls,e⟩:=Fp λn z=>no n (.inl z);have hD3:=s2 _ _ hD;have s2:=s1.trans s2;have hD2:H2 D=some (.lst ((eQ ls).map V.str)):=by rw[<-xO e];exact hD3
 exact HZ (s2 _ _ hl) hD2 few sh e (λn H3 hn s3=>q _ H3 (.inr ⟨n,rfl,.inr ⟨no,ls,e,hn⟩⟩) (s2.trans s3)) λH3 nc s3=>q _ H3 (.inl ⟨rfl,ls,e,no,nc⟩) (s2.trans s3)
def iZ.append{a b:Str}(h:iZ a)(h':iZ b):iZ (a++b):=by
 unfold iZ at *;show 10∉(a.cps++b.cps).toList;rw[eT,aT];exact λz=>z.elim h h'
def iZ.split{x w:Str}(h:iZ x)(c:Nat)(hw:w∈Txt.split x ⟨#[c]⟩):iZ w:=by
 intro z;have hp:∀{xs:List Str} {w:Str},w∈xs->10∈w.cps.toList->10∈(Str.join ⟨#[c]⟩ xs).cps.toList:=by
  intro xs
  induction xs with
  |nil=>intro w h;cases h
  |cons x r ih=>
   intro w h hz;cases r with
   |nil=>
    have e:w=x:=by simpa using h
    subst e;exact hz
   |cons y r=>
    rw[fb];rcases aE.mp h with rfl|h
    ·exact bR _ hz
    ·exact bD _ (bq _ (ih h hz))
 have:=hp hw z;rw[PySem.StrLaws.join_split] at this;exact h this
def WL(b:Nat)(ys:List Str):Prop:=∀y∈ys,iZ y/\y.length<=b
def WL.app{b:Nat}{xs ys:List Str}(h:WL b xs)(h':WL b ys):WL b (xs++ys):=λy hy=>(aT.mp hy).elim (h y) (h' y)
def xk{b c:Nat}{ys:List Str}(h:ys.all (λy=>!decide (10∈y.cps.toList)&&decide (y.length<=c))=true)(l:c<=b):WL b ys:=λy hy=>by
 have:=eE.mp h y hy;simp only[Bool.and_eq_true,Bool.not_eq_true',decide_eq_false_iff_not,decide_eq_true_eq] at this;exact⟨this.1,b9 this.2 l⟩
def Fv{K:Fg}{H:Hp}{a b:ar}{xs ys:List Str}{Q:VK}(ha:H a=some (.lst (xs.map V.str)))(hb:H b=some (.lst (ys.map V.str)))(hl:xs.length+ys.length<=100000)(q:∀(p:ar) (H':Hp),H p=none->H' p=some (.lst ((xs++ys).map V.str))->aL H H'->Q (.ref p) H'):cS K (.ref a) (.ref b) H Q:=
 .inr (.inr (.inl ⟨a,b,_,_,rfl,rfl,ha,hb,cT (cq (by rw[ae,ae];exact hl)),λp np=>q p _ np (by rw[aj,aN]) ((aL.refl H).new np)⟩))
def SR{K:Fg}{H:Hp}{a b:Str}{Q:VK}(h:a.length+b.length<=100000)(q:Q (.str (a++b)) H):cS K (.str a) (.str b) H Q:=.inr (.inl ⟨a,b,rfl,rfl,cT (cq h),q⟩)
abbrev AQ:List Str:=["","aaaaaaaaa",Txt.mul "1" 21,"18446744073709551616","99999999999999999999"]
def AK{K:Fg}{w:Str}{cs:List Str}{f:Str->Str}{t:TA}{te:TE}{st:ar}{o:Option V}{H:Hp}{Q:VK}(ht:∀R,R (cs.map V.str) H->t [some (.ref st),some (.str w),o] H R)(few:cs.length<=100)
  (hte:∀c∈cs,∀(H':Hp) (R:VK),R (.str (f c)) H'->te [some (.ref st),some (.str w),o,some (.str c)] H' R)
  (q:∀(D:ar) (H':Hp),H' D=some (.lst ((cs.map f).map V.str))->aL H H'->Q (.ref D) H') :
  fE [] 1 (iT K (gF t)) (aU 3) kH te [some (.ref st),some (.str w),o] H Q:=by
 refine .inl (ht _ ⟨cT (cq (by rw[ae];lia)),λp np=>⟨p,rfl,⟨_,cB.of aj⟩,λD nD=>?_⟩⟩);have s1:aL H (upd H p (.lst (cs.map V.str))):=(aL.refl H).new np;have hp:upd H p (.lst (cs.map V.str)) p=some (.lst (cs.map V.str)):=aj;generalize upd H p (.lst (cs.map V.str))=H1 at s1 hp nD ⊢;refine hW (xs:=cs.map V.str) (λi σ' H'=>∃(o':Option V),σ'=[some (.ref st),some (.str w),o,o']/\H' D=some (.lst (((cs.take i).map f).map V.str))/\aL H1 H') ?_ ?_ ?_ ?_
 ·exact⟨none,rfl,aj,(aL.refl H1).new nD⟩
 ·rintro i σ' H' _ ⟨_,_,_,s⟩;exact cB.of (s _ _ hp)
 ·rintro i x σ' H' hx ⟨o',rfl,hD,s⟩;obtain⟨y,hy,rfl⟩:=ql hx;refine hte y (aF hy) H' _ ⟨_,hD,cq ?_,_,rfl,?_,f9 s nD⟩
  ·rw[ae,ae,a8];lia
  ·rw[aj,xi hy];simp
 ·rintro σ' H' ⟨_,_,hD,s⟩;rw[ae,kj] at hD;exact q D H' hD (s1.trans s)
def BY{K:Fg}{vs:List V}{H:Hp}{Q:VK}{E:XK}(h:iG K vs H Q E):oB K {nx:=λ_ H'=>Q .non H',rt:=Q} (cI kN vs) H:=by
 obtain⟨st,w,k,rfl,S,hk,lw,nw,q⟩:=h;have wl:∀{f:Str->Str} {cs:List Str},(∀c∈cs,iZ (f c)/\(f c).length<=w.length+21)->WL (w.length+21) (cs.map f):=λhf y hy=>by
  obtain⟨c,hc,rfl⟩:=bA.mp hy;exact hf c hc
 have sl:∀{cs:List Str},WL 2 cs->∀c∈cs,(iZ (w++c)/\(w++c).length<=w.length+21)/\iZ (c++w)/\(c++w).length<=w.length+21:=λhc c m=>by
  have:=hc c m;have e1:=iV w c;have e2:=iV c w;exact⟨⟨nw.append this.1,by lia⟩,this.1.append nw,by lia⟩
 have c1:WL 2 ["A","1","_","_0"]:=xk (c:=2) (by decide +kernel) (aD _);have c2:WL 2 ["0","-","+","1_"]:=xk (c:=2) (by decide +kernel) (aD _);unfold oB bx cb a9;show fE [] 1 (iT K (gF _)) (aU 3) kH _ [some (.ref st),some (.str w),none] H _;refine AK (cs:=["A","1","_","_0"]) (f:=λc=>w++c) (λR r=>r) (by decide) (λc hc H' R r=>⟨_,rfl,_,rfl,SR (by have:=(c1 c hc).2;lia) r⟩) λD1 H1 h1 s1=>?_;show fE [] 1 (iT K (gF _)) (aU 3) kH _ [some (.ref st),some (.str w),none] H1 _;refine AK (cs:=["0","-","+","1_"]) (f:=λc=>c++w) (λR r=>r) (by decide) (λc hc H' R r=>⟨_,rfl,_,rfl,SR (by have:=(c2 c hc).2;lia) r⟩) λD2 H2 h2 s2=>?_;have w1:=wl λc hc=>(sl c1 c hc).1;have w2:=wl λc hc=>(sl c2 c hc).2;refine Fv (s2 _ _ h1) h2 (by show 4+4<=100000;decide) λD3 H3 _ h3 s3=>?_;have w3:=w1.app w2;have l3:(rE (λc=>w++c) ["A","1","_","_0"]++rE (λc=>c++w) ["0","-","+","1_"]).length=8:=rfl;generalize rE (λc=>w++c) ["A","1","_","_0"]++rE (λc=>c++w) ["0","-","+","1_"]=y3 at h3 w3 l3;show rj K _ [some (.ref st),some (.str w),some (.ref D3)] H3;refine⟨_,rfl,_,_,rfl,rfl,⟨by decide,(λ_ _=>by decide +kernel),(λ_ _=>by decide +kernel)⟩,ZD,λp np=>?_⟩;have s4:aL H3 (upd H3 p (.lst (AQ.map V.str))):=(aL.refl H3).new np;refine Fv (xs:=y3) (ys:=AQ) (s4 _ _ h3) aj (by rw[l3];decide) λD5 H5 _ h5 s5=>?_;have w5:=w3.app (ys:=AQ) (xk (c:=21) (by decide +kernel) (by lia));have l5:(y3++AQ).length=13:=by rw[aG,l3];rfl
 generalize y3++AQ=y5 at h5 w5 l5;show rh K _ [some (.ref st),some (.str w),some (.ref D5)] H5;refine⟨_,rfl,rfl,_,_,rfl,rfl,by decide +kernel,(by decide +kernel),λp6 n6=>?_⟩;refine Fv (xs:=y5) ((aL.refl H5).new n6 _ _ h5) aj (by rw[l5];decide +kernel) λD7 H7 f7 h7 s7=>?_;have w7:=w5.app (ys:=Txt.split "part call say + = +- *< ab zz 0" " ") (xk (c:=21) (by decide +kernel) (by lia));have l7:(y5++Txt.split "part call say + = +- *< ab zz 0" " ").length=23:=by rw[aG,l5];decide +kernel
 generalize y5++Txt.split "part call say + = +- *< ab zz 0" " "=y7 at h7 w7 l7;have sA:aL H H7:=((((s1.trans s2).trans s3).trans s4).trans s5).trans (((aL.refl H5).new n6).trans s7);refine⟨_,rfl,st,23,k,rfl,S.same sA,by lia,by decide,by decide,λd H8 d0 d1 S8 B8=>?_⟩;obtain⟨ys',hst'⟩:=(S.same (((((s1.trans s2).trans s3).trans s4).trans s5).trans ((aL.refl H5).new n6))).lst;have n7:D7≠st:=λz=>by rw[z,hst'] at f7;cases f7
 have dl:d.toNat<y7.length:=by lia
 refine pS (cB.of (B8 _ _ n7 h7)) d0 (sy (af dl)) (q _ (k+1) H8 (w7 _ (ck dl)).1 (w7 _ (ck dl)).2 S8 (aD _) (λb o n e=>B8 b o n (sA b o e)))
def lM(ws:List Str):Nat:=(ws.map (·.length)).sum
def sD(a b:List Str):lM (a++b)=lM a+lM b:=by unfold lM;rw[aN,qx]
def zZ(c:Nat):∀(x:Str) (r:List Str),(Str.join ⟨#[c]⟩ (x::r)).length+1=lM (x::r)+(x::r).length
 |x,[]=>by show x.length+1=(x.length+0)+1;rfl
 |x,y::r=>by
  have ih:=zZ c y r;have e:(Str.join ⟨#[c]⟩ (x::y::r)).length=x.length+((Str.join ⟨#[c]⟩ (y::r)).length+1):=by
   have h:=congrArg gP (fb c x y r);rw[aG,aI,bg,bg,bg] at h;exact h
  rw[e,ih];show x.length+(lM (y::r)+(y::r).length)+1=(x.length+lM (y::r))+((y::r).length+1);lia
def MA(x:Str):lM (Txt.split x " ")+(Txt.split x " ").length=x.length+1:=by
 have h:=PySem.StrLaws.join_split x " ";rw[GF] at h ⊢;cases e:Txt.split x ⟨#[32]⟩ with
 |nil=>exact absurd e (pj _ _)
 |cons a r=>
  rw[e] at h;rw[<-zZ 32 a r,h]
def z7(ws:List Str):(Txt.join " " ws).length<=lM ws+ws.length:=by
 show(Builtin.Str.glued " " ws).length<=_;rw[StrLaws.glued_eq_join,GF];cases ws with
 |nil=>exact cA _
 |cons a r=>have:=zZ 32 a r;lia
def wF{ws:List Str}(h:∀w∈ws,iZ w):iZ (Txt.join " " ws):=by rw[GF];exact xI (by decide) h
def K8{ws:List Str}(h:ws≠[]):nZ (ws.map V.str) none (some (-1))=(ws.take (ws.length-1)).map V.str:=by
 have hl:0<ws.length:=cP.mpr h;unfold nZ;have e:HT.sIx (ws.map V.str).length (ws.map V.str).length (some (-1))=ws.length-1:=by
  rw[ae];show(if(-1:Int)<0 then((-1:Int)+(ws.length:Int)).toNat else min (-1:Int).toNat ws.length)=ws.length-1;rw[if_pos (by decide)];lia
 rw[e,HT.sIx_none,my,Nat.sub_zero,fP]
def Ri{ws:List Str}{i:Nat}{w r:Str}(h:ws[i]?=some w)(b:Nat)(hr:r.length<=w.length+b):lM (ws.take i++[r]++ws.drop (i+1))<=lM ws+b/\(ws.take i++[r]++ws.drop (i+1)).length=ws.length:=by
 obtain⟨hi,e⟩:=ak.mp h;constructor
 ·have e2:lM ws=lM (ws.take i)+(w.length+lM (ws.drop (i+1))):=by
   conv=>lhs;rw[<-eY i ws,iP hi,sD,e]
   rfl
  rw[sD,sD,e2];have:lM [r]=r.length:=rfl;lia
 ·rw[aG,aG,a8,dW];show min i ws.length+1+_=_;lia
def WL.snoc{b:Nat}{xs:List Str}{y:Str}(h:WL b xs)(n:iZ y)(l:y.length<=b):WL b (xs++[y]):=h.app λz hz=>by rw[aw.mp hz];exact⟨n,l⟩
def Hj{K:Fg}{st L D:ar}{x:Str}{ws ys:List Str}{i k:Nat}{w:Str}{H:Hp}{E:rn}{t:TS}(S:lF K H st k)(hk:k<=800002)(hL:H L=some (.lst (ws.map V.str)))(hD:H D=some (.lst (ys.map V.str)))(nL:L≠st)(nD:D≠st)(nLD:L≠D)(hw:ws[i]?=some w)
  (few:ys.length<=10) (nl:∀w∈ws,iZ w) (sh:lM ws+ws.length<=9001)
  (q:∀(r:Str) (k':Nat) (H':Hp),iZ r->r.length<=lM ws+ws.length+21->lF K H' st k'->k'<=k+1->H' L=some (.lst (ws.map V.str))->H' D=some (.lst ((ys++[r]).map V.str))->(∀b o,b≠st->b≠D->H b=some o->H' b=some o)->t E [some (.ref st),some (.str x),some (.ref L),some (.int (i:Nat)),some (.ref D)] H') :
  bx (iQ (sE K "list" gZ (ao 4) (ai (sE K "str" (ny K) Ze (ai (a9 (cS K) (a9 (cS K) (uT (vR K) (ao 2) dP (fX (ao 3))) (gF (ai (bF (iG K) [] E0 (ai (ao 0) (ai (a9 (cJ K) (ao 2) (ao 3)) aJ))) aJ))) (uT (vR K) (ao 2) (fX (a9 (cS K) (ao 3) Za)) dP)) aJ)) aJ))) t E [some (.ref st),some (.str x),some (.ref L),some (.int (i:Nat)),some (.ref D)] H:=by
 obtain⟨hi,e⟩:=ak.mp hw;have nw:iZ w:=by rw[<-e];exact nl _ (ck hi)
 have lw:w.length<=lM ws:=by
  have e2:lM ws=lM (ws.take i)+(w.length+lM (ws.drop (i+1))):=by
   conv=>lhs;rw[<-eY i ws,iP hi,sD,e]
   rfl
  lia
 refine⟨_,rfl,.inl ⟨rfl,_,cB.of hD⟩,rfl,_,rfl,_,rfl,_,rfl,.inl ⟨L,_,rfl,cB.of hL,λp np=>?_⟩⟩;rw[mF,<-fP];have s1:aL H (upd H p (.lst ((ws.take i).map V.str))):=(aL.refl H).new np;have hp:upd H p (.lst ((ws.take i).map V.str)) p=some (.lst ((ws.take i).map V.str)):=aj;generalize upd H p (.lst ((ws.take i).map V.str))=H1 at s1 hp ⊢;refine⟨_,rfl,_,rfl,_,rfl,lG (s1 _ _ hL) hw ⟨st,w,k,rfl,S.same s1,by lia,by lia,nw,λr k2 H2 nr lr S2 lk2 B2=>⟨Zy,λp2 np2=>?_⟩⟩⟩;obtain⟨yl,hst⟩:=S.lst;have npst:p≠st:=λz=>by rw[z,hst] at np;cases np
 have hp2:=B2 p _ npst hp;have s3:aL H2 (upd H2 p2 (.lst ([r].map V.str))):=(aL.refl H2).new np2;have hp3:upd H2 p2 (.lst ([r].map V.str)) p2=some (.lst ([r].map V.str)):=aj;refine Fv (xs:=ws.take i) (ys:=[r]) (s3 _ _ hp2) hp3 (by rw[a8];show _+1<=_;lia) λp4 H4 np4 hp4 s4=>?_;have L2:=B2 L _ nL (s1 _ _ hL);have s24:=s3.trans s4;refine⟨_,rfl,_,rfl,.inl ⟨_,_,rfl,rfl,_,rfl,.inl ⟨L,_,rfl,cB.of (s24 _ _ L2),λp5 np5=>?_⟩⟩⟩;rw[show((i:Nat):Int)+1=((i+1:Nat):Int) from by lia,pQ];have s5:aL H4 (upd H4 p5 (.lst ((ws.drop (i+1)).map V.str))):=(aL.refl H4).new np5;have hp5:upd H4 p5 (.lst ((ws.drop (i+1)).map V.str)) p5=some (.lst ((ws.drop (i+1)).map V.str)):=aj;generalize upd H4 p5 (.lst ((ws.drop (i+1)).map V.str))=H5 at s5 hp5 ⊢;obtain⟨pl1,pl2⟩:=Ri hw 21 lr;refine Fv (s5 _ _ hp4) hp5 (by rw[<-aG,pl2];lia) λp6 H6 _ hp6 s6=>?_;have s26:=(s24.trans s5).trans s6;generalize hv:ws.take i++[r]++ws.drop (i+1)=vs at hp6 pl1 pl2;have D2:=B2 D _ nD (s1 _ _ hD);have jl:=z7 vs;have nv:∀w∈vs,iZ w:=λz hz=>by
  rw[<-hv] at hz;rcases aT.mp hz with hz|hz
  ·rcases aT.mp hz with hz|hz
   ·exact nl _ (dR hz)
   ·rw[aw.mp hz];exact nr
  ·exact nl _ (gm hz)
 refine⟨_,p6,vs,rfl,rfl,cB.of hp6,?_,D,_,_,rfl,rfl,s26 _ _ D2,cq (by rw[ae];lia),?_⟩
 ·show lM vs+vs.length*1<=_;lia
 ·refine q _ k2 _ (wF nv) (by lia) ((S2.same s26).mono .upd_at (s26 _ _ D2) (Ne.symm nD)) lk2 ?_ ?_ λb o n1 n2 hb=>?_
  ·rw[aK nLD];exact s26 _ _ L2
  ·rw[aj,aN];rfl
  ·rw[aK n2];exact s26 _ _ (B2 b _ n1 (s1 _ _ hb))
abbrev AR:List Str:=["zz = call zz","part","give","zz = zz","zz = zz + zz","jump 99999999999999999999","zz = 7"]
def J7{y:Str}(h:(!decide (10∈y.cps.toList))=true):iZ y:=by
 simp only[Bool.not_eq_true',decide_eq_false_iff_not] at h;exact h
def BU{K:Fg}{vs:List V}{H:Hp}{Q:VK}{E:XK}(h:mL K vs H Q E):ub K {nx:=λ_ H'=>Q .non H',rt:=Q} (cI tP vs) H:=by
 obtain⟨st,x,k,rfl,S,hk,lx,nx,q⟩:=h;have wl:=MA x;have nw:∀w∈Txt.split x " ",iZ w:=by rw[GF];exact λw hw=>nx.split 32 hw
 have ne:Txt.split x " "≠[]:=pj _ _;refine⟨_,rfl,rfl,x," ",rfl,rfl,by decide +kernel,(by have:=cq (n:=x.length+3) (by lia);lia),λL nL=>?_⟩;show qP K _ [some (.ref st),some (.str x),some (.ref L),none,none] _;generalize Txt.split x " "=ws at wl nw ne ⊢;have hL:upd H L (.lst (ws.map V.str)) L=some (.lst (ws.map V.str)):=aj;have B1:iq st H (upd H L (.lst (ws.map V.str))):=(iq.refl st H).new nL;have S1:=S.new (o:=.lst (ws.map V.str)) nL;obtain⟨yl,hst⟩:=S.lst;have nLst:L≠st:=λz=>by rw[z,hst] at nL;cases nL
 generalize upd H L (.lst (ws.map V.str))=H1 at hL B1 S1 ⊢;have pos:0<ws.length:=cP.mpr ne;refine⟨_,rfl,_,rfl,_,_,rfl,jA hL,st,(ws.length:Nat),k,rfl,S1,by lia,by lia,by lia,λd H2 d0 d1 S2 B2=>?_⟩;show qO K _ [some (.ref st),some (.str x),some (.ref L),some (.int d),none] H2;obtain⟨i,rfl⟩:∃i:Nat,d=(i:Nat):=⟨d.toNat,by lia⟩;have hi:i<ws.length:=by lia
 have hw:ws[i]?=some ws[i]:=af hi;have hL2:=B2 L _ nLst hL;have ls:(" ":Str).length=1:=by decide +kernel
 have l2:("  ":Str).length=2:=by decide +kernel
 have l0:(" 0":Str).length=2:=by decide +kernel
 have n1:iZ " ":=J7 (by decide +kernel);have n2:iZ "  ":=J7 (by decide +kernel);have n0:iZ " 0":=J7 (by decide +kernel);refine⟨_,rfl,_,_,rfl,rfl,cT (cq (by lia)),_,rfl,_,_,rfl,rfl,cT (cq (by lia)),_,rfl,x,rfl,by lia,λr hr lr=>⟨_,rfl,SR (by lia) ⟨rfl,_,rfl,1,rfl,_,rfl,.inl ⟨L,_,rfl,cB.of hL2,λp np=>?_⟩⟩⟩⟩;rw[K8 ne];have s3:aL H2 (upd H2 p (.lst ((ws.take (ws.length-1)).map V.str))):=(aL.refl H2).new np;have st_le:lM (ws.take (ws.length-1))<=lM ws:=by
  have:=sD (ws.take (ws.length-1)) (ws.drop (ws.length-1));rw[eY] at this;lia
 have tl:(ws.take (ws.length-1)).length<=ws.length:=by rw[a8];lia
 have jl:=z7 (ws.take (ws.length-1));refine⟨_,p,ws.take (ws.length-1),rfl,rfl,cB.of aj,?_,ZE,λD nD=>?_⟩
 ·show lM (ws.take (ws.length-1))+(ws.take (ws.length-1)).length*(" ":Str).length<=_;rw[ls];lia
 have jn:iZ (Txt.join " " (ws.take (ws.length-1))):=wF λw hw=>nw _ (dR hw);generalize Txt.join " " (ws.take (ws.length-1))=j at jl jn ⊢;show qN K _ [some (.ref st),some (.str x),some (.ref L),some (.int (i:Nat)),some (.ref D)] (upd _ D (.lst (rE V.str [" "++x,x++" ",r,"",x++" 0",j])));have e1:=iV " " x;have e2:=iV x " ";have e3:=iV x " 0";have w0:WL (x.length+60) [" "++x,x++" ",r,"",x++" 0",j]:=λy hy=>by
  simp only[aE,bH,or_false] at hy;rcases hy with rfl|rfl|rfl|rfl|rfl|rfl
  ·exact⟨n1.append nx,by lia⟩
  ·exact⟨nx.append n1,by lia⟩
  ·exact⟨λz=>(hr _ z).elim nx n2,by lia⟩
  ·exact⟨J7 (by decide +kernel),cA _⟩
  ·exact⟨nx.append n0,by lia⟩
  ·exact⟨jn,by lia⟩
 generalize hys:[" "++x,x++" ",r,"",x++" 0",j]=ys at w0 ⊢;have y6:ys.length=6:=by rw[<-hys];rfl
 have nDst:D≠st:=λz=>by
  obtain⟨yl2,hst2⟩:=(S2.same s3).lst;rw[z,hst2] at nD;cases nD
 have nLD:L≠D:=aB (s3 _ _ hL2) nD;have s4:aL H2 (upd (upd H2 p (.lst ((ws.take (ws.length-1)).map V.str))) D (.lst (ys.map V.str))):=s3.new nD;have hD4:upd (upd H2 p (.lst ((ws.take (ws.length-1)).map V.str))) D (.lst (ys.map V.str)) D=some (.lst (ys.map V.str)):=aj;generalize upd (upd H2 p (.lst ((ws.take (ws.length-1)).map V.str))) D (.lst (ys.map V.str))=H4 at s4 hD4 ⊢;have nDH2:H2 D=none:=s3.free nD;refine Hj (S2.same s4) (by lia) (s4 _ _ hL2) hD4 nLst nDst nLD hw (by lia) nw (by lia) λr5 k5 H5 n5 l5 S5 lk5 hL5 hD5 o5=>?_;show qM K _ _ _;refine Hj S5 (by lia) hL5 hD5 nLst nDst nLD hw (by rw[aG,y6];show 7<=10;decide) nw (by lia) λr6 k6 H6 n6 l6 S6 lk6 hL6 hD6 o6=>?_;have w6:=(w0.snoc n5 (by lia)).snoc n6 (by lia);have y8:(ys++[r5]++[r6]).length=8:=by rw[aG,aG,y6];rfl
 generalize ys++[r5]++[r6]=zs at hD6 w6 y8;show qL K _ [some (.ref st),some (.str x),some (.ref L),some (.int (i:Nat)),some (.ref D)] H6;refine⟨_,rfl,(by show 7<=av;decide),λp7 np7=>?_⟩;refine Fv (xs:=zs) (ys:=AR) ((aL.refl H6).new np7 _ _ hD6) aj (by rw[y8];decide) λD8 H8 f8 h8 s8=>?_;have s68:aL H6 H8:=((aL.refl H6).new np7).trans s8;have w8:=w6.app (ys:=AR) (xk (c:=30) (by decide +kernel) (by lia));have y15:(zs++AR).length=15:=by rw[aG,y8];rfl
 generalize zs++AR=us at h8 w8 y15;show qK K _ [some (.ref st),some (.str x),some (.ref L),some (.int (i:Nat)),some (.ref D8)] H8;refine⟨_,rfl,_,rfl,st,15,k6,rfl,S6.same s68,by lia,by decide,by decide,λd H9 d0 d1 S9 B9=>?_⟩;obtain⟨yl6,hst6⟩:=(S6.new (o:=.lst (AR.map V.str)) np7).lst;have n8:D8≠st:=λz=>by rw[z] at f8;cases hst6.symm.trans f8
 have dl:d.toNat<us.length:=by lia
 refine pS (cB.of (B9 _ _ n8 h8)) d0 (sy (af dl)) (q _ (k6+1) H9 (w8 _ (ck dl)).1 (w8 _ (ck dl)).2 S9 (by lia) λb o nb hb=>?_);have h2:=B2 b o nb (B1 b o nb hb);have nbD:b≠D:=aB h2 nDH2;exact B9 b o nb (s68 _ _ (o6 b o nb nbD (o5 b o nb nbD (s4 _ _ h2))))
def Kz{K:Fg}{H:Hp}{d:Nat}{a b:ar}{us vs:List V}(ha:H a=some (.tup us))(hb:H b=some (.tup vs))(l:us.length=vs.length)(h:∀(j:Nat) x y,us[j]?=some x->vs[j]?=some y->Bp K H d x y true):Bp K H (d+1) (.ref a) (.ref b) true:=by
 by_cases n:a=b
 ·subst n;exact .same
 ·have:=Bp.tups (K:=K) (H:=H) (d:=d) (es:=bG us.length true) n (eO.of ha) (eO.of hb) l (by simp) λj x y e h1 h2 h3=>by
   rw[gL] at h3;split at h3
   ·cases h3;exact h j x y h1 h2
   ·cases h3
  simpa using this
def OW{K:Fg}{H:Hp}{d:Nat}(z:Str):Bp K H d (.str z) (.str z) true:=by
 have:=Bp.flat (K:=K) (H:=H) (d:=d) (x:=.str z) (y:=.str z) rfl rfl;simpa[Ho] using this
def Vc{K:Fg}{H:Hp}{d:Nat}(z:Int):Bp K H d (.int z) (.int z) true:=by
 have:=Bp.flat (K:=K) (H:=H) (d:=d) (x:=.int z) (y:=.int z) rfl rfl;simpa[Ho] using this
def Nz{K:Fg}{H:Hp}{d:Nat}{a b:ar}{us:List V}(ha:H a=some (.tup us))(hb:H b=some (.tup us))(h:∀x∈us,Bp K H d x x true):Bp K H (d+1) (.ref a) (.ref b) true:=
 Kz ha hb rfl λj x y h1 h2=>by
  rw[h1] at h2;cases h2;exact h x (aF h1)
def Sv{K:Fg}{H:Hp}{d:Nat}{a b:ar}{ss:List Str}(ha:H a=some (.tup (ss.map V.str)))(hb:H b=some (.tup (ss.map V.str))):Bp K H (d+1) (.ref a) (.ref b) true:=
 Nz ha hb λx hx=>by obtain⟨z,_,rfl⟩:=bA.mp hx;exact OW z
def Wj{K:Fg}{H:Hp}{u v:V}{r:eJ}(hu:h9 H u r)(hv:h9 H v r):Bp K H 2 u v true:=by
 cases r with
 |call x k as=>
  obtain⟨p,a,rfl,h1,h1'⟩:=hu;obtain⟨q,b,rfl,h2,h2'⟩:=hv;refine Kz h1 h2 rfl λi u v e e'=>?_
  match i,e,e' with
  |0,e,e'=>cases e;cases e';exact OW _
  |1,e,e'=>cases e;cases e';exact OW _
  |2,e,e'=>cases e;cases e';exact Vc _
  |3,e,e'=>cases e;cases e';exact Sv h1' h2'
  |i+4,e,e'=>cases e
 |_=>
  obtain⟨p,rfl,h1⟩:=hu;obtain⟨q,rfl,h2⟩:=hv;refine Nz h1 h2 λx hx=>?_;simp only[aE,bH,or_false] at hx;rcases hx with rfl|rfl|rfl|rfl|rfl<;>first|exact OW _|exact Vc _
def Q9{K:Fg}{neg:Bool}{H:Hp}{p p':ar}{ps:List bw}{Q:VK}(h:fz H p ps)(h':fz H p' ps)(q:Q (.bl (!neg)) H):Uy K neg (.ref p) (.ref p') H Q:=by
 obtain⟨pvs,hp,hA⟩:=h;obtain⟨pvs',hp',hA'⟩:=h';have l:pvs.length=pvs'.length:=by rw[hA.len,hA'.len]
 refine⟨p,p',pvs,pvs',rfl,rfl,.inr ⟨eO.of hp,eO.of hp',l⟩,.inr ⟨bG pvs.length true,l,by simp,λj u v e hu hv he=>?_,?_⟩⟩
 ·have he:e=true:=by
   rw[gL] at he;split at he
   ·exact(Option.some.inj he).symm
   ·cases he
  subst he;obtain⟨b,eb,pa⟩:=hA.of_v hu;have pa':=hA'.at_ j v b hv eb;obtain⟨a1,a2,a3,rvs,rfl,g1,g2,g3,g4⟩:=pa;obtain⟨c1,c2,c3,rvs',rfl,k1,k2,k3,k4⟩:=pa';refine Kz g1 k1 rfl λi u v e e'=>?_
  match i,e,e' with
  |0,e,e'=>cases e;cases e';exact OW _
  |1,e,e'=>cases e;cases e';exact Sv g2 k2
  |2,e,e'=>
   cases e;cases e';refine Kz g3 k3 (by rw[g4.len,k4.len]) λm x y hx hy=>?_;obtain⟨r,er,ra⟩:=g4.of_v hx;exact Wj ra (k4.at_ m y r hy er)
  |i+3,e,e'=>cases e
 ·rw[show(bG pvs.length true).all id=true from by simp];cases neg<;>exact q
def OJ{K:Fg}{x:Str}{n:Nat}{H:Hp}{Q:VK}{E:XK}(lx:x.length<=90000)(bad:sX x n)(e:∀(dx:ar) (H':Hp),aL H H'->H' dx=some (XD dx (rK (n:Nat)))->E (.ref (cg K "NoLine")) (some dx) H'):iM K ([.str x]++[]) H Q E:=by
 refine⟨x,rfl,lx,λm hm dx H' s g=>?_,λls hl nf=>⟨λm hm dx H' s g=>?_,λnc=>?_⟩⟩
 ·rcases bad with b|⟨nf,_⟩
  ·rw[hm.one b] at g;exact e dx H' s g
  ·exact absurd hm.1 (nf m)
 ·rcases bad with b|⟨_,ls',e',b⟩
  ·exact absurd b.1 (nf n)
  ·rw[show ls'=ls from by
    rw[hl] at e';exact(lZ e').symm] at b
   rw[hm.one b] at g;exact e dx H' s g
 ·rcases bad with b|⟨_,ls',e',b⟩
  ·exact absurd b.1 (nf n)
  ·rw[show ls'=ls from by
    rw[hl] at e';exact(lZ e').symm] at b
   exact absurd b.1 (nc n)
def Gx{K:Fg}{x:Str}{n:Nat}{σ:St}{H:Hp}{Q:VK}{E:XK}(lx:x.length<=90000)(bad:sX x n)(e:∀(dx:ar) (H':Hp),aL H H'->H' dx=some (XD dx (rK (n:Nat)))->E (.ref (cg K "NoLine")) (some dx) H'):aJ σ H λxs H2=>iM K (.str x::xs++[]) H2 Q E:=OJ lx bad e
def Mf{K:Fg}(T:U5 K){vs:List V}{H:Hp}{Q:VK}{E:XK}(h:qh K vs H Q E):DA K {nx:=λ_ H'=>Q .non H',rt:=Q} (cI CC vs) H:=by
 obtain⟨x,n,rfl,lx,bad,q⟩:=h;refine⟨1,rfl,Zx,λL nL=>?_⟩;have s1:aL H (upd H L (.lst [])):=(aL.refl H).new nL;show yj K _ [some (.str x),some (.int (n:Nat)),some (.int (-1)),some (.ref L),none] (upd H L (.lst []));generalize upd H L (.lst [])=H1 at s1 ⊢;refine⟨_,rfl,?_⟩;refine Gx lx bad λdx H2 s2 gd=>?_;intro y C T' ec hy ndx hT' nx;cases ec;refine⟨_,rfl,T.mLL,?_⟩;have gy:(upd H2 T' (TB T')) y=some (XL y (cg K "NoLine") (some dx)):=by rw[aK (Ne.symm nx)];exact hy
 have gd2:(upd H2 T' (TB T')) dx=some (XD dx (rK (n:Nat))):=by rw[aK (aB gd hT')];exact gd
 have s3:aL H (upd H2 T' (TB T')):=(s1.trans s2).new hT';generalize upd H2 T' (TB T')=H3 at gy gd2 s3 ⊢;refine⟨_,rfl,y,_,dx,_,_,rfl,.inr gy,gd2,T.clL,T.nLl,rfl,?_⟩;show yi K _ [some (.str x),some (.int (n:Nat)),some (.int (n:Nat)),some (.ref L),none] H3;refine⟨_,rfl,?_⟩;refine Gx lx bad λdx H4 s4 gd=>?_;intro y C T' ec hy ndx hT' nx;cases ec;refine⟨_,rfl,T.mLB,?_⟩;have gy:(upd H4 T' (TB T')) y=some (XL y (cg K "NoLine") (some dx)):=by rw[aK (Ne.symm nx)];exact hy
 have gd2:(upd H4 T' (TB T')) dx=some (XD dx (rK (n:Nat))):=by rw[aK (aB gd hT')];exact gd
 have s5:aL H (upd H4 T' (TB T')):=(s3.trans s4).new hT';generalize upd H4 T' (TB T')=H5 at gy gd2 s5 ⊢;refine⟨_,rfl,y,_,dx,_,rfl,.inr gy,⟨_,gd2⟩,T.clL,T.wyL,.inl ⟨rfl,?_⟩⟩;refine⟨_,rfl,y,_,dx,_,rfl,.inr gy,⟨_,gd2⟩,T.clL,T.wyL,.inr (.inl ⟨_,_,rfl,T.iLL,?_⟩)⟩;refine⟨_,rfl,Zz,λt nt=>?_⟩;have n1:y≠t:=aB gy nt;have n2:dx≠t:=aB gd2 nt;refine⟨y,_,dx,_,rfl,.inr (by rw[aK n1];exact gy),⟨_,by rw[aK n2];exact gd2⟩,T.clL,T.wyL,.inr (.inr ⟨t,_,_,_,_,rfl,aj,T.iLN,T.iLS,ZA,λb hb=>?_⟩)⟩;have s6:=(s5.new nt).new (o:=.lst [.bl true,.bl true,.bl (false || false)]) hb;have hb6:upd (upd H5 t (.tup [.ref (cg K "NoProgram"),.ref (cg K "Short")])) b (.lst [.bl true,.bl true,.bl (false || false)]) b=some (.lst [.bl true,.bl true,.bl (false || false)]):=aj;generalize upd (upd H5 t (.tup [.ref (cg K "NoProgram"),.ref (cg K "Short")])) b (.lst [.bl true,.bl true,.bl (false || false)])=H6 at s6 hb6 ⊢;show yh K _ [some (.str x),some (.int (n:Nat)),some (.int (n:Nat)),some (.ref b),none] H6;refine⟨_,rfl,_,rfl,.inl ⟨rfl,_,rfl,?_⟩⟩;rw[if_pos (decide_eq_true rfl)];refine⟨_,rfl,_,_,_,rfl,.int_bool _,_,rfl,_,rfl,?_⟩;refine ky ⟨_,rfl,ZA,λc hc=>.inr (.inr (.inr ⟨b,c,_,_,rfl,rfl,cB.of ((aL.refl H6).new hc _ _ hb6),cB.of aj,rfl,rfl,?_⟩))⟩;exact q _ (s6.new hc)
def Ge{xs:List Str}(ne:xs≠[])(h:∀x∈xs,iZ x):parse (Txt.join "\n" xs)=readL xs:=by
 unfold parse readL;rw[Sg,qk ne h]
def SN{xs:List Str}{n:Int}(h:∀x∈xs,iZ x)(b:RW (readL xs) n)(n0:0<=n):sX (Txt.join "\n" xs) n.toNat:=by
 rcases b with⟨rfl,_⟩|⟨k,rfl,b⟩
 ·exact absurd n0 (by decide)
 ·have ne:xs≠[]:=by
   rintro rfl;rcases b with b|⟨_,ls,e,b⟩
   ·rcases b.1 with z|⟨_,r,z,_⟩<;>cases z
   ·obtain⟨a,f,as,z,_⟩:=b.1;have:ls=[]:=by
     cases ls with
     |nil=>rfl
     |cons a r=>cases e
    rw[this] at z;cases z
  rw[dJ];unfold sX;rw[Ge ne h];exact b
def M7:sX "" 0:=by
 refine .inl ⟨.inl ?_,λm hm=>absurd hm (bW _)⟩;have e:parse ""=[lineOf? [""]]:=by
  unfold parse;rw[show Txt.split "" "\n"=([""]:List Str) from by decide +kernel];show[lineOf? (Txt.split "" " ")]=_;rw[show Txt.split "" " "=([""]:List Str) from by decide +kernel]
 rw[e,kX λr h=>?_]
 ·rfl
 ·cases r with
  |part x ps=>obtain⟨e,_⟩:=h;cases e
  |num x z=>obtain⟨y,e,_⟩:=h;cases e
  |op x s a b=>obtain⟨e,_⟩:=h;cases e
  |call x f as=>obtain⟨e,_⟩:=h;cases e
  |say a=>obtain⟨e,_⟩:=h;cases e
  |jump to=>obtain⟨y,e,_⟩:=h;cases e
  |test a to=>obtain⟨y,e,_⟩:=h;cases e
  |give a=>obtain⟨e,_⟩:=h;cases e
def NW{ps:List bw}(hp:lE ps):∀y∈gC ps,iZ y:=by
 have a:=wo hp ps λ_ h=>h;unfold gC;rw[rY];intro y hy;obtain⟨ws,hw,rfl⟩:=bA.mp hy;obtain⟨i,hi,e⟩:=bV.mp hw;have lr:=a.get i ws _ (by rw[af hi,e]) (af (by rw[<-a.len];exact hi));exact wF λw hw=>(lr.free.2 w hw).2
def LK{ps:List bw}(h:ps≠[]):0<(gC ps).length:=by
 cases ps with
 |nil=>exact absurd rfl h
 |cons b r=>show 0<(tR b::_++_).length;simp
def Sd{xs:List Str}(w:WL 168 xs)(few:xs.length<=521):(xs.map (·.length)).sum+xs.length*("\n":Str).length<=16777216/\(Txt.join "\n" xs).length<=90000:=by
 have h:∀x∈xs,x.length<=168:=λx hx=>(w x hx).2;have m:xs.length*169<=521*169:=dr _ few;refine⟨Sb h Wg (by lia),?_⟩;have:=tm (sep:="\n") h;rw[Wg] at this;lia
def VS{K:Fg}{vs:List V}{H:Hp}{Q:VK}{E:XK}(h:EI K vs H Q E):Sx K {nx:=λ_ H'=>Q .non H',rt:=Q} (cI R3 vs) H:=by
 obtain⟨scr,ns,rfl,hscr,hns,q⟩:=h;refine⟨_,rfl,ZA,λst hst=>?_⟩;have S1:lF K (upd H st (.lst [.ref scr,.int 0,.int 0])) st 0:=⟨scr,ns,0,aj,hscr.mono (.of_same ((aL.refl H).new hst)),hns⟩;show GP K _ [some (.ref scr),some (.ref st),none,none,none,none,none,none,none,none] (upd H st (.lst [.ref scr,.int 0,.int 0]));generalize upd H st (.lst [.ref scr,.int 0,.int 0])=H1 at S1 ⊢;refine⟨_,rfl,st,3,0,rfl,S1,by decide,by decide,by decide,λd H2 d0 d1 S2 B2=>.inl ⟨_,_,rfl,rfl,?_⟩⟩;show GO K _ [some (.ref scr),some (.ref st),some (.int (1+d)),none,none,none,none,none,none,none] H2;refine⟨_,rfl,st,9,1,rfl,S2,by decide,by decide,by decide,λg H3 g0 g1 S3 B3=>?_⟩;show GN K _ [some (.ref scr),some (.ref st),some (.int (1+d)),some (.int g),none,none,none,none,none,none] H3;refine⟨_,rfl,st,10,2,rfl,S3,by decide,by decide,by decide,λp pvs bs ys cs k4 H4 hp hA ok few S4 l4 B4=>?_⟩;show Ku K _ [some (.ref scr),some (.ref st),some (.int (1+d)),some (.int g),some (.ref p),none,none,none,none,none] H4;have G4:fz H4 p (bs.map eF.up):=⟨pvs,hp,U7 hA⟩;have gnm:=Qi ok;have gnd:((bs.map eF.up).map (·.name)).Nodup:=by rw[Pc];exact ok.nnd
 have gcl:=Io ok;generalize bs.map eF.up=ps at G4 gnm gnd gcl;obtain⟨f1,f2⟩:=Af gnm.wr;have lnl:=NW gnm;have lps:=LK gnm.pos;refine⟨_,rfl,p,ps,rfl,G4,gnm.wr,λo H5 no ho s5=>?_⟩;show Kt K _ [some (.ref scr),some (.ref st),some (.int (1+d)),some (.int g),some (.ref p),some (.ref o),none,none,none,none] H5;refine⟨_,rfl,o,_,rfl,.inl (cB.of ho),λl nl=>?_⟩;obtain⟨yl,hst4⟩:=S4.lst;have no_st:o≠st:=λz=>by rw[z,hst4] at no;cases no
 have hst5:=s5 _ _ hst4;have nl_st:l≠st:=λz=>by rw[z,hst5] at nl;cases nl
 have nol:o≠l:=aB ho nl;have S6:=(S4.same s5).new (o:=.lst ((gC ps).map V.str)) nl;have G6:fz (upd H5 l (.lst ((gC ps).map V.str))) p ps:=G4.mono (.of_same (s5.new nl));have ho6:upd H5 l (.lst ((gC ps).map V.str)) o=some (.lst ((gC ps).map V.str)):=(aL.refl H5).new nl _ _ ho;have hl6:upd H5 l (.lst ((gC ps).map V.str)) l=some (.lst ((gC ps).map V.str)):=aj;show Ks K _ [some (.ref scr),some (.ref st),some (.int (1+d)),some (.int g),some (.ref p),some (.ref o),some (.ref l),none,none,none] (upd H5 l (.lst ((gC ps).map V.str)));generalize upd H5 l (.lst ((gC ps).map V.str))=H6 at S6 G6 ho6 hl6 ⊢;have tlen:=DB gnm.wr;have read:∀{σ:St} {H:Hp} {Q:VK} {E:XK},(vV ps->∀(p:ar) (H':Hp),fz H' p ps->aL H H'->Q (.ref p) H')->aJ σ H λxs H2=>iM K (.str (Txt.join "\n" (gC ps))::xs++[]) H2 Q E:=λq1=>Mg gnm gnd q1 λk n w f=>absurd gcl f.clean;have jb:=Sd (xs:=gC ps) (λy hy=>⟨lnl y hy,by have:=f2 y hy;lia⟩) (by lia);generalize gC ps=ol at f1 f2 lnl lps ho6 hl6 read jb;have wl0:WL 168 ol:=λy hy=>⟨lnl y hy,by have:=f2 y hy;lia⟩;have last:∀(l':ar) (zs:List Str) (H7:Hp) (o7 o8 o9:Option V),H7 l'=some (.lst (zs.map V.str))->WL 168 zs->zs.length<=521->H7 o=some (.lst (ol.map V.str))->fz H7 p ps->EM K {nx:=λ_ H'=>Q .non H',rt:=Q} [some (.ref scr),some (.ref st),some (.int (1+d)),some (.int g),some (.ref p),some (.ref o),some (.ref l'),o7,o8,o9] H7:=λl' zs H7 o7 o8 o9 hl7 w7 few7 ho7 G7=>by
  have jz:=Sd w7 few7;refine⟨_,rfl,l',zs,rfl,hl7,by lia,λx hx=>by have:=(w7 x hx).2;lia,λn H8 bad s8=>?_⟩;show Ko K _ [some (.ref scr),some (.ref st),some (.int (1+d)),some (.int g),some (.ref p),some (.ref o),some (.ref l'),o7,o8,some (.int n)] H8;have fin:∀(H9:Hp),aL H8 H9->Kn K {nx:=λ_ H'=>Q .non H',rt:=Q} [some (.ref scr),some (.ref st),some (.int (1+d)),some (.int g),some (.ref p),some (.ref o),some (.ref l'),o7,o8,some (.int n)] H9:=λH9 s9=>by
   have s79:=s8.trans s9;refine⟨"",0,rfl,(by decide +kernel),M7,λH10 s10=>⟨_,rfl,ky ?_⟩⟩;refine⟨rfl,_,rfl,_,o,ol,rfl,rfl,cB.of (s10 _ _ (s79 _ _ ho7)),jb.1,read (λ_ p' H11 P11 s11=>⟨_,rfl,.inl (Q9 P11 (G7.mono (.of_same ((s79.trans s10).trans s11))) (q _))⟩)⟩
  refine⟨_,rfl,_,_,rfl,rfl,_,rfl,bC (λc=>?_) λc=>f6 (fin H8 (aL.refl H8))⟩;refine⟨rfl,_,rfl,_,l',zs,rfl,rfl,cB.of (s8 _ _ hl7),jz.1,_,rfl,Txt.join "\n" zs,n.toNat,?_,jz.2,SN (λx hx=>(w7 x hx).1) bad c,λH9 s9=>⟨_,rfl,f6 (fin H9 s9)⟩⟩;rw[show((n.toNat:Nat):Int)=n from by lia];rfl
 have pick:∀(zs:List Str) (H7:Hp) (o7 o8:Option V),H7 l=some (.lst (zs.map V.str))->WL 168 zs->zs.length<=521->H7 o=some (.lst (ol.map V.str))->fz H7 p ps->Kp K {nx:=λ_ H'=>Q .non H',rt:=Q} [some (.ref scr),some (.ref st),some (.int (1+d)),some (.int g),some (.ref p),some (.ref o),some (.ref l),o7,o8,none] H7:=λzs H7 o7 o8 hl7 w7 few7 ho7 G7=>by
  refine⟨_,rfl,_,_,rfl,rfl,_,rfl,bC (λc=>?_) λc=>last l zs H7 o7 o8 none hl7 w7 few7 ho7 G7⟩;have w1:WL 168 [""]:=xk (c:=0) (by decide +kernel) (by decide);refine⟨Zy,λa na=>⟨_,rfl,?_⟩⟩;have sa:aL H7 (upd H7 a (.lst [.str ""])):=(aL.refl H7).new na;refine Fv (xs:=[""]) (ys:=ol) aj (sa _ _ ho7) (by show 1+_<=_;lia) λA HA _ hA sA=>⟨_,rfl,Zy,λb nb=>?_⟩;have sb:=(sa.trans sA).new (o:=.lst [.str ""]) nb;have hA2:=(aL.refl HA).new (o:=.lst [.str ""]) nb _ _ hA;refine Fv (xs:=ol) (ys:=[""]) (sb _ _ ho7) aj (by show _+1<=_;lia) λB HB _ hB sB=>⟨_,rfl,1,rfl,.inl ⟨o,_,rfl,cB.of ((sb.trans sB) _ _ ho7),λC nC=>?_⟩⟩;rw[show(1:Int)=((1:Nat):Int) from rfl,pQ];have sC:=(sb.trans sB).new (o:=.lst ((ol.drop 1).map V.str)) nC;have hC:upd HB C (.lst ((ol.drop 1).map V.str)) C=some (.lst ((ol.drop 1).map V.str)):=aj;have hB3:=(aL.refl HB).new (o:=.lst ((ol.drop 1).map V.str)) nC _ _ hB;have hA3:=(sB.new (o:=.lst ((ol.drop 1).map V.str)) nC) _ _ hA2;generalize upd HB C (.lst ((ol.drop 1).map V.str))=HC at sC hC hB3 hA3 ⊢;refine⟨ZA,λt nt=>?_⟩;have st8:=sC.new (o:=.lst [.ref A,.ref B,.ref C]) nt;have ss:aL HC (upd HC t (.lst [.ref A,.ref B,.ref C])):=(aL.refl HC).new nt;have ht:upd HC t (.lst [.ref A,.ref B,.ref C]) t=some (.lst [.ref A,.ref B,.ref C]):=aj;generalize upd HC t (.lst [.ref A,.ref B,.ref C])=H8 at st8 ss ht ⊢;have go:∀(l':ar) (zs:List Str),H8 l'=some (.lst (zs.map V.str))->WL 168 zs->zs.length<=521->EM K {nx:=λ_ H'=>Q .non H',rt:=Q} [some (.ref scr),some (.ref st),some (.int (1+d)),some (.int g),some (.ref p),some (.ref o),some (.ref l'),o7,o8,none] H8:=λl' zs h w f=>last l' zs H8 o7 o8 none h w f (st8 _ _ ho7) (G7.mono (.of_same st8));refine⟨_,rfl,?_⟩;have:g=0\/g=1\/g=2:=by lia
  rcases this with rfl|rfl|rfl
  ·exact pS (v:=.ref A) (cB.of ht) (by decide) rfl (go A (([""]:List Str)++ol) (ss _ _ hA3) (w1.app wl0) (by rw[aG];show 1+_<=_;lia))
  ·exact pS (v:=.ref B) (cB.of ht) (by decide) rfl (go B (ol++([""]:List Str)) (ss _ _ hB3) (wl0.app w1) (by rw[aG];show _+1<=_;lia))
  ·exact pS (v:=.ref C) (cB.of ht) (by decide) rfl (go C (ol.drop 1) (ss _ _ hC) (λy hy=>wl0 y (gm hy)) (by rw[dW];lia))
 refine⟨_,rfl,_,rfl,by lia,by lia,jy (λi σ' H'=>∃(o7 o8:Option V) (zs:List Str) (k':Nat),σ'=[some (.ref scr),some (.ref st),some (.int (1+d)),some (.int g),some (.ref p),some (.ref o),some (.ref l),o7,o8,none]/\H' l=some (.lst (zs.map V.str))/\WL 168 zs/\zs.length=ol.length/\H' o=some (.lst (ol.map V.str))/\fz H' p ps/\lF K H' st k'/\k'<=20000+10*i)
  ⟨_,_,ol,k4,rfl,hl6,wl0,rfl,ho6,G6,S6,by lia⟩ ?_ ?_⟩
 ·rintro i σ' H7 hi ⟨o7,o8,zs,k7,rfl,hl7,w7,few7,ho7,G7,S7,lk7⟩;show Kr K _ [some (.ref scr),some (.ref st),some (.int (1+d)),some (.int g),some (.ref p),some (.ref o),some (.ref l),some (.int (0+(i:Int))),o8,none] H7;refine⟨_,rfl,_,rfl,_,_,rfl,jA ho7,st,(ol.length:Nat),k7,rfl,S7,by lia,by lia,by lia,λa H8 a0 a1 S8 B8=>?_⟩;show Kq K _ [some (.ref scr),some (.ref st),some (.int (1+d)),some (.int g),some (.ref p),some (.ref o),some (.ref l),some (.int (0+(i:Int))),some (.int a),none] H8;obtain⟨m,rfl⟩:∃m:Nat,a=(m:Nat):=⟨a.toNat,by lia⟩;have hm:m<ol.length:=by lia
  have hx:ol[m]?=some ol[m]:=af hm;have mx:=ck hm;generalize ol[m]=x at hx mx;obtain⟨yl7,hst7⟩:=S7.lst;refine⟨_,rfl,_,rfl,_,rfl,lG (B8 _ _ no_st ho7) hx ⟨st,x,k7+1,rfl,S8,by lia,by have:=f2 x mx;lia,lnl x mx,λr k9 H9 nr lr S9 lk9 B9=>?_⟩⟩;have B79:=B8.trans B9;have hl9:=B79 _ _ nl_st hl7;refine⟨_,rfl,_,rfl,l,_,_,m,rfl,rfl,hl9,?_,?_⟩
  ·unfold Pq;rw[if_pos (by lia),if_pos (by rw[ae];lia),dJ]
  ·have t10:Tp H9 (upd H9 l (.lst ((zs.map V.str).set m (.str r)))):=(Tp.refl H9).lst hl9;refine⟨_,_,zs.set m r,k9,rfl,by rw[aj,List.map_set],λy hy=>?_,by rw[fG];exact few7,?_,(G7.mono (.of_but B79 hst7)).mono t10,S9.mono .upd_at hl9 (Ne.symm nl_st),by lia⟩
   ·rcases List.mem_or_eq_of_mem_set hy with z|rfl
    ·exact w7 y z
    ·exact⟨nr,by have:=f2 x mx;lia⟩
   ·rw[aK nol];exact B79 _ _ no_st ho7
 ·rintro σ' H7 ⟨o7,o8,zs,k7,rfl,hl7,w7,few7,ho7,G7,S7,lk7⟩;exact pick zs H7 o7 o8 hl7 w7 (by lia) ho7 G7
end Bg
end
namespace Bg
open PySem PySem.Spec PyProof.Rows L2
section
variable{P:aW}{w:bK}{K:Fg}{mg:Str->Option aa}{base:Heap}
def Er{vs:List V}{H:Hp}{Q:VK}{E:XK}(h:lg K vs H Q E):vs.length=kW.length:=by
 first|(obtain⟨_,_,_,_,rfl,_⟩:=h;rfl)
def Gd{f:ar}{fd:dY}{dV:aa}(F:Pw K "walked" "walked" gE dV f fd)(B:kK mg)(c_p_sets:zf P w K mg base)(c_p_leads:vT P w K mg base):pO P w K mg base EZ zm f fd kW (lg K):=
 F.ok GC (λvs H Q E h=>Er h) λcdv A outer s H vs Q E hr h=>⟨_,Ic B c_p_sets c_p_leads hr,Jb (E:=E) h⟩
def uF{vs:List V}{H:Hp}{Q:VK}{E:XK}(h:fB K vs H Q E):vs.length=fv.length:=by
 first|(obtain⟨_,_,_,_,rfl,_⟩:=h;rfl)
def vm{f:ar}{fd:dY}(F:RY K "__init__" "NoProgram.__init__" eZ f fd)(B:kK mg)(T:PR K) :pO P w K mg base EZ kr f fd fv (fB K):=
 F.ok vv (λvs H Q E h=>uF h) λcdv A outer s H vs Q E hr h=>⟨_,wu B hr,wR T (E:=E) h⟩
def yG{vs:List V}{H:Hp}{Q:VK}{E:XK}(h:d9 K vs H Q E):vs.length=fV.length:=by
 first|(obtain⟨_,_,rfl,_⟩:=h;rfl)
def Am{f:ar}{fd:dY}(F:RY K "__init__" "NoLine.__init__" gD f fd)(B:kK mg)(T:KY K) :pO P w K mg base EZ kM f fd fV (d9 K):=
 F.ok AJ (λvs H Q E h=>yG h) λcdv A outer s H vs Q E hr h=>⟨_,BB B hr,BS T (E:=E) h⟩
end
def all_mk{l:PySem.W.OpenLaw}{w:bK}{K:Fg}{h:Heap}{mg:Str->Option aa}{fa:ar}(X:K.In h)(G:h.Ns aX mg)(hfa:mg "law"=some (.ref fa))
  {C_BeltError:ar} (zc_BeltError:bB K aX "BeltError"=some (some (.ref C_BeltError)))
  {C_NoLine:ar} (zc_NoLine:bB K aX "NoLine"=some (some (.ref C_NoLine)))
  {C_NoProgram:ar} (zc_NoProgram:bB K aX "NoProgram"=some (some (.ref C_NoProgram)))
  {C_Short:ar} (zc_Short:bB K aX "Short"=some (some (.ref C_Short)))
  {nm_NoLine q_NoLine:Str} {N_NoLine B_NoLine:ar} {bs_NoLine:List aa} {sn_NoLine:List Str} {sub_NoLine:List aa} {ab_NoLine:Bool} {col_NoLine:Option Bool} {dd_NoLine:Option ar} {k0_NoLine k1_NoLine k2_NoLine k3_NoLine k5_NoLine:Option aa}
  (lx_NoLine:K.lookup C_NoLine=some (Jz nm_NoLine q_NoLine C_NoLine N_NoLine B_NoLine bs_NoLine true sn_NoLine sub_NoLine ab_NoLine col_NoLine dd_NoLine k0_NoLine k1_NoLine k2_NoLine k3_NoLine k5_NoLine)) (ga_NoLine:b5 K (.ref C_NoLine) "__getattribute__"=some (some (.builtin "BaseException.__getattribute__"))) (gh_NoLine:b5 K (.ref C_NoLine) "__getattr__"=some none) (sa_NoLine:b5 K (.ref C_NoLine) "__setattr__"=some (some (.builtin "object.__setattr__")))
  {nm_NoProgram q_NoProgram:Str} {N_NoProgram B_NoProgram:ar} {bs_NoProgram:List aa} {sn_NoProgram:List Str} {sub_NoProgram:List aa} {ab_NoProgram:Bool} {col_NoProgram:Option Bool} {dd_NoProgram:Option ar} {k0_NoProgram k1_NoProgram k2_NoProgram k3_NoProgram k5_NoProgram:Option aa}
  (lx_NoProgram:K.lookup C_NoProgram=some (Jz nm_NoProgram q_NoProgram C_NoProgram N_NoProgram B_NoProgram bs_NoProgram true sn_NoProgram sub_NoProgram ab_NoProgram col_NoProgram dd_NoProgram k0_NoProgram k1_NoProgram k2_NoProgram k3_NoProgram k5_NoProgram)) (ga_NoProgram:b5 K (.ref C_NoProgram) "__getattribute__"=some (some (.builtin "BaseException.__getattribute__"))) (gh_NoProgram:b5 K (.ref C_NoProgram) "__getattr__"=some none) (sa_NoProgram:b5 K (.ref C_NoProgram) "__setattr__"=some (some (.builtin "object.__setattr__")))
  {nm2_BeltError q2_BeltError:Str} {N2_BeltError:ar} {bs2_BeltError bm2_BeltError:List aa} {hd2_BeltError:Bool} {sn2_BeltError:List Str} {sub2_BeltError:List aa} {ab2_BeltError:Bool} {col2_BeltError:Option Bool} {dd2_BeltError:Option ar} {k02_BeltError k12_BeltError k22_BeltError k32_BeltError k52_BeltError:Option aa} {nid_BeltError:String}
  (le_BeltError:K.lookup C_BeltError=some (jo nm2_BeltError q2_BeltError C_BeltError N2_BeltError bs2_BeltError bm2_BeltError hd2_BeltError sn2_BeltError sub2_BeltError ab2_BeltError col2_BeltError dd2_BeltError k02_BeltError k12_BeltError k22_BeltError k32_BeltError k52_BeltError nid_BeltError)) (me_BeltError:cY K C_BeltError (.type "BaseException")=some true)
  {nm2_NoLine q2_NoLine:Str} {N2_NoLine:ar} {bs2_NoLine bm2_NoLine:List aa} {hd2_NoLine:Bool} {sn2_NoLine:List Str} {sub2_NoLine:List aa} {ab2_NoLine:Bool} {col2_NoLine:Option Bool} {dd2_NoLine:Option ar} {k02_NoLine k12_NoLine k22_NoLine k32_NoLine k52_NoLine:Option aa} {nid_NoLine:String}
  (le_NoLine:K.lookup C_NoLine=some (jo nm2_NoLine q2_NoLine C_NoLine N2_NoLine bs2_NoLine bm2_NoLine hd2_NoLine sn2_NoLine sub2_NoLine ab2_NoLine col2_NoLine dd2_NoLine k02_NoLine k12_NoLine k22_NoLine k32_NoLine k52_NoLine nid_NoLine)) (me_NoLine:cY K C_NoLine (.type "BaseException")=some true)
  {nm2_NoProgram q2_NoProgram:Str} {N2_NoProgram:ar} {bs2_NoProgram bm2_NoProgram:List aa} {hd2_NoProgram:Bool} {sn2_NoProgram:List Str} {sub2_NoProgram:List aa} {ab2_NoProgram:Bool} {col2_NoProgram:Option Bool} {dd2_NoProgram:Option ar} {k02_NoProgram k12_NoProgram k22_NoProgram k32_NoProgram k52_NoProgram:Option aa} {nid_NoProgram:String}
  (le_NoProgram:K.lookup C_NoProgram=some (jo nm2_NoProgram q2_NoProgram C_NoProgram N2_NoProgram bs2_NoProgram bm2_NoProgram hd2_NoProgram sn2_NoProgram sub2_NoProgram ab2_NoProgram col2_NoProgram dd2_NoProgram k02_NoProgram k12_NoProgram k22_NoProgram k32_NoProgram k52_NoProgram nid_NoProgram)) (me_NoProgram:cY K C_NoProgram (.type "BaseException")=some true)
  (kp_NoLine:cV K (.ref C_NoLine)=true)
  (kp_NoProgram:cV K (.ref C_NoProgram)=true)
  (xm_6:cY K C_NoProgram (.ref C_NoProgram)=some true)
  (xw_9:b5 K (.ref C_NoLine) "__class__"=some (some (.builtin "object.__class__")))
  (xm_10:cY K C_NoLine (.ref C_NoLine)=some true)
  (xm_11:cY K C_NoLine (.ref C_BeltError)=some true)
  (xi_12:PySem.W.isIn K (.ref C_NoLine) C_NoLine=true)
  (xn_13:C_NoLine≠C_NoProgram) (xi_13:lB K C_NoProgram=true) (xt_13:jO K (.ref C_NoProgram)=some (.type "type")) (xs_13:tJ K (.ref C_NoLine) (.ref C_NoProgram)=some false)
  (xn_14:C_NoLine≠C_Short) (xi_14:lB K C_Short=true) (xt_14:jO K (.ref C_Short)=some (.type "type")) (xs_14:tJ K (.ref C_NoLine) (.ref C_Short)=some false)
  {tk_FIGURES:Tok} (zq_FIGURES:bB K aX "FIGURES"=some (some (.str "0123456789" tk_FIGURES)))
  {tk_LETTERS:Tok} (zq_LETTERS:bB K aX "LETTERS"=some (some (.str "abcdefghijklmnopqrstuvwxyz" tk_LETTERS)))
  {P_WORDS:ar} {od_WORDS:Option ar} {n_WORDS:Nat} {sl_WORDS:Array (Option aa)} {tk0_WORDS tk1_WORDS tk2_WORDS tk3_WORDS tk4_WORDS tk5_WORDS:Tok} (zq_WORDS:bB K aX "WORDS"=some (some (.ref P_WORDS))) (lq_WORDS:K.lookup P_WORDS=some ⟨.type "tuple",od_WORDS,.seq #[.str "part" tk0_WORDS,.str "call" tk1_WORDS,.str "say" tk2_WORDS,.str "jump" tk3_WORDS,.str "test" tk4_WORDS,.str "give" tk5_WORDS] n_WORDS,sl_WORDS⟩)
  {P_SIGNS:ar} {od_SIGNS:Option ar} {n_SIGNS:Nat} {sl_SIGNS:Array (Option aa)} {tk0_SIGNS tk1_SIGNS tk2_SIGNS tk3_SIGNS tk4_SIGNS:Tok} (zq_SIGNS:bB K aX "SIGNS"=some (some (.ref P_SIGNS))) (lq_SIGNS:K.lookup P_SIGNS=some ⟨.type "tuple",od_SIGNS,.seq #[.str "+" tk0_SIGNS,.str "-" tk1_SIGNS,.str "*" tk2_SIGNS,.str "<" tk3_SIGNS,.str "=" tk4_SIGNS] n_SIGNS,sl_SIGNS⟩)
  (z_ValueError:bB K aX "ValueError"=some none)
  (no_0:b5 K (.ref C_NoLine) "line"=some none)
  (no_1:b5 K (.ref C_NoProgram) "part"=some none)
  (no_2:b5 K (.ref C_NoProgram) "row"=some none)
  (no_3:b5 K (.ref C_NoProgram) "word"=some none)
  (no_4:b5 K (.ref C_NoLine) "line"=some none)
  (l0:dC K "reads" Di)
  (l1:dC K "names_read" sr)
  (l2:dC K "sets" GB)
  (l3:dC K "goal" GA)
  (l4:dC K "leads" Dh)
  {od5 an5:Option ar} {sl5:Array (Option aa)} {oc5 kV5 dc5 pm5 cd5 ct5:aa} {f5:ar}
  {T5:ar} {ocT5:aa} {odT5:Option ar} {nT5:Nat} {slT5:Array (Option aa)}
  (a5:bB K aX "walked"=some (some (.ref f5)))
  (l5:K.lookup f5=some ⟨oc5,od5,.func (dv "walked" "walked" (ij gE) (e9 gE) (bU gE) (.ref T5) kV5 dc5 pm5 an5 cd5 ct5),sl5⟩) (c5:eN K cd5 "walked"=true) (k5:cV K (.ref f5)=true)
  (t5:K.lookup T5=some ⟨ocT5,odT5,.seq #[aa.none] nT5,slT5⟩)
  (l6:dC K "unset_due" oo)
  {od7 an7:Option ar} {sl7:Array (Option aa)} {oc7 kV7 dc7 pm7 cd7 ct7:aa} {f7:ar}
  (a7:b5 K (.ref C_NoProgram) "__init__"=some (some (.ref f7)))
  (l7:K.lookup f7=some ⟨oc7,od7,.func (dv "__init__" "NoProgram.__init__" (ij eZ) (e9 eZ) (bU eZ) .none kV7 dc7 pm7 an7 cd7 ct7),sl7⟩) (c7:eN K cd7 "NoProgram.__init__"=true) (k7:cV K (.ref f7)=true)
  (i7:uU K (.ref f7)=true)
  (l8:dC K "refuse" AI)
  (l9:dC K "comes_round" qI)
  (l10:dC K "ring_due" vt)
  (l11:dC K "calls_amiss" qH)
  (l12:dC K "goes_astray" qJ)
  (l13:dC K "row_due" xU)
  (l14:dC K "name_due" qc)
  (l15:dC K "check" Dg)
  (l16:dC K "numbered" vq)
  (l17:dC K "program_of" mI)
  {od18 an18:Option ar} {sl18:Array (Option aa)} {oc18 kV18 dc18 pm18 cd18 ct18:aa} {f18:ar}
  (a18:b5 K (.ref C_NoLine) "__init__"=some (some (.ref f18)))
  (l18:K.lookup f18=some ⟨oc18,od18,.func (dv "__init__" "NoLine.__init__" (ij gD) (e9 gD) (bU gD) .none kV18 dc18 pm18 an18 cd18 ct18),sl18⟩) (c18:eN K cd18 "NoLine.__init__"=true) (k18:cV K (.ref f18)=true)
  (i18:uU K (.ref f18)=true)
  (l19:dC K "refuse_calls" oY)
  (l20:dC K "numbers_of_parts" iE)
  (l21:dC K "refuse_forms" oZ)
  (l22:dC K "is_number" om)
  (l23:dC K "is_name" so)
  (l24:dC K "are_names" oj)
  (l25:dC K "setting_read" pd)
  (l26:dC K "line_read" tY)
  (l27:dC K "read" AH)
  (l28:dC K "_law_refused" Dj)
  (l29:dC K "_law_figures" wY)
  (l30:dC K "_law_is_name" wZ)
  (l31:dC K "_law_names_all" sk)
  (l32:dC K "_law_line_good" xT)
  (l33:dC K "_law_bad_line" uI)
  (l34:dC K "_law_draw" OP)
  (l35:dC K "_law_word_spoilt" kP)
  (l36:dC K "_law_line_spoilt" tX)
  (l37:dC K "_law_row_text" uJ)
  (l38:dC K "_law_lines" Kh)
  (l39:dC K "_law_filled" AG)
  (l40:dC K "_law_leads" Kg)
  (l41:dC K "_law_set_names" nB)
  (l42:dC K "_law_mended" Gz)
  (l43:dC K "_law_worth" Ki)
  (l44:dC K "_law_rough_row" xV)
  (l45:dC K "_law_part" Je)
  (l46:dC K "_law_names" EG)
  (l47:dC K "_law_program" w4)
  (l48:dC K "law" Su)
  (z_len:bB K aX "len"=some none) (z_range:bB K aX "range"=some none) (z_divmod:bB K aX "divmod"=some none) (z_max:bB K aX "max"=some none) (z_min:bB K aX "min"=some none) (z_sum:bB K aX "sum"=some none) (z_all:bB K aX "all"=some none) (z_isinstance:bB K aX "isinstance"=some none) (z_int:bB K aX "int"=some none) (z_bool:bB K aX "bool"=some none) (z_list:bB K aX "list"=some none) (z_tuple:bB K aX "tuple"=some none) (z_enumerate:bB K aX "enumerate"=some none) (z_zip:bB K aX "zip"=some none) (z_sorted:bB K aX "sorted"=some none) (z_set:bB K aX "set"=some none) (z_dict:bB K aX "dict"=some none) (z_str:bB K aX "str"=some none) (z_any:bB K aX "any"=some none) (z_reversed:bB K aX "reversed"=some none) (z_abs:bB K aX "abs"=some none) :
  ∃fd:dY,(∀(s:aq) (v:aa),sR s fd ⟨[v],[]⟩ [("_law_script",v)])/\∀base:Heap,K.In base->base.Ns aX mg->pO l.prog w K mg base EZ MN fa fd MU (EI K):=by
 have B:kK mg:=⟨bz X G z_len,bz X G z_range,bz X G z_divmod,bz X G z_max,bz X G z_min,bz X G z_sum,bz X G z_all,bz X G z_isinstance,bz X G z_int,bz X G z_bool,bz X G z_list,bz X G z_tuple,bz X G z_enumerate,bz X G z_zip,bz X G z_sorted,bz X G z_set,bz X G z_dict,bz X G z_str,bz X G z_any,bz X G z_reversed,bz X G z_abs⟩;have eC_BeltError:cg K "BeltError"=C_BeltError:=vf zc_BeltError;have eC_NoLine:cg K "NoLine"=C_NoLine:=vf zc_NoLine;have eC_NoProgram:cg K "NoProgram"=C_NoProgram:=vf zc_NoProgram;have eC_Short:cg K "Short"=C_Short:=vf zc_Short;have xc_NoLine:xE K C_NoLine:=⟨⟨_,_,_,_,_,_,_,_,_,_,_,_,_,_,_,lx_NoLine⟩,ga_NoLine,gh_NoLine,sa_NoLine⟩;have xc_NoProgram:xE K C_NoProgram:=⟨⟨_,_,_,_,_,_,_,_,_,_,_,_,_,_,_,lx_NoProgram⟩,ga_NoProgram,gh_NoProgram,sa_NoProgram⟩;have xe_BeltError:PU K C_BeltError:=⟨⟨_,_,_,_,_,_,_,_,_,_,_,_,_,_,_,_,_,le_BeltError⟩,me_BeltError⟩;have xe_NoLine:PU K C_NoLine:=⟨⟨_,_,_,_,_,_,_,_,_,_,_,_,_,_,_,_,_,le_NoLine⟩,me_NoLine⟩;have xe_NoProgram:PU K C_NoProgram:=⟨⟨_,_,_,_,_,_,_,_,_,_,_,_,_,_,_,_,_,le_NoProgram⟩,me_NoProgram⟩;have q_FIGURES:UQ mg "FIGURES" "0123456789":=⟨⟨_,dz X G zq_FIGURES⟩⟩;have q_LETTERS:UQ mg "LETTERS" "abcdefghijklmnopqrstuvwxyz":=⟨⟨_,dz X G zq_LETTERS⟩⟩;have q_WORDS:UR K mg "WORDS" [.str "part",.str "call",.str "say",.str "jump",.str "test",.str "give"]:=⟨⟨_,_,_,_,dz X G zq_WORDS,lq_WORDS,rfl,rfl,ZE,.cons ⟨_,rfl⟩ (.cons ⟨_,rfl⟩ (.cons ⟨_,rfl⟩ (.cons ⟨_,rfl⟩ (.cons ⟨_,rfl⟩ (.cons ⟨_,rfl⟩ (.nil))))))⟩⟩;have q_SIGNS:UR K mg "SIGNS" [.str "+",.str "-",.str "*",.str "<",.str "="]:=⟨⟨_,_,_,_,dz X G zq_SIGNS,lq_SIGNS,rfl,rfl,ZD,.cons ⟨_,rfl⟩ (.cons ⟨_,rfl⟩ (.cons ⟨_,rfl⟩ (.cons ⟨_,rfl⟩ (.cons ⟨_,rfl⟩ (.nil)))))⟩⟩;have g_BeltError:mg "BeltError"=some (.ref (cg K "BeltError")):=dz X G zc_BeltError |>.trans (by rw[eC_BeltError]);have z_ValueError:mg "ValueError"=none:=bz X G z_ValueError;have g_NoLine:mg "NoLine"=some (.ref (cg K "NoLine")):=dz X G zc_NoLine |>.trans (by rw[eC_NoLine]);have g_NoProgram:mg "NoProgram"=some (.ref (cg K "NoProgram")):=dz X G zc_NoProgram |>.trans (by rw[eC_NoProgram]);have g_Short:mg "Short"=some (.ref (cg K "Short")):=dz X G zc_Short |>.trans (by rw[eC_Short]);have T_TxtL:KY K:=⟨(by rw[eC_NoLine];exact xc_NoLine),(by rw[eC_NoLine];exact no_0)⟩;have T_TxtP:PR K:=⟨(by rw[eC_NoProgram];exact xc_NoProgram),(by rw[eC_NoProgram];exact no_1),(by rw[eC_NoProgram];exact no_2),(by rw[eC_NoProgram];exact no_3),(by rw[eC_NoProgram];exact⟨xc_NoProgram,xe_NoProgram,xm_6⟩)⟩;have T_TxtR:U5 K:=⟨(by rw[eC_NoLine];exact xc_NoLine),(by rw[eC_NoLine];exact no_4),(by rw[eC_NoLine];exact xw_9),(by rw[eC_NoLine];exact⟨xc_NoLine,xe_NoLine,xm_10⟩),(by rw[eC_NoLine,eC_BeltError];exact⟨xc_NoLine,xe_BeltError,xm_11⟩),(by rw[eC_NoLine];exact xi_12),(by rw[eC_NoLine,eC_NoProgram];exact⟨xn_13,xi_13,xt_13,xs_13⟩),(by rw[eC_NoLine,eC_Short];exact⟨xn_14,xi_14,xt_14,xs_14⟩)⟩;have F5:=Qg (st:=gE) l5 c5 k5;have F7:=zS (st:=eZ) l7 c7 k7;have b7:=F7.binds (ps:=fv) λ_ _ _ _ _ _ us hl=>by(obtain⟨_,_,_,_,rfl⟩:=Ws (us:=us) hl);rfl
 have F18:=zS (st:=gD) l18 c18 k18;have b18:=F18.binds (ps:=fV) λ_ _ _ _ _ _ us hl=>by(obtain⟨_,_,rfl⟩:=Wf (us:=us) hl);rfl
 refine Vg (k:=Se) X G hfa l48 (λbase=>?_) λ_ _ _ _=>VS;have c_p_reads:vU l.prog w K mg base:=oW X G l0 (Le B) λ_ _ _ _=>Md;have c_p_names_read:rG l.prog w K mg base:=oW X G l1 (zN B c_p_reads) λ_ _ _ _=>AB;have c_p_sets:zf l.prog w K mg base:=oW X G l2 (Nl B) λ_ _ _ _=>OG;have c_p_goal:zc l.prog w K mg base:=oW X G l3 (FC B) λ_ _ _ _=>OE;have c_w_goal:E6 l.prog w K mg base:=oW X G l3 (FC B) λ_ _ _ _=>OH;have c_p_leads:vT l.prog w K mg base:=oW X G l4 (Ld B c_p_goal) λ_ _ _ _=>Mc;have b5_0:rF K _ kW []:=λs us X hl=>by(obtain⟨_,_,rfl⟩:=Wf (us:=us) (show us.length=2 from by rw[dU] at hl;exact hl));exact PySem.W.binds_K (fd:=dv "walked" "walked" (ij gE) (e9 gE) (bU gE) (.ref T5) kV5 dc5 pm5 an5 cd5 ct5) X rfl t5 rfl rfl rfl
 have c_p_walked:zg l.prog w K mg base:=⟨⟨_,_,dz X G a5,k5,b5_0,Gd F5 B c_p_sets c_p_leads⟩⟩;have c_p_unset_due:tN l.prog w K mg base:=oW X G l6 (BG B c_p_names_read c_p_walked c_p_reads) λ_ _ _ _=>BX;have mx_NoProgram:Cy l.prog w K mg base "NoProgram" (cg K "NoProgram") fv kr (fB K):=⟨⟨f7,_,dz X G zc_NoProgram |>.trans (by rw[eC_NoProgram]),by rw[eC_NoProgram];exact⟨xc_NoProgram,a7,i7,kp_NoProgram⟩,b7,vm F7 B T_TxtP⟩⟩;have c_p_refuse:ze l.prog w K mg base:=N2 X G l8 (Ib B mx_NoProgram) λ_ _ _ _=>Ja T_TxtP;have c_p_comes_round:qA l.prog w K mg base:=oW X G l9 (yy B c_p_goal) λ_ _ _ _=>yI;have c_p_ring_due:uY l.prog w K mg base:=oW X G l10 (Eh B c_p_comes_round) λ_ _ _ _=>EE;have c_p_calls_amiss:qz l.prog w K mg base:=oW X G l11 (yx B) λ_ _ _ _=>yH;have c_p_goes_astray:qB l.prog w K mg base:=oW X G l12 (yz B c_w_goal) λ_ _ _ _=>yJ;have c_p_row_due:xt l.prog w K mg base:=oW X G l13 (FE B c_p_calls_amiss c_p_goes_astray) λ_ _ _ _=>Gr;have c_p_name_due:uW l.prog w K mg base:=oW X G l14 (Ef B) λ_ _ _ _=>EC;have c_p_check:Cu l.prog w K mg base:=N2 X G l15 (Lc B c_p_unset_due c_p_refuse c_p_ring_due c_p_row_due c_p_name_due) λ_ _ _ _=>Mb;have c_p_numbered:uX l.prog w K mg base:=oW X G l16 (Eg B) λ_ _ _ _=>ED;have c_p_program_of:rH l.prog w K mg base:=oW X G l17 (zO B c_p_numbered) λ_ _ _ _=>AC;have mx_NoLine:Cy l.prog w K mg base "NoLine" (cg K "NoLine") fV kM (d9 K):=⟨⟨f18,_,dz X G zc_NoLine |>.trans (by rw[eC_NoLine]),by rw[eC_NoLine];exact⟨xc_NoLine,a18,i18,kp_NoLine⟩,b18,Am F18 B T_TxtL⟩⟩;have c_p_refuse_calls:oH l.prog w K mg base:=N2 X G l19 (wx B mx_NoLine) λ_ _ _ _=>wU T_TxtL;have c_p_numbers_of_parts:kT l.prog w K mg base:=oW X G l20 (rR B) λ_ _ _ _=>sj;have c_p_refuse_forms:oJ l.prog w K mg base:=N2 X G l21 (wz B mx_NoLine) λ_ _ _ _=>wV T_TxtL;have c_p_is_number:nQ l.prog w K mg base:=oW X G l22 (BE B q_FIGURES) λ_ _ _ _=>BV;have c_p_is_name:m6 l.prog w K mg base:=oW X G l23 (FD B q_LETTERS q_WORDS) λ_ _ _ _=>Gq;have c_p_are_names:nO l.prog w K mg base:=oW X G l24 (BD B c_p_is_name) λ_ _ _ _=>tV;have c_p_setting_read:oK l.prog w K mg base:=oW X G l25 (wA B q_SIGNS c_p_is_name c_p_are_names c_p_is_number) λ_ _ _ _=>wW;have c_p_line_read:tM l.prog w K mg base:=oW X G l26 (BF B c_p_is_number c_p_is_name c_p_are_names c_p_setting_read) λ_ _ _ _=>BW;have c_p_read:zd l.prog w K mg base:=N2 X G l27 (Nk B c_p_check c_p_program_of c_p_refuse_calls c_p_numbers_of_parts c_p_refuse_forms c_p_line_read) λ_ _ _ _=>OF;have c_refused:Cw l.prog w K mg base:=oW X G l28 (Lg B g_BeltError z_ValueError g_NoLine g_NoProgram g_Short c_p_read) λ_ _ _ _=>Mf T_TxtR;have c_figures:Ct l.prog w K mg base:=oW X G l29 (K9 B) λ_ _ _ _=>L9;have c_is_name:vS l.prog w K mg base:=oW X G l30 (Lb B) λ_ _ _ _=>Ma;have c_names_all:xr l.prog w K mg base:=oW X G l31 (FB B c_is_name) λ_ _ _ _=>Gp;have c_line_good:xq l.prog w K mg base:=oW X G l32 (FA B c_figures c_names_all c_is_name) λ_ _ _ _=>Gn;have c_bad_line:zb l.prog w K mg base:=oW X G l33 (Ia B c_line_good) λ_ _ _ _=>IZ;have c_draw:nN l.prog w K mg base:=oW X G l34 (SU B) λ_ _ _ _=>UA;have c_word_spoilt:tO l.prog w K mg base:=oW X G l35 (BI B c_draw) λ_ _ _ _=>BY;have c_line_spoilt:tL l.prog w K mg base:=oW X G l36 (BC B c_draw c_word_spoilt) λ_ _ _ _=>BU;have c_row_text:zh l.prog w K mg base:=oW X G l37 (Ie B) λ_ _ _ _=>Jc;have c_lines:JG l.prog w K mg base:=oW X G l38 (P1 B c_row_text) λ_ _ _ _=>RB;have c_filled:E4 l.prog w K mg base:=oW X G l39 (Ni B c_draw) λ_ _ _ _=>OC;have c_leads:JF l.prog w K mg base:=oW X G l40 (PZ B) λ_ _ _ _=>RA;have c_set_names:xw l.prog w K mg base:=oW X G l41 (FG B c_leads) λ_ _ _ _=>Gu;have c_mended:E5 l.prog w K mg base:=oW X G l42 (Nj B) λ_ _ _ _=>OD;have c_worth:JI l.prog w K mg base:=oW X G l43 (P7 B c_draw) λ_ _ _ _=>RD;have c_rough_row:xu l.prog w K mg base:=oW X G l44 (FF B c_draw c_worth) λ_ _ _ _=>Gs;have c_part:MH l.prog w K mg base:=oW X G l45 (SV B c_filled c_set_names c_mended c_rough_row c_draw) λ_ _ _ _=>UB;have c_names:JH l.prog w K mg base:=oW X G l46 (P2 B c_draw) λ_ _ _ _=>RC;have c_program:Cv l.prog w K mg base:=oW X G l47 (Lf B c_part c_draw c_names) λ_ _ _ _=>Me;intro _ _ _ _ _ _ _ hr;exact U9 B c_p_read c_refused c_bad_line c_line_spoilt c_draw c_lines c_program hr
def UG{K:Fg}{H:Hp}{a:ar}{ns:List Int}(o:PJ H)(h:cB K H a (ns.map V.int)):m8 K H a ns:=by
 rcases h with(h|h)|h
 ·rcases o a with z|⟨ob,xs,z⟩<;>rw[h] at z<;>cases z
 ·exact .inl h
 ·exact .inr h
def walk{l:PySem.W.OpenLaw}{q:aW}{loose:List Str}{XP:(Str->Option aa)->Heap->Prop}{YP:bK->Heap->Prop}{d:DefRec}{K:Params->Fg}(hn:l.most=some 63)(hdf:d.params.defaults=[])
  (hY:∀(w:bK) (h:Heap),YP w h->(K w.params).In h)
  (F:∀(w:bK) (mg:Str->Option aa) (fa:ar) (h:Heap),(K w.params).In h->h.Ns aX mg->mg d.name=some (.ref fa)->
   ∃fd:dY,(∀(s:aq) (u:aa),sR s fd ⟨[u],[]⟩ [("_law_script",u)])/\∀base:Heap,(K w.params).In base->base.Ns aX mg->pO l.prog w (K w.params) mg base EZ MN fa fd MU (EI (K w.params))) :
  PySem.W.WalkO q loose XP YP l.row.toRowW d [] (λf vs=>y9 f vs):=
 L2.walk_of (n:=63) (k:=MN) (x:="_law_script") (CX:=λ_=>EZ) (sp:=λw=>EI (K w.params)) hn (by decide) hdf ⟨rfl,by decide,by decide⟩ hY F (λ_ _ a ns hl hO hS=>⟨a,ns,rfl,UG hO hS,hl,λ_=>rfl⟩) λ_ _ _ _ _ z=>z
end Bg
open PySem PySem.W PyProof.Rows
namespace PySem.W.Fast
def tw4964760363318342143:=()
def tw17822112694251632487:=()
def tw3967166408550660465:=()
def tw9436739229878886931:=()
def tw15947344255323380594:=()
def tw5533077356380742350:=()
def tw12904300120991364722:=()
def tw5116598688634382044:=()
def tw7023022761087050742:=()
def tw15441872269730510306:=()
def tw12557429761958178600:=()
def tw3761969002196472368:=()
def tw18321025308171927436:=()
def tw2206056208669049182:=()
def tw1361750910016794893:=()
def tw13389001103372218458:=()
def tw3416800127302109117:=()
def tw16407924302452283426:=()
def tw10851670650138943871:=()
def tw4011727696230254728:=()
def tw10529383477744458052:=()
def tw5024807761563750649:=()
def tw4931874694765265299:=()
def tw6091873627799554198:=()
def tw9017190806215023013:=()
def tw3509312744138963164:=()
def tw16562153301121648479:=()
def tw11344858347304107546:=()
def tw13905736580860163592:=()
def tw2780944611610163654:=()
def tw6093201494410385461:=()
def tw5337169196286505577:=()
def tw7906397264968589258:=()
def tw9023411088374815770:=()
def tw2627971360112453834:=()
def tw13525192863352714184:=()
def tw11490368322057701242:=()
def tw8204487643874454762:=()
def tw14356761682036881909:=()
def tw15481600193990885209:=()
def tw846287208977085768:=()
def tw13849659505414719917:=()
def tw3038047779587994044:=()
def tw5697774678771639070:=()
def tw8970396558527500324:=()
def tw4106082223594662307:=()
def tw2767731594702215140:=()
def tw9526728012593378401:=()
def tw4658558348049537262:=()
def tw2118756687173003372:=()
def tw4121928890780368091:=()
def tw13461512008043021640:=()
def tw3635913326767421416:=()
def tw9515468917986648032:=()
def tw17970484541844771844:=()
def tw9170268004848554671:=()
def tw9769155190709328014:=()
def tw10342013162931860076:=()
def tw9146890595850330271:=()
def tw203221241455681870:=()
def tw2778982472678059964:=()
def tw3646514360042804774:=()
def tw1746264682976222891:=()
def tw14934373805997164875:=()
def tw7461333433250490848:=()
def tw1208615400717557527:=()
def tw7269267164820711275:=()
def tw2189452821132315132:=()
def tw4846748163742846578:=()
def tw16429104442593409153:=()
def tw6321189303091050503:=()
def tw8424291115819261278:=()
def tw14730438743658817794:=()
def tw7295056275801801117:=()
def tw15780561298229628548:=()
def tw12077786544713141684:=()
def tw10601032430920386830:=()
def tw1672310299731224645:=()
end PySem.W.Fast
set_option maxRecDepth 100000 in
set_option maxHeartbeats 0 in
theorem PySem.Challenge.cw_beltgarth_k22_lines_refused_holds : PySem.Challenge.rw_beltgarth_k22_lines_refused.Holds := by
 w_on;o_law;k_head;(case hw=>w_witness2)
 k_fill
 refine Bg.walk (l:=PySem.Challenge.rw_beltgarth_k22_lines_refused) rfl rfl (λw h Y=>PySem.W.kIn_of Y) ?F
 case F=>
  intro w mg fa h KX G hmg
  refine' Bg.all_mk KX G hmg ?zc_BeltError ?zc_NoLine ?zc_NoProgram ?zc_Short ?lx_NoLine ?ga_NoLine ?gh_NoLine ?sa_NoLine ?lx_NoProgram ?ga_NoProgram ?gh_NoProgram ?sa_NoProgram ?le_BeltError ?me_BeltError ?le_NoLine ?me_NoLine ?le_NoProgram ?me_NoProgram ?kp_NoLine ?kp_NoProgram ?xm_6 ?xw_9 ?xm_10 ?xm_11 ?xi_12 ?xn_13 ?xi_13 ?xt_13 ?xs_13 ?xn_14 ?xi_14 ?xt_14 ?xs_14 ?zq_FIGURES ?zq_LETTERS ?zq_WORDS ?lq_WORDS ?zq_SIGNS ?lq_SIGNS ?z_ValueError ?no_0 ?no_1 ?no_2 ?no_3 ?no_4 ?l0 ?l1 ?l2 ?l3 ?l4 ?a5 ?l5 ?c5 ?k5 ?t5 ?l6 ?a7 ?l7 ?c7 ?k7 ?i7 ?l8 ?l9 ?l10 ?l11 ?l12 ?l13 ?l14 ?l15 ?l16 ?l17 ?a18 ?l18 ?c18 ?k18 ?i18 ?l19 ?l20 ?l21 ?l22 ?l23 ?l24 ?l25 ?l26 ?l27 ?l28 ?l29 ?l30 ?l31 ?l32 ?l33 ?l34 ?l35 ?l36 ?l37 ?l38 ?l39 ?l40 ?l41 ?l42 ?l43 ?l44 ?l45 ?l46 ?l47 ?l48 ?z_len ?z_range ?z_divmod ?z_max ?z_min ?z_sum ?z_all ?z_isinstance ?z_int ?z_bool ?z_list ?z_tuple ?z_enumerate ?z_zip ?z_sorted ?z_set ?z_dict ?z_str ?z_any ?z_reversed ?z_abs
  case zc_BeltError|zc_NoLine|zc_NoProgram|zc_Short|lx_NoLine|ga_NoLine|gh_NoLine|sa_NoLine|lx_NoProgram|ga_NoProgram|gh_NoProgram|sa_NoProgram|le_BeltError|me_BeltError|le_NoLine|me_NoLine|le_NoProgram|me_NoProgram|kp_NoLine|kp_NoProgram|xm_6|xw_9|xm_10|xm_11|xi_12=>k_is
  case xn_13=>decide
  case xi_13|xt_13|xs_13=>k_is
  case xn_14=>decide
  case xi_14|xt_14|xs_14|zq_FIGURES|zq_LETTERS|zq_WORDS|lq_WORDS|zq_SIGNS|lq_SIGNS|z_ValueError|no_0|no_1|no_2|no_3|no_4|a5|l5|c5|k5|t5|a7|l7|c7|k7|i7|a18|l18|c18|k18|i18|z_len|z_range|z_divmod|z_max|z_min|z_sum|z_all|z_isinstance|z_int|z_bool|z_list|z_tuple|z_enumerate|z_zip|z_sorted|z_set|z_dict|z_str|z_any|z_reversed|z_abs=>k_is
  all_goals (refine' Bg.defAt ?a ?l ?c ?k;(case a|l|c|k=>k_is))
