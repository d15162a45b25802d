import PyProof.Rows.All
import Wide.All
import OpenK.AllK
import Wide.FinOn
import Lean
import PyProof.EqAt
import PyProof.EqKinds
import PyProof.TupleCall
import PyProof.SetKind
import PyProof.Rows.SetFrom
import PyProof.FactsAll.set
import PyProof.DictIter
import PyProof.DictWalks
import PyProof.WalksMore
import PyProof.MakeMany
import PyProof.FactsAll.subtypes_4
import KE.KDictSum
import KE.KIntText
import KE.IntTextLaws
import PySem.Challenge.RW_beltgarth_k21_programs_as_texts
set_option Elab.async false
set_option autoImplicit true
set_option linter.all false
set_option maxHeartbeats 1000000
set_option maxHeartbeats 3200000
set_option maxHeartbeats 4000000
set_option maxRecDepth 100000
set_option relaxedAutoImplicit true
open PySem renaming wpAny_bind->aa,Value->ae,Shared->aq,Addr->ar,sizeLine->av,wpAny_pure->az,wpAny->aM,Builtin->aS,starEach->aT,Program->aZ,mainGlobals->bg,Around->bu,SetTable->bw,World->bK,wpAny_field->bQ,wpAny_holding->bW,wpAny_newObj_type->b4,wpAny_callSpecial?_slot->b8,PassesOwn->cb,NameKind->ck,compareOp->cM,wpAny_mono->c7,wpAny_call_entry->dq,wpAny_seqItems->dB,mem_of_lookup->dI,FuncData->dR,wpAny_loadPart_at->d8,codeAny_builtin->eD,assignEach->eF,wpAny_Call_Name_kw->eG,attributeBase->eM,binaryOp->eO,foldedSetIterable->eP,backTo->eW,codeAny_call_builtin->fc,wpAny_truthy_bool->fg,wpAny_isSubtype_exc->fA,bootBuiltins->fE,plainId_quiet->fN,wpAny_pyIter_tuple->fU,wpAny_passesOwn->gg,call_meets->gu,codeAny->gE,checkBuiltinCall->gH,wpAny_getItem_str_slice->gJ,codeAny_mono->gQ,wpAny_ite_split->gY,wpAny_standAt->hZ,IsPair->ie,wpAny_pyIter_list->ik,keywordEach->iA,sizeLine_eq->iB,sysModules->iC,wpAny_rule->iD,wpAny_setField->iE,wpAny_tryCatch->iF,Keyword->iS,swapsWith->iT,wpAny_typeOf->iU,wpAny_updateSeq->je,tupleKind_room_in1->jo,wpAny_call->jq,sliceBounds->jw,getItem->jE,relayAll->jF,wpAny_pyIter_enum->jG,noteFrame->kg,pyNext->kh,rawInt->ki,typeLookup->kj,wpAny_isInstance->ko,wpAny_pyIter_zip->kr,wpAny_attempt->kD,strKind->kF,wpAny_letGo->kK,wpAny_of_eq->kL,codeAny_of_tree->kW,letOwnedTupleGo->kX,wpAny_execs_nil->kY,wpAny_specialOf->kZ,plainKind->lT,seqItems?->lU,backToKw->lZ,firstArgMember->ma,excClassObj->mR,behindInMarks->nA,wpAny_onRaise->nB,ZipApart->oq,intItems->ou,IsPart->pC,argBest->pD,GenState->qK,BindsTo->rT,callerA->rV,tupleKind->rW,valueAt->rX,Walks->sI,PlainAttrs->tR,isInstance->tT,pyIter->tU,call->yS
open List renaming length_map->af,getElem?_eq_some_iff->aj,getElem?_eq_getElem->ao,mem_singleton->ax,mem_of_getElem?->aD,mem_cons->aE,size_toArray->aF,map_append->aG,length_append->aN,length_cons->aP,getElem?_map->aQ,mem_append->aV,length_take->aX,map_cons->aY,not_mem_nil->bj,mem_cons_of_mem->bx,take_of_length_le->bA,replicate->bB,mem_map->bF,mem_append_right->bI,getElem?_set_self->bJ,take_add_one->bN,mem_cons_self->bT,getElem?_append_right->bV,mem_append_left->bX,getElem?_set_ne->b6,mem_iff_getElem->b7,length_replicate->cB,length_singleton->cD,getElem?_append_left->cF,getLast?_eq_getElem?->cG,flatten_cons->cO,getElem?_eq_none->cS,range->cX,map_nil->dh,append_nil->dn,nodup_cons->dC,filterMap_cons->dE,length_pos_iff->dF,length_reverse->dG,append_assoc->dM,map_map->dN,length_eq_zero_iff->dO,mem_of_mem_take->dU,getElem_mem->dZ,mem_range->ef,replicate_succ->eV,length_drop->eY,map_take->fO,all_eq_true->fQ,lookup_cons->fR,getD_eq_getElem?_getD->fV,getElem?_reverse->fY,length_filter_le->fZ,find?_cons->gi,length_set->gj,length->gk,contains_cons->gR,mem_filter->gZ,lookup->iH,getElem?_range->iZ,map_congr_left->i4,getElem?_take_of_lt->i7,foldl_cons->jf,forIn_cons->jg,getElem?_replicate->jx,ext_getElem?->jH,head?_eq_getElem?->jI,length_range->jJ,reverse_cons->jK,take_sublist->jL,any_cons->kE,replicate_succ'->kM,length_nil->k9,forIn_nil->md,foldl_append->mS,map_drop->nC,of_mem_zip->qb,range_succ->qc,drop_zero->qL,map_id->wZ,foldl->yQ
open PySem.Heap renaming get?_push_of_some->ak,lt_size->aI,get?_push_size->aO,get?_update_other->bM,get?_update_self->cA,size_push->cY
open Nat renaming le_refl->aB,ne_of_lt->a9,lt_of_lt_of_le->bo,zero_le->b9,not_lt_zero->cE,le_trans->cT,toDigits->cU,lt_irrefl->cW,le_of_lt->di,mul_le_mul_right->dv,lt_succ_iff_lt_or_eq->dD,lt_succ_of_lt->gm,ne_of_gt->gU,digitChar->i8,sub_self->jM,mul_comm->lO,lt_of_le_of_lt->mf,le_succ->mT,lt_succ_self->oy,lt_or_ge->pE,lt_trans->pF,mod_lt->pG,div_add_mod->qd,le_antisymm->qe,pow_succ->uD,log2_lt->w4,not_lt->yR
open Array renaming length_toList->bh,getElem?_eq_some_iff->bO,getElem?_toList->cR,toList_append->fB
open PySem.W renaming mg_none_of->bD,nsIn->bG,findIn->cH,keepIn->cI,fnOf->dk,mg_of->dX,codeIn->eh,emptyDict->fj,mroIn->fP,looks_clsIn->lJ,methodObj->mV,clsIn->sJ,isFn->uE
open Option renaming map_eq_some_iff->b5,map_some->cq,isSome_iff_exists->gy,bind_some->iV,getD_some->iW,isSome_map->mU,getD_none->oz
open PyProof.Rows renaming callWith_type1->cL,slot_tuple_getitem->dc,boot_tuple->eN,boot_isinstance->fv,envOfC->h9,AllBare->lM,IntsAre->lN,boot_list->lS,boot_int->lX,slicePart_none->lY,subscriptTail->ny,boot_str->oo,StrsAre->rS,Subscript_->tQ
open Int renaming toNat->dz,toNat_natCast->dJ,emod_lt_of_pos->dS,emod_nonneg->dW,fdiv_eq_ediv_of_nonneg->iG,not_lt->yP
open PySem.F renaming plainAttrs_list->fh,plainAttrs_str->fF,slot_str_split->fG,excBase_ValueError->iI,args_str_split_2->i9,args_tuple_add_2->ja,entry_str_split->jy,entry_tuple_add->jz,slot_tuple_add->jN
abbrev Fg := PySem.W.Frag
def Zc:0<=PySem.sizeLine:=by decide
def Zd:1<=PySem.sizeLine:=by decide
def Ze:2<=PySem.sizeLine:=by decide
def Zf:3<=PySem.sizeLine:=by decide
def Zg:4<=PySem.sizeLine:=by decide
def Zh:5<=PySem.sizeLine:=by decide
abbrev Zi:=PySem.Value->PySem.Shared->Prop
section
namespace Bg
def V9{α:Type}{P:List α->Prop}{us:List α}(h:us.length=0)(k:P []):P us:=by cases us with|nil=>exact k|cons a r=>cases h
def VW{α:Type}{P:List α->Prop}{us:List α}(h:us.length=1)(k:∀x0,P [x0]):P us:=by cases us with|nil=>cases h|cons a r=>exact V9 (P:=λr=>P (a::r)) (Nat.succ.inj h) (k a)
def VX{α:Type}{P:List α->Prop}{us:List α}(h:us.length=2)(k:∀x0 x1,P [x0,x1]):P us:=by cases us with|nil=>cases h|cons a r=>exact VW (P:=λr=>P (a::r)) (Nat.succ.inj h) (k a)
def VY{α:Type}{P:List α->Prop}{us:List α}(h:us.length=3)(k:∀x0 x1 x2,P [x0,x1,x2]):P us:=by cases us with|nil=>cases h|cons a r=>exact VX (P:=λr=>P (a::r)) (Nat.succ.inj h) (k a)
def VZ{α:Type}{P:List α->Prop}{us:List α}(h:us.length=4)(k:∀x0 x1 x2 x3,P [x0,x1,x2,x3]):P us:=by cases us with|nil=>cases h|cons a r=>exact VY (P:=λr=>P (a::r)) (Nat.succ.inj h) (k a)
def Wa{α:Type}{P:List α->Prop}{us:List α}(h:us.length=5)(k:∀x0 x1 x2 x3 x4,P [x0,x1,x2,x3,x4]):P us:=by cases us with|nil=>cases h|cons a r=>exact VZ (P:=λr=>P (a::r)) (Nat.succ.inj h) (k a)
def Wb{α:Type}{P:List α->Prop}{us:List α}(h:us.length=6)(k:∀x0 x1 x2 x3 x4 x5,P [x0,x1,x2,x3,x4,x5]):P us:=by cases us with|nil=>cases h|cons a r=>exact Wa (P:=λr=>P (a::r)) (Nat.succ.inj h) (k a)
def V6{α:Type}{us:List α}(h:us.length=1):∃x0,us=[x0]:=VW (P:=λus=>∃x0,us=[x0]) h λx0=>⟨x0,rfl⟩
def Vr{α:Type}{us:List α}(h:us.length=2):∃x0 x1,us=[x0,x1]:=VX (P:=λus=>∃x0 x1,us=[x0,x1]) h λx0 x1=>⟨x0,x1,rfl⟩
def V7{α:Type}{us:List α}(h:us.length=3):∃x0 x1 x2,us=[x0,x1,x2]:=VY (P:=λus=>∃x0 x1 x2,us=[x0,x1,x2]) h λx0 x1 x2=>⟨x0,x1,x2,rfl⟩
def VU{α:Type}{us:List α}(h:us.length=4):∃x0 x1 x2 x3,us=[x0,x1,x2,x3]:=VZ (P:=λus=>∃x0 x1 x2 x3,us=[x0,x1,x2,x3]) h λx0 x1 x2 x3=>⟨x0,x1,x2,x3,rfl⟩
def V8{α:Type}{us:List α}(h:us.length=6):∃x0 x1 x2 x3 x4 x5,us=[x0,x1,x2,x3,x4,x5]:=Wb (P:=λus=>∃x0 x1 x2 x3 x4 x5,us=[x0,x1,x2,x3,x4,x5]) h λx0 x1 x2 x3 x4 x5=>⟨x0,x1,x2,x3,x4,x5,rfl⟩
end Bg
end
section
namespace L2
open PySem PySem.Spec PyProof.Rows
abbrev iy:=Sum Int Str
def CA:iy->ae->Bool
 |.inl k,v=>ae.isInt k v
 |.inr x,v=>ae.isStrOf x v
def VG(w:bK):iy->Int
 |.inl k=>hashInt k
 |.inr x=>hashStr w x
def gp:∀{k:iy} {v:ae},CA k v=true->(∃i t,k=Sum.inl i/\v=ae.int i t)\/(∃x t,k=Sum.inr x/\v=ae.str x t)
 |.inl i,v,h=>by
  obtain⟨t,e⟩:=ae.isInt_shape (k:=i) (v:=v) h;exact .inl ⟨i,t,rfl,e⟩
 |.inr x,v,h=>by
  obtain⟨t,e⟩:=ae.isStrOf_shape (x:=x) (v:=v) h;exact .inr ⟨x,t,rfl,e⟩
def KM(i:Int)(t:Tok):CA (.inl i) (.int i t)=true:=by simp[CA,ae.isInt]
def KN(x:Str)(t:Tok):CA (.inr x) (.str x t)=true:=by simp[CA,ae.isStrOf]
def SA(a b:Int):decide ((Sum.inl a:iy)=Sum.inl b)=(a==b):=by
 by_cases e:a=b
 ·subst e;simp
 ·have h:¬(Sum.inl a:iy)=Sum.inl b:=λq=>e (Sum.inl.inj q);rw[decide_eq_false h];exact(beq_eq_false_iff_ne.mpr e).symm
def SE(a b:Str):decide ((Sum.inr a:iy)=Sum.inr b)=decide (a=b):=by
 by_cases e:a=b
 ·subst e;simp
 ·have h:¬(Sum.inr a:iy)=Sum.inr b:=λq=>e (Sum.inr.inj q);rw[decide_eq_false h,decide_eq_false e]
def SB(a:Int)(b:Str):decide ((Sum.inl a:iy)=Sum.inr b)=false:=decide_eq_false (λq=>nomatch q)
def SD(a:Str)(b:Int):decide ((Sum.inr a:iy)=Sum.inl b)=false:=decide_eq_false (λq=>nomatch q)
def fJ(prog:aZ)(w:bK):PySem.KeyKind prog w iy where
 is:=CA
 hash:=VG w
 inj:=λv a b ha hb=>by
  rcases gp ha with⟨i,t,rfl,rfl⟩|⟨x,t,rfl,rfl⟩
  ·rcases gp hb with⟨j,u,rfl,e⟩|⟨y,u,rfl,e⟩
   ·injection e with e1 _;rw[e1]
   ·exact nomatch e
  ·rcases gp hb with⟨j,u,rfl,e⟩|⟨y,u,rfl,e⟩
   ·exact nomatch e
   ·injection e with e1 _;rw[e1]
 byValue:=λk v h=>by
  rcases gp h with⟨i,t,rfl,rfl⟩|⟨x,t,rfl,rfl⟩<;>rfl
 pyHash:=λhv h=>by
  rcases gp hv with⟨i,t,rfl,rfl⟩|⟨x,t,rfl,rfl⟩
  ·exact wpAny_pyHash_int h
  ·exact wpAny_pyHash_str h
 eqBool:=λhu hv h=>by
  rcases gp hu with⟨i,t,rfl,rfl⟩|⟨x,t,rfl,rfl⟩
  ·rcases gp hv with⟨j,u,rfl,rfl⟩|⟨y,u,rfl,rfl⟩
   ·rw[SA] at h;exact wpAny_eqBool_int h
   ·rw[SB] at h;exact SeqAt.EqAt.int_str i t y u _ _ _ _ h
  ·rcases gp hv with⟨j,u,rfl,rfl⟩|⟨y,u,rfl,rfl⟩
   ·rw[SD] at h;exact SeqAt.EqAt.str_int x t j u _ _ _ _ h
   ·rw[SE] at h;exact wpAny_eqBool_str h
 «strs»:=λk x t v h=>by
  rcases gp h with⟨i,u,rfl,e⟩|⟨y,u,rfl,e⟩
  ·exact nomatch e
  ·injection e with e1 _;subst e1;cases v<;>rfl
def FK(prog:aZ)(w:bK)(i:Int)(t:Tok):(fJ prog w).is (.inl i) (.int i t)=true:=KM i t
def FL(prog:aZ)(w:bK)(x:Str)(t:Tok):(fJ prog w).is (.inr x) (.str x t)=true:=KN x t
inductive V where
 |non|bl (b:Bool)|int (i:Int)|str (x:Str)|byt (b:Array UInt8)|flt (b:UInt64)|ref (a:ar)|ty (n:String)
 deriving DecidableEq
def d5:V->ae->Prop
 |.non,u=>u=ae.none
 |.bl b,u=>u=ae.bool b
 |.int i,u=>∃t,u=ae.int i t
 |.str x,u=>∃t,u=ae.str x t
 |.byt b,u=>∃t,u=ae.bytes b t
 |.flt b,u=>∃t,u=ae.float b t
 |.ref a,u=>u=ae.ref a
 |.ty n,u=>u=ae.type n
abbrev c9:List V->List ae->Prop:=Paired d5
def c9.length{xs:List V}{us:List ae}(r:c9 xs us):xs.length=us.length:=Paired.length r
def c9.get:∀{xs:List V} {us:List ae} {i:Nat} {x:V},c9 xs us->xs[i]?=some x->∃u,us[i]?=some u/\d5 x u
 |_,_,_,_,.nil,e=>by simp at e
 |_,_,0,_,.cons r _,e=>by simp at e;subst e;exact⟨_,rfl,r⟩
 |_,_,i+1,x,.cons _ t,e=>by
  obtain⟨u,h1,h2⟩:=c9.get (i:=i) (x:=x) t (by simpa using e);exact⟨u,by simpa using h1,h2⟩
def c9.set{x:V}{u:ae}(r:d5 x u):∀{xs:List V} {us:List ae} (i:Nat),c9 xs us->c9 (xs.set i x) (us.set i u)
 |_,_,_,.nil=>.nil
 |_,_,0,.cons _ t=>.cons r t
 |_,_,i+1,.cons q t=>.cons q (c9.set r i t)
def c9.append:∀{xs ys:List V} {us ws:List ae},c9 xs us->c9 ys ws->c9 (xs++ys) (us++ws)
 |_,_,_,_,.nil,s=>s
 |_,_,_,_,.cons r t,s=>.cons r (c9.append t s)
def c9.take:∀{xs:List V} {us:List ae} (n:Nat),c9 xs us->c9 (xs.take n) (us.take n)
 |_,_,0,_=>.nil
 |_,_,_+1,.nil=>.nil
 |_,_,n+1,.cons r t=>.cons r (c9.take n t)
def c9.drop:∀{xs:List V} {us:List ae} (n:Nat),c9 xs us->c9 (xs.drop n) (us.drop n)
 |_,_,0,r=>r
 |_,_,_+1,.nil=>.nil
 |_,_,n+1,.cons _ t=>c9.drop n t
def sD:Option V->Option ae->Prop
 |some v,some u=>d5 v u
 |none,none=>True
 |_,_=>False
def KV{κ:Type}:List (κ×V)->List (κ×ae)->Prop:=Paired λ(p:κ×V) (q:κ×ae)=>p.1=q.1/\d5 p.2 q.2
def kV:iy->V
 |.inl i=>.int i
 |.inr x=>.str x
inductive HO where
  |lst (xs:List V)
  |tup (xs:List V)
  |dK (kvs:List (iy×V))|dT (kvs:List (List iy×V))
  |set (S:Int->Bool) (n:Nat)
  |ins (C dx:ar) (fs:List (Str×V))
  |own (x:ar)
  |xd (fs:List (Str×V))
  |met (f x:ar)
  |rng (lo hi:Int)
  |frz (o:Obj) (u:HO)
  |tbl (ps:Array ae)
  |ext (φ:Heap->Prop)
abbrev Hp:=ar->Option HO
def upd(H:Hp)(a:ar)(o:HO):Hp:=λb=>if b=a then some o else H b
def ag{H:Hp}{a:ar}{o:HO}:upd H a o a=some o:=by unfold upd;rw[if_pos rfl]
def aL{H:Hp}{a b:ar}{o:HO}(h:b≠a):upd H a o b=H b:=by unfold upd;rw[if_neg h]
def EA{H:Hp}{a:ar}{o u:HO}:upd (upd H a o) a u=upd H a u:=by
 funext b;unfold upd;split<;>rfl
def RF{H:Hp}{a b:ar}{o u:HO}(h:H a=some o)(h':H b=some u)(d:o≠u):a≠b:=by
 intro e;subst e;rw[h] at h';exact d (Option.some.inj h')
def aC{H:Hp}{a b:ar}{o:HO}(h:H a=some o)(h':H b=none):a≠b:=by
 intro e;subst e;rw[h] at h';cases h'
def mh(h:Heap)(a:ar)(items:Array ae):Prop:=∃o,h.get? a=some o/\(o.cls=.type "tuple"/\o.dict=none)/\∃n,o.data=.seq items n
def mh.tup{h:Heap}{a:ar}{items:Array ae}(x:mh h a items):IsTup h a items:=let⟨o,e,c,n⟩:=x;⟨o,e,c.1,n⟩
def mh.lt{h:Heap}{a:ar}{items:Array ae}(x:mh h a items):a<h.objs.size:=let⟨_,e,_⟩:=x;aI e
def mh.new(h:Heap)(items:Array ae):mh (h.push {cls:=.type "tuple",data:=.seq items}) h.objs.size items:=⟨_,aO _ rfl,⟨rfl,rfl⟩,_,rfl⟩
section
variable(P:aZ)(w:bK)
def fk(H:Hp)(h:Heap)(a:ar):HO->Prop
 |.lst xs=>xs.length<=av/\∃(its:List ae) (n:Nat),c9 xs its/\h.get? a=some {cls:=.type "list",data:=.seq its.toArray n}
 |.tup xs=>xs.length<=av/\∃its:List ae,c9 xs its/\mh h a its.toArray
 |.dK kvs=>kvs.length<=av/\(a==iC)=false/\∃vs,KV kvs vs/\h.DictOf (fJ P w) a vs
 |.dT kvs=>kvs.length<=av/\(a==iC)=false/\∃xs:List (List iy×ar×ae),
   Paired (λ(p:List iy×V) (q:List iy×ar×ae)=>p.1=q.1/\H q.2.1=some (.tup (p.1.map kV))/\d5 p.2 q.2.2) kvs xs/\
   ∃o es ep,h.get? a=some o/\o.ExactDict/\o.data=.dict es ep/\es.toList=xs.map (entryOfKey (rW (fJ P w)))/\(xs.map (·.1)).Nodup
 |.set S n=>h.SetOf (intKind P w) a S n
 |.ins C dx fs=>H dx=some (.own a)/\fs.length<=1000/\dx≠a/\h.get? a=some (PySem.W.instObj C dx)/\
   ∃mA,h.Ns1 dx mA/\(∀f,sD (fs.lookup f) (mA f))/\PySem.Within mA (fs.map (·.1))
 |.own _=>∃o,h.get? a=some o
 |.xd fs=>∃mA,h.Ns1 a mA/\∀f,sD (fs.lookup f) (mA f)
 |.rng lo hi=>∃t u v,h.get? a=some {cls:=.type "range",data:=.fields #[.int lo t,.int hi u,.int 1 v]}
 |.frz o u=>h.get? a=some o/\fk H h a u
 |.tbl ps=>h.get? a=some {cls:=.none,data:=.fields ps}
 |.met f x=>h.get? a=some (mV (.ref f) (.ref x))
 |.ext φ=>φ h/\(∃o,h.get? a=some o)/\∀h1 h2:Heap,φ h1->(∀o,h1.get? a=some o->h2.get? a=some o)->φ h2
def qI(H:Hp)(h:Heap):Prop:=∀a o,H a=some o->fk P w H h a o
end
section
variable{P:aZ}{w:bK}{H H':Hp}{h h':Heap}{a:ar}{o:HO}
def fk.lt(x:fk P w H h a o):a<h.objs.size:=by
 cases o with
 |lst xs=>obtain⟨_,_,_,_,e⟩:=x;exact aI e
 |tup xs=>obtain⟨_,_,_,p⟩:=x;exact p.lt
 |dK kvs=>obtain⟨_,_,_,_,o,_,_,e,_⟩:=x;exact aI e
 |dT kvs=>obtain⟨_,_,_,_,o,_,_,e,_⟩:=x;exact aI e
 |set S n=>obtain⟨o,_,_,_,e,_⟩:=x;exact aI e
 |ins C dx fs=>obtain⟨_,_,_,e,_⟩:=x;exact aI e
 |own y=>obtain⟨_,e⟩:=x;exact aI e
 |xd fs=>obtain⟨_,⟨_,_,_,e,_⟩,_⟩:=x;exact aI e
 |rng lo hi=>obtain⟨_,_,_,e⟩:=x;exact aI e
 |frz ob u=>obtain⟨e,_⟩:=x;exact aI e
 |tbl ps=>exact aI (show h.get? a=some _ from x)
 |met f y=>exact aI (show h.get? a=some _ from x)
 |ext φ=>obtain⟨_,⟨_,e⟩,_⟩:=x;exact aI e
def Paired.mapP{α β:Type}{F G:α->β->Prop}:∀{l₁:List α} {l₂:List β},Paired F l₁ l₂->(∀a b,F a b->G a b)->Paired G l₁ l₂
 |_,_,.nil,_=>.nil
 |_,_,.cons r t,f=>.cons (f _ _ r) (Paired.mapP t f)
def fk.stay(x:fk P w H h a o)(k:∀b u,(b=a\/H b=some (.own a))->h.get? b=some u->h'.get? b=some u)
  (ho:∀b,H b=some (.own a)->H' b=some (.own a)) (ht:∀b xs,H b=some (.tup xs)->H' b=some (.tup xs)):fk P w H' h' a o:=by
 induction o with
 |lst xs=>obtain⟨z,its,n,r,e⟩:=x;exact⟨z,its,n,r,k _ _ (.inl rfl) e⟩
 |tup xs=>obtain⟨z,its,r,ob,e,c⟩:=x;exact⟨z,its,r,ob,k _ _ (.inl rfl) e,c⟩
 |dK kvs=>obtain⟨z,y,vs,r,ob,es,ep,e,c⟩:=x;exact⟨z,y,vs,r,ob,es,ep,k _ _ (.inl rfl) e,c⟩
 |dT kvs=>
  obtain⟨z,y,xs,r,ob,es,ep,e,c⟩:=x;exact⟨z,y,xs,Paired.mapP r λp q z=>⟨z.1,ht _ _ z.2.1,z.2.2⟩,ob,es,ep,k _ _ (.inl rfl) e,c⟩
 |set S n=>obtain⟨ob,es,ep,t,e,c⟩:=x;exact⟨ob,es,ep,t,k _ _ (.inl rfl) e,c⟩
 |ins C dx fs=>
  obtain⟨d,z,ne,e,mA,⟨od,es,ep,e2,c⟩,r⟩:=x;exact⟨ho _ d,z,ne,k _ _ (.inl rfl) e,mA,⟨od,es,ep,k _ _ (.inr d) e2,c⟩,r⟩
 |own y=>obtain⟨ob,e⟩:=x;exact⟨ob,k _ _ (.inl rfl) e⟩
 |xd fs=>obtain⟨mA,⟨od,es,ep,e,c⟩,r⟩:=x;exact⟨mA,⟨od,es,ep,k _ _ (.inl rfl) e,c⟩,r⟩
 |rng lo hi=>obtain⟨t,u,v,e⟩:=x;exact⟨t,u,v,k _ _ (.inl rfl) e⟩
 |frz ob u ih=>obtain⟨e,q⟩:=x;exact⟨k _ _ (.inl rfl) e,ih q⟩
 |tbl ps=>
  have e:h.get? a=some {cls:=.none,data:=.fields ps}:=x;show h'.get? a=some {cls:=.none,data:=.fields ps};exact k a _ (.inl rfl) e
 |met f y=>
  have e:h.get? a=some (mV (.ref f) (.ref y)):=x;show h'.get? a=some (mV (.ref f) (.ref y));exact k a _ (.inl rfl) e
 |ext φ=>obtain⟨p,⟨o,e⟩,st⟩:=x;exact⟨st _ _ p λo q=>k _ _ (.inl rfl) q,⟨o,k _ _ (.inl rfl) e⟩,st⟩
def qI.lt(x:qI P w H h)(e:H a=some o):a<h.objs.size:=(x a o e).lt
def qI.fresh(x:qI P w H h)(e:h.objs.size<=a):H a=none:=by
 cases q:H a with
 |none=>rfl
 |some u=>exact absurd (bo (x.lt q) e) (cW _)
def qI.kept(x:qI P w H h)(k:∀b u,h.get? b=some u->h'.get? b=some u):qI P w H h':=λa o e=>
 (x a o e).stay (λb u _ q=>k b u q) (λ_ q=>q) λ_ _ q=>q
def qI.laid(x:qI P w H h)(k:∀b u,h.get? b=some u->h'.get? b=some u)(hp:h.objs.size<=a)(new:fk P w (upd H a o) h' a o):qI P w (upd H a o) h':=λb u e=>by
 have hn:=x.fresh hp;by_cases hb:b=a
 ·subst hb;rw[ag] at e;cases e;exact new
 ·rw[aL hb] at e;exact(x b u e).stay (λc v _ q=>k c v q) (λc q=>by rw[aL (aC q hn)];exact q) λc xs q=>by rw[aL (aC q hn)];exact q
end
def Rd(H:Hp)(a:ar)(u:HO):Prop:=H a=some u\/∃o,H a=some (.frz o u)
def Rd.ok{P:aZ}{w:bK}{H:Hp}{h:Heap}{a:ar}{u:HO}(r:Rd H a u)(x:qI P w H h):fk P w H h a u:=by
 rcases r with r|⟨o,r⟩
 ·exact x a u r
 ·obtain⟨_,q⟩:=x a _ r;exact q
def Ux:Option HO->Prop
 |some (.lst _)=>True
 |some (.dK _)=>True
 |some (.dT _)=>True
 |some (.set _ _)=>True
 |some (.ins _ _ _)=>True
 |some (.ext _)=>True
 |_=>False
section
variable{P:aZ}{w:bK}{H:Hp}{h h':Heap}{x e:ar}{o':HO}
def qI.write(ok:qI P w H h)(mu:Ux (H x))(he:e=x\/H e=some (.own x))(k:∀b u,b≠e->h.get? b=some u->h'.get? b=some u)(heo:∃u,h'.get? e=some u)
  (new:fk P w (upd H x o') h' x o'):qI P w (upd H x o') h':=λb u q=>by
 have nown:∀c y,H c=some (.own y)->c≠x:=λc y r z=>by subst z;rw[r] at mu;exact mu
 have ntup:∀c xs,H c=some (.tup xs)->c≠x:=λc xs r z=>by subst z;rw[r] at mu;exact mu
 by_cases hb:b=x
 ·subst hb;rw[ag] at q;cases q;exact new
 ·rw[aL hb] at q;by_cases hbe:b=e
  ·have q':H b=some (.own x):=by
    rcases he with z|z
    ·exact absurd (hbe.trans z) hb
    ·rw[hbe];exact z
   rw[q] at q';cases q';obtain⟨v,hv⟩:=heo;exact⟨v,by rw[hbe];exact hv⟩
  ·refine(ok b u q).stay (λc v hc r=>k c v ?_ r) (λc r=>by rw[aL (nown c b r)];exact r) λc xs r=>by rw[aL (ntup c xs r)];exact r
   rcases hc with rfl|hc
   ·exact hbe
   ·rintro rfl;rcases he with z|z
    ·exact nown c b hc z
    ·rw[hc] at z;cases z;exact hb rfl
end
structure Un(fs ex:List ar)(H H':Hp)(h h':Heap):Prop where
 keep:∀b o,h.get? b=some o->H b=none->b∉fs->b∉ex->h'.get? b=some o
 slot:∀b o,h.get? b=some o->H b=none->b∈fs->b∉ex->∃sl,h'.get? b=some {o with slots:=sl}
 free:∀b o,h.get? b=some o->H b=none->b∉ex->H' b=none
 there:∀b o,h.get? b=some o->b∉ex->∃o',h'.get? b=some o'
 tups:∀b xs,H b=some (.tup xs)->H' b=some (.tup xs)
 frzs:∀b o u,H b=some (.frz o u)->H' b=some (.frz o u)
 tbls:∀b ps,H b=some (.tbl ps)->∃more,H' b=some (.tbl (ps++more))
section
variable{fs fs' ex ex':List ar}{H H1 H2:Hp}{h h1 h2 h':Heap}{a x e:ar}{o:HO}
def Un.any(u:Un fs ex H H1 h h1){b:ar}{ob:Obj}(q:h.get? b=some ob)(n:H b=none)(hx:b∉ex):∃sl,h1.get? b=some {ob with slots:=sl}:=by
 by_cases hb:b∈fs
 ·exact u.slot b ob q n hb hx
 ·exact⟨ob.slots,u.keep b ob q n hb hx⟩
def Un.kept(k:∀b u,h.get? b=some u->h'.get? b=some u):Un fs ex H H h h':=
 ⟨λb ob q _ _ _=>k b ob q,λb ob q _ _ _=>⟨ob.slots,k b ob q⟩,λ_ _ _ n _=>n,λb ob q _=>⟨ob,k b ob q⟩,λ_ _ q=>q,λ_ _ _ q=>q,λ_ ps q=>⟨#[],by rw[q];simp⟩⟩
def Un.refl:Un fs ex H H h h:=Un.kept λ_ _ q=>q
def Un.laid(k:∀b u,h.get? b=some u->h'.get? b=some u)(hp:h.objs.size<=a)(hn:H a=none):Un fs ex H (upd H a o) h h' where
 keep:=λb u q _ _ _=>k b u q
 slot:=λb u q _ _ _=>⟨u.slots,k b u q⟩
 free:=λb u q n _=>by rw[aL (a9 (bo (aI q) hp))];exact n
 there:=λb u q _=>⟨u,k b u q⟩
 tups:=λb xs q=>by rw[aL (aC q hn)];exact q
 frzs:=λb u xs q=>by rw[aL (aC q hn)];exact q
 tbls:=λb ps q=>⟨#[],by rw[aL (aC q hn),q];simp⟩
def Un.write(mu:Ux (H x))(he:e=x\/H e=some (.own x))(k:∀b u,b≠e->h.get? b=some u->h'.get? b=some u)(heo:∃u,h'.get? e=some u):Un fs ex H (upd H x o) h h':=by
 have hx:∀b,H b=none->b≠x:=λb n z=>by subst z;rw[n] at mu;exact mu
 have hb:∀b,H b=none->b≠e:=λb n z=>by
  subst z;rcases he with r|r
  ·exact hx b n r
  ·rw[n] at r;cases r
 have hm:∀b u,H b=some u->¬Ux (some u)->b≠x:=λb u q nm z=>by subst z;rw[q] at mu;exact nm mu
 refine⟨λb u q n _ _=>k b u (hb b n) q,λb u q n _ _=>⟨u.slots,k b u (hb b n) q⟩,λb u q n _=>by rw[aL (hx b n)];exact n,λb u q _=>?_,
  λb xs q=>by rw[aL (hm b _ q λz=>z)];exact q,λb u xs q=>by rw[aL (hm b _ q λz=>z)];exact q,λb ps q=>⟨#[],by rw[aL (hm b _ q λz=>z),q];simp⟩⟩
 by_cases hbe:b=e
 ·subst hbe;exact heo
 ·exact⟨u,k b u hbe q⟩
def Un.mono(u:Un fs ex H H1 h h1)(hs:∀b∈fs,b∈fs')(hx:∀b∈ex,b∈ex'):Un fs' ex' H H1 h h1:=
 ⟨λb ob q n hb he=>u.keep b ob q n (λz=>hb (hs b z)) λz=>he (hx b z),λ_ _ q n _ he=>u.any q n λz=>he (hx _ z),λb ob q n he=>u.free b ob q n λz=>he (hx b z),λb ob q he=>u.there b ob q λz=>he (hx b z),u.tups,u.frzs,u.tbls⟩
end
def Vt(h:Heap)(H:Hp):List ar:=(cX h.objs.size).filter λa=>(H a).isSome
def DX(h:Heap)(H:Hp):Heap:=PySem.W.hideAll h (Vt h H)
def Ky(h:Heap)(H:Hp):(DX h H).objs.size=h.objs.size:=PySem.W.hideAll_size _ _
def MU{h:Heap}{H:Hp}{b:ar}{o:Obj}(e:h.get? b=some o)(n:H b=none):(DX h H).get? b=some o:=
 PySem.W.hideAll_get _ e λhm=>by
  have q:(H b).isSome=true:=(gZ.mp hm).2;rw[n] at q;simp at q
def Qa{h:Heap}{H:Hp}{b:ar}{o:Obj}(e:(DX h H).get? b=some o):h.get? b=some o/\H b=none:=by
 have e':h.get? b=some o:=PySem.W.of_hideAll (Vt h H) e;refine⟨e',?_⟩;cases q:H b with
 |none=>rfl
 |some x=>
  have hm:b∈Vt h H:=gZ.mpr ⟨ef.mpr (aI e'),by simp[q]⟩;have z:(DX h H).get? b=none:=PySem.W.hideAll_none (Vt h H) hm;rw[z] at e;cases e
structure Mod(K:Fg)(mg:Str->Option ae)(base:Heap):Prop where
 kin:K.In base
 glob:base.Ns bg mg
 blt:∃mb,base.Ns builtinsNs mb/\∀x:Str,x≠"__name__"->mb x=fE x
 nolimit:base.NoLimit
structure Cx where
 prog:aZ
 w:bK
 K:Fg
 mg:Str->Option ae
 base:Heap
 A:bu
 N:List Str
 s₀:aq
 H₀:Hp
 env:Env
 outer:List Env
 stack:List Env
 ex:List ar
 fn:Str->Bool
 calm:Bool
 pn:List (ar×Obj)
 xe:ae->aq->Prop
def EF(l:List Env):List ar:=l.filterMap (·.frame)
abbrev Cx.fs(X:Cx):List ar:=EF X.outer
def Vp(sc:Scope)(x:Str):Prop:=sc.names.lookup x=some .local\/sc.names.lookup x=some .cell\/sc.names.lookup x=some .free
def L7(sc:Scope)(x:Str):Prop:=sc.names.lookup x=some .local\/sc.names.lookup x=some .cell
def Vu(env:Env)(h:Heap)(m:Str->Option ae)(x:Str)(u:ae):Prop:=
 (env.kindOf x=some .local/\m x=some u)\/((env.kindOf x=some .cell\/env.kindOf x=some .free)/\∃c,env.cells.lookup x=some c/\h.IsCell c (some u))
structure Cx.Ok(X:Cx):Prop where
 mod:Mod X.K X.mg X.base
 kind:X.env.scope.kind=.function
 glob:X.env.globals=bg
 blt:X.env.builtins=builtinsNs
 above:X.s₀.heap.objs.size<=X.env.locals
 inj:∀x y c,X.env.cells.lookup x=some c->X.env.cells.lookup y=some c->x=y
 has:∀x,(X.env.kindOf x=some .cell\/X.env.kindOf x=some .free)->∃c,X.env.cells.lookup x=some c
 cab:∀x c,X.fn x=true->X.env.cells.lookup x=some c->X.s₀.heap.objs.size<=c
 hd:X.calm=true->X.A.handled=none
 frames:X.A.frames=some X.stack
 stk:X.stack=X.outer\/(X.stack=X.env::X.outer/\X.env.frame=some X.env.locals)
 exf:∀b∈X.ex,b≠X.env.locals/\∀x c,X.env.cells.lookup x=some c->c≠b
 bs:∀b o,X.base.get? b=some o->X.s₀.heap.get? b=some o/\X.H₀ b=none
 bsz:X.base.objs.size<=X.s₀.heap.objs.size
 noex:∀b o,X.base.get? b=some o->b∉X.ex
 exfs:∀b∈X.ex,b∉X.fs
 funs:X.s₀.heap.FunFrames X.base X.outer
 frf:∀b∈X.fs,X.H₀ b=none
structure bZ(X:Cx)(pins:List (ar×Obj))(σ:List (Option V))(H:Hp)(s:aq):Prop where
 ok:X.Ok
 os:s.os=X.s₀.os
 bare:lM s.gens
 base:Un X.fs X.ex X.H₀ H X.s₀.heap s.heap
 loc:∃m,s.heap.Ns X.env.locals m/\∀(i:Nat) (x:Str) (v:V),X.N[i]?=some x->σ[i]?=some (some v)->Vp X.env.scope x->∃u,d5 v u/\Vu X.env s.heap m x u
 cell:∀x c,X.env.cells.lookup x=some c->∃v,s.heap.IsCell c v
 free:H X.env.locals=none
 freeC:∀x c,X.env.cells.lookup x=some c->H c=none
 pin:∀p∈X.pn++pins,s.heap.get? p.1=some p.2/\H p.1=none/\p.1≠X.env.locals/\p.1∉X.fs/\∀v,p.2.data≠.cell v
 hok:qI X.prog X.w H s.heap
 len:σ.length=X.N.length
section
variable{X:Cx}{pins:List (ar×Obj)}{σ:List (Option V)}{H H':Hp}{s:aq}{h':Heap}
def Cx.Ok.nofr(ok:X.Ok){b:ar}{o:Obj}(e:X.base.get? b=some o):b∉X.fs:=λhb=>by
 have:=(ok.funs.mem hb).1;rw[e] at this;cases this
def bZ.bs(I:bZ X pins σ H s):∀b o,X.base.get? b=some o->s.heap.get? b=some o/\H b=none:=λb o e=>
 ⟨I.base.keep b o (I.ok.bs b o e).1 (I.ok.bs b o e).2 (I.ok.nofr e) (I.ok.noex b o e),I.base.free b o (I.ok.bs b o e).1 (I.ok.bs b o e).2 (I.ok.noex b o e)⟩
def bZ.bk(I:bZ X pins σ H s):∀b o,X.base.get? b=some o->s.heap.get? b=some o:=λb o e=>(I.bs b o e).1
def bZ.mod(I:bZ X pins σ H s):Mod X.K X.mg X.base:=I.ok.mod
def bZ.kIn(I:bZ X pins σ H s):X.K.In s.heap:=I.ok.mod.kin.keeps I.bk
def bZ.lt(I:bZ X pins σ H s):X.env.locals<s.heap.objs.size:=let⟨_,hn,_⟩:=I.loc;hn.lt
def bZ.sz(I:bZ X pins σ H s):X.s₀.heap.objs.size<=s.heap.objs.size:=cT I.ok.above (di I.lt)
def bZ.nofs(I:bZ X pins σ H s){a:ar}(h:s.heap.objs.size<=a):a∉X.fs:=λhb=>by
 obtain⟨_,o,ho,_⟩:=I.ok.funs.mem hb;exact absurd (bo (aI ho) (cT I.sz h)) (cW _)
def bZ.cne(I:bZ X pins σ H s):∀x c,X.env.cells.lookup x=some c->c≠X.env.locals:=λx c e z=>by
 obtain⟨v,o,ho,hd⟩:=I.cell x c e;obtain⟨m,⟨o',es,ep,ho',hd',_⟩,_⟩:=I.loc;rw[z,ho'] at ho;cases ho;rw[hd'] at hd;cases hd
def bZ.funs(I:bZ X pins σ H s):s.heap.FunFrames X.base X.outer:=by
 have all:∀(l:List Env),(∀b∈EF l,b∈X.fs)->X.s₀.heap.FunFrames X.base l->s.heap.FunFrames X.base l:=by
  intro l
  induction l with
  |nil=>intro _ _;trivial
  |cons env r ih=>
   intro hs hl;obtain⟨hk,⟨L,o,hf,hn,ho,hd⟩,hr⟩:=hl;have hL:L∈X.fs:=hs L (by unfold EF;rw[dE,hf];exact bT);obtain⟨sl,e⟩:=I.base.slot L o ho (I.ok.frf L hL) hL λz=>I.ok.exfs L z hL;exact⟨hk,⟨L,_,hf,hn,e,hd⟩,ih (λb hb=>hs b (by unfold EF;rw[dE,hf];exact bx _ hb)) hr⟩
 exact all X.outer (λ_ hb=>hb) I.ok.funs
def bZ.stack(I:bZ X pins σ H s):s.heap.FunFrames X.base X.stack:=by
 rcases I.ok.stk with e|⟨e,hf⟩
 ·rw[e];exact I.funs
 ·rw[e];obtain⟨m,hn,_⟩:=I.loc;refine .cons (by rw[I.ok.kind];decide) hf hn ?_ I.funs;exact Heap.get?_none_of_le (cT I.ok.bsz I.ok.above)
def bZ.stkSub(I:bZ X pins σ H s):∀b∈EF X.stack,b∈X.env.locals::X.fs:=λb hb=>by
 rcases I.ok.stk with e|⟨e,hf⟩
 ·rw[e] at hb;exact bx _ hb
 ·rw[e] at hb;unfold EF at hb;rw[dE,hf] at hb;exact hb
def bZ.stkFree(I:bZ X pins σ H s):∀b∈EF X.stack,H b=none:=λb hb=>by
 rcases aE.mp (I.stkSub b hb) with e|hb
 ·rw[e];exact I.free
 ·obtain⟨_,o,ho,_⟩:=I.ok.funs.mem hb;exact I.base.free b o ho (I.ok.frf b hb) λz=>I.ok.exfs b z hb
def bZ.step{g':Array qK}{t':Nat}{d':Drawn}{ch:List ar}(I:bZ X pins σ H s)
  (hch:∀b∈ch,(b∈X.ex\/X.s₀.heap.objs.size<=b)/\b≠X.env.locals/\(∀x c,X.env.cells.lookup x=some c->c≠b)/\∀p∈X.pn++pins,p.1≠b)
  (keep:∀b o,b≠X.env.locals->b∉X.fs->b∉ch->s.heap.get? b=some o->H b=none->h'.get? b=some o)
  (slot:∀b o,b≠X.env.locals->b∈X.fs->b∉ch->s.heap.get? b=some o->H b=none->∃sl,h'.get? b=some {o with slots:=sl}) (free:∀b o,b∉ch->s.heap.get? b=some o->H b=none->H' b=none)
  (there:∀b o,b∉ch->s.heap.get? b=some o->∃o',h'.get? b=some o')
  (tups:∀b xs,H b=some (.tup xs)->H' b=some (.tup xs)) (frzs:∀b o u,H b=some (.frz o u)->H' b=some (.frz o u)) (tbls:∀b ps,H b=some (.tbl ps)->∃more,H' b=some (.tbl (ps++more)))
  (ns:∀m,s.heap.Ns X.env.locals m->h'.Ns X.env.locals m) (hok:qI X.prog X.w H' h') (hg:lM g') :
  bZ X pins σ H' {s with heap:=h',gens:=g',drawn:=d',toks:=t'}:=by
 have neL:∀b o,X.s₀.heap.get? b=some o->b≠X.env.locals:=λb o e=>a9 (bo (aI e) I.ok.above);have neC:∀b o,X.s₀.heap.get? b=some o->b∉X.ex->b∉ch:=λb o e hx hb=>by
  rcases(hch b hb).1 with z|z
  ·exact hx z
  ·exact absurd (bo (aI e) z) (cW _)
 have cellK:∀x c,X.env.cells.lookup x=some c->∀v,s.heap.IsCell c v->h'.IsCell c v:=λx c e v ⟨o,ho,hd⟩=>by
  have nch:c∉ch:=λz=>(hch c z).2.2.1 x c e rfl;by_cases hc:c∈X.fs
  ·obtain⟨sl,q⟩:=slot c o (I.cne x c e) hc nch ho (I.freeC x c e);exact⟨_,q,hd⟩
  ·exact⟨o,keep c o (I.cne x c e) hc nch ho (I.freeC x c e),hd⟩
 refine⟨I.ok,I.os,hg,⟨λb o e n hb hx=>?_,λb o e n hb hx=>?_,λb o e n hx=>?_,λb o e hx=>?_,λb xs e=>tups b xs (I.base.tups b xs e),λb o xs e=>frzs b o xs (I.base.frzs b o xs e),λb ps e=>?_⟩,?_,λx c e=>?_,?_,λx c e=>?_,λp hp=>?_,hok,I.len⟩
 ·exact keep b o (neL b o e) hb (neC b o e hx) (I.base.keep b o e n hb hx) (I.base.free b o e n hx)
 ·obtain⟨sl,e1⟩:=I.base.slot b o e n hb hx;obtain⟨sl',e2⟩:=slot b _ (neL b o e) hb (neC b o e hx) e1 (I.base.free b o e n hx);exact⟨sl',e2⟩
 ·obtain⟨o',e1⟩:=I.base.there b o e hx;exact free b o' (neC b o e hx) e1 (I.base.free b o e n hx)
 ·obtain⟨o',e1⟩:=I.base.there b o e hx;exact there b o' (neC b o e hx) e1
 ·obtain⟨m1,e1⟩:=I.base.tbls b ps e;obtain⟨m2,e2⟩:=tbls b _ e1;exact⟨m1++m2,by rw[e2,Array.append_assoc]⟩
 ·obtain⟨m,hn,hl⟩:=I.loc;refine⟨m,ns m hn,λi x v e1 e2 e3=>?_⟩;obtain⟨u,r,l⟩:=hl i x v e1 e2 e3;refine⟨u,r,?_⟩;rcases l with l|⟨k,c,e,z⟩
  ·exact .inl l
  ·exact .inr ⟨k,c,e,cellK x c e _ z⟩
 ·obtain⟨v,z⟩:=I.cell x c e;exact⟨v,cellK x c e v z⟩
 ·obtain⟨m,⟨o,_,_,ho,_⟩,_⟩:=I.loc;exact free _ o (λz=>(hch _ z).2.1 rfl) ho I.free
 ·obtain⟨v,o,ho,hd⟩:=I.cell x c e;exact free c o (λz=>(hch c z).2.2.1 x c e rfl) ho (I.freeC x c e)
 ·obtain⟨e,n,ne,nf,d⟩:=I.pin p hp;have nch:p.1∉ch:=λz=>(hch p.1 z).2.2.2 p hp rfl;exact⟨keep p.1 p.2 ne nf nch e n,free p.1 p.2 nch e n,ne,nf,d⟩
def bZ.un{t':Nat}(I:bZ X pins σ H s)(u:Un X.fs [] H H' s.heap h')(hok:qI X.prog X.w H' h'):bZ X pins σ H' {s with heap:=h',toks:=t'}:=by
 obtain⟨m,⟨o,es,ep,ho,r⟩,_⟩:=id I.loc;obtain⟨sl,hL⟩:=u.any ho I.free (by simp);exact I.step (g':=s.gens) (d':=s.drawn) (ch:=[]) (λ_ z=>nomatch z) (λb o _ hb _ e n=>u.keep b o e n hb (by simp)) (λb o _ hb _ e n=>u.slot b o e n hb (by simp)) (λb o _ e n=>u.free b o e n (by simp)) (λb o _ e=>u.there b o e (by simp)) u.tups u.frzs u.tbls (λm' hm=>by
  obtain⟨o',es',ep',ho',r'⟩:=hm;rw[ho] at ho';cases ho';exact⟨_,es',ep',hL,r'⟩) hok I.bare
def bZ.call{g':Array qK}{t':Nat}{d':Drawn}{ch:List ar}(I:bZ X pins σ H s)(u:Un (EF X.stack) ch H H' s.heap h')(hok:qI X.prog X.w H' h')(hg:lM g')
  (hch:∀b∈ch,(b∈X.ex\/X.s₀.heap.objs.size<=b)/\b≠X.env.locals/\(∀x c,X.env.cells.lookup x=some c->c≠b)/\∀p∈X.pn++pins,p.1≠b) :
  bZ X pins σ H' {s with heap:=h',gens:=g',drawn:=d',toks:=t'}:=by
 obtain⟨m,⟨o,es,ep,ho,r⟩,_⟩:=id I.loc;obtain⟨sl,hL⟩:=u.any ho I.free λz=>(hch _ z).2.1 rfl;exact I.step (ch:=ch) hch (λb o hL hb hc e n=>u.keep b o e n (λz=>(aE.mp (I.stkSub b z)).elim hL hb) hc) (λb o _ _ hc e n=>u.any e n hc) (λb o hc e n=>u.free b o e n hc) (λb o hc e=>u.there b o e hc) u.tups u.frzs u.tbls (λm' hm=>by
  obtain⟨o',es',ep',ho',r'⟩:=hm;rw[ho] at ho';cases ho';exact⟨_,es',ep',hL,r'⟩) hok hg
def bZ.turned{t':Nat}{it:ar}(I:bZ X pins σ H s)(k:∀b o,b≠it->s.heap.get? b=some o->h'.get? b=some o)(hn:H it=none)(hL:it≠X.env.locals)
  (h1:it∈X.ex\/X.s₀.heap.objs.size<=it) (h2:∀x c,X.env.cells.lookup x=some c->c≠it) (h3:∀p∈X.pn++pins,p.1≠it):bZ X pins σ H {s with heap:=h',toks:=t'}:=by
 have nit:∀b u,H b=some u->b≠it:=λb u e z=>by rw[z,hn] at e;cases e
 refine I.step (g':=s.gens) (d':=s.drawn) (ch:=[it]) (λb hb=>?_) (λb o _ _ hc e _=>k b o (λz=>hc (by simp[z])) e) (λb o _ _ hc e _=>⟨o.slots,k b o (λz=>hc (by simp[z])) e⟩) (λ_ _ _ _ n=>n)
  (λb o hc e=>⟨o,k b o (λz=>hc (by simp[z])) e⟩) (λ_ _ e=>e) (λ_ _ _ e=>e) (λb ps e=>⟨#[],by rw[e];simp⟩) (λm hm=>?_) (λb u e=>?_) I.bare
 ·have e:b=it:=by simpa using hb
  subst e;exact⟨h1,hL,h2,h3⟩
 ·obtain⟨o,es,ep,ho,r⟩:=hm;exact⟨o,es,ep,k _ o (Ne.symm hL) ho,r⟩
 ·refine(I.hok b u e).stay (λc v hc q=>k c v ?_ q) (λ_ q=>q) λ_ _ q=>q;rcases hc with z|z
  ·rw[z];exact nit b u e
  ·exact nit c _ z
def bZ.tok(I:bZ X pins σ H s)(t:Nat):bZ X pins σ H {s with toks:=t}:=I.un (h':=s.heap) (t':=t) Un.refl I.hok
def bZ.kept{t':Nat}(I:bZ X pins σ H s)(k:∀b u,s.heap.get? b=some u->h'.get? b=some u):bZ X pins σ H {s with heap:=h',toks:=t'}:=I.un (Un.kept k) (I.hok.kept k)
def bZ.laid{a:ar}{o:HO}{t':Nat}(I:bZ X pins σ H s)(k:∀b u,s.heap.get? b=some u->h'.get? b=some u)(hp:s.heap.objs.size<=a)(new:fk X.prog X.w (upd H a o) h' a o) :
  bZ X pins σ (upd H a o) {s with heap:=h',toks:=t'}:=I.un (Un.laid k hp (I.hok.fresh hp)) (I.hok.laid k hp new)
def bZ.write{x e:ar}{o:HO}{t':Nat}(I:bZ X pins σ H s)(mu:Ux (H x))(he:e=x\/H e=some (.own x))(k:∀b u,b≠e->s.heap.get? b=some u->h'.get? b=some u)(heo:∃u,h'.get? e=some u)
  (new:fk X.prog X.w (upd H x o) h' x o):bZ X pins σ (upd H x o) {s with heap:=h',toks:=t'}:=I.un (Un.write mu he k heo) (I.hok.write mu he k heo new)
def bZ.weak{σ':List (Option V)}(I:bZ X pins σ H s)(hl:σ'.length=σ.length)(w:∀(i:Nat) v,σ'[i]?=some (some v)->σ[i]?=some (some v)):bZ X pins σ' H s:=
 ⟨I.ok,I.os,I.bare,I.base,let⟨m,hn,hl'⟩:=I.loc;⟨m,hn,λi x v e1 e2 e3=>hl' i x v e1 (w i v e2) e3⟩,I.cell,I.free,I.freeC,I.pin,I.hok,hl.trans I.len⟩
def bZ.pins_of{pins':List (ar×Obj)}(I:bZ X pins σ H s)(h:∀p∈pins',s.heap.get? p.1=some p.2/\H p.1=none/\p.1≠X.env.locals/\p.1∉X.fs/\∀v,p.2.data≠.cell v):bZ X pins' σ H s:=
 ⟨I.ok,I.os,I.bare,I.base,I.loc,I.cell,I.free,I.freeC,λp hp=>(aV.mp hp).elim (λz=>I.pin p (bX _ z)) (h p),I.hok,I.len⟩
def zP{N:List Str}(hN:N.Nodup){i j:Nat}{x:Str}(a:N[i]?=some x)(b:N[j]?=some x):i=j:=by
 obtain⟨h1,e1⟩:=aj.mp a;obtain⟨h2,e2⟩:=aj.mp b;exact(List.getElem_inj hN).mp (e1.trans e2.symm)
def CO{M:Model}{A:bu}{E:Zi}{i:Nat}{x:Str}{v:V}{u:ae}{Q:Unit->aq->Prop}(I:bZ X pins σ H s)(hN:X.N.Nodup)(hi:X.N[i]?=some x)(hx:L7 X.env.scope x)(r:d5 v u)
  (h:∀s',bZ X pins (σ.set i (some v)) H s'->(∃a,Heap.SameBut a s.heap s'.heap/\(a=X.env.locals\/X.env.cells.lookup x=some a))->Q () s') (hf:X.fn x=true\/X.env.scope.names.lookup x=some .local:=by first|exact .inl rfl|exact .inr rfl|assumption):aM M A (storeName X.env x u) Q E s:=by
 obtain⟨m,hn,hl⟩:=id I.loc;have hcls:(X.env.scope.kind==.class || (X.env.scope.kind==.module&&X.env.locals != X.env.globals))=false:=by rw[I.ok.kind];rfl
 have hiσ:i<σ.length:=by rw[I.len];exact(aj.mp hi).1
 have cne:=I.cne;have tracked:∀{a:ar} {h':Heap},(∃o,s.heap.get? a=some o/\H a=none)->Heap.SameBut a s.heap h'->qI X.prog X.w H h':=λ{a h'} ha hs b ob e=>by
  obtain⟨_,_,hfree⟩:=ha;refine(I.hok b ob e).stay (λc w' hc q=>(hs.2 c ?_).trans q) (λ_ q=>q) λ_ _ q=>q;rintro rfl;rcases hc with rfl|hc
  ·rw[hfree] at e;cases e
  ·rw[hfree] at hc;cases hc
 rcases hx with hk|hk
 ·refine wpAny_storeName_local hk hn (λh' hn' hs=>?_) hcls;obtain⟨oL,_,_,hoL,_⟩:=id hn;refine h _ ⟨I.ok,I.os,I.bare,⟨λb o e n hb hx=>?_,λb o e n hb hx=>?_,I.base.free,λb o e hx=>?_,I.base.tups,I.base.frzs,I.base.tbls⟩,⟨_,hn',λj y v' e1 e2 e3=>?_⟩,λy c e=>?_,I.free,I.freeC,λp hp=>?_,tracked ⟨oL,hoL,I.free⟩ hs,by simpa using I.len⟩ ⟨_,hs,.inl rfl⟩
  ·exact(hs.2 b (a9 (bo (aI e) I.ok.above))).trans (I.base.keep b o e n hb hx)
  ·obtain⟨sl,e1⟩:=I.base.slot b o e n hb hx;exact⟨sl,(hs.2 b (a9 (bo (aI e) I.ok.above))).trans e1⟩
  ·obtain⟨o',e1⟩:=I.base.there b o e hx;exact⟨o',(hs.2 b (a9 (bo (aI e) I.ok.above))).trans e1⟩
  ·by_cases hj:j=i
   ·subst hj;rw[hi] at e1;cases e1;rw[bJ hiσ] at e2;cases e2;exact⟨u,r,.inl ⟨hk,by simp⟩⟩
   ·rw[b6 (Ne.symm hj)] at e2;obtain⟨u',r',q⟩:=hl j y v' e1 e2 e3;refine⟨u',r',?_⟩;rcases q with⟨k,e⟩|⟨k,c,e,z⟩
    ·refine .inl ⟨k,?_⟩;have:y≠x:=λe=>hj (zP hN e1 (e ▸ hi));simp[this,e]
    ·exact .inr ⟨k,c,e,z.sameBut hs (cne y c e)⟩
  ·obtain⟨w',z⟩:=I.cell y c e;exact⟨w',z.sameBut hs (cne y c e)⟩
  ·obtain⟨e,n,ne,nf,d⟩:=I.pin p hp;exact⟨(hs.2 p.1 ne).trans e,n,ne,nf,d⟩
 ·have hfn:X.fn x=true:=by
   rcases hf with z|z
   ·exact z
   ·rw[z] at hk;cases hk
  obtain⟨c,hc⟩:=I.ok.has x (.inl hk);obtain⟨w',z⟩:=I.cell x c hc;refine wpAny_storeName_cell I.ok.kind hk hc z (λh' hc' hs=>?_);obtain⟨oc,hoc,hocd⟩:=id z;refine h {s with heap:=h'} ⟨I.ok,I.os,I.bare,⟨λb o e n hb hx=>?_,λb o e n hb hx=>?_,I.base.free,λb o e hx=>?_,I.base.tups,I.base.frzs,I.base.tbls⟩,⟨m,hn.sameBut hs (Ne.symm (cne x c hc)),λj y v' e1 e2 e3=>?_⟩,λy c' e=>?_,I.free,I.freeC,λp hp=>?_,tracked ⟨oc,hoc,I.freeC x c hc⟩ hs,by simpa using I.len⟩ ⟨c,hs,.inr hc⟩
  ·exact(hs.2 b (a9 (bo (aI e) (I.ok.cab x c hfn hc)))).trans (I.base.keep b o e n hb hx)
  ·obtain⟨sl,e1⟩:=I.base.slot b o e n hb hx;exact⟨sl,(hs.2 b (a9 (bo (aI e) (I.ok.cab x c hfn hc)))).trans e1⟩
  ·obtain⟨o',e1⟩:=I.base.there b o e hx;exact⟨o',(hs.2 b (a9 (bo (aI e) (I.ok.cab x c hfn hc)))).trans e1⟩
  ·by_cases hj:j=i
   ·subst hj;rw[hi] at e1;cases e1;rw[bJ hiσ] at e2;cases e2;exact⟨u,r,.inr ⟨.inl hk,c,hc,hc'⟩⟩
   ·rw[b6 (Ne.symm hj)] at e2;obtain⟨u',r',q⟩:=hl j y v' e1 e2 e3;refine⟨u',r',?_⟩;rcases q with q|⟨k,c',e,z'⟩
    ·exact .inl q
    ·refine .inr ⟨k,c',e,z'.sameBut hs ?_⟩;rintro rfl;exact hj (zP hN e1 (I.ok.inj _ _ _ e hc ▸ hi))
  ·by_cases hcc:c'=c
   ·subst hcc;exact⟨_,hc'⟩
   ·obtain⟨w2,z2⟩:=I.cell y c' e;exact⟨w2,z2.sameBut hs hcc⟩
  ·obtain⟨e,n,ne,nf,d⟩:=I.pin p hp;refine⟨(hs.2 p.1 ?_).trans e,n,ne,nf,d⟩;intro q;rw[q,hoc] at e;have q':oc=p.2:=Option.some.inj e;exact d w' (by rw[<-q'];exact hocd)
def vm{M:Model}{A:bu}{E:Zi}{i:Nat}{x:Str}{v:V}{u:ae}{Q:Unit->aq->Prop}(I:bZ X pins σ H s)(hN:X.N.Nodup)(hi:X.N[i]?=some x)(hx:L7 X.env.scope x)(r:d5 v u)
  (h:∀s',bZ X pins (σ.set i (some v)) H s'->Q () s') (hf:X.fn x=true\/X.env.scope.names.lookup x=some .local:=by first|exact .inl rfl|exact .inr rfl|assumption):aM M A (storeName X.env x u) Q E s:=
 CO I hN hi hx r (λs' I' _=>h s' I') hf
def bZ.call'{s':aq}{ch:List ar}(I:bZ X pins σ H s)(ho:s'.os=s.os)(u:Un (EF X.stack) ch H H' s.heap s'.heap)(hok:qI X.prog X.w H' s'.heap)(hg:lM s'.gens)
  (hch:∀b∈ch,(b∈X.ex\/X.s₀.heap.objs.size<=b)/\b≠X.env.locals/\(∀x c,X.env.cells.lookup x=some c->c≠b)/\∀p∈X.pn++pins,p.1≠b):bZ X pins σ H' s':=by
 obtain⟨h',g',d',t',o'⟩:=s';have e:o'=s.os:=ho;subst e;exact I.call (g':=g') (t':=t') (d':=d') u hok hg hch
end
abbrev XK:=ae->Option ar->Hp->Prop
abbrev St:=List (Option V)
abbrev VK:=V->Hp->Prop
abbrev TE:=St->Hp->VK->Prop
abbrev TT:=St->Hp->(Bool->Hp->Prop)->Prop
abbrev TA:=St->Hp->(List V->Hp->Prop)->Prop
structure oE where
 nx:St->Hp->Prop
 rt:VK
 bk:St->Hp->Prop:=λ_ _=>False
 ct:St->Hp->Prop:=λ_ _=>False
abbrev TS:=oE->St->Hp->Prop
def EP(X:Cx)(pins:List (ar×Obj))(σ:St)(Q:VK)(u:ae)(s':aq):Prop:=∃v H',bZ X pins σ H' s'/\d5 v u/\Q v H'
def TP(X:Cx)(pins:List (ar×Obj))(σ:St)(Q:Bool->Hp->Prop)(b:Bool)(s':aq):Prop:=∃H',bZ X pins σ H' s'/\Q b H'
def AP(X:Cx)(pins:List (ar×Obj))(σ:St)(Q:List V->Hp->Prop)(us:List ae)(s':aq):Prop:=∃vs H',bZ X pins σ H' s'/\c9 vs us/\Q vs H'
def SP(X:Cx)(pins:List (ar×Obj))(D:oE)(f:Flow)(s':aq):Prop:=
 match f with
 |.next=>∃σ' H',bZ X pins σ' H' s'/\D.nx σ' H'
 |.brk=>∃σ' H',bZ X pins σ' H' s'/\D.bk σ' H'
 |.cont=>∃σ' H',bZ X pins σ' H' s'/\D.ct σ' H'
 |.ret u=>∃v σ' H',bZ X pins σ' H' s'/\d5 v u/\D.rt v H'
def PE(X:Cx)(e:Expr)(t:TE):Prop:=
 ∀(pins:List (ar×Obj)) (s:aq) (σ:St) (H:Hp) (Q:VK),bZ X pins σ H s->t σ H Q->aM (model X.prog X.w) X.A (eval e X.env) (EP X pins σ Q) X.xe s
def PT(X:Cx)(e:Expr)(t:TT):Prop:=
 ∀(pins:List (ar×Obj)) (s:aq) (σ:St) (H:Hp) (Q:Bool->Hp->Prop),bZ X pins σ H s->t σ H Q->aM (model X.prog X.w) X.A (isTrue e X.env (eval e X.env)) (TP X pins σ Q) X.xe s
def PW(X:Cx)(e:Expr)(t:TT):Prop:=
 ∀(whole:Sem ae) (pins:List (ar×Obj)) (s:aq) (σ:St) (H:Hp) (Q:Bool->Hp->Prop),bZ X pins σ H s->t σ H Q->aM (model X.prog X.w) X.A (isTrue e X.env whole) (TP X pins σ Q) X.xe s
def PW.pt{X:Cx}{e:Expr}{t:TT}(h:PW X e t):PT X e t:=h _
def PA(X:Cx)(es:List Expr)(t:TA):Prop:=
 ∀(pos:Pos) (pins:List (ar×Obj)) (s:aq) (σ:St) (H:Hp) (Q:List V->Hp->Prop),bZ X pins σ H s->t σ H Q->aM (model X.prog X.w) X.A (spliced (eW pos (aT es X.env))) (AP X pins σ Q) X.xe s
def PS(X:Cx)(st:Stmt)(t:TS):Prop:=
 ∀(pins:List (ar×Obj)) (s:aq) (σ:St) (H:Hp) (D:oE),bZ X pins σ H s->t D σ H->aM (model X.prog X.w) X.A (exec st X.env) (SP X pins D) X.xe s
def Cb(X:Cx)(st:List Stmt)(t:TS):Prop:=
 ∀(pins:List (ar×Obj)) (s:aq) (σ:St) (H:Hp) (D:oE),bZ X pins σ H s->t D σ H->aM (model X.prog X.w) X.A (execs st X.env) (SP X pins D) X.xe s
def gs{α:Type}{t:Sem α}{Q Q':α->aq->Prop}{M:Model}{A:bu}{E:Zi}{s:aq}(h:aM M A t Q E s)(hQ:∀a s,Q a s->Q' a s):aM M A t Q' E s:=c7 h hQ λ_ _ x=>x
section
variable{X:Cx}
def au(i:Nat):TE:=λσ H Q=>∃v,σ[i]?=some (some v)/\Q v H
def tC(v:V):TE:=λ_ H Q=>Q v H
def Te{i:Nat}{x:Str}{pos:Pos}(hN:X.N[i]?=some x)(hv:Vp X.env.scope x)(hd:(x==("__debug__":Str))=false:=by decide)(hcd:(x==("__classdict__":Str))=false:=by decide):PE X (.Name x pos) (au i):=by
 intro pins s σ H Q I h;obtain⟨v,e,h⟩:=h;obtain⟨m,hn,hl⟩:=I.loc;obtain⟨u,r,l⟩:=hl i x v hN e hv;have fin:EP X pins σ Q u s:=⟨v,H,I,r,h⟩;rcases l with⟨hk,hm⟩|⟨hk,c,hc,hcell⟩
 ·exact wpAny_Name (wpAny_loadName_local I.ok.kind hk hn hm fin) hd
 ·rcases hk with hk|hk
  ·exact wpAny_Name (wpAny_loadName_cell I.ok.kind hk hc hcell fin) hd
  ·exact wpAny_Name (wpAny_loadName_free I.ok.kind hk hc hcell fin hcd) hd
def S0{i j pos}:PE X (.Constant (.int i) j pos) (tC (.int i)):=λ_ _ _ H _ I h=>wpAny_Constant_int ⟨.int i,H,I.tok _,⟨_,rfl⟩,h⟩
def UQ{b j pos}:PE X (.Constant (.bool b) j pos) (tC (.bl b)):=λ_ _ _ H _ I h=>Constant_bool ⟨.bl b,H,I,rfl,h⟩
def NF{j pos}:PE X (.Constant .none j pos) (tC .non):=λ_ _ _ H _ I h=>Constant_none ⟨.non,H,I,rfl,h⟩
def Tc{x j pos}:PE X (.Constant (.str x) j pos) (tC (.str x)):=λ_ _ _ H _ I h=>Calls.Constant_str ⟨.str x,H,I.tok _,⟨_,rfl⟩,h⟩
def Gl(X:Cx)(x:Str):Prop:=X.env.kindOf x=some .globalImplicit
def uY{E:Zi}{pins:List (ar×Obj)}{s:aq}{σ:St}{H:Hp}{x:Str}{u:ae}{pos:Pos}{Q:Zi}(I:bZ X pins σ H s)(hg:Gl X x)(hm:X.mg x=some u)(h:Q u s)
  (hd:(x==("__debug__":Str))=false:=by decide):aM (model X.prog X.w) X.A (eval (.Name x pos) X.env) Q E s:=
 Calls.Name_function_global I.ok.kind hg (Calls.loadGlobal_global (by rw[I.ok.glob];exact I.mod.glob.keeps I.bk) hm h) hd
def lA{E:Zi}{pins:List (ar×Obj)}{s:aq}{σ:St}{H:Hp}{x:Str}{u:ae}{pos:Pos}{Q:Zi}(I:bZ X pins σ H s)(hg:Gl X x)(hm:X.mg x=none)(hv:fE x=some u)(h:Q u s)
  (hn:x≠"__name__":=by decide) (hd:(x==("__debug__":Str))=false:=by decide):aM (model X.prog X.w) X.A (eval (.Name x pos) X.env) Q E s:=by
 obtain⟨mb,h1,h2⟩:=I.mod.blt;exact Calls.Name_function_global I.ok.kind hg (Calls.loadGlobal_builtin (by rw[I.ok.glob];exact I.mod.glob.keeps I.bk) hm (by rw[I.ok.blt];exact h1.keeps I.bk) ((h2 x hn).trans hv) h) hd
def Qg{x:Str}{v:V}{u:ae}{pos:Pos}(hg:Gl X x)(hm:X.mg x=none)(hv:fE x=some u)(r:d5 v u)(hn:x≠"__name__":=by decide)(hd:(x==("__debug__":Str))=false:=by decide):PE X (.Name x pos) (tC v):=
 λ_ _ _ H _ I h=>lA I hg hm hv ⟨v,H,I,r,h⟩ hn hd
variable{a b:Expr}{ta tb:TE}{pos:Pos}
def tB(t:TE):TT:=λσ H Q=>t σ H λx H1=>∃c,x=.bl c/\Q c H1
def Tw{e:Expr}{t:TE}(h:PE X e t)(he:∀whole,isTrue e X.env whole=(do let v <-whole;standAt e.pos;holding [v] (truthy v)):=by intro _;rfl):PT X e (tB t):=by
 intro pins s σ H Q I hw;refine isTrue_plain (gs (h pins s σ H _ I hw) λv s1 ⟨x,H1,I1,r1,q1⟩=>?_) (he _);obtain⟨d,rfl,q⟩:=q1;cases r1;exact fg ⟨H1,I1,q⟩
variable{tA tB':TT}{rest:List Expr}
def jv(t u:TT):TT:=λσ H Q=>t σ H λc H1=>if c=true then u σ H1 Q else Q false H1
def Lr(t u:TT):TT:=λσ H Q=>t σ H λc H1=>if c=true then Q true H1 else u σ H1 Q
def Ep(t:TT):TT:=λσ H Q=>t σ H λc H1=>Q (!c) H1
def QJ(ha:PT X a tA):PW X (.BoolOp .And [a] pos) tA:=by
 intro wh pins s σ H Q I h;refine isTrue_and (gs (ha pins s σ H Q I h) λc s1 e=>?_);cases c with
 |true=>exact isTrue_and_nil e
 |false=>exact e
def Tz(ha:PT X a tA):PW X (.BoolOp .Or [a] pos) tA:=by
 intro wh pins s σ H Q I h;refine isTrue_or (gs (ha pins s σ H Q I h) λc s1 e=>?_);cases c with
 |false=>exact isTrue_or_nil e
 |true=>exact e
def Tx(ha:PT X a tA)(hb:PW X (.BoolOp .And (b::rest) pos) tB'):PW X (.BoolOp .And (a::b::rest) pos) (jv tA tB'):=by
 intro wh pins s σ H Q I h;refine isTrue_and (gs (ha pins s σ H _ I h) λc s1 ⟨H1,I1,q1⟩=>?_);cases c with
 |true=>exact hb wh pins s1 σ H1 Q I1 q1
 |false=>exact⟨H1,I1,q1⟩
def UY(ha:PT X a tA)(hb:PW X (.BoolOp .Or (b::rest) pos) tB'):PW X (.BoolOp .Or (a::b::rest) pos) (Lr tA tB'):=by
 intro wh pins s σ H Q I h;refine isTrue_or (gs (ha pins s σ H _ I h) λc s1 ⟨H1,I1,q1⟩=>?_);cases c with
 |true=>exact⟨H1,I1,q1⟩
 |false=>exact hb wh pins s1 σ H1 Q I1 q1
def Tv(ha:PT X a tA):PT X (.UnaryOp .Not a pos) (Ep tA):=by
 intro pins s σ H Q I h;exact isTrue_not (ha pins s σ H (λc H1=>Q (!c) H1) I h)
def vo(ta tb:TE):TE:=λσ H Q=>ta σ H λx H1=>∃c,x=.bl c/\if c=true then tb σ H1 Q else Q (.bl false) H1
def Uc(ta tb:TE):TE:=λσ H Q=>ta σ H λx H1=>∃c,x=.bl c/\if c=true then Q (.bl true) H1 else tb σ H1 Q
def OA(ta:TE):TE:=λσ H Q=>ta σ H λx H1=>∃c,x=.bl c/\Q (.bl (!c)) H1
def Tb{op}{t:TE}(h:PE X a t):PE X (.BoolOp op [a] pos) t:=λpins s σ H Q I hw=>BoolOp_one (h pins s σ H Q I hw)
def SW(ha:PE X a ta)(hb:PE X (.BoolOp .And (b::rest) pos) tb):PE X (.BoolOp .And (a::b::rest) pos) (vo ta tb):=by
 intro pins s σ H Q I h;refine BoolOp_and (gs (ha pins s σ H _ I h) λv s1 ⟨x,H1,I1,r1,q1⟩=>?_);obtain⟨c,rfl,q1⟩:=q1;cases r1;refine fg ?_;cases c with
 |true=>exact hb pins s1 σ H1 Q I1 q1
 |false=>exact⟨.bl false,H1,I1,rfl,q1⟩
def UV(ha:PE X a ta)(hb:PE X (.BoolOp .Or (b::rest) pos) tb):PE X (.BoolOp .Or (a::b::rest) pos) (Uc ta tb):=by
 intro pins s σ H Q I h;refine BoolOp_or (gs (ha pins s σ H _ I h) λv s1 ⟨x,H1,I1,r1,q1⟩=>?_);obtain⟨c,rfl,q1⟩:=q1;cases r1;refine fg ?_;cases c with
 |false=>exact hb pins s1 σ H1 Q I1 q1
 |true=>exact⟨.bl true,H1,I1,rfl,q1⟩
def Ta(ha:PE X a ta):PE X (.UnaryOp .Not a pos) (OA ta):=by
 intro pins s σ H Q I h;refine UnaryOp_ (gs (ha pins s σ H _ I h) λv s1 ⟨x,H1,I1,r1,q1⟩=>?_);obtain⟨c,rfl,q1⟩:=q1;cases r1;exact not_of (fg ⟨.bl (!c),H1,I1,rfl,q1⟩)
def VO(t:TT)(ta tb:TE):TE:=λσ H Q=>t σ H λc H1=>if c=true then ta σ H1 Q else tb σ H1 Q
def NC{c:Expr}(hc:PT X c tA)(ha:PE X a ta)(hb:PE X b tb):PE X (.IfExp c a b pos) (VO tA ta tb):=by
 intro pins s σ H Q I h;refine wpAny_IfExp (gs (hc pins s σ H _ I h) λd s1 ⟨H1,I1,q1⟩=>?_);cases d with
 |true=>exact ha pins s1 σ H1 Q I1 q1
 |false=>exact hb pins s1 σ H1 Q I1 q1
end
def cN(K:Fg)(H:Hp)(a:ar)(xs:List V):Prop:=
 Rd H a (.lst xs)\/
  ∃(o:Obj) (its:Array ae) (n:Nat),K.lookup a=some o/\o.cls=.type "list"/\o.dict=none/\o.data=.seq its n/\its.size<=av/\c9 xs its.toList
def dA(K:Fg)(H:Hp)(a:ar)(xs:List V):Prop:=
 Rd H a (.tup xs)\/
  ∃(o:Obj) (its:Array ae) (n:Nat),K.lookup a=some o/\o.cls=.type "tuple"/\o.data=.seq its n/\its.size<=av/\c9 xs its.toList
def VC:ae->Option V
 |.none=>some .non
 |.bool b=>some (.bl b)
 |.int i _=>some (.int i)
 |.str x _=>some (.str x)
 |.bytes b _=>some (.byt b)
 |.float b _=>some (.flt b)
 |.ref a=>some (.ref a)
 |.type n=>some (.ty n)
 |_=>none
def d5.abs{x:V}{u:ae}(r:d5 x u):VC u=some x:=by
 cases x with
 |non=>cases r;rfl
 |bl _=>cases r;rfl
 |int _=>obtain⟨t,rfl⟩:=r;rfl
 |str _=>obtain⟨t,rfl⟩:=r;rfl
 |byt _=>obtain⟨t,rfl⟩:=r;rfl
 |flt _=>obtain⟨t,rfl⟩:=r;rfl
 |ref _=>cases r;rfl
 |ty _=>cases r;rfl
def d5.inj{x y:V}{u:ae}(r:d5 x u)(q:d5 y u):x=y:=Option.some.inj (r.abs.symm.trans q.abs)
def c9.inj:∀{xs ys:List V} {us:List ae},c9 xs us->c9 ys us->xs=ys
 |_,_,_,.nil,.nil=>rfl
 |_,_,_,.cons r t,.cons r' t'=>by rw[r.inj r',c9.inj t t']
section
variable{X:Cx}{pins:List (ar×Obj)}{σ:St}{H:Hp}{s:aq}{a:ar}{xs ys:List V}
def cN.of{K:Fg}(h:H a=some (.lst xs)):cN K H a xs:=.inl (.inl h)
def dA.of{K:Fg}(h:H a=some (.tup xs)):dA K H a xs:=.inl (.inl h)
def bZ.list(I:bZ X pins σ H s)(h:cN X.K H a xs):∃its:List ae,c9 xs its/\PlainL s.heap a its.toArray/\xs.length<=av:=by
 rcases h with h|⟨o,its,n,hk,hc,hd,hs,hz,r⟩
 ·obtain⟨z,its,n,r,e⟩:=h.ok I.hok;exact⟨its,r,⟨_,n,e,rfl,rfl,rfl⟩,z⟩
 ·refine⟨its.toList,r,⟨o,n,I.kIn a o hk,hc,hd,by simpa using hs⟩,?_⟩;have e:=r.length;simp only[bh] at e;lia
def bZ.tuple(I:bZ X pins σ H s)(h:dA X.K H a xs):∃its:List ae,c9 xs its/\IsTup s.heap a its.toArray/\xs.length<=av:=by
 rcases h with h|⟨o,its,n,hk,hc,hs,hz,r⟩
 ·obtain⟨z,its,r,p⟩:=h.ok I.hok;exact⟨its,r,p.tup,z⟩
 ·refine⟨its.toList,r,⟨o,I.kIn a o hk,hc,n,by simpa using hs⟩,?_⟩;have e:=r.length;simp only[bh] at e;lia
def bZ.list_inj(I:bZ X pins σ H s)(h:cN X.K H a xs)(h':cN X.K H a ys):xs=ys:=by
 obtain⟨its,r,⟨o,n,e,_,_,d⟩,_⟩:=I.list h;obtain⟨its',r',⟨o',n',e',_,_,d'⟩,_⟩:=I.list h';rw[e] at e';cases e';rw[d] at d';injection d' with d1 _;have:its=its':=by simpa using congrArg Array.toList d1
 subst this;exact r.inj r'
def bZ.tuple_inj(I:bZ X pins σ H s)(h:dA X.K H a xs)(h':dA X.K H a ys):xs=ys:=by
 obtain⟨its,r,⟨o,e,_,n,d⟩,_⟩:=I.tuple h;obtain⟨its',r',⟨o',e',_,n',d'⟩,_⟩:=I.tuple h';rw[e] at e';cases e';rw[d] at d';injection d' with d1 _;have:its=its':=by simpa using congrArg Array.toList d1
 subst this;exact r.inj r'
end
abbrev Cx.wish(X:Cx)(E:Zi):Cx:={X with xe:=E}
abbrev Cx.nox(X:Cx):Cx:=X.wish λ_ _=>False
def Cx.Ok.wish{X:Cx}(ok:X.Ok)(E:Zi):(X.wish E).Ok:=
 ⟨ok.mod,ok.kind,ok.glob,ok.blt,ok.above,ok.inj,ok.has,ok.cab,ok.hd,ok.frames,ok.stk,ok.exf,ok.bs,ok.bsz,ok.noex,ok.exfs,ok.funs,ok.frf⟩
def Cx.Ok.unwish{X:Cx}{E:Zi}(ok:(X.wish E).Ok):X.Ok:=
 ⟨ok.mod,ok.kind,ok.glob,ok.blt,ok.above,ok.inj,ok.has,ok.cab,ok.hd,ok.frames,ok.stk,ok.exf,ok.bs,ok.bsz,ok.noex,ok.exfs,ok.funs,ok.frf⟩
section
variable{X:Cx}{pins:List (ar×Obj)}{σ:St}{H:Hp}{s:aq}{E:Zi}
def bZ.wish(I:bZ X pins σ H s)(E:Zi):bZ (X.wish E) pins σ H s:=⟨I.ok.wish E,I.os,I.bare,I.base,I.loc,I.cell,I.free,I.freeC,I.pin,I.hok,I.len⟩
def bZ.unwish(I:bZ (X.wish E) pins σ H s):bZ X pins σ H s:=⟨I.ok.unwish,I.os,I.bare,I.base,I.loc,I.cell,I.free,I.freeC,I.pin,I.hok,I.len⟩
def SP.unwish{D:oE}{f:Flow}{s':aq}(h:SP (X.wish E) pins D f s'):SP X pins D f s':=by
 cases f with
 |next=>obtain⟨σ',H',I,q⟩:=h;exact⟨σ',H',I.unwish,q⟩
 |brk=>obtain⟨σ',H',I,q⟩:=h;exact⟨σ',H',I.unwish,q⟩
 |cont=>obtain⟨σ',H',I,q⟩:=h;exact⟨σ',H',I.unwish,q⟩
 |ret u=>obtain⟨v,σ',H',I,r,q⟩:=h;exact⟨v,σ',H',I.unwish,r,q⟩
def Cb.nox{st:List Stmt}{t:TS}(h:Cb X.nox st t):Cb X st t:=λpins s σ H D I hw=>
 c7 (h pins s σ H D (I.wish _) hw) (λ_ _ q=>q.unwish) λ_ _ z=>False.elim z
end
section
variable{X:Cx}{st:Stmt}{rest:List Stmt}{t u:TS}{e:Expr}{te:TE}{pos:Pos}
def bY:TS:=λD σ H=>D.nx σ H
def bC(t u:TS):TS:=λD σ H=>t {D with nx:=u D} σ H
def QD:Cb X [] bY:=λ_ _ σ H _ I h=>kY ⟨σ,H,I,h⟩
def NP(h1:PS X st t)(h2:Cb X rest u):Cb X (st::rest) (bC t u):=by
 intro pins s σ H D I h;refine wpAny_execs_cons (gs (h1 pins s σ H {D with nx:=u D} I h) λf s1 q=>?_);cases f with
 |next=>
  obtain⟨σ',H',I',q⟩:=q;exact h2 pins s1 σ' H' D I' q
 |ret v=>exact q
 |brk=>exact q
 |cont=>exact q
def QF(h1:PS X st t):Cb X [st] t:=by
 intro pins s σ H D I h;refine wpAny_execs_cons (gs (h1 pins s σ H D I h) λf s1 q=>?_);cases f with
 |next=>exact kY q
 |ret v=>exact q
 |brk=>exact q
 |cont=>exact q
def bZ.quiet{pins:List (ar×Obj)}{σ:St}{H:Hp}{s:aq}(I:bZ X pins σ H s):interactive X.env=false:=by simp[interactive,I.ok.kind]
def gM(te:TE):TS:=λD σ H=>te σ H λ_ H1=>D.nx σ H1
def QB(he:PE X e te)(hs:iT e none pos.line X.env=pure false:=by rfl):PS X (.Expr e pos) (gM te):=by
 intro pins s σ H D I h;exact wpAny_Expr_any (gs (he pins s σ H _ I h) λv s1 ⟨x,H1,I1,r1,q1⟩=>⟨σ,H1,I1,q1⟩) I.quiet hs
def cK(te:TE):TS:=λD σ H=>te σ H D.rt
def Ts(he:PE X e te):PS X (.Return (some e) pos) (cK te):=by
 intro pins s σ H D I h;exact wpAny_Return_some (gs (he pins s σ H _ I h) λv s1 ⟨x,H1,I1,r1,q1⟩=>⟨x,σ,H1,I1,r1,q1⟩)
def de(c:TT)(t u:TS):TS:=λD σ H=>c σ H λb H1=>if b=true then t D σ H1 else u D σ H1
def UX{c:Expr}{a b:List Stmt}{tc:TT}(hc:PT X c tc)(ha:Cb X a t)(hb:Cb X b u):PS X (.If c a b pos) (de tc t u):=by
 intro pins s σ H D I h;refine wpAny_If (gs (hc pins s σ H _ I h) λd s1 ⟨H1,I1,q1⟩=>?_);cases d with
 |true=>exact ha pins s1 σ H1 D I1 q1
 |false=>exact hb pins s1 σ H1 D I1 q1
end
abbrev TG:=V->St->Hp->(St->Hp->Prop)->Prop
abbrev Kc:=List V->St->Hp->(St->Hp->Prop)->Prop
def PG(X:Cx)(target:Expr)(t:TG):Prop:=
 ∀(pins:List (ar×Obj)) (s:aq) (σ:St) (H:Hp) (v:V) (u:ae) (Q:St->Hp->Prop),bZ X pins σ H s->d5 v u->t v σ H Q->
  aM (model X.prog X.w) X.A (assign target X.env u) (λ_ s'=>∃σ' H',bZ X pins σ' H' s'/\Q σ' H') X.xe s
def Uo(X:Cx)(ts:List Expr)(t:Kc):Prop:=
 ∀(pins:List (ar×Obj)) (s:aq) (σ:St) (H:Hp) (vs:List V) (us:List ae) (Q:St->Hp->Prop),bZ X pins σ H s->c9 vs us->t vs σ H Q->
  aM (model X.prog X.w) X.A (assignInOrder ((eF ts X.env).map (·.2)) us) (λ_ s'=>∃σ' H',bZ X pins σ' H' s'/\Q σ' H') X.xe s
abbrev Ph:=V->V->V->Hp->(Hp->Prop)->Prop
def Pg(X:Cx)(t:Ph):Prop:=
 ∀(pins:List (ar×Obj)) (s:aq) (σ:St) (H:Hp) (o i v:V) (ov iv u:ae) (Q:Hp->Prop),bZ X pins σ H s->d5 o ov->d5 i iv->d5 v u->t o i v H Q->
  aM (model X.prog X.w) X.A (setItem ov iv u) (λ_ s'=>∃H',bZ X pins σ H' s'/\Q H') X.xe s
section
variable{X:Cx}{pos:Pos}
def aW(i:Nat):TG:=λv σ H Q=>Q (σ.set i (some v)) H
def Qn{i:Nat}{x:Str}(hN:X.N.Nodup)(hi:X.N[i]?=some x)(hx:L7 X.env.scope x)(hf:X.fn x=true\/X.env.scope.names.lookup x=some .local:=by first|exact .inl rfl|exact .inr rfl|assumption):PG X (.Name x pos) (aW i):=by
 intro pins s σ H v u Q I r h;exact wpAny_assign_Name (vm I hN hi hx r (λs' I'=>⟨_,H,I',h⟩) hf)
def uV:Kc:=λvs σ H Q=>vs=[]/\Q σ H
def gD(t:TG)(u:Kc):Kc:=λvs σ H Q=>∃v r,vs=v::r/\t v σ H λσ' H'=>u r σ' H' Q
def Qp:Uo X [] uV:=by
 intro pins s σ H vs us Q I r h;obtain⟨e,h⟩:=h;subst e;cases r;exact assignInOrder_nil ⟨σ,H,I,h⟩
def NI{e:Expr}{es:List Expr}{t:TG}{u:Kc}(h1:PG X e t)(h2:Uo X es u)
  (hs:(eF (e::es) X.env).map (·.2)=assign e X.env::(eF es X.env).map (·.2):=by rfl):Uo X (e::es) (gD t u):=by
 intro pins s σ H vs us Q I r h;obtain⟨v,vr,e1,h⟩:=h;subst e1;cases r with
 |cons r rr=>
  rw[hs];refine assignInOrder_cons (gs (h1 pins s σ H _ _ _ I r h) λ_ s1 ⟨σ1,H1,I1,q1⟩=>?_);exact h2 pins s1 σ1 H1 _ _ Q I1 rr q1
def wc(K:Fg)(n:Nat)(t:Kc):TG:=λv σ H Q=>∃a xs,v=.ref a/\dA K H a xs/\xs.length=n/\t xs σ H Q
def Tg{es:List Expr}{k:Nat}{t:Kc}{n:Nat}(hc:X.calm=true)(h:Uo X es t)
  (hn:(eF es X.env).length=n:=by rfl) (hst:(eF es X.env).findIdx? (·.1)=none:=by rfl):PG X (.Tuple es k pos) (wc X.K n t):=by
 intro pins s σ H v u Q I r hw;obtain⟨a,xs,e1,hq,hl,hw⟩:=hw;subst e1;cases r;obtain⟨its,rv,ht,hz⟩:=I.tuple hq;refine assign_Tuple_tuple (I.ok.hd hc) ht (by simp[hn,<-hl,rv.length]) hst λh' hx=>?_;have I1:bZ X pins σ H {s with heap:=h'}:=I.kept (t':=s.toks) λb o e=>hx b o (a9 (aI e)) e;exact h pins _ σ H xs _ Q I1 (by simpa using rv) hw
def t9(to ti:TE)(t:Ph):TG:=λv σ H Q=>to σ H λo H1=>ti σ H1 λi H2=>t o i v H2 λH3=>Q σ H3
def Tf{o i:Expr}{to ti:TE}{t:Ph}(ho:PE X o to)(hi:PE X i ti)(hs:Pg X t)
  (ha:∀v,assign (.Subscript o i pos) X.env v=(do
   let ov <-holding [v] (eval o X.env);let iv <-holding [v,ov] (eval i X.env)
   standAt pos
   holding [v,ov,iv] (setItem ov iv v)
   release [v,ov,iv] []):=by intro _;rfl):PG X (.Subscript o i pos) (t9 to ti t):=by
 intro pins s σ H v u Q I r h;rw[ha];refine aa (bW (gs (ho pins s σ H _ I h) λov s1 ⟨x,H1,I1,r1,q1⟩=>?_));refine aa (bW (gs (hi pins s1 σ H1 _ I1 q1) λiv s2 ⟨y,H2,I2,r2,q2⟩=>?_));refine aa (hZ (aa (bW (gs (hs pins s2 σ H2 x y v ov iv u _ I2 r1 r2 r q2) λ_ s3 ⟨H3,I3,q3⟩=>?_))));exact wpAny_release ⟨σ,H3,I3,q3⟩
def cu(te:TE)(g:TG):TS:=λD σ H=>te σ H λx H1=>g x σ H1 D.nx
def Tq{tg e:Expr}{te:TE}{g:TG}(he:PE X e te)(hg:PG X tg g)(hs:swapsWithSole [tg] e pos.line X.env=pure false:=by rfl)(hw:swappedStores [tg] e X.env=pure none:=by rfl)
  (h1:(eF [tg] X.env).map (·.2)=[assign tg X.env]:=by rfl):PS X (.Assign [tg] e pos) (cu te g):=by
 intro pins s σ H D I h;refine wpAny_Assign_stores (gs (he pins s σ H _ I h) λv s1 ⟨x,H1,I1,r1,q1⟩=>?_) hs hw;rw[h1];exact gs (hg pins s1 σ H1 x v _ I1 r1 q1) λ_ s2 q=>q
def Tt{i:Nat}{x:Str}{e:Expr}{te:TE}{pos':Pos}(hN:X.N.Nodup)(hi:X.N[i]?=some x)(hx:L7 X.env.scope x)(he:PE X e te)(hs:iT e (some (.Name x pos')) pos.line X.env=pure false:=by rfl)(hf:X.fn x=true\/X.env.scope.names.lookup x=some .local:=by first|exact .inl rfl|exact .inr rfl|assumption) :
  PS X (.Assign [.Name x pos'] e pos) (cu te (aW i)):=by
 intro pins s σ H D I h;refine wpAny_Assign_Name (gs (he pins s σ H _ I h) λv s1 ⟨y,H1,I1,r1,q1⟩=>?_) hs;exact vm I1 hN hi hx r1 (λs2 I2=>⟨_,H1,I2,q1⟩) hf
end
section
variable{X:Cx}{pos:Pos}
def wQ(c:TT)(tb:TS):TS:=λD σ H=>∃W:Nat->St->Hp->Prop,(∃m,W m σ H)/\∀m σ H,W m σ H->
 c σ H λb H1=>if b=true then ∃N:St->Hp->Prop,(∀σ' H',N σ' H'->∃m',m'<m/\W m' σ' H')/\tb {D with nx:=N,ct:=N,bk:=D.nx} σ H1 else D.nx σ H1
def NO{c:Expr}{body:List Stmt}{tc:TT}{tb:TS}(hp:cb (model X.prog X.w) X.A X.env X.xe)(hc:PT X c tc)(hb:Cb X body tb):PS X (.While c body [] pos) (wQ tc tb):=by
 intro pins s σ H D I h;obtain⟨W,⟨m0,w0⟩,turn⟩:=h;refine wpAny_While (codeAny_whileLoop (λn s'=>∃σ' H',bZ X pins σ' H' s'/\W n σ' H') ?_ m0 ⟨σ,H,I,w0⟩);rintro n s1 ⟨σ1,H1,I1,w1⟩;refine gg hp (gs (hc pins s1 σ1 H1 _ I1 (turn n σ1 H1 w1)) λb s2 ⟨H2,I2,q2⟩=>?_);cases b with
 |true=>
  obtain⟨N,hN,q2⟩:=q2;rw[if_pos rfl];refine gg hp (gs (hb pins s2 σ1 H2 _ I2 q2) λf s3 q3=>?_);cases f with
  |next=>
   obtain⟨σ3,H3,I3,n3⟩:=q3;obtain⟨m',hm,w3⟩:=hN σ3 H3 n3;exact⟨m',hm,σ3,H3,I3,w3⟩
  |cont=>
   obtain⟨σ3,H3,I3,n3⟩:=q3;obtain⟨m',hm,w3⟩:=hN σ3 H3 n3;exact⟨m',hm,σ3,H3,I3,w3⟩
  |brk=>exact q3
  |ret v=>exact q3
 |false=>
  rw[if_neg Bool.false_ne_true];exact kY ⟨σ1,H2,I2,q2⟩
end
structure It where
 go:Nat->Hp->Prop
 yld:Nat->Hp->V->Hp->Prop
 stop:Nat->Hp->Prop
def sC(X:Cx)(pins:List (ar×Obj))(H:Hp)(b:ar):Prop:=
 H b=none/\b≠X.env.locals/\b∉X.fs/\(b∈X.ex\/X.s₀.heap.objs.size<=b)/\(∀x c,X.env.cells.lookup x=some c->c≠b)/\∀p∈X.pn++pins,p.1≠b
def bZ.fpOk{X:Cx}{pins:List (ar×Obj)}{σ:St}{H H':Hp}{s:aq}{b:ar}(I:bZ X pins σ H s)(hb:s.heap.objs.size<=b)(hn:H' b=none):sC X pins H' b:=by
 refine⟨hn,gU (bo I.lt hb),I.nofs hb,.inr (cT I.sz hb),λx c e z=>?_,λp hp z=>?_⟩
 ·obtain⟨v,q⟩:=I.cell x c e;exact absurd (bo q.lt (by rw[z];exact hb)) (cW _)
 ·exact absurd (bo (aI (I.pin p hp).1) (by rw[z];exact hb)) (cW _)
structure Bd(P:aZ)(w:bK)(K:Fg)(tg:Expr)(J:It)(fp:List ar)(it:ar)(tn:Nat->Heap->Prop):Prop where
 mem:it∈fp
 obj:∀i h,tn i h->∀b∈fp,∃o,h.get? b=some o/\∀v,o.data≠.cell v
 keep:∀i h h',tn i h->(∀b∈fp,∀o,h.get? b=some o->h'.get? b=some o)->tn i h'
 item:∀(X:Cx),X.prog=P->X.w=w->X.K=K->X.calm=true->∀(i:Nat) (pins:List (ar×Obj)) (s:aq) (σ:St) (H:Hp) (E:Zi),bZ X pins σ H s->(∀b∈fp,sC X pins H b)->tn i s.heap->J.go i H->
  aM (model P w) X.A (kh (.ref it)) (λr s1=>∃u,r=some u/\
   aM (model P w) X.A (kX tg (.ref it) u) (λ_ s2=>∃x H',bZ X pins σ H' s2/\d5 x u/\J.yld i H x H'/\tn (i+1) s2.heap/\∀b∈fp,H' b=none) E s1) E s
 done:∀(X:Cx),X.prog=P->X.w=w->X.K=K->X.calm=true->∀(i:Nat) (pins:List (ar×Obj)) (s:aq) (σ:St) (H:Hp) (E:Zi),bZ X pins σ H s->(∀b∈fp,sC X pins H b)->tn i s.heap->J.stop i H->
  aM (model P w) X.A (kh (.ref it)) (λr s1=>r=none/\bZ X pins σ H s1) E s
 self:∀(A:bu) (i:Nat) (s:aq) (Q:Zi) (E:Zi),tn i s.heap->Q (.ref it) s->aM (model P w) A (tU (.ref it)) Q E s
abbrev TI:=St->Hp->(It->Hp->Prop)->Prop
def VS(X:Cx)(pins:List (ar×Obj))(σ:St)(tg:Expr)(R:It->Hp->Prop)(itv:ae)(s2:aq):Prop:=
 ∃(it:ar) (fp:List ar) (tn:Nat->Heap->Prop) (J:It) (H':Hp),itv=.ref it/\bZ X pins σ H' s2/\Bd X.prog X.w X.K tg J fp it tn/\tn 0 s2.heap/\(∀b∈fp,sC X pins H' b)/\R J H'
def PI(X:Cx)(tg iter:Expr)(wi:TI):Prop:=
 ∀(pins:List (ar×Obj)) (s:aq) (σ:St) (H:Hp) (R:It->Hp->Prop),bZ X pins σ H s->wi σ H R->
  aM (model X.prog X.w) X.A (eval iter X.env) (λv s1=>aM (model X.prog X.w) X.A (tU v) (VS X pins σ tg R) X.xe s1) X.xe s
def Jr{M:Model}{A:bu}{E:Zi}{s:aq}{tg:Expr}{it:ar}{u:ae}{o:Obj}{n:String}{vs:Array ae}{Q:Unit->aq->Prop}(ho:s.heap.get? it=some o)(hc:o.cls=.type n)(hd:o.data=.fields vs)
  (hn:["enumerate","zip","dict_itemiterator","dict_reverseitemiterator","odict_iterator","itertools.zip_longest","itertools.pairwise"].contains n=false) (hQ:Q () s):aM M A (kX tg (.ref it) u) Q E s:=by
 unfold kX;cases tg<;>first
  |exact az hQ
  |(cases u<;>first
    |exact az hQ
    |(refine aa (wpAny_load ho ?_)
      rw[hc,hd];show aM M A (if(["enumerate","zip","dict_itemiterator","dict_reverseitemiterator","odict_iterator","itertools.zip_longest","itertools.pairwise"].contains n&&vs[0]?==some (ki _))=true then _ else _) Q E s;rw[if_neg (by intro h;rw[hn,Bool.false_and] at h;cases h)];exact az hQ))
def Rn(K:Fg)(a:ar):It:=
 ⟨λi H=>∃xs x,cN K H a xs/\xs[i]?=some x,λi H x H'=>H'=H/\∀xs,cN K H a xs->xs[i]?=some x,λi H=>∃xs,cN K H a xs/\xs.length<=i⟩
def Ro(K:Fg)(a:ar):It:=
 ⟨λi H=>∃xs x,dA K H a xs/\xs[i]?=some x,λi H x H'=>H'=H/\∀xs,dA K H a xs->xs[i]?=some x,λi H=>∃xs,dA K H a xs/\xs.length<=i⟩
def O6(lo:Int)(n:Nat):It:=⟨λi _=>i<n,λi H x H'=>H'=H/\x=.int (lo+i),λi _=>n<=i⟩
def LH{P:aZ}{w:bK}{K:Fg}{tg:Expr}(a it:ar):Bd P w K tg (Rn K a) [it] it (λi h=>h.IsListIter it a i) where
 mem:=by simp
 obj:=λi h st b hb=>by
  have e:b=it:=by simpa using hb
  subst e;obtain⟨o,e,c,d⟩:=st;exact⟨o,e,λv z=>by rw[d] at z;cases z⟩
 keep:=λi h h' st k=>st.at λo e=>k it (by simp) o e
 item:=by
  intro X hP hw hK hc i pins s σ H E I hf st hg;subst hP hw hK;obtain⟨xs,x,hq,hx⟩:=hg;obtain⟨its,rv,p,hz⟩:=I.list hq;obtain⟨u,hu,ru⟩:=rv.get hx;obtain⟨f0,f1,f2,f3,f4,f5⟩:=hf it (by simp);refine wpAny_pyNext_list_item st p.isList (x:=u) (by simpa using hu) λh' st' sb=>?_;have I1:bZ X pins σ H {s with heap:=h'}:=I.turned (t':=s.toks) (λb o hb e=>(sb.2 b hb).trans e) f0 f1 f3 f4 f5;obtain⟨o,e,c,d⟩:=id st';exact⟨u,rfl,Jr (s:={s with heap:=h'}) e c d (by decide) ⟨x,H,I1,ru,⟨rfl,λys hy=>by rw[I.list_inj hy hq];exact hx⟩,st',λb hb=>(hf b hb).1⟩⟩
 done:=by
  intro X hP hw hK hc i pins s σ H E I hf st hg;subst hP hw hK;obtain⟨xs,hq,hx⟩:=hg;obtain⟨its,rv,p,hz⟩:=I.list hq;obtain⟨f0,f1,f2,f3,f4,f5⟩:=hf it (by simp);have hl:=rv.length;exact wpAny_pyNext_list_end (I.ok.hd hc) st p.isList (by simp;lia) λh' eb=>⟨rfl,I.turned (t':=s.toks) (λb o hb e=>eb b o hb e) f0 f1 f3 f4 f5⟩
 self:=λ_ _ _ _ _ st h=>wpAny_pyIter_listiter st h
def IF{P:aZ}{w:bK}{K:Fg}{tg:Expr}(a it:ar):Bd P w K tg (Ro K a) [it] it (λi h=>h.IsTupleIter it a i) where
 mem:=by simp
 obj:=λi h st b hb=>by
  have e:b=it:=by simpa using hb
  subst e;obtain⟨o,e,c,d⟩:=st;exact⟨o,e,λv z=>by rw[d] at z;cases z⟩
 keep:=λi h h' st k=>st.at λo e=>k it (by simp) o e
 item:=by
  intro X hP hw hK hc i pins s σ H E I hf st hg;subst hP hw hK;obtain⟨xs,x,hq,hx⟩:=hg;obtain⟨its,rv,p,hz⟩:=I.tuple hq;obtain⟨u,hu,ru⟩:=rv.get hx;obtain⟨f0,f1,f2,f3,f4,f5⟩:=hf it (by simp);refine wpAny_pyNext_tuple_item st (show s.heap.IsTuple a its.toArray from p) (x:=u) (by simpa using hu) λh' st' sb=>?_;have I1:bZ X pins σ H {s with heap:=h'}:=I.turned (t':=s.toks) (λb o hb e=>(sb.2 b hb).trans e) f0 f1 f3 f4 f5;obtain⟨o,e,c,d⟩:=id st';exact⟨u,rfl,Jr (s:={s with heap:=h'}) e c d (by decide) ⟨x,H,I1,ru,⟨rfl,λys hy=>by rw[I.tuple_inj hy hq];exact hx⟩,st',λb hb=>(hf b hb).1⟩⟩
 done:=by
  intro X hP hw hK hc i pins s σ H E I hf st hg;subst hP hw hK;obtain⟨xs,hq,hx⟩:=hg;obtain⟨its,rv,p,hz⟩:=I.tuple hq;obtain⟨f0,f1,f2,f3,f4,f5⟩:=hf it (by simp);have hl:=rv.length;exact wpAny_pyNext_tuple_end (I.ok.hd hc) st (show s.heap.IsTuple a its.toArray from p) (by simp;lia) λh' eb=>⟨rfl,I.turned (t':=s.toks) (λb o hb e=>eb b o hb e) f0 f1 f3 f4 f5⟩
 self:=λ_ _ _ _ _ st h=>wpAny_pyIter_tupleiter st h
def IE{P:aZ}{w:bK}{K:Fg}{tg:Expr}(it:ar)(lo:Int)(n:Nat):Bd P w K tg (O6 lo n) [it] it (λi h=>IsRangeIter h it (lo+(i:Nat)*1) ((n:Int)-(i:Nat)) 1) where
 mem:=by simp
 obj:=λi h st b hb=>by
  have e:b=it:=by simpa using hb
  subst e;exact⟨_,st,λv z=>by
   have z':Data.fields _=Data.cell v:=z;cases z'⟩
 keep:=λi h h' st k=>k it (by simp) _ st
 item:=by
  intro X hP hw hK hc i pins s σ H E I hf st hg;subst hP hw hK;obtain⟨f0,f1,f2,f3,f4,f5⟩:=hf it (by simp);have W:=sI.range (prog:=X.prog) (w:=X.w) (I.ok.hd hc) it lo 1 n;refine W.item i s _ _ hg st λv h' tk hv st' kk=>?_;obtain⟨t,rfl⟩:=hv;have I1:bZ X pins σ H {s with heap:=h',toks:=tk}:=I.turned (λb o hb e=>kk b o (by simpa using hb) e) f0 f1 f3 f4 f5;refine⟨_,rfl,Jr (s:={s with heap:=h',toks:=tk}) (n:="range_iterator") st' rfl rfl (by decide) ⟨.int (lo+i),H,I1,⟨t,?_⟩,⟨rfl,rfl⟩,st',λb hb=>(hf b hb).1⟩⟩;rw[Int.mul_one]
 done:=by
  intro X hP hw hK hc i pins s σ H E I hf st hg;subst hP hw hK;obtain⟨f0,f1,f2,f3,f4,f5⟩:=hf it (by simp);exact wpAny_pyNext_range_end (I.ok.hd hc) st (by have:n<=i:=hg;lia) λh' eb=>⟨rfl,I.turned (t':=s.toks) (λb o hb e=>eb b o hb e) f0 f1 f3 f4 f5⟩
 self:=λ_ _ _ _ _ st h=>wpAny_pyIter_rangeiter st h
section
variable{X:Cx}{tg:Expr}
def Rx(K:Fg)(tl:TE):TI:=λσ H R=>tl σ H λx H1=>∃a,x=.ref a/\(∃xs,cN K H1 a xs)/\R (Rn K a) H1
def UF(K:Fg)(tl:TE):TI:=λσ H R=>tl σ H λx H1=>∃a,x=.ref a/\(∃xs,dA K H1 a xs)/\R (Ro K a) H1
def Qr{l:Expr}{tl:TE}(hl:PE X l tl):PI X tg l (Rx X.K tl):=by
 intro pins s σ H R I h;refine gs (hl pins s σ H _ I h) λv s1 ⟨x,H1,I1,r1,q1⟩=>?_;obtain⟨a,e,⟨xs,hq⟩,q⟩:=q1;subst e;cases r1;obtain⟨its,rv,p,hz⟩:=I1.list hq;refine ik p.isList ?_;refine⟨s1.heap.objs.size,[s1.heap.objs.size],_,_,H1,rfl,I1.kept (t':=s1.toks) λb o e=>ak _ e,LH a _,⟨_,aO _ rfl,rfl,rfl⟩,λb hb=>?_,q⟩;have e:b=s1.heap.objs.size:=by simpa using hb
 subst e;exact I1.fpOk (aB _) (I1.hok.fresh (aB _))
def Tj{l:Expr}{tl:TE}(hl:PE X l tl):PI X tg l (UF X.K tl):=by
 intro pins s σ H R I h;refine gs (hl pins s σ H _ I h) λv s1 ⟨x,H1,I1,r1,q1⟩=>?_;obtain⟨a,e,⟨xs,hq⟩,q⟩:=q1;subst e;cases r1;obtain⟨its,rv,p,hz⟩:=I1.tuple hq;refine fU (show s1.heap.IsTuple a its.toArray from p) ?_;refine⟨s1.heap.objs.size,[s1.heap.objs.size],_,_,H1,rfl,I1.kept (t':=s1.toks) λb o e=>ak _ e,IF a _,⟨_,aO _ rfl,rfl,rfl⟩,λb hb=>?_,q⟩;have e:b=s1.heap.objs.size:=by simpa using hb
 subst e;exact I1.fpOk (aB _) (I1.hok.fresh (aB _))
def Of{pins:List (ar×Obj)}{σ:St}{H:Hp}{s:aq}{R:It->Hp->Prop}{E:Zi}{lo hi:Int}{t u v:Tok}{tk:Nat}(I:bZ X pins σ H s)(h1:-(2 ^ 62)<=lo)(h2:lo<2 ^ 62)(h3:-(2 ^ 62)<=hi)(h4:hi<2 ^ 62)
  (q:R (O6 lo (hi-lo).toNat) H):aM (model X.prog X.w) X.A (tU (.ref s.heap.objs.size)) (VS X pins σ tg R) E {s with heap:=s.heap.push {cls:=.type "range",data:=.fields #[.int lo t,.int hi u,.int 1 v]},toks:=tk}:=by
 refine wpAny_pyIter_range (IsRange.new ..) (small_one h1 h2 h3 h4) ?_;have I1:bZ X pins σ H {s with heap:=s.heap.push {cls:=.type "range",data:=.fields #[.int lo t,.int hi u,.int 1 v]},toks:=tk}:=I.kept λb o e=>ak _ e;refine⟨(s.heap.push {cls:=.type "range",data:=.fields #[.int lo t,.int hi u,.int 1 v]}).objs.size,[(s.heap.push {cls:=.type "range",data:=.fields #[.int lo t,.int hi u,.int 1 v]}).objs.size],_,_,H,rfl,
  I1.kept (t':=tk) λb o e=>ak _ e,IE _ lo (hi-lo).toNat,?_,λb hb=>?_,q⟩
 ·have e1:lo+((0:Nat):Int)*1=lo:=by simp
  have e2:(((hi-lo).toNat:Nat):Int)-((0:Nat):Int)=aS.Range.rangeSize lo hi 1:=by rw[rangeSize_one];split<;>lia
  show IsRangeIter _ _ (lo+((0:Nat):Int)*1) ((((hi-lo).toNat:Nat):Int)-((0:Nat):Int)) 1;rw[e1,e2];exact aO _ rfl
 ·have e:b=(s.heap.push {cls:=.type "range",data:=.fields #[.int lo t,.int hi u,.int 1 v]}).objs.size:=by simpa using hb
  subst e;exact I1.fpOk (aB _) (I1.hok.fresh (aB _))
def xr(ta:TA):TI:=λσ H R=>ta σ H λvs H1=>∃j:Int,vs=[.int j]/\-(2 ^ 62)<=j/\j<2 ^ 62/\R (O6 0 j.toNat) H1
def Lb{a:Expr}{ta:TA}{p pos:Pos}(hg:Gl X "range")(hm:X.mg "range"=none)(ha:PA X [a] ta)(hs:aT [a] X.env=[(false,eval a X.env)]:=by rfl):PI X tg (.Call (.Name "range" p) [a] [] pos) (xr ta):=by
 intro pins s σ H R I h;refine Call_ (lA I hg hm boot_range (cL (gs (ha pos pins s σ H _ I h) λus s1 ⟨vs,H1,I1,r1,q1⟩=>?_) hs rfl));obtain⟨j,e,q1,q2,q⟩:=q1;subst e;cases r1 with
 |cons r rr=>
  cases rr;obtain⟨t,rfl⟩:=r;exact call_range_1 (Of I1 (by lia) (by lia) q1 q2 (by simpa using q))
def kC(wi:TI)(g:TG)(tb:TS):TS:=λD σ H=>wi σ H λJ H1=>∃W:Nat->Nat->St->Hp->Prop,(∃m,W 0 m σ H1)/\∀i m σ H,W i m σ H->
 (J.stop i H/\D.nx σ H)\/(J.go i H/\∃N:St->Hp->Prop,(∀σ' H',N σ' H'->∃m',m'<m/\W (i+1) m' σ' H')/\∀x H',J.yld i H x H'->g x σ H' λσ2 H2=>tb {D with nx:=N,ct:=N,bk:=D.nx} σ2 H2)
def zV(fp:List ar)(h:Heap):List (ar×Obj):=fp.filterMap λb=>(h.get? b).map λo=>(b,o)
def pM{fp:List ar}{h:Heap}{b:ar}{o:Obj}(hb:b∈fp)(e:h.get? b=some o):(b,o)∈zV fp h:=List.mem_filterMap.mpr ⟨b,hb,by rw[e];rfl⟩
def K6{fp:List ar}{h:Heap}{p:ar×Obj}(hp:p∈zV fp h):p.1∈fp/\h.get? p.1=some p.2:=by
 obtain⟨b,hb,e⟩:=List.mem_filterMap.mp hp;cases q:h.get? b with
 |none=>rw[q] at e;cases e
 |some o=>
  rw[q] at e;have e':(b,o)=p:=Option.some.inj e;subst e';exact⟨hb,q⟩
def bZ.pinned{pins:List (ar×Obj)}{σ:St}{H:Hp}{s:aq}{fp:List ar}(I:bZ X pins σ H s)(hf:∀b∈fp,sC X pins H b)(ho:∀b∈fp,∃o,s.heap.get? b=some o/\∀v,o.data≠.cell v):bZ X (pins++zV fp s.heap) σ H s:=
 I.pins_of λp hp=>(aV.mp hp).elim (λz=>I.pin p (bI _ z)) λz=>by
  obtain⟨hb,e⟩:=K6 z;obtain⟨f0,f1,f2,_⟩:=hf p.1 hb;obtain⟨o,e',d⟩:=ho p.1 hb;rw[e] at e';cases e';exact⟨e,f0,f1,f2,d⟩
def bZ.unpinned{pins pl:List (ar×Obj)}{σ:St}{H:Hp}{s:aq}(I:bZ X (pins++pl) σ H s):bZ X pins σ H s:=I.pins_of λp hp=>I.pin p (bI _ (bX _ hp))
def Tr{iter:Expr}{body:List Stmt}{wi:TI}{g:TG}{tb:TS}{pos:Pos}(hp:cb (model X.prog X.w) X.A X.env X.xe)(hc:X.calm=true)(hi:PI X tg iter wi)(hg:PG X tg g)(hb:Cb X body tb)
  (hs:∀x,eP iter X.env x=pure x:=by intro _;rfl):PS X (.For tg iter body [] pos) (kC wi g tb):=by
 intro pins s σ H D I h;refine wpAny_For (gs (hi pins s σ H _ I h) λv s1 h1=>gs h1 λitv s2 h2=>?_) hs;obtain⟨it,fp,tn,J,H2,e,I2,T,st2,f2,W,⟨m0,w0⟩,turn⟩:=h2;subst e;have stat:∀{H':Hp},(∀b∈fp,H' b=none)->∀b∈fp,sC X pins H' b:=λhn b hb=>⟨hn b hb,(f2 b hb).2⟩;refine codeAny_forLoop_any (λn s'=>∃i σ' H',bZ X pins σ' H' s'/\tn i s'.heap/\(∀b∈fp,H' b=none)/\W i n σ' H') ?_ m0 ⟨0,σ,H2,I2,st2,λb hb=>(f2 b hb).1,w0⟩;rintro n s3 ⟨i,σ3,H3,I3,st3,fr3,w3⟩;rcases turn i n σ3 H3 w3 with⟨stop,qn⟩|⟨go,N,hN,step⟩
 ·refine gg hp (gs (T.done X rfl rfl rfl hc i pins s3 σ3 H3 X.xe I3 (stat fr3) st3 stop) λr s4 ⟨hr,I4⟩=>?_);subst hr;exact kY ⟨σ3,H3,I4,qn⟩
 ·refine gg hp (gs (T.item X rfl rfl rfl hc i pins s3 σ3 H3 X.xe I3 (stat fr3) st3 go) λr s4 ⟨u,hr,h4⟩=>?_);subst hr;refine gg hp (gs h4 λ_ s5 ⟨x,H5,I5,r5,y5,st5,fr5⟩=>?_);have I5':=I5.pinned (stat fr5) (T.obj _ _ st5);refine gg hp (gs (hg _ s5 σ3 H5 x u _ I5' r5 (step x H5 y5)) λ_ s6 ⟨σ6,H6,I6,q6⟩=>?_);refine gg hp (gs (hb _ s6 σ6 H6 _ I6 q6) λf s7 q7=>?_);have again:∀{σ7:St} {H7:Hp},bZ X (pins++zV fp s5.heap) σ7 H7 s7->N σ7 H7->∃m,m<n/\∃i σ' H',bZ X pins σ' H' s7/\tn i s7.heap/\(∀b∈fp,H' b=none)/\W i m σ' H':=λ{σ7 H7} I7 n7=>by
   obtain⟨m',hm,w7⟩:=hN σ7 H7 n7;refine⟨m',hm,i+1,σ7,H7,I7.unpinned,T.keep _ _ _ st5 λb hb o e=>(I7.pin (b,o) (bI _ (bI _ (pM hb e)))).1,λb hb=>?_,w7⟩;obtain⟨o,e,d⟩:=T.obj _ _ st5 b hb;exact(I7.pin (b,o) (bI _ (bI _ (pM hb e)))).2.1
  cases f with
  |next=>obtain⟨σ7,H7,I7,n7⟩:=q7;exact again I7 n7
  |cont=>obtain⟨σ7,H7,I7,n7⟩:=q7;exact again I7 n7
  |brk=>obtain⟨σ7,H7,I7,q7⟩:=q7;exact⟨σ7,H7,I7.unpinned,q7⟩
  |ret v=>obtain⟨x7,σ7,H7,I7,r7,q7⟩:=q7;exact⟨x7,σ7,H7,I7.unpinned,r7,q7⟩
end
def qY{K:Fg}{a:ar}{xs:List V}{g:TG}{tb:TS}{D:oE}{σ:St}{H:Hp}(Pv:Nat->St->Hp->Prop)(h0:Pv 0 σ H)(hl:∀i σ H,i<=xs.length->Pv i σ H->cN K H a xs)
  (hs:∀i x σ H,xs[i]?=some x->Pv i σ H->g x σ H λσ2 H2=>tb {D with nx:=Pv (i+1),ct:=Pv (i+1),bk:=D.nx} σ2 H2) (hd:∀σ H,Pv xs.length σ H->D.nx σ H) :
  ∃W:Nat->Nat->St->Hp->Prop,(∃m,W 0 m σ H)/\∀i m σ H,W i m σ H->
   ((Rn K a).stop i H/\D.nx σ H)\/((Rn K a).go i H/\∃N:St->Hp->Prop,(∀σ' H',N σ' H'->∃m',m'<m/\W (i+1) m' σ' H')/\∀x H',(Rn K a).yld i H x H'->g x σ H' λσ2 H2=>tb {D with nx:=N,ct:=N,bk:=D.nx} σ2 H2):=by
 refine⟨λi m σ H=>m=xs.length-i/\i<=xs.length/\Pv i σ H,⟨xs.length,by simp,b9 _,h0⟩,?_⟩;rintro i m σ H ⟨rfl,hi,p⟩;have q:=hl i σ H hi p;by_cases hlt:i<xs.length
 ·refine .inr ⟨⟨xs,xs[i],q,by simp[hlt]⟩,Pv (i+1),λσ' H' p'=>⟨xs.length-(i+1),by lia,rfl,hlt,p'⟩,λx H' y=>?_⟩;obtain⟨e,y⟩:=y;subst e;exact hs i x σ _ (y xs q) p
 ·have e:i=xs.length:=by lia
  subst e;exact .inl ⟨⟨xs,q,aB _⟩,hd σ H p⟩
def kJ{K:Fg}{a:ar}{xs:List V}{g:TG}{tb:TS}{D:oE}{σ:St}{H:Hp}(Pv:Nat->St->Hp->Prop)(h0:Pv 0 σ H)(hl:∀i σ H,i<=xs.length->Pv i σ H->dA K H a xs)
  (hs:∀i x σ H,xs[i]?=some x->Pv i σ H->g x σ H λσ2 H2=>tb {D with nx:=Pv (i+1),ct:=Pv (i+1),bk:=D.nx} σ2 H2) (hd:∀σ H,Pv xs.length σ H->D.nx σ H) :
  ∃W:Nat->Nat->St->Hp->Prop,(∃m,W 0 m σ H)/\∀i m σ H,W i m σ H->
   ((Ro K a).stop i H/\D.nx σ H)\/((Ro K a).go i H/\∃N:St->Hp->Prop,(∀σ' H',N σ' H'->∃m',m'<m/\W (i+1) m' σ' H')/\∀x H',(Ro K a).yld i H x H'->g x σ H' λσ2 H2=>tb {D with nx:=N,ct:=N,bk:=D.nx} σ2 H2):=by
 refine⟨λi m σ H=>m=xs.length-i/\i<=xs.length/\Pv i σ H,⟨xs.length,by simp,b9 _,h0⟩,?_⟩;rintro i m σ H ⟨rfl,hi,p⟩;have q:=hl i σ H hi p;by_cases hlt:i<xs.length
 ·refine .inr ⟨⟨xs,xs[i],q,by simp[hlt]⟩,Pv (i+1),λσ' H' p'=>⟨xs.length-(i+1),by lia,rfl,hlt,p'⟩,λx H' y=>?_⟩;obtain⟨e,y⟩:=y;subst e;exact hs i x σ _ (y xs q) p
 ·have e:i=xs.length:=by lia
  subst e;exact .inl ⟨⟨xs,q,aB _⟩,hd σ H p⟩
def oN{lo:Int}{n:Nat}{g:TG}{tb:TS}{D:oE}{σ:St}{H:Hp}(Pv:Nat->St->Hp->Prop)(h0:Pv 0 σ H)
  (hs:∀i σ H,i<n->Pv i σ H->g (.int (lo+i)) σ H λσ2 H2=>tb {D with nx:=Pv (i+1),ct:=Pv (i+1),bk:=D.nx} σ2 H2) (hd:∀σ H,Pv n σ H->D.nx σ H) :
  ∃W:Nat->Nat->St->Hp->Prop,(∃m,W 0 m σ H)/\∀i m σ H,W i m σ H->
   ((O6 lo n).stop i H/\D.nx σ H)\/((O6 lo n).go i H/\∃N:St->Hp->Prop,(∀σ' H',N σ' H'->∃m',m'<m/\W (i+1) m' σ' H')/\∀x H',(O6 lo n).yld i H x H'->g x σ H' λσ2 H2=>tb {D with nx:=N,ct:=N,bk:=D.nx} σ2 H2):=by
 refine⟨λi m σ H=>m=n-i/\i<=n/\Pv i σ H,⟨n,by simp,b9 _,h0⟩,?_⟩;rintro i m σ H ⟨rfl,hi,p⟩;by_cases hlt:i<n
 ·refine .inr ⟨hlt,Pv (i+1),λσ' H' p'=>⟨n-(i+1),by lia,rfl,hlt,p'⟩,λx H' y=>?_⟩;obtain⟨e,y⟩:=y;subst e y;exact hs i σ _ hlt p
 ·have e:i=n:=by lia
  subst e;exact .inl ⟨aB _,hd σ H p⟩
abbrev R2:=V->V->Hp->VK->Prop
def lK(X:Cx)(f:ae->ae->Sem ae)(r:R2):Prop:=
 ∀(pins:List (ar×Obj)) (s:aq) (σ:St) (H:Hp) (x y:V) (v u:ae) (Q:VK),bZ X pins σ H s->d5 x v->d5 y u->r x y H Q->
  aM (model X.prog X.w) X.A (f v u) (EP X pins σ Q) X.xe s
def Vo(X:Cx)(f:ae->Sem ae)(r:V->Hp->VK->Prop):Prop:=
 ∀(pins:List (ar×Obj)) (s:aq) (σ:St) (H:Hp) (x:V) (v:ae) (Q:VK),bZ X pins σ H s->d5 x v->r x H Q->
  aM (model X.prog X.w) X.A (f v) (EP X pins σ Q) X.xe s
def iJ(X:Cx)(f:ae)(r:List V->Hp->VK->Prop):Prop:=
 ∀(pins:List (ar×Obj)) (s:aq) (σ:St) (H:Hp) (xs:List V) (us:List ae) (Q:VK),bZ X pins σ H s->c9 xs us->r xs H Q->
  aM (model X.prog X.w) X.A (call f us) (EP X pins σ Q) X.xe s
def bq(r:R2)(ta tb:TE):TE:=λσ H Q=>ta σ H λx H1=>tb σ H1 λy H2=>r x y H2 Q
def Ue(r:V->Hp->VK->Prop)(ta:TE):TE:=λσ H Q=>ta σ H λx H1=>r x H1 Q
def rI(C:Int->Int->Prop)(g:Int->Int->V):R2:=λx y H Q=>∃i j,x=.int i/\y=.int j/\C i j/\Q (g i j) H
def LR(g:Int->Int->V):R2:=λx y H Q=>∃i j,x=.int i/\y=.int j/\Q (g i j) H
def rU(g:Int->V):V->Hp->VK->Prop:=λx H Q=>∃i,x=.int i/\Q (g i) H
section
variable{X:Cx}{a b c:Expr}{ta tb tc:TE}{pos:Pos}
def Sd(ha:PE X a ta)(hb:PE X b tb){pins:List (ar×Obj)}{s:aq}{σ:St}{H:Hp}{R:V->V->Hp->Prop}(I:bZ X pins σ H s)
  (h:ta σ H λx H1=>tb σ H1 λy H2=>R x y H2) {Q:Zi} {f:ae->ae->Sem ae}
  (hf:∀v u s2 x y H2,bZ X pins σ H2 s2->d5 x v->d5 y u->R x y H2->aM (model X.prog X.w) X.A (f v u) Q X.xe s2) :
  aM (model X.prog X.w) X.A (eval a X.env) (λv s₁=>aM (model X.prog X.w) X.A (eval b X.env) (λu s₂=>aM (model X.prog X.w) X.A (f v u) Q X.xe s₂) X.xe s₁) X.xe s:=by
 refine gs (ha pins s σ H _ I h) λv s1 ⟨x,H1,I1,r1,q1⟩=>?_;refine gs (hb pins s1 σ H1 _ I1 q1) λu s2 ⟨y,H2,I2,r2,q2⟩=>?_;exact hf v u s2 x y H2 I2 r1 r2 q2
def UU{op:Operator}{r:R2}(ho:lK X (eO op) r)(ha:PE X a ta)(hb:PE X b tb):PE X (.BinOp a op b pos) (bq r ta tb):=by
 intro pins s σ H Q I h;exact wpAny_BinOp (Sd ha hb I h λv u s2 x y H2 I2 rx ry q=>ho pins s2 σ H2 x y v u Q I2 rx ry q)
def UW{op:UnaryOp}{r:V->Hp->VK->Prop}(ho:Vo X (unaryOp op) r)(ha:PE X a ta):PE X (.UnaryOp op a pos) (Ue r ta):=by
 intro pins s σ H Q I h;exact UnaryOp_ (gs (ha pins s σ H _ I h) λv s1 ⟨x,H1,I1,r1,q1⟩=>ho pins s1 σ H1 x v Q I1 r1 q1)
def UL{f:ae->ae->Sem ae}{C:Int->Int->Prop}{g:Int->Int->Int}
  (rule:∀(i j:Int) (t u:Tok) (s:aq) (Q:Zi) (E:Zi),C i j->Q (.int (g i j) s.toks) {s with toks:=s.toks+1}->aM (model X.prog X.w) X.A (f (.int i t) (.int j u)) Q E s) :
  lK X f (rI C λi j=>.int (g i j)):=by
 intro pins s σ H x y v u Q I rx ry h;obtain⟨i,j,rfl,rfl,hc,q⟩:=h;obtain⟨t,rfl⟩:=rx;obtain⟨t',rfl⟩:=ry;exact rule i j t t' s _ _ hc ⟨.int (g i j),H,I.tok _,⟨_,rfl⟩,q⟩
def UM{f:ae->ae->Sem ae}{g:Int->Int->Int}
  (rule:∀(i j:Int) (t u:Tok) (s:aq) (Q:Zi) (E:Zi),Q (.int (g i j) s.toks) {s with toks:=s.toks+1}->aM (model X.prog X.w) X.A (f (.int i t) (.int j u)) Q E s) :
  lK X f (LR λi j=>.int (g i j)):=by
 intro pins s σ H x y v u Q I rx ry h;obtain⟨i,j,rfl,rfl,q⟩:=h;obtain⟨t,rfl⟩:=rx;obtain⟨t',rfl⟩:=ry;exact rule i j t t' s _ _ ⟨.int (g i j),H,I.tok _,⟨_,rfl⟩,q⟩
def SJ{f:ae->ae->Sem ae}{g:Int->Int->Bool}
  (rule:∀(i j:Int) (t u:Tok) (s:aq) (Q:Zi) (E:Zi),Q (.bool (g i j)) s->aM (model X.prog X.w) X.A (f (.int i t) (.int j u)) Q E s) :
  lK X f (LR λi j=>.bl (g i j)):=by
 intro pins s σ H x y v u Q I rx ry h;obtain⟨i,j,rfl,rfl,q⟩:=h;obtain⟨t,rfl⟩:=rx;obtain⟨t',rfl⟩:=ry;exact rule i j t t' s _ _ ⟨.bl (g i j),H,I,rfl,q⟩
def Us(i j:Int):Prop:=0<j/\j<1073741824
def Ut(i j:Int):Prop:=0<=j/\j<=1000000/\i.natAbs<2 ^ 64
def O1(i j:Int):Prop:=(-(2 ^ 64)<i/\i<2 ^ 64)\/(-(2 ^ 64)<j/\j<2 ^ 64)
def O1.ok{i j:Int}(h:O1 i j):IntMulOk i j:=by
 rcases h with⟨h1,h2⟩|⟨h1,h2⟩
 ·exact .of_left (intBits_le_64 h1 h2)
 ·exact .of_right (intBits_le_64 h1 h2)
def SK:lK X (eO .Add) (LR λi j=>.int (i+j)):=UM λ_ _ _ _ _ _ _ q=>add_int q
def uf:lK X (eO .Sub) (LR λi j=>.int (i-j)):=UM λ_ _ _ _ _ _ _ q=>sub_int q
def SQ:lK X (eO .Mult) (rI O1 λi j=>.int (i*j)):=UL λ_ _ _ _ _ _ _ hc q=>mul_int q hc.ok
def Ea:lK X (eO .FloorDiv) (rI Us λi j=>.int (i / j)):=UL λi j _ _ _ _ _ hc q=>by
 have h1:(0:Int)<j:=hc.1;have h2:j<1073741824:=hc.2;exact floordiv_int (by lia) (by rw[iG i (by lia)];exact q) (.inl (PyProof.noPylong_small (by lia)))
def jU:lK X (eO .Mod) (rI (λ_ j=>0<j) λi j=>.int (i % j)):=UL λi j _ _ _ _ _ hc q=>by
 have h1:(0:Int)<j:=hc;exact mod_int' (by lia) (by rw[Int.fmod_eq_emod_of_nonneg i (by lia)];exact q)
def nW:lK X (eO .Pow) (rI Ut λi j=>.int (i ^ j.toNat)):=UL λ_ _ _ _ _ _ _ hc q=>pow_int_small hc.1 hc.2.1 hc.2.2 q
def Wc{f:ae->Sem ae}{g:Int->Int}
  (rule:∀(i:Int) (t:Tok) (s:aq) (Q:Zi) (E:Zi),Q (.int (g i) s.toks) {s with toks:=s.toks+1}->aM (model X.prog X.w) X.A (f (.int i t)) Q E s) :
  Vo X f (rU λi=>.int (g i)):=by
 intro pins s σ H x v Q I rx h;obtain⟨i,rfl,q⟩:=h;obtain⟨t,rfl⟩:=rx;exact rule i t s _ _ ⟨.int (g i),H,I.tok _,⟨_,rfl⟩,q⟩
def AZ:Vo X (unaryOp .USub) (rU λi=>.int (-i)):=Wc λ_ _ _ _ _ q=>neg_int q
end
def Vf:V->V->Bool
 |.non,.non=>true|.non,.int _=>true|.int _,.non=>true|.non,.bl _=>true|.bl _,.non=>true|.non,.str _=>true|.str _,.non=>true
 |.int _,.int _=>true|.bl _,.bl _=>true|.str _,.str _=>true|.byt _,.byt _=>true
 |.int _,.str _=>true|.str _,.int _=>true|.bl _,.str _=>true|.str _,.bl _=>true
 |_,_=>false
def V1:R2:=λx y H Q=>Vf x y=true/\Q (.bl (decide (x=y))) H
def V2:R2:=λx y H Q=>Vf x y=true/\Q (.bl (!decide (x=y))) H
def Jl{i j:Int}:decide (V.int i=V.int j)=(i==j):=by
 rw[Bool.eq_iff_iff];simp
def MB{i j:Bool}:decide (V.bl i=V.bl j)=(i==j):=by
 rw[Bool.eq_iff_iff];simp
def Jm{i j:Str}:decide (V.str i=V.str j)=(i==j):=by
 rw[Bool.eq_iff_iff];simp
def Jk{i j:Array UInt8}:decide (V.byt i=V.byt j)=(i.toList==j.toList):=by
 rw[Bool.eq_iff_iff];cases i;cases j;simp
section
variable{X:Cx}{a b c:Expr}{ta tb tc:TE}{pos:Pos}
def d6{pins:List (ar×Obj)}{σ:St}{H:Hp}{s:aq}{Q:VK}{k k':Bool}(I:bZ X pins σ H s)(q:Q (.bl k) H)(e:k=k'):EP X pins σ Q (.bool k') s:=by
 subst e;exact⟨.bl k,H,I,rfl,q⟩
def UN:lK X (cM .Eq) V1:=by
 intro pins s σ H x y v u Q I rx ry h;obtain⟨hs,q⟩:=h;cases x with
 |non=>
  cases rx;cases y with
  |non=>cases ry;exact PySem.EqNone.eq_none_none (d6 I q (by simp))
  |bl j=>cases ry;exact PySem.EqNone.eq_none_bool (d6 I q (by simp))
  |int j=>obtain⟨t',rfl⟩:=ry;exact PySem.EqNone.eq_none_int (d6 I q (by simp))
  |str j=>obtain⟨t',rfl⟩:=ry;exact PySem.EqNone.eq_none_str (d6 I q (by simp))
  |_=>exact absurd (show false=true from hs) Bool.false_ne_true
 |bl i=>
  cases rx;cases y with
  |non=>cases ry;exact PySem.EqNone.eq_bool_none (d6 I q (by simp))
  |bl j=>cases ry;exact eq_bool (d6 I q MB)
  |str j=>obtain⟨t',rfl⟩:=ry;exact PySem.EqMixed.eq_bool_str (d6 I q (by simp))
  |_=>exact absurd (show false=true from hs) Bool.false_ne_true
 |int i=>
  obtain⟨t,rfl⟩:=rx;cases y with
  |non=>cases ry;exact PySem.EqNone.eq_int_none (d6 I q (by simp))
  |int j=>obtain⟨t',rfl⟩:=ry;exact eq_int (d6 I q Jl)
  |str j=>obtain⟨t',rfl⟩:=ry;exact PySem.EqMixed.eq_int_str (d6 I q (by simp))
  |_=>exact absurd (show false=true from hs) Bool.false_ne_true
 |str i=>
  obtain⟨t,rfl⟩:=rx;cases y with
  |non=>cases ry;exact PySem.EqNone.eq_str_none (d6 I q (by simp))
  |bl j=>cases ry;exact PySem.EqMixed.eq_str_bool (d6 I q (by simp))
  |int j=>obtain⟨t',rfl⟩:=ry;exact PySem.EqMixed.eq_str_int (d6 I q (by simp))
  |str j=>obtain⟨t',rfl⟩:=ry;exact eq_str (d6 I q Jm)
  |_=>exact absurd (show false=true from hs) Bool.false_ne_true
 |byt i=>
  obtain⟨t,rfl⟩:=rx;cases y with
  |byt j=>obtain⟨t',rfl⟩:=ry;exact PySem.W.eq_bytes (d6 I q Jk)
  |_=>exact absurd (show false=true from hs) Bool.false_ne_true
 |_=>cases y<;>exact absurd (show false=true from hs) Bool.false_ne_true
def UO:lK X (cM .NotEq) V2:=by
 intro pins s σ H x y v u Q I rx ry h;obtain⟨hs,q⟩:=h;cases x with
 |non=>
  cases rx;cases y with
  |non=>cases ry;exact PySem.EqNone.ne_none_none (d6 I q (by simp))
  |bl j=>cases ry;exact PySem.EqNone.ne_none_bool (d6 I q (by simp))
  |int j=>obtain⟨t',rfl⟩:=ry;exact PySem.EqNone.ne_none_int (d6 I q (by simp))
  |str j=>obtain⟨t',rfl⟩:=ry;exact PySem.EqNone.ne_none_str (d6 I q (by simp))
  |_=>exact absurd (show false=true from hs) Bool.false_ne_true
 |bl i=>
  cases rx;cases y with
  |non=>cases ry;exact PySem.EqNone.ne_bool_none (d6 I q (by simp))
  |bl j=>cases ry;exact ne_bool (d6 I q (congrArg not MB))
  |str j=>obtain⟨t',rfl⟩:=ry;exact PySem.EqMixed.ne_bool_str (d6 I q (by simp))
  |_=>exact absurd (show false=true from hs) Bool.false_ne_true
 |int i=>
  obtain⟨t,rfl⟩:=rx;cases y with
  |non=>cases ry;exact PySem.EqNone.ne_int_none (d6 I q (by simp))
  |int j=>obtain⟨t',rfl⟩:=ry;exact ne_int (d6 I q (congrArg not Jl))
  |str j=>obtain⟨t',rfl⟩:=ry;exact PySem.EqMixed.ne_int_str (d6 I q (by simp))
  |_=>exact absurd (show false=true from hs) Bool.false_ne_true
 |str i=>
  obtain⟨t,rfl⟩:=rx;cases y with
  |non=>cases ry;exact PySem.EqNone.ne_str_none (d6 I q (by simp))
  |bl j=>cases ry;exact PySem.EqMixed.ne_str_bool (d6 I q (by simp))
  |int j=>obtain⟨t',rfl⟩:=ry;exact PySem.EqMixed.ne_str_int (d6 I q (by simp))
  |str j=>obtain⟨t',rfl⟩:=ry;exact ne_str (d6 I q (congrArg not Jm))
  |_=>exact absurd (show false=true from hs) Bool.false_ne_true
 |byt i=>
  obtain⟨t,rfl⟩:=rx;cases y with
  |byt j=>obtain⟨t',rfl⟩:=ry;exact PySem.W.ne_bytes (d6 I q (congrArg not Jk))
  |_=>exact absurd (show false=true from hs) Bool.false_ne_true
 |_=>cases y<;>exact absurd (show false=true from hs) Bool.false_ne_true
def my:lK X (cM .Lt) (LR λi j=>.bl (decide (i<j))):=SJ λ_ _ _ _ _ _ _ q=>lt_int q
def xE:lK X (cM .Gt) (LR λi j=>.bl (decide (j<i))):=SJ λ_ _ _ _ _ _ _ q=>gt_int q
def Nv:lK X (cM .GtE) (LR λi j=>.bl (decide (j<=i))):=SJ λ_ _ _ _ _ _ _ q=>ge_int q
def K7:lK X (cM .In) (λx y H Q=>∃i j,x=.str i/\y=.str j/\Q (.bl (!(aS.Str.occurrences j i 0 j.length 1).isEmpty)) H):=by
 intro pins s σ H x y v u Q I rx ry h;obtain⟨i,j,rfl,rfl,q⟩:=h;obtain⟨t,rfl⟩:=rx;obtain⟨t',rfl⟩:=ry;exact in_str (d6 I q rfl)
def Nw:lK X (cM .Is) (λx y H Q=>y=.non/\Q (.bl (decide (x=.non))) H):=by
 intro pins s σ H x y v u Q I rx ry h;obtain⟨rfl,q⟩:=h;cases ry;refine is_none_gen (d6 I q ?_);cases x<;>first
  |(cases rx;rfl)
  |(obtain⟨t,rfl⟩:=rx;rfl)
def JA:lK X (cM .IsNot) (λx y H Q=>y=.non/\Q (.bl (!decide (x=.non))) H):=by
 intro pins s σ H x y v u Q I rx ry h;obtain⟨rfl,q⟩:=h;cases ry;refine isnot_none_gen (d6 I q ?_);cases x<;>first
  |(cases rx;rfl)
  |(obtain⟨t,rfl⟩:=rx;rfl)
def lK.or{f:ae->ae->Sem ae}{r r':R2}(h:lK X f r)(h':lK X f r'):lK X f (λx y H Q=>r x y H Q\/r' x y H Q):=by
 intro pins s σ H x y v u Q I rx ry q;rcases q with q|q
 ·exact h pins s σ H x y v u Q I rx ry q
 ·exact h' pins s σ H x y v u Q I rx ry q
def Qh{op:CmpOp}{r:R2}(ho:lK X (cM op) r)(ha:PE X a ta)(hb:PE X b tb)(hm:nA op b=false):PE X (.Compare a [op] [b] pos) (bq r ta tb):=by
 intro pins s σ H Q I h;exact wpAny_Compare1 (Sd ha hb I h λv u s2 x y H2 I2 rx ry q=>ho pins s2 σ H2 x y v u Q I2 rx ry q) hm
def bH(t:TE):TT:=λσ H Q=>t σ H λx H'=>∃k,x=.bl k/\Q k H'
def QH{op:CmpOp}{r:R2}(ho:lK X (cM op) r)(ha:PE X a ta)(hb:PE X b tb)(hm:nA op b=false):PT X (.Compare a [op] [b] pos) (bH (bq r ta tb)):=by
 intro pins s σ H Q I h;refine wpAny_isTrue_Compare1 (gs (ha pins s σ H _ I h) λv s1 ⟨x,H1,I1,r1,q1⟩=>gs (hb pins s1 σ H1 _ I1 q1) λu s2 ⟨y,H2,I2,r2,q2⟩=>
  gs (ho pins s2 σ H2 x y v u _ I2 r1 r2 q2) λc s3 ⟨z,H3,I3,r3,k,e,q3⟩=>?_) hm
 subst e;cases r3;exact fg ⟨H3,I3,q3⟩
def wx:(av:Nat)<2 ^ 63:=by rw[iB];decide
def HQ:lK X (eO .Add) (λx y H Q=>∃i j,x=.str i/\y=.str j/\i.length+j.length<=av/\Q (.str (i++j)) H):=by
 intro pins s σ H x y v u Q I rx ry h;obtain⟨i,j,rfl,rfl,hz,q⟩:=h;obtain⟨t,rfl⟩:=rx;obtain⟨t',rfl⟩:=ry;exact add_str (λt' tk=>⟨.str (i++j),H,I.tok _,⟨_,rfl⟩,q⟩) hz
def kU{x:V}{us:List ae}(r:c9 [x] us):∃u,us=[u]/\d5 x u:=by
 cases r with
 |cons r1 r2=>cases r2;exact⟨_,rfl,r1⟩
def GR{x y:V}{us:List ae}(r:c9 [x,y] us):∃u w',us=[u,w']/\d5 x u/\d5 y w':=by
 cases r with
 |cons r1 r2=>
  cases r2 with
  |cons r3 r4=>cases r4;exact⟨_,_,rfl,r1,r3⟩
def Mq:iJ X (.builtin "abs") (λxs H Q=>∃i,xs=[.int i]/\Q (.int (if i<0 then -i else i)) H):=by
 intro pins s σ H xs us Q I r h;obtain⟨i,rfl,q⟩:=h;obtain⟨u,rfl,t,rfl⟩:=kU r;exact call_abs_int λu tk=>⟨.int (if i<0 then -i else i),H,I.tok _,⟨_,rfl⟩,q⟩
def Kh(hc:X.calm=true):iJ X (.builtin "max") (λxs H Q=>∃i j,xs=[.int i,.int j]/\Q (.int (if j>i then j else i)) H):=by
 intro pins s σ H xs us Q I r h;obtain⟨i,j,rfl,q⟩:=h;obtain⟨u,w',rfl,⟨t,rfl⟩,⟨t',rfl⟩⟩:=GR r;refine max_two_ints (I.ok.hd hc) λh' tk k=>⟨_,H,I.kept k,?_,q⟩;by_cases hj:j>i
 ·rw[if_pos hj,if_pos hj];exact⟨_,rfl⟩
 ·rw[if_neg hj,if_neg hj];exact⟨_,rfl⟩
def Ki(hc:X.calm=true):iJ X (.builtin "min") (λxs H Q=>∃i j,xs=[.int i,.int j]/\Q (.int (if j<i then j else i)) H):=by
 intro pins s σ H xs us Q I r h;obtain⟨i,j,rfl,q⟩:=h;obtain⟨u,w',rfl,⟨t,rfl⟩,⟨t',rfl⟩⟩:=GR r;refine min_two_ints (I.ok.hd hc) λh' tk k=>⟨_,H,I.kept k,?_,q⟩;by_cases hj:j<i
 ·rw[if_pos hj,if_pos hj];exact⟨_,rfl⟩
 ·rw[if_neg hj,if_neg hj];exact⟨_,rfl⟩
def vX:iJ X (.type "int") (λxs H Q=>(∃i,xs=[.int i]/\Q (.int i) H)\/∃k,xs=[.bl k]/\Q (.int (if k then 1 else 0)) H):=by
 intro pins s σ H xs us Q I r h;rcases h with⟨i,rfl,q⟩|⟨k,rfl,q⟩
 ·obtain⟨u,rfl,t,rfl⟩:=kU r;exact call_int_int ⟨.int i,H,I,⟨_,rfl⟩,q⟩
 ·obtain⟨u,rfl,r1⟩:=kU r;cases r1;exact call_int_bool ⟨.int (if k then 1 else 0),H,I.tok _,⟨_,rfl⟩,q⟩
def DK:iJ X (.type "str") (λxs H Q=>∃i,xs=[.int i]/\i.natAbs.log2<1920/\Q (.str (toString i)) H):=by
 intro pins s σ H xs us Q I r h;obtain⟨i,rfl,hz,q⟩:=h;obtain⟨u,rfl,t,rfl⟩:=kU r;exact PySem.P.str_of_int hz ⟨.str _,H,I.tok _,⟨_,rfl⟩,q⟩
def L6(K:Fg)(x:V)(H:Hp)(n:Nat):Prop:=
 match x with
 |.str y=>y.length<=av/\n=y.length
 |.byt y=>y.size<=av/\n=y.size
 |.ref p=>(∃xs,cN K H p xs/\n=xs.length)\/∃xs,dA K H p xs/\n=xs.length
 |_=>False
def Mr:iJ X (.builtin "len") (λxs H Q=>∃x n,xs=[x]/\L6 X.K x H n/\Q (.int n) H):=by
 intro pins s σ H xs us Q I r h;obtain⟨x,n,rfl,e,q⟩:=h;obtain⟨u,rfl,rx⟩:=kU r;have hl:=wx;have hs:av=16777216:=iB;cases x with
 |str y=>
  obtain⟨t,rfl⟩:=rx;obtain⟨hy,e'⟩:y.length<=av/\n=y.length:=e;subst e';exact len_str (by lia) ⟨.int _,H,I.tok _,⟨_,rfl⟩,q⟩
 |byt y=>
  obtain⟨t,rfl⟩:=rx;obtain⟨hy,e'⟩:y.size<=av/\n=y.size:=e;subst e';exact PySem.W.len_bytes (by lia) ⟨.int _,H,I.tok _,⟨_,rfl⟩,q⟩
 |ref p=>
  cases rx;have e':(∃xs,cN X.K H p xs/\n=xs.length)\/∃xs,dA X.K H p xs/\n=xs.length:=e;rcases e' with⟨xs,hx,e'⟩|⟨xs,hx,e'⟩
  ·subst e';obtain⟨its,r',pl,hz⟩:=I.list hx;have hlen:=r'.length;exact Calls.call_len_list pl.isList (by simp only[aF];lia) ⟨.int xs.length,H,I.tok _,⟨_,by simp only[aF];rw[hlen]⟩,q⟩
  ·subst e';obtain⟨its,r',pl,hz⟩:=I.tuple hx;have hlen:=r'.length;exact len_tuple pl (by simp only[aF];lia) ⟨.int xs.length,H,I.tok _,⟨_,by simp only[aF];rw[hlen]⟩,q⟩
 |_=>exact(show False from e).elim
end
def CC{h:Heap}{dx:ar}{mA:Str->Option ae}(n:h.Ns1 dx mA):∃od,h.get? dx=some od/\∀name,PySem.W.lookIn name od=some (mA name):=by
 obtain⟨o,es,ep,ho,hd,hk,_,hm⟩:=n;refine⟨o,ho,λname=>?_⟩;have e:=hm name;unfold nsFind findBy at e;rw[<-Array.find?_toList] at e;unfold PySem.W.lookIn;rw[hd];dsimp only;split
 ·rename_i y q;rw[q] at e;exact congrArg some e
 ·rename_i q;rw[q] at e;have a:es.toList.any (·.refKey)=false:=by
   rw[List.any_eq_false];intro y hy;obtain⟨z,t,hkey⟩:=hk y (Array.mem_toList_iff.mp hy);simp[DictEntry.refKey,hkey]
  have a':¬es.toList.any (·.refKey)=true:=by rw[a];exact Bool.false_ne_true
  rw[if_neg a'];exact congrArg some e
section
variable{prog:aZ}{w:bK}{A:bu}{E:Zi}{s:aq}{K:Fg}{x dx C f:ar}{mA:Str->Option ae}{name:Str}{v:ae}
end
def nX(f:Str)(v:V):List (Str×V)->List (Str×V)
 |[]=>[(f,v)]
 |(g,x)::r=>if g=f then(g,v)::r else(g,x)::nX f v r
def xB(f g:Str)(v:V):∀fs:List (Str×V),(nX f v fs).lookup g=if g=f then some v else fs.lookup g
 |[]=>by
  show iH g [(f,v)]=_;by_cases h:g=f
  ·have hb:(g==f)=true:=beq_iff_eq.mpr h;simp only[iH,hb,if_pos h]
  ·have hb:(g==f)=false:=beq_eq_false_iff_ne.mpr h;simp only[iH,hb,if_neg h]
 |(k,x)::r=>by
  have ih:=xB f g v r;rw[show nX f v ((k,x)::r)=(if k=f then(k,v)::r else(k,x)::nX f v r) from rfl];by_cases hk:k=f
  ·rw[if_pos hk];by_cases h:g=k
   ·have hb:(g==k)=true:=beq_iff_eq.mpr h;simp only[iH,hb,if_pos (h.trans hk)]
   ·have hb:(g==k)=false:=beq_eq_false_iff_ne.mpr h;simp only[iH,hb,if_neg (λe:g=f=>h (e.trans hk.symm))]
  ·rw[if_neg hk];by_cases h:g=k
   ·have hb:(g==k)=true:=beq_iff_eq.mpr h;simp only[iH,hb,if_neg (λe:g=f=>hk (h.symm.trans e))]
   ·have hb:(g==k)=false:=beq_eq_false_iff_ne.mpr h;simp only[iH,hb];exact ih
def wu(f:Str)(v:V):∀fs:List (Str×V),f∈(nX f v fs).map (·.1)/\∀g,g∈fs.map (·.1)->g∈(nX f v fs).map (·.1)
 |[]=>⟨by simp[nX],λg h=>by simp at h⟩
 |(k,x)::r=>by
  obtain⟨i1,i2⟩:=wu f v r;rw[show nX f v ((k,x)::r)=(if k=f then(k,v)::r else(k,x)::nX f v r) from rfl];by_cases hk:k=f
  ·rw[if_pos hk];subst hk;exact⟨by simp,λg h=>by simpa using h⟩
  ·rw[if_neg hk];refine⟨?_,λg h=>?_⟩
   ·rw[aY];exact bx _ i1
   ·rw[aY] at h ⊢;rcases aE.mp h with e|e
    ·exact aE.mpr (.inl e)
    ·exact bx _ (i2 g e)
def xw(f:Str)(v:V):∀fs:List (Str×V),(nX f v fs).length<=fs.length+1
 |[]=>by simp[nX]
 |(k,x)::r=>by
  have ih:=xw f v r;rw[show nX f v ((k,x)::r)=(if k=f then(k,v)::r else(k,x)::nX f v r) from rfl];by_cases hk:k=f
  ·rw[if_pos hk,aP,aP];lia
  ·rw[if_neg hk,aP,aP];lia
def sD.some_of{v:V}{o:Option ae}(r:sD (some v) o):∃u,o=some u/\d5 v u:=by
 cases o with
 |none=>exact(show False from r).elim
 |some u=>exact⟨u,rfl,r⟩
def Kw{v:V}{u:ae}(r:d5 v u):PySem.W.handedIn u=true:=by
 cases v with
 |non=>cases(show u=ae.none from r);rfl
 |bl b=>cases(show u=ae.bool b from r);rfl
 |int i=>obtain⟨t,e⟩:=(show ∃t,u=ae.int i t from r);cases e;rfl
 |str x=>obtain⟨t,e⟩:=(show ∃t,u=ae.str x t from r);cases e;rfl
 |byt b=>obtain⟨t,e⟩:=(show ∃t,u=ae.bytes b t from r);cases e;rfl
 |flt b=>obtain⟨t,e⟩:=(show ∃t,u=ae.float b t from r);cases e;rfl
 |ref a=>cases(show u=ae.ref a from r);rfl
 |ty n=>cases(show u=ae.type n from r);rfl
section
variable{P:aZ}{w:bK}{H H':Hp}{h h':Heap}{a C dx:ar}{fs fs':List (Str×V)}
end
def nM(K:Fg)(C:ar)(f:Str):Prop:=cH K (.ref C) f=some none
section
variable{X:Cx}{pins:List (ar×Obj)}{σ:St}{H:Hp}{s:aq}{a C dx:ar}{fs:List (Str×V)}{f:Str}{v:V}{A:bu}{E:Zi}
def Pl{prog:aZ}{w:bK}{env:Env}{e:Expr}{f:Str}{pos:Pos}{s:aq}{Q:Zi}(hb:eM e f env (eval e env)=eval e env)
  (h:aM (model prog w) A (eval e env) (λo s₁=>aM (model prog w) A (getAttr o f true) Q E s₁) E s):aM (model prog w) A (eval (.Attribute e f pos) env) Q E s:=
 Attribute_any_ h (by rw[arm_eval_Attribute,hb])
end
section
variable{X:Cx}{o e value:Expr}{f:Str}{pos pos' tpos:Pos}{ta tv:TE}
end
section
variable{X:Cx}{pins:List (ar×Obj)}{σ:St}{H:Hp}{s:aq}{A:bu}{E:Zi}{Q:Zi}{c:ae}{b:Bool}
end
structure gW(k:Nat)(A:bu):Prop where
 hd:A.handled=none
 dp:A.depth+3*k+5<recursionLimit
 un:A.units+16*k+200<cLine
def gW.mono{j k:Nat}{A:bu}(r:gW k A)(h:j<=k):gW j A:=⟨r.hd,by have:=r.dp;lia,by have:=r.un;lia⟩
def gW.deeper{k:Nat}{A:bu}(r:gW (k+1) A)(env:Env):gW k (A.deeper env):=
 ⟨r.hd,by have:=r.dp;show A.depth+1+3*k+5<_;lia,by have:=r.un;show A.units+3+16*k+200<_;lia⟩
def HE{A:bu}{C:ar}{us:List ae}{kw:List (Str×ae)}:(A.under (.builtin "type.__call__" ⟨.ref C::us,kw⟩)).depth=A.depth+1:=by
 first|rfl|simp[bu.under,Code.weight,Code.isCreation,Code.isGuard,Code.isCaller,Code.frames,Code.isFrame,guardIds]
def HG{A:bu}{C:ar}{us:List ae}{kw:List (Str×ae)}:(A.under (.builtin "type.__call__" ⟨.ref C::us,kw⟩)).units=A.units+1:=by
 first|rfl|simp[bu.under,Code.cUnits,Code.frames,Code.isFrame]
def gW.make{k:Nat}{A:bu}(r:gW (k+1) A)(C:ar)(us:List ae)(kw:List (Str×ae)):gW k (A.under (.builtin "type.__call__" ⟨.ref C::us,kw⟩)):=
 ⟨r.hd,by have:=r.dp;rw[HE];lia,by have:=r.un;rw[HG];lia⟩
def gW.depth{k:Nat}{A:bu}(r:gW k A):A.depth<recursionLimit:=by have:=r.dp;lia
def gW.units{k:Nat}{A:bu}(r:gW k A):A.units+64<cLine:=by have:=r.un;lia
def gW.units0{k:Nat}{A:bu}(r:gW k A):A.units<cLine:=by have:=r.un;lia
def aJ:TA:=λ_ H Q=>Q [] H
def ai(ta:TE)(tr:TA):TA:=λσ H Q=>ta σ H λx H1=>tr σ H1 λxs H2=>Q (x::xs) H2
section
variable{X:Cx}{e:Expr}{es:List Expr}{te:TE}{t:TA}{pos:Pos}
def SU:PA X [] aJ:=λ_ _ _ _ H Q I h=>Calls.spliced_nil ⟨[],H,I,.nil,h⟩
def Qf(ha:PE X e te)(hr:PA X es t)(hs:aT (e::es) X.env=(false,eval e X.env)::aT es X.env:=by rfl):PA X (e::es) (ai te t):=by
 intro pos pins s σ H Q I h;rw[hs];show aM _ _ (spliced ((false,eval e X.env)::eW pos (aT es X.env))) _ _ s;refine Calls.spliced_cons (gs (ha pins s σ H _ I h) λu s1 ⟨x,H1,I1,r1,q1⟩=>?_);exact gs (hr pos pins s1 σ H1 _ I1 q1) λus s2 ⟨xs,H2,I2,r2,q2⟩=>⟨x::xs,H2,I2,.cons r1 r2,q2⟩
def e6(t:TA):TE:=λσ H Q=>t σ H λxs H1=>xs.length<=av/\∀p,H1 p=none->Q (.ref p) (upd H1 p (.tup xs))
def iO(t:TA):TE:=λσ H Q=>t σ H λxs H1=>xs.length<=av/\∀p,H1 p=none->Q (.ref p) (upd H1 p (.lst xs))
def Td{x1}(h:PA X es t):PE X (.Tuple es x1 pos) (e6 t):=by
 intro pins s σ H Q I hq;refine wpAny_Tuple_spliced (gs (h pos pins s σ H _ I hq) λus s1 ⟨xs,H1,I1,r,z,q⟩=>⟨by rw[<-r.length];exact z,?_⟩);have hf:H1 s1.heap.objs.size=none:=I1.hok.fresh (aB _);refine⟨.ref s1.heap.objs.size,upd H1 s1.heap.objs.size (.tup xs),I1.laid (t':=s1.toks) (λb u e=>ak _ e) (aB _) ?_,rfl,q _ hf⟩;exact⟨z,us,r,⟨_,aO _ rfl,⟨rfl,rfl⟩,_,rfl⟩⟩
def S9(h:PA X es t):PE X (.List es pos) (iO t):=by
 intro pins s σ H Q I hq;refine wpAny_List_spliced (gs (h pos pins s σ H _ I hq) λus s1 ⟨xs,H1,I1,r,z,q⟩=>⟨by rw[<-r.length];exact z,?_⟩);have hf:H1 s1.heap.objs.size=none:=I1.hok.fresh (aB _);refine⟨.ref s1.heap.objs.size,upd H1 s1.heap.objs.size (.lst xs),I1.laid (t':=s1.toks) (λb u e=>ak _ e) (aB _) ?_,rfl,q _ hf⟩;exact⟨z,us,0,r,aO _ rfl⟩
end
abbrev Sp:=List V->Hp->VK->XK->Prop
abbrev LP:=List Env->Hp->aq->XK->ae->aq->Prop
structure GX(P:aZ)(w:bK)(K:Fg)(mg:Str->Option ae)(base:Heap)(A:bu)(outer:List Env)(s:aq)(H:Hp):Prop where
 frames:A.frames=some outer
 mod:Mod K mg base
 bs:∀b o,base.get? b=some o->s.heap.get? b=some o/\H b=none
 bsz:base.objs.size<=s.heap.objs.size
 funs:s.heap.FunFrames base outer
 frf:∀b∈EF outer,H b=none
 hok:qI P w H s.heap
 bare:lM s.gens
def CE(outer:List Env)(P:aZ)(w:bK)(H:Hp)(s:aq)(Q:VK)(u:ae)(s':aq):Prop:=
 ∃v H',s'.os=s.os/\lM s'.gens/\Un (EF outer) [] H H' s.heap s'.heap/\qI P w H' s'.heap/\d5 v u/\Q v H'
def CR(CX:LP)(outer:List Env)(P:aZ)(w:bK)(H:Hp)(s:aq)(Q:VK)(E:XK)(r:Result)(s':aq):Prop:=
 match r with
 |.ok (.ret u)=>CE outer P w H s Q u s'
 |.ok _=>False
 |.error e=>CX outer H s E e s'
structure oF(P:aZ)(w:bK)(K:Fg)(mg:Str->Option ae)(base:Heap)(CX:LP)(k:Nat)(f:ar)(fd:dR)(ps:List Str)(sp:Sp):Prop where
 len:∀vs H Q E,sp vs H Q E->vs.length=ps.length
 run:∀(A:bu) (outer:List Env) (s:aq) (H:Hp) (args:Args) (us:List ae) (vs:List V) (Q:VK) (E:XK),gW k A->GX P w K mg base A outer s H->rT s fd args (ps.zip us)->c9 vs us->sp vs H Q E->
  gE (model P w) A (.call (.ref f) args) (CR CX outer P w H s Q E) s
def GX.make{P:aZ}{w:bK}{K:Fg}{mg:Str->Option ae}{base:Heap}{A:bu}{outer:List Env}{s:aq}{H:Hp}(e:GX P w K mg base A outer s H)(C:ar)(us:List ae)(kw:List (Str×ae)) :
  GX P w K mg base (A.under (.builtin "type.__call__" ⟨.ref C::us,kw⟩)) outer s H:=⟨by first|exact e.frames|(simpa[bu.under,Code.envs,Code.isFrame,pushEnvs] using e.frames),e.mod,e.bs,e.bsz,e.funs,e.frf,e.hok,e.bare⟩
section
variable{X:Cx}{pins:List (ar×Obj)}{σ:St}{H:Hp}{s s':aq}
def bZ.env0(I:bZ X pins σ H s):GX X.prog X.w X.K X.mg X.base X.A X.stack s H:=
 ⟨I.ok.frames,I.ok.mod,I.bs,cT I.ok.bsz I.sz,I.stack,I.stkFree,I.hok,I.bare⟩
def bZ.after{Q:VK}{u:ae}(I:bZ X pins σ H s)(h:CE X.stack X.prog X.w H s Q u s'):EP X pins σ Q u s':=by
 obtain⟨v,H',os,bare,un,hok,r,q⟩:=h;obtain⟨hh,g,d,t,os'⟩:=s';obtain rfl:os'=s.os:=os;exact⟨v,H',I.call (h':=hh) (g':=g) (d':=d) (t':=t) (ch:=[]) un hok bare (λb z=>absurd z (by simp)),r,q⟩
end
def bE(sp:Sp)(dvs:List V)(E:XK)(t:TA):TE:=λσ H Q=>t σ H λvs H1=>sp (vs++dvs) H1 Q E
def qf(K:Fg)(fd:dR)(ps:List Str)(ds:List ae):Prop:=
 ∀(s:aq) (us:List ae),K.In s.heap->(us++ds).length=ps.length->rT s fd ⟨us,[]⟩ (ps.zip (us++ds))
def qf.all{K:Fg}{fd:dR}{ps:List Str}(h:∀us:List ae,us.length=ps.length->bindArgs fd ⟨us,[]⟩=pure (ps.zip us)):qf K fd ps []:=λs us _ hl=>by
 rw[dn] at hl ⊢;exact .of_eq (h us hl)
def nO(CX:LP)(X:Cx)(E:XK):Prop:=∀(pins:List (ar×Obj)) (σ:St) (H:Hp) (s:aq) (e:ae) (s':aq),bZ X pins σ H s->CX X.stack H s E e s'->X.xe e s'
section
variable{X:Cx}{CX:LP}{k:Nat}{f C:ar}{fd:dR}{ps:List Str}{sp:Sp}{dvs:List V}{ds:List ae}{E:XK}{x m:Str}{p pos apos:Pos}{e o:Expr}{es:List Expr}{ta:TE}{t:TA}
def TU{pins:List (ar×Obj)}{σ:St}{H:Hp}{s:aq}{Q:VK}{us:List ae}{vs:List V}(F:oF X.prog X.w X.K X.mg X.base CX k f fd ps sp)(hr:gW k X.A)(hb:qf X.K fd ps ds)(hd:c9 dvs ds)(hx:nO CX X E)
  (I:bZ X pins σ H s) (r:c9 vs us) (h:sp (vs++dvs) H Q E):aM (model X.prog X.w) X.A (call (.ref f) us) (EP X pins σ Q) X.xe s:=by
 have r2:c9 (vs++dvs) (us++ds):=r.append hd;have hl:(us++ds).length=ps.length:=by rw[<-r2.length];exact F.len _ _ _ _ h
 refine jq (gQ (F.run X.A X.stack s H ⟨us,[]⟩ (us++ds) (vs++dvs) Q E hr I.env0 (hb s us I.kIn hl) r2 h) λr s' hq=>?_);cases r with
 |error e=>exact hx pins σ H s e s' I hq
 |ok fl=>
  cases fl with
  |ret u=>exact I.after hq
  |next=>exact False.elim hq
  |brk=>exact False.elim hq
  |cont=>exact False.elim hq
def JB(F:oF X.prog X.w X.K X.mg X.base CX k f fd ps sp)(hr:gW k X.A)(hg:Gl X x)(hm:X.mg x=some (.ref f))(hk:cI X.K (.ref f)=true)(hb:qf X.K fd ps ds)(hd:c9 dvs ds)(hx:nO CX X E)
  (ha:PA X (e::es) t) (hdb:(x==("__debug__":Str))=false:=by decide) (he:aT (e::es) X.env=(false,eval e X.env)::aT es X.env:=by rfl) (hpl:(eW pos (aT es X.env)).any (·.1)=false:=by rfl) :
  PE X (.Call (.Name x p) (e::es) [] pos) (bE sp dvs E t):=by
 intro pins s σ H Q I h;refine eG (uY I hg hm ?_ hdb);refine PySem.W.callWith_K (h₀:=X.base) I.ok.mod.kin hk (gs (ha pos pins s σ H _ I h) λus s1 ⟨vs,H1,I1,r,q⟩=>⟨I1.kIn,?_⟩) he hpl;exact TU F hr hb hd hx I1 r q
end
def PK(X:Cx)(kws:List iS)(t:TA):Prop:=
 ∀(pos:Pos) (pins:List (ar×Obj)) (s:aq) (σ:St) (H:Hp) (Q:List V->Hp->Prop),bZ X pins σ H s->t σ H Q->aM (model X.prog X.w) X.A (evalAll ((lZ pos (iA kws X.env)).map (·.2))) (AP X pins σ Q) X.xe s
section
variable{X:Cx}{CX:LP}{k:Nat}{f C:ar}{fd:dR}{ps ks:List Str}{sp:Sp}{E:XK}{x m:Str}{p pos apos kpos:Pos}{e o:Expr}{es:List Expr}{kws:List iS}{te ta:TE}{t tk:TA}{nm:Option Str}
def To:PK X [] aJ:=λ_ _ _ _ H Q I h=>wpAny_evalAll_nil ⟨[],H,I,.nil,h⟩
def Qv(ha:PE X e te)(hr:PK X kws t):PK X (⟨nm,e,kpos⟩::kws) (ai te t):=by
 intro pos pins s σ H Q I h;show aM _ _ (evalAll ((do let v <-eval e X.env;standAt pos;pure v)::(lZ pos (iA kws X.env)).map (·.2))) _ _ s;refine wpAny_evalAll_cons (aa (gs (ha pins s σ H _ I h) λu s1 ⟨x,H1,I1,r1,q1⟩=>aa (hZ (az ?_))));exact gs (hr pos pins s1 σ H1 _ I1 q1) λus s2 ⟨xs,H2,I2,r2,q2⟩=>⟨x::xs,H2,I2,.cons r1 r2,q2⟩
variable{g:List ae->List ae->List ae}{gV:List V->List V->List V}
end
structure kH(N P:List Str)(sc:Scope):Prop where
 kind:sc.kind=.function
 co:sc.isCoroutine=false
 gen:sc.isGenerator=false
 nd:N.Nodup
 pre:N.take P.length=P
 par:∀x∈P,sc.names.lookup x=some .local\/sc.names.lookup x=some .cell
 nofree:∀y∈sc.names,y.2≠.free
def Cj{kindOf:Str->Option ck}{x:Str}:∀{binds:List (Str×ae)} {m:Str->Option ae},(∀v,(x,v)∉binds)->bindL kindOf binds m x=m x
 |[],_,_=>rfl
 |(n,v)::r,m,h=>by
  unfold bindL;rw[Cj λw hw=>h w (bx _ hw)];split
  ·have:x≠n:=by rintro rfl;exact h v bT
   simp[this]
  ·rfl
def Cg{kindOf:Str->Option ck}{x:Str}:∀{binds:List (Str×ae)} {m:Str->Option ae},(∀v,(x,v)∉binds)->bindC kindOf binds m x=m x
 |[],_,_=>rfl
 |(n,v)::r,m,h=>by
  unfold bindC;rw[Cg λw hw=>h w (bx _ hw)];split
  ·rfl
  ·have:x≠n:=by rintro rfl;exact h v bT
   simp[this]
def Ci{kindOf:Str->Option ck}{x:Str}{v:ae}:∀{P:List Str} {vs:List ae} {i:Nat} {m:Str->Option ae},P.Nodup->P[i]?=some x->vs[i]?=some v->kindOf x=some .local->
  bindL kindOf (P.zip vs) m x=some v
 |[],_,_,_,_,h,_,_=>by simp at h
 |_::_,[],_,_,_,_,h,_=>by simp at h
 |p::P,w::vs,0,m,nd,h1,h2,hk=>by
  simp at h1 h2;subst h1;subst h2;show bindL kindOf ((p,w)::P.zip vs) m p=_;unfold bindL;rw[Cj λv hv=>(dC.mp nd).1 (qb hv).1,if_pos hk];simp
 |p::P,w::vs,i+1,m,nd,h1,h2,hk=>by
  show bindL kindOf ((p,w)::P.zip vs) m x=_;unfold bindL;exact Ci (i:=i) (dC.mp nd).2 (by simpa using h1) (by simpa using h2) hk
def Cf{kindOf:Str->Option ck}{x:Str}{v:ae}:∀{P:List Str} {vs:List ae} {i:Nat} {m:Str->Option ae},P.Nodup->P[i]?=some x->vs[i]?=some v->kindOf x≠some .local->
  bindC kindOf (P.zip vs) m x=some v
 |[],_,_,_,_,h,_,_=>by simp at h
 |_::_,[],_,_,_,_,h,_=>by simp at h
 |p::P,w::vs,0,m,nd,h1,h2,hk=>by
  simp at h1 h2;subst h1;subst h2;show bindC kindOf ((p,w)::P.zip vs) m p=_;unfold bindC;rw[Cg λv hv=>(dC.mp nd).1 (qb hv).1,if_neg hk];simp
 |p::P,w::vs,i+1,m,nd,h1,h2,hk=>by
  show bindC kindOf ((p,w)::P.zip vs) m x=_;unfold bindC;exact Cf (i:=i) (dC.mp nd).2 (by simpa using h1) (by simpa using h2) hk
def cQ(N:List Str)(vs:List V):St:=vs.map some++bB (N.length-vs.length) none
def sF(CX:LP)(P:aZ)(w:bK)(K:Fg)(mg:Str->Option ae)(base:Heap)(N:List Str)(qual:Str)(scope:Scope)(f:ar)(cd:ae)(A:bu)(outer:List Env)(s:aq)(H:Hp)(E:XK):Cx where
 prog:=P
 w:=w
 K:=K
 mg:=mg
 base:=base
 A:=A.deeper (h9 qual scope s.heap.objs.size f cd)
 N:=N
 s₀:=s
 H₀:=H
 env:=h9 qual scope s.heap.objs.size f cd
 outer:=outer
 stack:=h9 qual scope s.heap.objs.size f cd::outer
 ex:=[]
 calm:=true
 fn:=λ_=>true
 pn:=[]
 xe:=λe s'=>aM (model P w) (A.deeper (h9 qual scope s.heap.objs.size f cd)) (leaving (h9 qual scope s.heap.objs.size f cd) e) (λ_ s''=>CX outer H s E e s'') (λe' s''=>CX outer H s E e' s'') s'
def E8{sc:Scope}{n:Nat}{x:Str}(h:sc.names.lookup x=some .cell):∃c,(cellsFrom n sc.names []).lookup x=some c:=by
 have q:=PySem.W.cellsFrom_some sc.names n [] (.inl h);exact gy.mp q
def KC{CX:LP}{P:aZ}{w:bK}{K:Fg}{mg:Str->Option ae}{base:Heap}{N ps:List Str}{qual:Str}{scope:Scope}{f:ar}{cd:ae}{A:bu}{outer:List Env}{s s1:aq}{H:Hp}{E:XK}{us:List ae}{vs:List V}
  (S:kH N ps scope) (hd:A.handled=none) (e0:GX P w K mg base A outer s H) (hl:vs.length=ps.length) (r:c9 vs us)
  (x:InCallC s s.heap.objs.size (bindL (h9 qual scope s.heap.objs.size f cd).kindOf (ps.zip us) λ_=>none) (cellsFrom (s.heap.objs.size+1) scope.names []) (bindC (h9 qual scope s.heap.objs.size f cd).kindOf (ps.zip us) λ_=>none) s1) :
  bZ (sF CX P w K mg base N qual scope f cd A outer s H E) [] (cQ N vs) H s1:=by
 have hpl:ps.length<=N.length:=by have:=congrArg gk S.pre;rw[aX] at this;lia
 obtain⟨h1,tk,rfl,hk⟩:=x.done;have noA:∀b:ar,b∉(sF CX P w K mg base N qual scope f cd A outer s H E).ex:=λb z=>absurd (show b∈([]:List ar) from z) (by simp);refine⟨⟨e0.mod,S.kind,rfl,rfl,aB _,λy z c h1 h2=>?_,λy hy=>?_,λy c _ h=>?_,λ_=>hd,bu.frames_deeper e0.frames,.inr ⟨rfl,rfl⟩,λb z=>absurd z (noA b),e0.bs,e0.bsz,λb _ _=>noA b,λb z=>absurd z (noA b),e0.funs,e0.frf⟩,
  rfl,e0.bare,Un.kept hk,⟨_,x.toInCall.ns,λi y v h1 h2 h3=>?_⟩,λy c h=>⟨_,x.cell y c h⟩,e0.hok.fresh (aB _),λy c h=>?_,λp hp=>absurd (show p∈([]:List (ar×Obj)) from hp) (by simp),e0.hok.kept hk,?_⟩
 ·exact name_of_addr x.apart (dI h1) (dI h2)
 ·have hy:scope.names.lookup y=some .cell\/scope.names.lookup y=some .free:=hy;rcases hy with hy|hy
  ·exact E8 hy
  ·exact absurd rfl (S.nofree _ (dI hy))
 ·exact di (x.above y c (dI h))
 ·have hi:i<vs.length:=by
   unfold cQ at h2;by_cases hi:i<vs.length
   ·exact hi
   ·rw[bV (by simpa using hi)] at h2;rw[jx] at h2;split at h2<;>cases h2
  have ha:vs[i]?=some v:=by
   unfold cQ at h2;rw[cF (by simpa using hi),aQ] at h2;cases e:vs[i]? with
   |none=>rw[e] at h2;cases h2
   |some a=>rw[e] at h2;cases h2;rfl
  obtain⟨u,hu,rv⟩:=r.get ha;have hp:ps[i]?=some y:=by
   rw[<-S.pre,i7 (by lia)];exact h1
  have ndP:ps.Nodup:=by rw[<-S.pre];exact S.nd.sublist (jL _ _)
  refine⟨u,rv,?_⟩;rcases S.par y (aD hp) with k|k
  ·exact .inl ⟨k,Ci ndP hp hu k⟩
  ·obtain⟨c,e⟩:=E8 (n:=s.heap.objs.size+1) k;refine .inr ⟨.inl k,c,e,?_⟩;have q:=x.cell y c e;rw[Cf ndP hp hu (by show scope.names.lookup y≠_;rw[k];decide)] at q;exact q
 ·exact e0.hok.fresh (di (x.above y c (dI h)))
 ·unfold cQ;show _=N.length;rw[aN,af,cB];lia
def MQ{CX:LP}{P:aZ}{w:bK}{K:Fg}{mg:Str->Option ae}{base:Heap}{k:Nat}{f:ar}{name qual:Str}{params:Arguments}{body:List Stmt}{scope:Scope}{dV kV doc pm cdv ct oc:ae}{an od:Option ar}
  {osl:Array (Option ae)} {N ps:List Str} {sp:Sp} (lk:K.lookup f=some ⟨oc,od,.func (dk name qual params body scope dV kV doc pm an cdv ct),osl⟩) (hcd:eh K cdv qual=true) (S:kH N ps scope)
  (len:∀vs H Q E,sp vs H Q E->vs.length=ps.length)
  (hbody:∀(A:bu) (outer:List Env) (s:aq) (H:Hp) (vs:List V) (Q:VK) (E:XK),gW k (A.deeper (h9 qual scope s.heap.objs.size f cdv))->sp vs H Q E->
   ∃t,Cb (sF CX P w K mg base N qual scope f cdv A outer s H E) body t/\t {nx:=λ_ H'=>Q .non H',rt:=Q} (cQ N vs) H) :
  oF P w K mg base CX (k+1) f (dk name qual params body scope dV kV doc pm an cdv ct) ps sp:=by
 refine⟨len,λA outer s H args us vs Q E hr e0 hb r hsp=>?_⟩;have hl:=len _ _ _ _ hsp;have KX:K.In s.heap:=e0.mod.kin.keeps λb o e=>(e0.bs b o e).1;have lim:s.heap.NoLimit:=e0.mod.nolimit.keeps λb o e=>(e0.bs b o e).1;have hkind:∀y∈ps.zip us,scope.names.lookup y.1=some .local\/(scope.names.lookup y.1=some .cell/\((cellsFrom (s.heap.objs.size+1) scope.names []).lookup y.1).isSome=true):=λ⟨n,v⟩ hy=>by
  rcases S.par n (qb hy).1 with q|q
  ·exact .inl q
  ·exact .inr ⟨q,PySem.W.cellsFrom_some _ _ _ (.inl q)⟩
 refine codeAny_call_function hr.depth (KX _ _ lk) rfl S.co S.gen rfl (PySem.W.codeRec_of KX hcd) (hb _ _ _ _ ?_);refine wpAny_newFunctionEnv_cells S.kind hkind λenv he s1 x=>?_;subst he;refine⟨lim.keeps x.toInCall.keep,codeAny_func ?_⟩;obtain⟨t,ht,hq⟩:=hbody A outer s H vs Q E (hr.deeper _) hsp;have I:bZ (sF CX P w K mg base N qual scope f cdv A outer s H E) [] (cQ N vs) H s1:=KC S hr.hd e0 hl r x;refine c7 (ht [] s1 (cQ N vs) H _ I hq) (λfl s' hs=>?_) λe s' hs=>hs;have fin:∀{σ':St} {H':Hp} {v:V} {u:ae},bZ (sF CX P w K mg base N qual scope f cdv A outer s H E) [] σ' H' s'->d5 v u->Q v H'->CE outer P w H s Q u s':=
  λ{σ' H' v u} J rv q=>⟨v,H',J.os,J.bare,J.base,J.hok,rv,q⟩
 cases fl with
 |ret u=>
  obtain⟨v,σ',H',J,rv,q⟩:=hs;exact fin J rv q
 |next=>
  obtain⟨σ',H',J,q⟩:=hs;exact fin (v:=V.non) (u:=ae.none) J rfl q
 |brk=>
  obtain⟨_,_,_,q⟩:=hs;exact False.elim q
 |cont=>
  obtain⟨_,_,_,q⟩:=hs;exact False.elim q
section
variable{X:Cx}{x:Str}{p pos:Pos}{e:Expr}{es:List Expr}{t:TA}{id T:String}{r:List V->Hp->VK->Prop}
def fS(r:List V->Hp->VK->Prop)(t:TA):TE:=λσ H Q=>t σ H λvs H1=>r vs H1 Q
def NA(hc:iJ X (.builtin id) r)(hg:Gl X x)(hm:X.mg x=none)(hv:fE x=some (.builtin id))(ha:PA X (e::es) t)(hn:x≠"__name__":=by decide)(hdb:(x==("__debug__":Str))=false:=by decide)
  (he:aT (e::es) X.env=(false,eval e X.env)::aT es X.env:=by rfl) (hpl:(eW pos (aT es X.env)).any (·.1)=false:=by rfl):PE X (.Call (.Name x p) (e::es) [] pos) (fS r t):=by
 intro pins s σ H Q I h;refine eG (lA I hg hm hv ?_ hn hdb);exact PyProof.Rows.callWith_builtin1 (gs (ha pos pins s σ H _ I h) λus s1 ⟨vs,H1,I1,r1,q1⟩=>hc pins s1 σ H1 vs us Q I1 r1 q1) he hpl
def K8(hc:iJ X (.type T) r)(hg:Gl X x)(hm:X.mg x=none)(hv:fE x=some (.type T))(ha:PA X (e::es) t)(hn:x≠"__name__":=by decide)(hdb:(x==("__debug__":Str))=false:=by decide)
  (he:aT (e::es) X.env=(false,eval e X.env)::aT es X.env:=by rfl) (hpl:(eW pos (aT es X.env)).any (·.1)=false:=by rfl):PE X (.Call (.Name x p) (e::es) [] pos) (fS r t):=by
 intro pins s σ H Q I h;refine eG (lA I hg hm hv ?_ hn hdb);exact cL (gs (ha pos pins s σ H _ I h) λus s1 ⟨vs,H1,I1,r1,q1⟩=>hc pins s1 σ H1 vs us Q I1 r1 q1) he hpl
end
end L2
namespace HT
open PySem PyProof.Rows
section
open PySem.SeqAt
open PySem.AutoSeq1 (wpAny_loadPart')
open PySem.MeetsSeq PySem.MeetsSeq2 PySem.MeetsSeq3
end
section
variable{prog:aZ}{w:bK}{A:bu}{E:Zi}{s:aq}
def cat_tup{t b:ar}{vs ws:List ae}{Q:Zi}(ht:IsTup s.heap t vs.toArray)(hb:IsTup s.heap b ws.toArray)(hv:vs≠[])
  (h1:ws=[]->Q (.ref t) s) (h2:ws≠[]->Q (.ref s.heap.objs.size) {s with heap:=s.heap.push {cls:=.type "tuple",data:=.seq (vs++ws).toArray}})
  (hsz:vs.length+ws.length<=av):aM (model prog w) A (eO .Add (.ref t) (.ref b)) Q E s:=by
 obtain⟨⟨cls,dd,data,sl⟩,ho,hc,n,hd⟩:=id ht;obtain⟨⟨cls2,dd2,data2,sl2⟩,ho2,hc2,n2,hd2⟩:=id hb;simp only at hc hd hc2 hd2;subst hc hd hc2 hd2;have e:vs.toArray++ws.toArray=(vs++ws).toArray:=by simp
 by_cases hw:ws=[]
 ·exact concat_meets ⟨_,ho,rfl⟩ ⟨_,ho2,rfl⟩ noFill_tuple_add seq_tuple_add jN jz (ja _ _)
   (tuple_addW1 t b vs.toArray ws.toArray n n2 dd dd2 sl sl2 (by simpa using hv) (by simp[hw])) ⟨ho,ho2,h1 hw⟩
 ·refine concat_meets ⟨_,ho,rfl⟩ ⟨_,ho2,rfl⟩ noFill_tuple_add seq_tuple_add jN jz (ja _ _)
   (tuple_addW2 t b vs.toArray ws.toArray n n2 dd dd2 sl sl2 (by simpa using hv) (by simpa using hw) (by rw[aF,aF];exact hsz)) ⟨ho,ho2,?_⟩
  rw[e];exact h2 hw
def sIx(n d:Nat):Option Int->Nat
 |none=>d
 |some v=>if v<0 then(v+(n:Int)).toNat else min v.toNat n
def sIx_none(n d:Nat):sIx n d none=d:=rfl
def sIx_nat(n d k:Nat):sIx n d (some (k:Int))=min k n:=by
 show(if(k:Int)<0 then((k:Int)+(n:Int)).toNat else min (k:Int).toNat n)=min k n;rw[if_neg (by lia),dJ]
def TV(n d:Nat)(hd:d<=n)(o:Option Int):sIx n d o<=n:=by
 cases o with
 |none=>exact hd
 |some v=>
  show(if v<0 then(v+(n:Int)).toNat else min v.toNat n)<=n;by_cases hv:v<0
  ·rw[if_pos hv];lia
  ·rw[if_neg hv];exact Nat.min_le_right _ _
def Jh(v:Int)(n d:Nat):(if v<0 then max (v+(n:Int)) 0 else min v (n:Int))=((sIx n d (some v):Nat):Int):=by
 show(if v<0 then max (v+(n:Int)) 0 else min v (n:Int))=(((if v<0 then(v+(n:Int)).toNat else min v.toNat n):Nat):Int);by_cases hv:v<0
 ·simp only[if_pos hv];lia
 ·simp only[if_neg hv];lia
def Hi(lo hi:Option Int)(n:Nat):aS.Slice.sliceAdjust lo hi 1 (n:Int)=(((sIx n 0 lo:Nat):Int),((sIx n n hi:Nat):Int)):=by
 have h1:¬((1:Int)<0):=by lia
 unfold aS.Slice.sliceAdjust;simp only[h1,if_false];refine Prod.ext ?_ ?_
 ·cases lo with
  |none=>rfl
  |some v=>exact Jh v n 0
 ·cases hi with
  |none=>rfl
  |some v=>exact Jh v n n
def HV(i j:Nat):aS.Slice.slicePlaces (i:Int) (j:Int) 1=j-i:=by
 unfold aS.Slice.slicePlaces;have h1:(1:Int)>0:=by lia
 simp only[h1,if_true,Int.ediv_one];split<;>lia
def Al{v:ae}{o:Option Int}{Q:Option Int->aq->Prop}(p:pC v o)(h:Q o s):aM (model prog w) A (aS.Slice.slicePartIndex v) Q E s:=by
 cases p with
 |none=>exact lY h
 |int i t=>exact slicePart_int h
def oW{sl:ar}{vl vu:ae}{lo hi:Option Int}{n:Nat}{Q:Int×Int×Nat->aq->Prop}(hs:s.heap.IsSliceOf sl vl vu .none)(pl:pC vl lo)(pu:pC vu hi)
  (h:Q (((sIx n 0 lo:Nat):Int),1,sIx n n hi-sIx n 0 lo) s):aM (model prog w) A (aS.Slice.sliceApplied (.ref sl) (pure (n:Int))) Q E s:=by
 obtain⟨os,hos,hcs,hds⟩:=id hs;unfold aS.Slice.sliceApplied aS.Slice.sliceFields;refine aa (aa (bQ hos hds (x:=vl) rfl (aa (bQ hos hds (x:=vu) rfl (aa (bQ hos hds (x:=.none) rfl (az ?_)))))));refine aa (lY ?_);show aM _ _ (if((1:Int)==0)=true then _ else _) _ _ s;rw[if_neg (by decide)];refine aa (Al pl (aa (Al pu (aa (az ?_)))));show aM _ _ (match aS.Slice.sliceAdjust lo hi 1 (n:Int) with|(lo,hi)=>pure (lo,(1:Int),aS.Slice.slicePlaces lo hi 1)) _ _ s
 rw[Hi lo hi n];show aM _ _ (pure (((sIx n 0 lo:Nat):Int),(1:Int),aS.Slice.slicePlaces ((sIx n 0 lo:Nat):Int) ((sIx n n hi:Nat):Int) 1)) _ _ s;rw[HV];exact az h
def NK(xs:Array ae)(i k:Nat):((cX k).filterMap λ(m:Nat)=>xs[((i:Int)+(m:Int)*1).toNat]?).toArray=((xs.toList.drop i).take k).toArray:=by
 have e:(λ(m:Nat)=>xs[((i:Int)+(m:Int)*1).toNat]?)=λm=>xs[i+m]?:=by
  funext m;have:((i:Int)+(m:Int)*1).toNat=i+m:=by lia
  rw[this]
 rw[e];have:=pick_run xs i k;rw[List.filterMap_map] at this;have e2:((λx=>xs[x]?) ∘ λx=>i+x)=λm=>xs[i+m]?:=rfl;rw[e2] at this;rw[this]
def getItem_tuple_cut{t sl:ar}{items:Array ae}{vl vu:ae}{lo hi:Option Int}{Q:Zi}(ht:IsTup s.heap t items)(hs:s.heap.IsSliceOf sl vl vu .none)(pl:pC vl lo)(pu:pC vu hi)
  (hw:¬(sIx items.size 0 lo=0/\sIx items.size items.size hi=items.size))
  (h:Q (.ref s.heap.objs.size) {s with heap:=s.heap.push {cls:=.type "tuple",data:=.seq ((items.toList.drop (sIx items.size 0 lo)).take (sIx items.size items.size hi-sIx items.size 0 lo)).toArray}})
  (hsz:items.size<=av):aM (model prog w) A (jE (.ref t) (.ref sl)) Q E s:=by
 have htake:sizeOk (.seq ((items.toList.drop (sIx items.size 0 lo)).take (sIx items.size items.size hi-sIx items.size 0 lo)).toArray):=by
  show((items.toList.drop (sIx items.size 0 lo)).take (sIx items.size items.size hi-sIx items.size 0 lo)).toArray.size<=av;rw[aF,aX,eY,bh];lia
 have hj:sIx items.size items.size hi<=items.size:=TV _ _ (aB _) hi;obtain⟨os,hos,hcs,hds⟩:=id hs;have hTs:s.TypeIs (.ref sl) "slice":=⟨os,hos,hcs⟩;unfold jE
 try with_reducible refine bW ?_
 first|refine aa (az ?_)|skip
 refine aa (wpAny_sequenceKey ht.typeIs (by decide) ?_);refine aa (b8 (name:=Str.ofString "__getitem__") ht.typeIs dc
  (dq dc ht.typeIs entry_tuple_getitem ?_ (args_tuple_getitem _ _)))
 show aM _ _ (aS.Tuple.tupleItemsOf (.ref t) >>= _) _ _ s;refine aa (tupleItemsOf_ ht ?_);refine aa (iU hTs ?_);rw[if_pos (by decide)];refine aa (oW hs pl pu ?_);have hno:¬((((sIx items.size 0 lo:Nat):Int)==0&&(1:Int)==1&&(sIx items.size items.size hi-sIx items.size 0 lo)==items.size)=true):=by
  intro q;rw[Bool.and_eq_true,Bool.and_eq_true] at q;have q1:((sIx items.size 0 lo:Nat):Int)=0:=eq_of_beq q.1.1;have q2:sIx items.size items.size hi-sIx items.size 0 lo=items.size:=eq_of_beq q.2;exact hw ⟨by lia,by lia⟩
 show aM _ _ (if(((sIx items.size 0 lo:Nat):Int)==0&&(1:Int)==1&&(sIx items.size items.size hi-sIx items.size 0 lo)==items.size)=true then _ else _) _ _ s;rw[if_neg hno,NK]
 first
  |exact aa (m:=aS.Tuple.tupleExact _) (b4 (az ⟨_,rfl,az h⟩) htake)
  |exact aa (m:=aS.Tuple.tupleExact _) (b4 (aa (az (az ⟨_,rfl,az h⟩))) htake)
  |exact aa (aa (m:=aS.Tuple.tupleExact _) (b4 (az (az ⟨_,rfl,az h⟩)) htake))
  |exact aa (aa (m:=aS.Tuple.tupleExact _) (b4 (az ⟨_,rfl,az h⟩) htake))
end
end HT
namespace L2
open PySem PySem.Spec PyProof.Rows
abbrev TO:=St->Hp->(Option Int->Hp->Prop)->Prop
def PO(X:Cx)(e:Option Expr)(t:TO):Prop:=
 ∀(pins:List (ar×Obj)) (s:aq) (σ:St) (H:Hp) (Q:Option Int->Hp->Prop),bZ X pins σ H s->t σ H Q->
  aM (model X.prog X.w) X.A (evalPart e X.env) (λu s'=>∃o H',bZ X pins σ H' s'/\pC u o/\Q o H') X.xe s
def eU:TO:=λ_ H Q=>Q none H
def iP(t:TE):TO:=λσ H Q=>t σ H λx H1=>∃i,x=.int i/\Q (some i) H1
section
variable{X:Cx}{e:Expr}{te:TE}{lo hi:Option Expr}{tl th:TO}{pos p2:Pos}
def Qw:PO X none eU:=by
 intro pins s σ H Q I h;rw[evalPart_none];exact az ⟨none,H,I,.none,h⟩
def Qx(h:PE X e te):PO X (some e) (iP te):=by
 intro pins s σ H Q I hw;rw[evalPart_some];refine gs (h pins s σ H _ I hw) λu s1 ⟨x,H1,I1,r1,q1⟩=>?_;obtain⟨i,rfl,q⟩:=q1;obtain⟨t,rfl⟩:=r1;exact⟨some i,H1,I1,.int i t,q⟩
def Kb(X:Cx)(r:V->Option Int->Option Int->Hp->VK->Prop):Prop:=
 ∀(pins:List (ar×Obj)) (s:aq) (σ:St) (H:Hp) (x:V) (v vl vu:ae) (lo hi:Option Int) (sl:ar) (Q:VK),bZ X pins σ H s->d5 x v->s.heap.IsSliceOf sl vl vu .none->pC vl lo->pC vu hi->r x lo hi H Q->
  ∃T id,kj (.type T) "__getitem__"=pure (some (.builtin id))/\s.TypeIs v T/\aM (model X.prog X.w) X.A (jE v (.ref sl)) (EP X pins σ Q) X.xe s
def Kb.or{r r':V->Option Int->Option Int->Hp->VK->Prop}(h:Kb X r)(h':Kb X r'):Kb X (λx lo hi H Q=>r x lo hi H Q\/r' x lo hi H Q):=by
 intro pins s σ H x v vl vu lo hi sl Q I rx hs pl pu q;rcases q with q|q
 ·exact h pins s σ H x v vl vu lo hi sl Q I rx hs pl pu q
 ·exact h' pins s σ H x v vl vu lo hi sl Q I rx hs pl pu q
def As(r:V->Option Int->Option Int->Hp->VK->Prop)(te:TE)(tl th:TO):TE:=λσ H Q=>te σ H λx H1=>tl σ H1 λl H2=>th σ H2 λu H3=>r x l u H3 Q
def NH{r:V->Option Int->Option Int->Hp->VK->Prop}(hr:Kb X r)(he:PE X e te)(hl:PO X lo tl)(hu:PO X hi th):PE X (.Subscript e (.Slice lo hi none p2) pos) (As r te tl th):=by
 intro pins s σ H Q I h;refine tQ (gs (he pins s σ H _ I h) λv s1 ⟨x,H1,I1,r1,q1⟩=>?_);refine wpAny_Slice (gs (hl pins s1 σ H1 _ I1 q1) λvl s2 ⟨l,H2,I2,pl,q2⟩=>gs (hu pins s2 σ H2 _ I2 q2) λvu s3 ⟨u,H3,I3,pu,q3⟩=>?_);rw[evalPart_none];refine az ?_;have I4:bZ X pins σ H3 {s3 with heap:=s3.heap.push {cls:=.type "slice",data:=.fields #[vl,vu,.none]}}:=I3.kept (t':=s3.toks) λb ob q=>ak _ q;obtain⟨T,id,hT,ht,hg⟩:=hr pins {s3 with heap:=s3.heap.push {cls:=.type "slice",data:=.fields #[vl,vu,.none]}} σ H3 x v vl vu l u s3.heap.objs.size Q I4 r1 (Heap.IsSliceOf.new ..) pl pu q3;show aM (model X.prog X.w) X.A (ny e (.Slice lo hi none p2) v (.ref s3.heap.objs.size)) (EP X pins σ Q) X.xe {s3 with heap:=s3.heap.push {cls:=.type "slice",data:=.fields #[vl,vu,.none]}};exact tail_any (ops:=[.ref s3.heap.objs.size,v]) ht hT hg (by with_unfolding_all rfl)
def kQ(xs:List V)(lo hi:Option Int):List V:=(xs.drop (HT.sIx xs.length 0 lo)).take (HT.sIx xs.length xs.length hi-HT.sIx xs.length 0 lo)
def xo(xs:List V)(lo hi:Option Int):(kQ xs lo hi).length<=xs.length:=by
 unfold kQ;rw[aX,eY];lia
def Vc(K:Fg):V->Option Int->Option Int->Hp->VK->Prop:=λx lo hi H Q=>∃a xs,x=.ref a/\dA K H a xs/\
 ¬(HT.sIx xs.length 0 lo=0/\HT.sIx xs.length xs.length hi=xs.length)/\∀p,H p=none->Q (.ref p) (upd H p (.tup (kQ xs lo hi)))
def T9:Kb X (Vc X.K):=by
 intro pins s σ H x v vl vu lo hi sl Q I rx hs pl pu h;obtain⟨a,xs,rfl,hx,hw,q⟩:=h;cases rx;obtain⟨its,r,ht,hz⟩:=I.tuple hx;have hlen:its.toArray.size=xs.length:=by rw[aF];exact r.length.symm
 refine⟨"tuple",_,dc.lookup,ht.typeIs,?_⟩;refine HT.getItem_tuple_cut ht hs pl pu (by rw[hlen];exact hw) ?_ (by rw[hlen];exact hz);rw[hlen];refine⟨.ref s.heap.objs.size,_,I.laid (t':=s.toks) (o:=.tup (kQ xs lo hi)) (λb ob q=>ak _ q) (aB _) ?_,rfl,q _ (I.hok.fresh (aB _))⟩;exact⟨cT (xo xs lo hi) hz,_,(r.drop (HT.sIx xs.length 0 lo)).take (HT.sIx xs.length xs.length hi-HT.sIx xs.length 0 lo),mh.new _ _⟩
def RJ(K:Fg):R2:=λx y H Q=>∃a b xs ys,x=.ref a/\y=.ref b/\dA K H a xs/\dA K H b ys/\xs≠[]/\xs.length+ys.length<=av/\
 (ys=[]->Q (.ref a) H)/\(ys≠[]->∀p,H p=none->Q (.ref p) (upd H p (.tup (xs++ys))))
def c9.nil_iff{xs:List V}{us:List ae}(r:c9 xs us):us=[]↔xs=[]:=by
 cases r with
 |nil=>simp
 |cons _ _=>simp
def Qb:lK X (eO .Add) (RJ X.K):=by
 intro pins s σ H x y v u Q I rx ry h;obtain⟨a,b,xs,ys,rfl,rfl,ha,hb,hx,hz,q1,q2⟩:=h;cases rx;cases ry;obtain⟨its,r1,p1,_⟩:=I.tuple ha;obtain⟨its2,r2,p2,_⟩:=I.tuple hb;refine HT.cat_tup p1 p2 (λz=>hx (r1.nil_iff.mp z)) (λz=>⟨.ref a,H,I,rfl,q1 (r2.nil_iff.mp z)⟩) (λz=>?_) (by rw[<-r1.length,<-r2.length];exact hz);refine⟨.ref s.heap.objs.size,_,I.laid (t':=s.toks) (o:=.tup (xs++ys)) (λb ob q=>ak _ q) (aB _) ?_,rfl,q2 (λw=>z (r2.nil_iff.mpr w)) _ (I.hok.fresh (aB _))⟩;exact⟨by rw[aN];exact hz,_,r1.append r2,mh.new _ _⟩
end
def PM(n:Nat)(i:Int):Option Nat:=if 0<=i then(if i<n then some i.toNat else none) else if -(n:Int)<=i then some (i+n).toNat else none
def OY{α:Type}(xs:List α)(i:Int):Option α:=(PM xs.length i).bind λj=>xs[j]?
def Jt{n:Nat}{i:Int}{j:Nat}(h:PM n i=some j):seqIndex? i n=some j/\j<n/\-(n:Int)<=i/\i<n:=by
 unfold PM at h;by_cases h0:0<=i
 ·rw[if_pos h0] at h;by_cases h1:i<n
  ·rw[if_pos h1] at h;have e:i.toNat=j:=Option.some.inj h;exact⟨by rw[seqIndex_of h0 h1,e],by lia,by lia,h1⟩
  ·rw[if_neg h1] at h;cases h
 ·rw[if_neg h0] at h;by_cases h1:-(n:Int)<=i
  ·rw[if_pos h1] at h;have e:(i+n).toNat=j:=Option.some.inj h;exact⟨by rw[seqIndex_neg (by lia) h1,e],by lia,h1,by lia⟩
  ·rw[if_neg h1] at h;cases h
def DF{α:Type}{xs:List α}{i:Int}{v:α}(h:OY xs i=some v):∃j,seqIndex? i xs.length=some j/\xs[j]?=some v/\j<xs.length/\-(xs.length:Int)<=i/\i<xs.length:=by
 unfold OY at h;cases e:PM xs.length i with
 |none=>rw[e] at h;cases h
 |some j=>
  rw[e] at h;obtain⟨h1,h2,h3,h4⟩:=Jt e;exact⟨j,h1,h,h2,h3,h4⟩
def DA(b:Expr):Prop:=∀o i,subscripted b false o i=operate [o,i] (jE o i)
def OW(X:Cx)(r:R2):Prop:=
 ∀(value slice:Expr) (pins:List (ar×Obj)) (s:aq) (σ:St) (H:Hp) (x y:V) (v u:ae) (Q:VK),bZ X pins σ H s->d5 x v->d5 y u->r x y H Q->
  subscripted slice false v u=operate [v,u] (jE v u)->aM (model X.prog X.w) X.A (ny value slice v u) (EP X pins σ Q) X.xe s
def R0(X:Cx)(id:String)(r:V->List V->Hp->VK->Prop):Prop:=
 ∀(pins:List (ar×Obj)) (s:aq) (σ:St) (H:Hp) (x:V) (xs:List V) (v:ae) (us:List ae) (Q:VK),bZ X pins σ H s->d5 x v->c9 xs us->r x xs H Q->
  aM (model X.prog X.w) X.A (call (.builtin id) (v::us)) (EP X pins σ Q) X.xe s
section
variable{X:Cx}{a b:Expr}{ta tb:TE}{pos:Pos}
def OW.or{r r':R2}(h:OW X r)(h':OW X r'):OW X (λx y H Q=>r x y H Q\/r' x y H Q):=by
 intro value slice pins s σ H x y v u Q I rx ry q hs;rcases q with q|q
 ·exact h value slice pins s σ H x y v u Q I rx ry q hs
 ·exact h' value slice pins s σ H x y v u Q I rx ry q hs
def UT{r:R2}(hr:OW X r)(ha:PE X a ta)(hb:PE X b tb)(hs:DA b):PE X (.Subscript a b pos) (bq r ta tb):=by
 intro pins s σ H Q I h;exact tQ (Sd ha hb I h λv u s2 x y H2 I2 rx ry q=>hr a b pins s2 σ H2 x y v u Q I2 rx ry q (hs _ _))
def U4(K:Fg):R2:=λx y H Q=>∃p xs i v,x=.ref p/\y=.int i/\cN K H p xs/\OY xs i=some v/\Q v H
def U6(K:Fg):R2:=λx y H Q=>∃p xs i v,x=.ref p/\y=.int i/\dA K H p xs/\OY xs i=some v/\Q v H
def U5:R2:=λx y H Q=>∃z i c,x=.str z/\y=.int i/\z.length<=av/\OY z.cps.toList i=some c/\Q (.str ⟨#[c]⟩) H
def PN:OW X (U4 X.K):=by
 intro value slice pins s σ H x y v u Q I rx ry h hs;obtain⟨p,xs,i,z,rfl,rfl,hq,he,q⟩:=h;cases rx;obtain⟨t,rfl⟩:=ry;obtain⟨its,r,pl,hz⟩:=I.list hq;obtain⟨j,h1,h2,h3,h4,h5⟩:=DF he;obtain⟨w,ew,rw'⟩:=r.get h2;have hl:=r.length;have hn:=wx;have fin:EP X pins σ Q w s:=⟨z,H,I,rw',q⟩;by_cases h0:0<=i
 ·have hj:i.toNat=j:=by
   rw[seqIndex_of h0 h5] at h1;exact Option.some.inj h1
  exact item_listR pl.isList h0 (by lia) (by rw[hj];simpa using ew) fin hs
 ·have hj:(i+(its.toArray.size:Int)).toNat=j:=by
   rw[seqIndex_neg (by lia) h4] at h1;rw[aF,<-hl];exact Option.some.inj h1
  exact subscriptTail_builtinR (x:=w) pl.isList.typeIs slot_list_getitem.lookup
   (wpAny_getItem_list_neg (Q:=λr s'=>r=w/\EP X pins σ Q r s') pl.isList (by lia) (by rw[aF]<;>lia) (by lia) (by rw[hj];simpa using ew) ⟨rfl,fin⟩) hs
def Sw:OW X (U6 X.K):=by
 intro value slice pins s σ H x y v u Q I rx ry h hs;obtain⟨p,xs,i,z,rfl,rfl,hq,he,q⟩:=h;cases rx;obtain⟨t,rfl⟩:=ry;obtain⟨its,r,pl,hz⟩:=I.tuple hq;obtain⟨j,h1,h2,h3,h4,h5⟩:=DF he;obtain⟨w,ew,rw'⟩:=r.get h2;have hl:=r.length;have hn:=wx;have fin:EP X pins σ Q w s:=⟨z,H,I,rw',q⟩;exact subscriptTail_builtinR (x:=w) pl.typeIs slot_tuple_getitem.lookup
  (getItem_tuple (j:=j) (Q:=λr s'=>r=w/\EP X pins σ Q r s') pl (by lia) (by lia) (by rw[aF,<-hl];exact h1) (by simpa using ew) ⟨rfl,fin⟩) hs
def Sv:OW X U5:=by
 intro value slice pins s σ H x y v u Q I rx ry h hs;obtain⟨z,i,c,rfl,rfl,hz,he,q⟩:=h;obtain⟨t,rfl⟩:=rx;obtain⟨t',rfl⟩:=ry;obtain⟨j,h1,h2,h3,h4,h5⟩:=DF he;have hl:z.cps.toList.length=z.length:=by simp[Str.length]
 rw[hl] at h1 h4 h5;have hn:=wx;exact tail_any (typeIs_str s z t) slot_str_getitem.lookup (getItem_str (c:=c) (by
  have e1:decide (i < -(2 ^ 63:Int))=false:=decide_eq_false (by lia);have e2:decide (i >= 2 ^ 63)=false:=decide_eq_false (by lia);rw[e1,e2,Bool.or_false]) (by rw[h1];simpa using h2) ⟨.str ⟨#[c]⟩,H,I.tok _,⟨_,rfl⟩,q⟩) hs
def cV(K:Fg):R2:=λx y H Q=>U4 K x y H Q\/U6 K x y H Q\/U5 x y H Q
def Su:OW X (cV X.K):=PN.or (Sw.or Sv)
def HH(its:List ae)(n j:Nat)(u:ae):Obj.mapSeq (·.setIfInBounds j u) {cls:=.type "list",data:=.seq its.toArray n}={cls:=.type "list",data:=.seq (its.set j u).toArray n}:=by
 simp[Obj.mapSeq]
def bZ.lst{pins:List (ar×Obj)}{σ:St}{H:Hp}{s:aq}{p:ar}{xs:List V}(I:bZ X pins σ H s)(h:H p=some (.lst xs)) :
  ∃(its:List ae) (n:Nat),c9 xs its/\s.heap.get? p=some {cls:=.type "list",data:=.seq its.toArray n}/\xs.length<=av:=by
 obtain⟨z,its,n,r,e⟩:=I.hok p _ h;exact⟨its,n,r,e,z⟩
def bZ.lstUpd{pins:List (ar×Obj)}{σ:St}{H:Hp}{s:aq}{p:ar}{xs ys:List V}{its its':List ae}{n n':Nat}{f:Obj->Obj}(I:bZ X pins σ H s)(h:H p=some (.lst xs))
  (ho:s.heap.get? p=some {cls:=.type "list",data:=.seq its.toArray n}) (hf:f {cls:=.type "list",data:=.seq its.toArray n}={cls:=.type "list",data:=.seq its'.toArray n'}) (r:c9 ys its') (hz:ys.length<=av) (t:Nat) :
  bZ X pins σ (upd H p (.lst ys)) {s with heap:=s.heap.update p f,toks:=t}:=by
 have e:(s.heap.update p f).get? p=some {cls:=.type "list",data:=.seq its'.toArray n'}:=by
  rw[cA f ho (by rw[hf]<;>rfl),hf]
 refine I.write (x:=p) (e:=p) (by rw[h];trivial) (.inl rfl) (λb u hb q=>(bM _ _ (Ne.symm hb)).trans q) ⟨_,e⟩ ?_;exact⟨hz,its',n',r,e⟩
def rA:V->V->V->Hp->(Hp->Prop)->Prop:=λo i v H Q=>∃p xs k j,o=.ref p/\i=.int k/\H p=some (.lst xs)/\PM xs.length k=some j/\Q (upd H p (.lst (xs.set j v)))
def kR:Pg X rA:=by
 intro pins s σ H o i v ov iv u Q I ro ri rv h;obtain⟨p,xs,k,j,rfl,rfl,hp,hj,q⟩:=h;cases ro;obtain⟨t,rfl⟩:=ri;obtain⟨its,n,r,ho,hz⟩:=I.lst hp;obtain⟨h1,h2,h3,h4⟩:=Jt hj;have hl:=r.length;have hn:=wx;have I':bZ X pins σ (upd H p (.lst (xs.set j v))) {s with heap:=s.heap.update p (Obj.mapSeq (·.setIfInBounds j u))}:=
  I.lstUpd hp ho (HH its n j u) (r.set rv j) (by rw[gj];exact hz) s.toks
 by_cases h0:0<=k
 ·have hk:k.toNat=j:=by
   rw[seqIndex_of h0 h4] at h1;exact Option.some.inj h1
  exact PySem.W.ki_setAt ho h0 (by lia) (by rw[aF,<-hl];exact h4) (by rw[hk];exact⟨_,I',q⟩)
 ·have hk:(k+(its.toArray.size:Int)).toNat=j:=by
   rw[seqIndex_neg (by lia) h3] at h1;rw[aF,<-hl];exact Option.some.inj h1
  exact PySem.W.ki_setBack ho (by lia) (by rw[aF,<-hl];exact h3) (by lia) (by rw[hk];exact⟨_,I',q⟩)
def El(lo hi:Option Int)(n:Nat):(jw lo hi none n).1=((HT.sIx n 0 lo:Nat):Int)/\(jw lo hi none n).2.1=((HT.sIx n n hi:Nat):Int)/\(jw lo hi none n).2.2=1:=by
 refine⟨?_,?_,rfl⟩
 ·cases lo with
  |none=>simp[jw,HT.sIx]
  |some i=>
   simp only[jw,HT.sIx,oz,show(1:Int)>0 by decide,if_true];by_cases h:i<0
   ·simp only[h,if_true]<;>lia
   ·simp only[h,if_false]<;>lia
 ·cases hi with
  |none=>simp[jw,HT.sIx]
  |some i=>
   simp only[jw,HT.sIx,oz,show(1:Int)>0 by decide,if_true];by_cases h:i<0
   ·simp only[h,if_true]<;>lia
   ·simp only[h,if_false]<;>lia
def Bx(its:List ae)(lo hi:Option Int):slicePick its.toArray lo hi none=((its.drop (HT.sIx its.length 0 lo)).take (HT.sIx its.length its.length hi-HT.sIx its.length 0 lo)).toArray:=by
 obtain⟨h1,h2,h3⟩:=El lo hi its.toArray.size;unfold slicePick;rw[h1,h2,h3];simp only[sliceRange_one,pick_run,aF]<;>rfl
def Va(K:Fg):V->Option Int->Option Int->Hp->VK->Prop:=λx lo hi H Q=>∃a xs,x=.ref a/\cN K H a xs/\∀p,H p=none->Q (.ref p) (upd H p (.lst (kQ xs lo hi)))
def Rc:Kb X (Va X.K):=by
 intro pins s σ H x v vl vu lo hi sl Q I rx hs pl pu h;obtain⟨a,xs,rfl,hx,q⟩:=h;cases rx;obtain⟨its,r,ht,hz⟩:=I.list hx;have hlen:=r.length;refine⟨"list",_,slot_list_getitem.lookup,ht.isList.typeIs,?_⟩;refine wpAny_getItem_list_slice ht.isList hs pl pu .none (by simp) ?_ (by rw[aF]<;>lia);rw[Bx,<-hlen];refine⟨.ref s.heap.objs.size,_,I.laid (t':=s.toks) (o:=.lst (kQ xs lo hi)) (λb ob q=>ak _ q) (aB _) ?_,rfl,q _ (I.hok.fresh (aB _))⟩;exact⟨cT (xo xs lo hi) hz,_,0,(r.drop (HT.sIx xs.length 0 lo)).take (HT.sIx xs.length xs.length hi-HT.sIx xs.length 0 lo),aO _ rfl⟩
def mr:V->Bool
 |.non=>true
 |.bl _=>true
 |.int _=>true
 |.str _=>true
 |_=>false
def MK:V->V->Bool
 |.non,.non=>true
 |.bl a,.bl b=>a==b
 |.bl a,.int b=>(if a then 1 else 0)==b
 |.int a,.bl b=>a==(if b then 1 else 0)
 |.int a,.int b=>a==b
 |.str a,.str b=>a==b
 |_,_=>false
def MH{A:bu}{s:aq}{y x:V}{u v:ae}(ry:d5 y u)(rx:d5 x v)(fy:mr y=true)(fx:mr x=true):SeqAt.EqAt A s u v (MK y x):=by
 cases y with
 |non=>
  cases ry;cases x with
  |non=>cases rx;exact SeqAt.EqAt.same _
  |bl b=>cases rx;exact SeqAt.EqAt.none_bool b
  |int b=>obtain⟨t,rfl⟩:=rx;exact SeqAt.EqAt.none_int b t
  |str b=>obtain⟨t,rfl⟩:=rx;exact SeqAt.EqAt.none_str b t
  |_=>exact absurd (show false=true from fx) Bool.false_ne_true
 |bl a=>
  cases ry;cases x with
  |non=>cases rx;exact SeqAt.EqAt.bool_none a
  |bl b=>cases rx;exact SeqAt.EqAt.bool_bool a b
  |int b=>obtain⟨t,rfl⟩:=rx;exact SeqAt.EqAt.bool_int a b t
  |str b=>obtain⟨t,rfl⟩:=rx;exact SeqAt.EqAt.bool_str a b t
  |_=>exact absurd (show false=true from fx) Bool.false_ne_true
 |int a=>
  obtain⟨t',rfl⟩:=ry;cases x with
  |non=>cases rx;exact SeqAt.EqAt.int_none a t'
  |bl b=>cases rx;exact SeqAt.EqAt.int_bool a t' b
  |int b=>obtain⟨t,rfl⟩:=rx;exact SeqAt.EqAt.int_int a t' b t
  |str b=>obtain⟨t,rfl⟩:=rx;exact SeqAt.EqAt.int_str a t' b t
  |_=>exact absurd (show false=true from fx) Bool.false_ne_true
 |str a=>
  obtain⟨t',rfl⟩:=ry;cases x with
  |non=>cases rx;exact SeqAt.EqAt.str_none a t'
  |bl b=>cases rx;exact SeqAt.EqAt.str_bool a t' b
  |int b=>obtain⟨t,rfl⟩:=rx;exact SeqAt.EqAt.str_int a t' b t
  |str b=>obtain⟨t,rfl⟩:=rx;exact SeqAt.EqAt.str_str a t' b t
  |_=>exact absurd (show false=true from fx) Bool.false_ne_true
 |_=>exact absurd (show false=true from fy) Bool.false_ne_true
def Hs(x:V)(u:ae):Bool:=match u with
 |.none=>MK .non x
 |.bool b=>MK (.bl b) x
 |.int i _=>MK (.int i) x
 |.str z _=>MK (.str z) x
 |_=>false
def MI{x y:V}{u:ae}(r:d5 y u)(f:mr y=true):Hs x u=MK y x:=by
 cases y with
 |non=>cases r;rfl
 |bl b=>cases r;rfl
 |int i=>obtain⟨t,rfl⟩:=r;rfl
 |str z=>obtain⟨t,rfl⟩:=r;rfl
 |_=>exact absurd (show false=true from f) Bool.false_ne_true
def uR{x:V}:∀{xs:List V} {us:List ae},c9 xs us->xs.all mr=true->us.any (Hs x)=xs.any λy=>MK y x
 |_,_,.nil,_=>rfl
 |y::xs,u::us,.cons r t,f=>by
  rw[List.all_cons,Bool.and_eq_true] at f;rw[kE,kE,MI r f.1,uR t f.2]
def rh{A:bu}{s:aq}{x:V}{v:ae}(rx:d5 x v)(fx:mr x=true):∀{xs:List V} {us:List ae},c9 xs us->xs.all mr=true->∀u∈us,SeqAt.EqAt A s u v (Hs x u)
 |_,_,.nil,_=>λu hu=>by cases hu
 |y::xs,u::us,.cons r t,f=>λu' hu=>by
  rw[List.all_cons,Bool.and_eq_true] at f;rcases aE.mp hu with rfl|hu
  ·rw[MI r f.1];exact MH r rx f.1 fx
  ·exact rh rx fx t f.2 u' hu
def m7(x:V)(xs:List V):Bool:=xs.any λy=>MK y x
def EG(K:Fg)(neg:Bool):R2:=λx y H Q=>∃p xs,y=.ref p/\(cN K H p xs\/dA K H p xs)/\mr x=true/\xs.all mr=true/\Q (.bl (if neg then !m7 x xs else m7 x xs)) H
def gL:lK X (cM .In) (EG X.K false):=by
 intro pins s σ H x y v u Q I rx ry h;obtain⟨p,xs,rfl,hq,fx,fs,q⟩:=h;cases ry;rcases hq with hq|hq
 ·obtain⟨its,r,pl,hz⟩:=I.list hq;refine SeqAt.in_listAt (Hs x) pl.isList (λw hw=>rh rx fx r fs w (by simpa using hw)) ⟨.bl _,H,I,rfl,?_⟩;rw[show its.toArray.any (Hs x)=its.any (Hs x) by simp,uR r fs];exact q
 ·obtain⟨its,r,pl,hz⟩:=I.tuple hq;refine SeqAt.in_tupleAt (Hs x) pl (λw hw=>rh rx fx r fs w (by simpa using hw)) ⟨.bl _,H,I,rfl,?_⟩;rw[show its.toArray.any (Hs x)=its.any (Hs x) by simp,uR r fs];exact q
def lQ:lK X (cM .NotIn) (EG X.K true):=by
 intro pins s σ H x y v u Q I rx ry h;obtain⟨p,xs,rfl,hq,fx,fs,q⟩:=h;cases ry;rcases hq with hq|hq
 ·obtain⟨its,r,pl,hz⟩:=I.list hq;refine SeqAt.notIn_listAt (Hs x) pl.isList (λw hw=>rh rx fx r fs w (by simpa using hw)) ⟨.bl _,H,I,rfl,?_⟩;rw[show its.toArray.any (Hs x)=its.any (Hs x) by simp,uR r fs];exact q
 ·obtain⟨its,r,pl,hz⟩:=I.tuple hq;refine SeqAt.notIn_tupleAt (Hs x) pl (λw hw=>rh rx fx r fs w (by simpa using hw)) ⟨.bl _,H,I,rfl,?_⟩;rw[show its.toArray.any (Hs x)=its.any (Hs x) by simp,uR r fs];exact q
def iX:iJ X (.type "list") (λxs H Q=>∃p ys,xs=[.ref p]/\(cN X.K H p ys\/dA X.K H p ys)/\∀l,H l=none->Q (.ref l) (upd H l (.lst ys))):=by
 intro pins s σ H xs us Q I r h;obtain⟨p,ys,rfl,hq,q⟩:=h;obtain⟨u,rfl,rx⟩:=kU r;cases rx;have fin:∀(its:List ae),c9 ys its->ys.length<=av->∀(h':Heap) (c':Nat),(∀b o',s.heap.get? b=some o'->h'.get? b=some o')->
   h'.get? s.heap.objs.size=some {cls:=.type "list",dict:=none,data:=.seq its.toArray c',slots:=#[]}->EP X pins σ Q (.ref s.heap.objs.size) {s with heap:=h'}:=λits r' hz h' c' kp e=>
  ⟨.ref s.heap.objs.size,_,I.laid (t':=s.toks) kp (aB _) (show fk X.prog X.w _ h' _ (.lst ys) from⟨hz,its,c',r',e⟩),rfl,q _ (I.hok.fresh (aB _))⟩
 rcases hq with hq|hq
 ·obtain⟨its,r',pl,hz⟩:=I.list hq;have hlen:=r'.length;obtain⟨o,ho,hc,n,hd⟩:=pl.isList;exact call_list_seq p (.inl rfl) ho hc hd (λh' c' kp e=>fin its r' hz h' c' kp e) (by simp only[aF]<;>lia)
 ·obtain⟨its,r',pl,hz⟩:=I.tuple hq;have hlen:=r'.length;obtain⟨o,ho,hc,n,hd⟩:=pl;exact call_list_seq p (.inr rfl) ho hc hd (λh' c' kp e=>fin its r' hz h' c' kp e) (by simp only[aF]<;>lia)
def dY:iJ X (.type "tuple") (λxs H Q=>∃p ys,xs=[.ref p]/\((cN X.K H p ys/\∀l,H l=none->Q (.ref l) (upd H l (.tup ys)))\/(dA X.K H p ys/\Q (.ref p) H))):=by
 intro pins s σ H xs us Q I r h;obtain⟨p,ys,rfl,h⟩:=h;obtain⟨u,rfl,rx⟩:=kU r;cases rx;rcases h with⟨hq,q⟩|⟨hq,q⟩
 ·obtain⟨its,r',pl,hz⟩:=I.list hq;have hlen:=r'.length;refine call_tuple_list pl.isList (λh' kp=>?_) (by simp only[aF]<;>lia);have I1:bZ X pins σ H {s with heap:=h'}:=I.kept (t':=s.toks) kp;have I2:bZ X pins σ (upd H h'.objs.size (.tup ys)) {s with heap:=h'.push {cls:=.type "tuple",data:=.seq its.toArray}}:=
   I1.laid (t':=s.toks) (λb o e=>ak _ e) (aB _) (show fk X.prog X.w _ _ _ (.tup ys) from⟨hz,its,r',mh.new _ _⟩)
  exact⟨.ref h'.objs.size,_,I2,rfl,q _ (I1.hok.fresh (aB _))⟩
 ·obtain⟨its,r',pl,hz⟩:=I.tuple hq;exact call_tuple_same pl ⟨.ref p,H,I,rfl,q⟩
def VP(K:Fg)(T:String)(x:V)(H:Hp):Prop:=match x with
 |.str _=>T="str"
 |.int _=>T="int"
 |.ref p=>(T="list"/\∃xs,cN K H p xs)\/(T="tuple"/\∃o,K.lookup p=some o/\o.cls=.type "tuple"/\o.dict=none)\/
   (T="dict"/\((∃kvs,H p=some (.dK kvs))\/∃kvs,H p=some (.dT kvs)))\/(T="set"/\∃S n,H p=some (.set S n))
 |_=>False
def IG{pins:List (ar×Obj)}{σ:St}{H:Hp}{s:aq}{T:String}{x:V}{v:ae}(I:bZ X pins σ H s)(r:d5 x v)(ty:VP X.K T x H) :
  s.TypeIs v T/\∀a,v=.ref a->∃ob,s.heap.get? a=some ob/\ob.dict=none:=by
 cases x with
 |str z=>
  obtain⟨t,rfl⟩:=r;cases(show T="str" from ty);exact⟨typeIs_str s z t,λ_ e=>nomatch e⟩
 |int i=>
  obtain⟨t,rfl⟩:=r;cases(show T="int" from ty);exact⟨typeIs_int s i t,λ_ e=>nomatch e⟩
 |ref p=>
  cases r;rcases ty with⟨rfl,xs,hq⟩|⟨rfl,o,hk,hc,hd⟩|⟨rfl,hk⟩|⟨rfl,S,n,hk⟩
  ·obtain⟨its,_,pl,_⟩:=I.list hq;refine⟨pl.isList.typeIs,λa e=>?_⟩;cases e;obtain⟨o,n,e,c,hd,_⟩:=pl;exact⟨o,e,hd⟩
  ·refine⟨⟨o,I.kIn p o hk,hc⟩,λa e=>?_⟩;cases e;exact⟨o,I.kIn _ o hk,hd⟩
  ·have z:∃o,s.heap.get? p=some o/\o.ExactDict:=by
    rcases hk with⟨kvs,hk⟩|⟨kvs,hk⟩
    ·obtain⟨_,_,_,_,o,_,_,e,ex,_⟩:=I.hok p _ hk;exact⟨o,e,ex⟩
    ·obtain⟨_,_,_,_,o,_,_,e,ex,_⟩:=I.hok p _ hk;exact⟨o,e,ex⟩
   obtain⟨o,e,ex⟩:=z;refine⟨⟨o,e,ex.1⟩,λa e2=>?_⟩;cases e2;exact⟨o,e,ex.2.1⟩
  ·obtain⟨o,_,_,_,e,ex,_⟩:=I.hok p _ hk;refine⟨⟨o,e,ex.1⟩,λa e2=>?_⟩;cases e2;exact⟨o,e,ex.2.1⟩
 |_=>exact False.elim ty
def Rh(K:Fg)(T:String)(r:V->List V->Hp->VK->Prop)(to:TE):TE:=λσ H Q=>to σ H λx H1=>VP K T x H1/\r x [] H1 Q
def qt(K:Fg)(T:String)(r:V->List V->Hp->VK->Prop)(to:TE)(t:TA):TE:=λσ H Q=>to σ H λx H1=>VP K T x H1/\t σ H1 λxs H2=>r x xs H2 Q
variable{o e:Expr}{es:List Expr}{to:TE}{t:TA}{name:Str}{apos cpos:Pos}{T id:String}{r:V->List V->Hp->VK->Prop}
def SX(pa:tR T)(slot:Slot T name id)(hty:typeOf (.builtin id)=pure (.type "method_descriptor"))(hm:R0 X id r)(ho:PE X o to)
  (hbase:eM o name X.env (eval o X.env)=eval o X.env:=by rfl) (hline:(apos.endLine==cpos.line)=true:=by rfl):PE X (.Call (.Attribute o name apos) [] [] cpos) (Rh X.K T r to):=by
 intro pins s σ H Q I h;refine wpAny_Call_method0_late hbase hline (gs (ho pins s σ H _ I h) λv s1 ⟨x,H1,I1,r1,ty,q1⟩=>?_);obtain⟨h1,h2⟩:=IG I1 r1 ty;exact⟨T,id,pa,slot,hty,h1,h2,Calls.callWith_builtin rfl (PySem.evalArgs_none (hm pins s1 σ H1 x [] v [] Q I1 r1 .nil q1))⟩
def UR(pa:tR T)(slot:Slot T name id)(hty:typeOf (.builtin id)=pure (.type "method_descriptor"))(hm:R0 X id r)(ho:PE X o to)(ha:PA X (e::es) t)
  (hbase:eM o name X.env (eval o X.env)=eval o X.env:=by rfl)
  (hfew:((eW cpos (aT (e::es) X.env)).all (λx=>!x.1)&&(lZ cpos (iA [] X.env)).all (λx=>x.1.isSome)
   && decide ((e::es).length+([]:List iS).length+(if([]:List iS).isEmpty then 0 else 1)<30))=true:=by rfl)
  (hline:(apos.endLine==cpos.line)=true:=by rfl) (hs:aT (e::es) X.env=(false,eval e X.env)::aT es X.env:=by rfl) (hplain:(eW cpos (aT es X.env)).any (·.1)=false:=by rfl) :
  PE X (.Call (.Attribute o name apos) (e::es) [] cpos) (qt X.K T r to t):=by
 intro pins s σ H Q I h;refine wpAny_Call_method_late hbase hfew hline rfl (gs (ho pins s σ H _ I h) λv s1 ⟨x,H1,I1,r1,ty,q1⟩=>?_);obtain⟨h1,h2⟩:=IG I1 r1 ty;refine⟨T,id,pa,slot,hty,h1,h2,?_⟩;have hA:=ha cpos pins s1 σ H1 _ I1 q1;rw[hs] at hA ⊢;refine Calls.callWith_builtin (by show(false || (eW cpos (aT es X.env)).any (·.1))=false;rw[hplain]<;>rfl) (Calls.evalArgs_plain ?_);exact gs hA λus s2 ⟨vs,H2,I2,r2,q2⟩=>hm pins s2 σ H2 x vs v us Q I2 r1 r2 q2
end
def Vm(X:Cx)(id:String)(r:V->List V->Hp->VK->Prop):Prop:=
 ∀(pins:List (ar×Obj)) (s:aq) (σ:St) (H:Hp) (x:V) (xs:List V) (v:ae) (us:List ae) (Q:VK),bZ X pins σ H s->d5 x v->c9 xs us->r x xs H Q->
  aM (model X.prog X.w) X.A (call (.builtin id) (v::us)) (EP X pins σ Q) X.xe s
def c9.one:∀{x:V} {us:List ae},c9 [x] us->∃u,us=[u]/\d5 x u
 |_,_,.cons r .nil=>⟨_,rfl,r⟩
def c9.zero:∀{us:List ae},c9 [] us->us=[]
 |_,.nil=>rfl
def c9.dropLast{xs:List V}{us:List ae}(h:c9 xs us):c9 xs.dropLast us.dropLast:=by
 induction h with
 |nil=>exact .nil
 |cons r t ih=>
  cases t with
  |nil=>exact .nil
  |cons q t'=>exact .cons r ih
def c9.reverse{xs:List V}{us:List ae}(h:c9 xs us):c9 xs.reverse us.reverse:=by
 induction h with
 |nil=>exact .nil
 |cons r t ih=>rw[jK,jK];exact c9.append ih (.cons r .nil)
def c9.rep{xs:List V}{us:List ae}(h:c9 xs us):∀k:Nat,c9 (bB k xs).flatten (bB k us).flatten
 |0=>.nil
 |k+1=>by
  rw[eV,eV,cO,cO];exact c9.append h (c9.rep h k)
def Ht{α:Type}(l:List α):l.eraseIdx (l.length-1)=l.dropLast:=by
 induction l with
 |nil=>rfl
 |cons a r ih=>
  cases r with
  |nil=>rfl
  |cons b r=>
   have e:(a::b::r).length-1=((b::r).length-1)+1:=by
    have h1:(a::b::r).length=r.length+2:=rfl;have h2:(b::r).length=r.length+1:=rfl;lia
   rw[e,List.eraseIdx_cons_succ,ih]
   all_goals rfl
def Cs(its:List ae):∀(k:Nat) (acc:List ae),
  yQ (λx1 x2=>x1++x2) acc.toArray (bB k its.toArray)=(acc++(bB k its).flatten).toArray
 |0,acc=>by simp
 |k+1,acc=>by
  have e:acc.toArray++its.toArray=(acc++its).toArray:=by simp
  have e2:(acc++its)++(bB k its).flatten=acc++(bB (k+1) its).flatten:=by
   rw[eV,cO,dM]
  rw[<-e2,<-Cs its k (acc++its),<-e,eV,jf]
section
variable{X:Cx}{pins:List (ar×Obj)}{σ:St}{H:Hp}{s:aq}{l b:ar}{xs ys zs:List V}
def bZ.lset{its its':List ae}{n:Nat}{f:Array ae->Array ae}{t':Nat}(I:bZ X pins σ H s)(hH:H l=some (.lst xs))
  (e:s.heap.get? l=some {cls:=.type "list",data:=.seq its.toArray n}) (hf:f its.toArray=its'.toArray) (hv:c9 ys its') (hz:ys.length<=av) :
  bZ X pins σ (upd H l (.lst ys)) {s with heap:=s.heap.update l (Obj.mapSeq f),toks:=t'}:=by
 have q:=PySem.IsL.update e f;rw[hf] at q;refine I.write (x:=l) (e:=l) (by rw[hH];exact trivial) (.inl rfl) (λb' u hb hu=>(bM s.heap (Obj.mapSeq f) (Ne.symm hb)).trans hu) ⟨_,q⟩ ?_;exact⟨hz,its',_,hv,q⟩
def bZ.lnew{its:List ae}{t':Nat}(I:bZ X pins σ H s)(hv:c9 ys its)(hz:ys.length<=av) :
  bZ X pins σ (upd H s.heap.objs.size (.lst ys)) {s with heap:=s.heap.push {cls:=.type "list",data:=.seq its.toArray},toks:=t'}:=
 I.laid (λ_ _ q=>ak _ q) (aB _) ⟨hz,its,0,hv,aO _ rfl⟩
def bZ.fresh(I:bZ X pins σ H s):H s.heap.objs.size=none:=I.hok.fresh (aB _)
def bZ.lstM(I:bZ X pins σ H s)(hH:H l=some (.lst xs)):xs.length<=av/\∃(its:List ae) (n:Nat),c9 xs its/\xs.length=its.length/\s.heap.get? l=some {cls:=.type "list",data:=.seq its.toArray n}:=by
 obtain⟨z,its,n,r,e⟩:=I.hok l _ hH;exact⟨z,its,n,r,r.length,e⟩
def Nr{n:Nat}(h:n<=av):aS.List.listTooLong n=false:=by
 unfold aS.List.listTooLong;exact decide_eq_false (by lia)
end
section
variable{X:Cx}
def f9:V->List V->Hp->VK->Prop:=λx vs H Q=>∃l xs y,x=.ref l/\vs=[y]/\H l=some (.lst xs)/\xs.length<av/\Q .non (upd H l (.lst (xs++[y])))
def CD:Vm X "list.append" f9:=by
 intro pins s σ H x vs v us Q I rx rv h;obtain⟨l,xs,y,rfl,rfl,hH,hz,q⟩:=h;cases rx;obtain⟨u,rfl,ru⟩:=rv.one;obtain⟨z,its,n,r,hl,e⟩:=I.lstM hH;refine gu F.slot_list_append ⟨_,e,rfl⟩ F.entry_list_append (F.args_list_append_2 _ _) (PySem.list_append l its.toArray n u (by rw[aF];lia)) ⟨e,?_⟩;refine⟨.non,_,I.lset (its':=its++[u]) hH e (by simp) (r.append (.cons ru .nil)) ?_,rfl,q⟩;rw[aN,cD];lia
def Ee:V->List V->Hp->VK->Prop:=λx vs H Q=>∃l b xs zs,x=.ref l/\vs=[.ref b]/\H l=some (.lst xs)/\H b=some (.lst zs)/\xs.length+zs.length<=av/\Q .non (upd H l (.lst (xs++zs)))
def CF:Vm X "list.extend" Ee:=by
 intro pins s σ H x vs v us Q I rx rv h;obtain⟨l,b,xs,zs,rfl,rfl,hH,hB,hz,q⟩:=h;cases rx;obtain⟨u,rfl,ru⟩:=rv.one;cases ru;obtain⟨z,its,n,r,hl,e⟩:=I.lstM hH;obtain⟨z2,its2,n2,r2,hl2,e2⟩:=I.lstM hB;have hsz:its.toArray.size+its2.toArray.size<=av:=by rw[aF,aF];lia
 have hlong:¬(!its.toArray.isEmpty&&aS.List.listTooLong (its.toArray.size+its2.toArray.size))=true:=by
  rw[Nr hsz,Bool.and_false];exact Bool.false_ne_true
 refine gu F.slot_list_extend ⟨_,e,rfl⟩ F.entry_list_extend (F.args_list_extend_2 _ _)
  (AutoSeq1.list_extend_list_list_0 l its.toArray n b its2.toArray n2 hlong (by rw[aF];lia) (by lia)) ⟨e,e2,?_⟩
 refine⟨.non,_,I.lset (its':=its++its2) hH e (by simp) (r.append r2) ?_,rfl,q⟩;rw[aN];lia
def U9:V->List V->Hp->VK->Prop:=λx vs H Q=>∃l xs y,x=.ref l/\vs=[]/\H l=some (.lst xs)/\xs[xs.length-1]?=some y/\Q y (upd H l (.lst xs.dropLast))
def SH:Vm X "list.pop" U9:=by
 intro pins s σ H x vs v us Q I rx rv h;obtain⟨l,xs,y,rfl,rfl,hH,hy,q⟩:=h;cases rx;have hus:=rv.zero;subst hus;obtain⟨z,its,n,r,hl,e⟩:=I.lstM hH;obtain⟨u,hu,ru⟩:=r.get hy;have hy':its.toArray[its.toArray.size-1]?=some u:=by
  show its.toArray[its.length-1]?=some u;rw[<-cR,<-hl];exact hu
 refine gu F.slot_list_pop ⟨_,e,rfl⟩ F.entry_list_pop (F.args_list_pop_1 _) (MeetsSeq.list_pop_last l its.toArray n u hy' (by rw[aF];lia)) ⟨e,?_⟩;refine⟨y,_,I.lset (its':=its.dropLast) hH e ?_ r.dropLast ?_,ru,q⟩
 ·show its.toArray.eraseIdxIfInBounds (its.toArray.size-1)=its.dropLast.toArray;rw[aF,List.eraseIdxIfInBounds_toArray,Ht]
 ·rw[List.length_dropLast];lia
def FZ:V->List V->Hp->VK->Prop:=λx vs H Q=>∃l xs,x=.ref l/\vs=[]/\H l=some (.lst xs)/\Q .non (upd H l (.lst xs.reverse))
def HJ:Vm X "list.reverse" FZ:=by
 intro pins s σ H x vs v us Q I rx rv h;obtain⟨l,xs,rfl,rfl,hH,q⟩:=h;cases rx;have hus:=rv.zero;subst hus;obtain⟨z,its,n,r,hl,e⟩:=I.lstM hH;refine gu F.slot_list_reverse ⟨_,e,rfl⟩ F.entry_list_reverse (F.args_list_reverse_1 _) (AutoSeq1.list_reverse_list_0 l its.toArray n (by rw[aF];lia)) ⟨e,?_⟩;refine⟨.non,_,I.lset (its':=its.reverse) hH e (by simp) r.reverse ?_,rfl,q⟩;rw[dG];lia
def U2:R2:=λx y H Q=>∃l b xs zs,x=.ref l/\y=.ref b/\H l=some (.lst xs)/\H b=some (.lst zs)/\xs.length+zs.length<=av/\∀p,H p=none->Q (.ref p) (upd H p (.lst (xs++zs)))
def SL:lK X (eO .Add) U2:=by
 intro pins s σ H x y v u Q I rx ry h;obtain⟨l,b,xs,zs,rfl,rfl,hH,hB,hz,q⟩:=h;cases rx;cases ry;obtain⟨z,its,n,r,hl,e⟩:=I.lstM hH;obtain⟨z2,its2,n2,r2,hl2,e2⟩:=I.lstM hB;refine PySem.P.add_list e e2 ?_ (by rw[aF,aF];lia);have ea:its.toArray++its2.toArray=(its++its2).toArray:=by simp
 rw[ea];exact⟨.ref _,_,I.lnew (t':=s.toks) (r.append r2) (by rw[aN];lia),rfl,q _ I.fresh⟩
def P1{α:Type}(xs:List α)(k:Nat):(bB k xs).flatten.length=k*xs.length:=by
 induction k with
 |zero=>simp
 |succ k ih=>rw[eV,cO,aN,ih,Nat.succ_mul,Nat.add_comm]
end
section
variable{prog:aZ}{w:bK}{A:bu}{E:Zi}{s:aq}
set_option maxRecDepth 100000 in
end
section
variable{X:Cx}
end
end L2
namespace Att
open PySem PySem.W PySem.Calls PyProof.Rows
def yn{P:Params}{h:Heap}:∀(ns:List Int) (vs:List ae),WellAll P h vs (ns.map WData.int)->lN vs ns:=by
 intro ns
 induction ns with
 |nil=>
  intro vs w;rw[dh] at w;cases w;exact .nil
 |cons n ns ih=>
  intro vs w;rw[aY] at w;cases w with
  |cons a b=>
   cases a;exact .cons _ _ (ih _ b)
def Lo{l:OpenLaw}{n:Nat}(hn:l.most=some n){P:Params}{h:Heap}{args:List WData}{vals:List ae}
  (hpre:l.row.toRowW.claim.pre args=true) (hwl:WellAll P h vals args) :
  ∃a vs ns,vals=[ae.ref a]/\args=[WData.list (ns.map WData.int)]/\h.get? a=some {cls:=.type "list",data:=.seq vs.toArray}/\lN vs ns/\ns.length<=n:=by
 have hsh:WShape.hasAll [] args [.list .int]=true:=(pre_splitW hpre).1;have hc:l.pre.holds [] {args:=args}=true:=(pre_splitW hpre).2;obtain⟨d,r,rfl,h1,h2⟩:=hasAllW_cons hsh;obtain rfl:=hasAllW_nil h2;obtain⟨xs,rfl,h3⟩:=hasW_list h1;obtain⟨ns,rfl⟩:=items_int h3;have hlen:ns.length<=n:=by
  unfold OpenLaw.pre at hc;have h4:(WTm.not (.lt (.lit (.int (n:Int))) (.len (.arg 0)))).holds [] {args:=[.list (ns.map .int)]}=true:=by
   have h4:=(holds_andW hc).1;rw[hn] at h4;exact h4
  have h5:=condW_of h4 (w_not (w_lt w_lit (w_len_list (w_arg rfl))));rw[af] at h5;refine Nat.le_of_not_lt λq=>?_;have q':(n:Int)<((ns.length:Nat):Int):=by lia
  first
   |(rw[decide_eq_true q'] at h5;exact absurd h5 (by decide))
   |(simp at h5;lia)
 cases hwl with
 |cons w1 w2=>
  cases w2;cases w1 with
  |list ho hall=>exact⟨_,_,ns,rfl,rfl,ho,yn ns _ hall,hlen⟩
def Lc(l:OpenLaw)(args:List WData):l.row.toRowW.claim.post args (.bool true) args=true:=
 postW_of (r:=l.row.toRowW) (X:=(true==true))
  (show WShape.has [] (.bool true) .bool=true by first|rfl|decide|simp[WShape.has,WShape.arms,WShape.armsAll])
  (show(WTm.eq .res (.lit (.bool true))).value [] {args:=args,res:=some (.bool true),after:=args}=some (.bool (true==true)) from w_eq_bool (w_res rfl) w_lit) rfl
def attach_call{l:OpenLaw}{n:Nat}{q:aZ}{loose:List Str}{XP:(Str->Option ae)->Heap->Prop}{YP:bK->Heap->Prop}{d:DefRec}
  (hn:l.most=some n) (hdf:d.params.defaults=[])
  (call:∀(w:bK) (s₀ s₁:aq) (mg mb:Str->Option ae) (fa:ar) (o:Obj) (pm cd doc:ae) (a:ar) (vs:List ae) (ns:List Int),
   Ground q loose [] XP w s₀ mg mb s₁.heap->YP w s₁.heap->
   s₁.heap.get? fa=some o->o.data=.func (docDef d.name d.params d.body d.scope pm cd doc)->s₁.heap.CodeRec cd d.name->mg d.name=some (.ref fa)->
   s₁.heap.get? a=some {cls:=.type "list",data:=.seq vs.toArray}->lN vs ns->ns.length<=n->s₁.gens=#[]->
   gE (model l.prog w) rV (.call (.ref fa) ⟨[.ref a],[]⟩) (λr s'=>r=.ok (.ret (.bool true))/\OldK s₁.heap s'.heap/\s'.os=s₁.os/\lM s'.gens) s₁) :
  WalkO q loose XP YP l.row.toRowW d [] (λf vs=>yS f vs):=by
 intro w s₀ s₁ mg mb G Y fa o pm cd doc dV kV ho hd hcd hD hmg hg args vals as hpre hlay hrd hwl hlo;obtain rfl:dV=.none:=Dflts.none hD hdf;obtain rfl:kV=.none:=Dflts.noKw hD;obtain⟨a,vs,ns,rfl,rfl,hobj,hints,hlen⟩:=Lo hn hpre hwl;refine enter_call (gQ (call w s₀ s₁ mg mb fa o pm cd doc a vs ns G Y ho (fd_plain hd) hcd hmg hobj hints hlen hg) λr s' hq=>?_);obtain⟨rfl,h2,h3,h4⟩:=hq;exact⟨.inl ⟨.bool true,.bool true,[],rfl,λ_=>rfl,.bool true,Lc l _,λ_=>⟨List.Pairwise.nil,λ_ hm=>(nomatch hm)⟩⟩,h2,h3,h4⟩
section
variable{prog:aZ}{w:bK}{A:bu}{E:Zi}{s:aq}{K:Frag}
end
end Att
namespace L2
open PySem PySem.Spec PyProof.Rows
def Di:∀{vs:List ae} {ns:List Int},lN vs ns->c9 (ns.map V.int) vs
 |_,_,.nil=>.nil
 |_,_,.cons n t h=>.cons ⟨t,rfl⟩ (Di h)
def Pc(H:Hp):Prop:=∀b,H b=none\/∃o xs,H b=some (.frz o (.lst xs))
def M9{P:aZ}{w:bK}{K:Fg}{mg mb:Str->Option ae}{CX:LP}{k:Nat}{fa a:ar}{fd:dR}{x:Str}{sp:Sp}{s₁:aq}{vs:List ae}{ns:List Int}
  (KX:K.In s₁.heap) (hns:s₁.heap.Ns bg mg) (hb:s₁.heap.Ns builtinsNs mb) (hbb:∀x:Str,x≠"__name__"->mb x=fE x) (hlim:s₁.heap.NoLimit) (hg:s₁.gens=#[])
  (ha:s₁.heap.get? a=some {cls:=.type "list",data:=.seq vs.toArray}) (hi:lN vs ns) (hl:ns.length<=av) (hr:gW k rV)
  (F:∀base:Heap,K.In base->base.Ns bg mg->oF P w K mg base CX k fa fd [x] sp) (hbind:∀(s:aq) (u:ae),rT s fd ⟨[u],[]⟩ [(x,u)])
  (hsp:∀H:Hp,Pc H->cN K H a (ns.map V.int)->sp [.ref a] H (λv _=>v=.bl true) λ_ _ _=>False)
  (hCX:∀H e s',CX [] H s₁ (λ_ _ _=>False) e s'->False) :
  gE (model P w) rV (.call (.ref fa) ⟨[.ref a],[]⟩) (λr s'=>r=.ok (.ret (.bool true))/\OldK s₁.heap s'.heap/\s'.os=s₁.os/\lM s'.gens) s₁:=by
 have rv:=Di hi;have lenV:=hi.length;have core:∀H:Hp,Pc H->cN K H a (ns.map V.int)->qI P w H s₁.heap->(∀b,H b≠none->b=a)->(H a≠none->K.lookup a=none)->
   gE (model P w) rV (.call (.ref fa) ⟨[.ref a],[]⟩) (λr s'=>r=.ok (.ret (.bool true))/\OldK s₁.heap s'.heap/\s'.os=s₁.os/\lM s'.gens) s₁:=by
  intro H hO hS hok hA hK;have base_of:∀{b:ar} {o:Obj},s₁.heap.get? b=some o->H b=none->(DX s₁.heap H).get? b=some o:=λe n=>MU e n;have noA:∀{b:ar} {o:Obj} {es:Array DictEntry} {ep:Nat},s₁.heap.get? b=some o->o.data=.dict es ep->H b=none:=λ{b o es ep} e d=>by
   cases q:H b with
   |none=>rfl
   |some u=>
    have e':b=a:=hA b (by rw[q];simp);subst e';rw[ha] at e;cases e;have d':Data.seq vs.toArray _=Data.dict es ep:=d;cases d'
  have nsK:∀{b:ar} {m:Str->Option ae},s₁.heap.Ns b m->(DX s₁.heap H).Ns b m:=λ{b m} ⟨o,es,ep,e,d,r⟩=>⟨o,es,ep,base_of e (noA e d),d,r⟩;have hKb:K.In (DX s₁.heap H):=λb o e=>base_of (KX b o e) (by
   cases q:H b with
   |none=>rfl
   |some u=>
    have e':b=a:=hA b (by rw[q];simp);subst e';rw[hK (by rw[q];simp)] at e;cases e)
  have hM:Mod K mg (DX s₁.heap H):=⟨hKb,nsK hns,⟨mb,nsK hb,hbb⟩,let⟨mc,h1,h2⟩:=hlim;⟨mc,nsK h1,h2⟩⟩;have e0:GX P w K mg (DX s₁.heap H) rV [] s₁ H:=⟨rfl,hM,λb o e=>Qa e,Nat.le_of_eq (Ky _ _),trivial,λb hb=>absurd (show b∈([]:List ar) from hb) (by simp),hok,.of_eq hg⟩;refine gQ ((F _ hKb (nsK hns)).run rV [] s₁ H ⟨[.ref a],[]⟩ [.ref a] [.ref a] _ _ hr e0 (hbind s₁ (.ref a)) (.cons rfl .nil) (hsp H hO hS)) λr s' h=>?_;cases r with
  |error e=>exact(hCX H e s' h).elim
  |ok fl=>
   cases fl with
   |next=>exact False.elim h
   |brk=>exact False.elim h
   |cont=>exact False.elim h
   |ret u=>
    obtain⟨v,H',os,bare,un,hok',r',q⟩:=h;have q':v=.bl true:=q;subst q';obtain rfl:u=ae.bool true:=r';refine⟨rfl,OldK.of_keep λb o e=>?_,os,bare⟩;cases q:H b with
    |none=>exact un.keep b o e q (by intro z;exact absurd (show b∈([]:List ar) from z) (by simp)) (by simp)
    |some u=>
     rcases hO b with z|⟨ob,xs,z⟩
     ·rw[q] at z;cases z
     ·have z2:=un.frzs b ob _ z;obtain⟨e1,_⟩:=hok b _ z;obtain⟨e2,_⟩:=hok' b _ z2;rw[e] at e1;cases e1;exact e2
 cases hk:K.lookup a with
 |some o=>
  have e:=KX a o hk;rw[ha] at e;cases e;refine core (λ_=>none) (λ_=>.inl rfl) (.inr ⟨_,vs.toArray,_,hk,rfl,rfl,rfl,by rw[aF,lenV];exact hl,by simpa using rv⟩) (λb u z=>by have z':(none:Option HO)=some u:=z;cases z') (λb z=>absurd rfl z) λz=>absurd rfl z
 |none=>
  refine core (λb=>if b=a then some (.frz {cls:=.type "list",data:=.seq vs.toArray} (.lst (ns.map V.int))) else none) (λb=>?_) (.inl (.inr ⟨{cls:=.type "list",data:=.seq vs.toArray},if_pos rfl⟩)) (λb u z=>?_) (λb z=>?_) λ_=>hk
  ·by_cases hb:b=a
   ·exact .inr ⟨_,_,if_pos hb⟩
   ·exact .inl (if_neg hb)
  ·by_cases hb:b=a
   ·have z':=(if_pos hb).symm.trans z;cases z';subst hb;exact⟨ha,by rw[af];exact hl,vs,_,rv,ha⟩
   ·have z':=(if_neg hb).symm.trans z;cases z'
  ·by_cases hb:b=a
   ·exact hb
   ·exact absurd (if_neg hb) z
def walk_of{l:PySem.W.OpenLaw}{n k:Nat}{q:aZ}{loose:List Str}{XP:(Str->Option ae)->Heap->Prop}{YP:bK->Heap->Prop}{d:DefRec}{K:Params->Fg}{CX:bK->LP}{sp:bK->Sp}{x:Str}
  (hn:l.most=some n) (hn2:n<=av) (hdf:d.params.defaults=[]) (hr:gW k rV)
  (hY:∀(w:bK) (h:Heap),YP w h->(K w.params).In h)
  (F:∀(w:bK) (mg:Str->Option ae) (fa:ar) (h:Heap),(K w.params).In h->h.Ns bg mg->mg d.name=some (.ref fa)->
   ∃fd:dR,(∀(s:aq) (u:ae),rT s fd ⟨[u],[]⟩ [(x,u)])/\
    ∀base:Heap,(K w.params).In base->base.Ns bg mg->oF l.prog w (K w.params) mg base (CX w) k fa fd [x] (sp w))
  (hsp:∀(w:bK) (H:Hp) (a:ar) (ns:List Int),ns.length<=n->Pc H->cN (K w.params) H a (ns.map V.int)->sp w [.ref a] H (λv _=>v=.bl true) λ_ _ _=>False)
  (hCX:∀(w:bK) (H:Hp) (s:aq) (e:ae) (s':aq),CX w [] H s (λ_ _ _=>False) e s'->False) :
  PySem.W.WalkO q loose XP YP l.row.toRowW d [] (λf vs=>yS f vs):=by
 refine Att.attach_call hn hdf λw s₀ s₁ mg mb fa o pm cd doc a vs ns G Y ho hd hcd hmg hobj hints hlen hg=>?_;have KX:=hY w _ Y;obtain⟨fd,hb,hF⟩:=F w mg fa _ KX G.T.g hmg;exact M9 KX G.T.g G.T.b G.T.builtins G.T.nolimit hg hobj hints (cT hlen hn2) hr hF hb (λH hO hS=>hsp w H a ns hlen hO hS) λH e s'=>hCX w H s₁ e s'
def gX(s:Stmt):Arguments:=match s with
 |.FunctionDef _ a _ _ _ _ _ _ _ _=>a
 |_=>{posonlyargs:=[],args:=[],vararg:=none,kwonlyargs:=[],kw_defaults:=[],kwarg:=none,defaults:=[]}
def eX(s:Stmt):List Stmt:=match s with
 |.FunctionDef _ _ b _ _ _ _ _ _ _=>b
 |_=>[]
def bS(s:Stmt):Scope:=match s with
 |.FunctionDef _ _ _ _ _ _ sc _ _ _=>sc
 |_=>{kind:=.function,names:=[],isGenerator:=false,isCoroutine:=false}
abbrev Dl:LP:=λ_ _ _ _ _ _=>False
abbrev E0:XK:=λ_ _ _=>False
def UP{X:Cx}:nO Dl X E0:=λ_ _ _ _ _ _ _ h=>h.elim
structure O4(K:Fg)(x qual:Str)(st:Stmt)(f:ar)(fd:dR):Prop where
 ex:∃(oc:ae) (od:Option ar) (kV doc pm:ae) (an:Option ar) (cdv ct:ae) (osl:Array (Option ae)),
  fd=dk x qual (gX st) (eX st) (bS st) .none kV doc pm an cdv ct/\K.lookup f=some ⟨oc,od,.func fd,osl⟩/\eh K cdv qual=true
 kp:cI K (.ref f)=true
section
variable{P:aZ}{w:bK}{K:Fg}{mg:Str->Option ae}{base:Heap}
def O4.ok{x qual:Str}{st:Stmt}{f:ar}{fd:dR}{N ps:List Str}{k:Nat}{sp:Sp}(F:O4 K x qual st f fd)(S:kH N ps (bS st))(len:∀vs H Q E,sp vs H Q E->vs.length=ps.length)
  (hbody:∀(cdv:ae) (A:bu) (outer:List Env) (s:aq) (H:Hp) (vs:List V) (Q:VK) (E:XK),gW k (A.deeper (h9 qual (bS st) s.heap.objs.size f cdv))->sp vs H Q E->
   ∃t,Cb (sF Dl P w K mg base N qual (bS st) f cdv A outer s H E).nox (eX st) t/\t {nx:=λ_ H'=>Q .non H',rt:=Q} (cQ N vs) H):oF P w K mg base Dl (k+1) f fd ps sp:=by
 obtain⟨oc,od,kV,doc,pm,an,cdv,ct,osl,rfl,lk,hcd⟩:=F.ex;refine MQ lk hcd S len λA outer s H vs Q E hr hsp=>?_;obtain⟨t,h,q⟩:=hbody cdv A outer s H vs Q E hr hsp;exact⟨t,h.nox,q⟩
def O4.binds{x qual:Str}{st:Stmt}{f:ar}{fd:dR}{ps:List Str}(F:O4 K x qual st f fd)
  (h:∀(kV doc pm:ae) (an:Option ar) (cdv ct:ae) (us:List ae),us.length=ps.length->bindArgs (dk x qual (gX st) (eX st) (bS st) .none kV doc pm an cdv ct) ⟨us,[]⟩=pure (ps.zip us)):qf K fd ps []:=by
 obtain⟨oc,od,kV,doc,pm,an,cdv,ct,osl,rfl,lk,hcd⟩:=F.ex;exact .all (h kV doc pm an cdv ct)
def v9{x qual:Str}{st:Stmt}{f:ar}{oc:ae}{od an:Option ar}{osl:Array (Option ae)}{kV doc pm cdv ct:ae}(l:K.lookup f=some ⟨oc,od,.func (dk x qual (gX st) (eX st) (bS st) .none kV doc pm an cdv ct),osl⟩)
  (c:eh K cdv qual=true) (k:cI K (.ref f)=true):O4 K x qual st f (dk x qual (gX st) (eX st) (bS st) .none kV doc pm an cdv ct):=⟨⟨oc,od,kV,doc,pm,an,cdv,ct,osl,rfl,l,c⟩,k⟩
end
def Rw{A:bu}{k:Nat}(hr:gW k A):A.units+1<cLine:=mf (Nat.add_le_add_left (by decide:1<=64) _) hr.units
section
variable{X:Cx}
def pv(i:Nat){x:Str}{pos:Pos}(hN:X.N[i]?=some x:=by rfl)(hv:Vp X.env.scope x:=by first|exact Or.inl rfl|exact Or.inr (Or.inl rfl)|exact Or.inr (Or.inr rfl))(hd:(x==("__debug__":Str))=false:=by decide)
  (hcd:(x==("__classdict__":Str))=false:=by decide):PE X (.Name x pos) (au i):=Te hN hv hd hcd
end
def ff{A B:Prop}(h:B):if false=true then A else B:=by
 rw[if_neg Bool.false_ne_true];exact h
def lu{A B:Prop}(h:A):if true=true then A else B:=by
 rw[if_pos rfl];exact h
def RA{c A B:Prop}[Decidable c](hc:c)(h:B):if(!decide c)=true then A else B:=by
 rw[decide_eq_true hc];exact ff h
def aK(H H':Hp):Prop:=∀b o,H b=some o->H' b=some o
def aK.refl(H:Hp):aK H H:=λ_ _ h=>h
def aK.trans{H H1 H2:Hp}(a:aK H H1)(b:aK H1 H2):aK H H2:=λc o h=>b c o (a c o h)
def aK.free{H H':Hp}(e:aK H H'){l:ar}(h:H' l=Option.none):H l=Option.none:=by
 cases q:H l with
 |none=>rfl
 |some o=>
  rw[e l o q] at h;cases h
section
variable{κ:Type}[DecidableEq κ]
def jd(kvs:List (κ×V))(k:κ):Option V:=(kvs.find? λkv=>decide (kv.1=k)).map (·.2)
def lR(kvs:List (κ×V))(k:κ)(v:V):List (κ×V):=
 if(kvs.any λkv=>decide (kv.1=k))=true then kvs.map (λkv=>if kv.1=k then(kv.1,v) else kv) else kvs++[(k,v)]
def GQ{k:κ}:jd ([]:List (κ×V)) k=none:=rfl
def iR{p:κ×V}{r:List (κ×V)}{k:κ}(e:p.1=k):jd (p::r) k=some p.2:=by simp[jd,gi,e]
def iQ{p:κ×V}{r:List (κ×V)}{k:κ}(e:¬p.1=k):jd (p::r) k=jd r k:=by simp[jd,gi,e]
def rR(k:κ):∀kvs:List (κ×V),(kvs.any λkv=>decide (kv.1=k))=(jd kvs k).isSome
 |[]=>rfl
 |p::r=>by
  rw[kE];by_cases e:p.1=k
  ·simp only[iR e,decide_eq_true e,Bool.true_or,Option.isSome_some]
  ·rw[iQ e,decide_eq_false e,Bool.false_or];exact rR k r
def GP(k j:κ)(y:V):∀kvs:List (κ×V),jd (kvs.map λkv=>if kv.1=k then(kv.1,y) else kv) j=(jd kvs j).map λx=>if j=k then y else x
 |[]=>rfl
 |p::r=>by
  have ih:=GP k j y r;rw[aY];by_cases h:p.1=k
  ·rw[if_pos h];by_cases e:p.1=j
   ·rw[iR (p:=(p.1,y)) e,iR e,cq,if_pos (e.symm.trans h)]
   ·rw[iQ (p:=(p.1,y)) e,iQ e,ih]
  ·rw[if_neg h];by_cases e:p.1=j
   ·rw[iR (p:=p) e,iR e,cq,if_neg (λz=>h (e.trans z))]
   ·rw[iQ (p:=p) e,iQ e,ih]
def Dg(k j:κ)(y:V):∀kvs:List (κ×V),jd kvs k=none->jd (kvs++[(k,y)]) j=if j=k then some y else jd kvs j
 |[],_=>by
  by_cases e:k=j
  ·rw[if_pos e.symm];exact iR (p:=(k,y)) e
  ·rw[if_neg (λz=>e z.symm)];exact iQ (p:=(k,y)) e
 |p::r,hn=>by
  rw[List.cons_append];have hk:¬p.1=k:=λz=>by rw[iR z] at hn;cases hn
  rw[iQ hk] at hn;have ih:=Dg k j y r hn;by_cases e:p.1=j
  ·rw[iR e,iR e,if_neg (λz=>hk (e.trans z))]
  ·rw[iQ e,iQ e,ih]
def ON(kvs:List (κ×V))(k j:κ)(y:V):jd (lR kvs k y) j=if j=k then some y else jd kvs j:=by
 unfold lR;by_cases a:(kvs.any λkv=>decide (kv.1=k))=true
 ·rw[if_pos a,GP];rw[rR] at a;by_cases e:j=k
  ·obtain⟨x,hx⟩:=gy.mp a;rw[if_pos e,e,hx,cq,if_pos rfl]
  ·rw[if_neg e];cases jd kvs j with
   |none=>rfl
   |some x=>rw[cq,if_neg e]
 ·rw[if_neg a];refine Dg k j y kvs ?_;rw[rR] at a;cases q:jd kvs k with
  |none=>rfl
  |some x=>rw[q] at a;exact(a rfl).elim
def q9(kvs:List (κ×V))(k:κ)(v:V):(lR kvs k v).length<=kvs.length+1:=by
 unfold lR;split
 ·rw[af];lia
 ·rw[aN,aP,k9];lia
def zX{kvs:List (κ×V)}{k:κ}(v:V)(h:jd kvs k=none):lR kvs k v=kvs++[(k,v)]:=by
 unfold lR;rw[rR,h];exact if_neg (by decide)
def sD.isSome_eq{o:Option V}{u:Option ae}(r:sD o u):o.isSome=u.isSome:=by
 cases o with
 |none=>cases u with
  |none=>rfl
  |some _=>exact(show False from r).elim
 |some _=>cases u with
  |none=>exact(show False from r).elim
  |some _=>rfl
def KV.val{kvs:List (κ×V)}{vs:List (κ×ae)}(r:KV kvs vs)(k:κ):sD (jd kvs k) (rX vs k):=by
 unfold KV at r
 induction r with
 |nil=>exact True.intro
 |@cons p q ps qs h t ih=>
  obtain⟨h1,h2⟩:=h;by_cases e:p.1=k
  ·have e':q.1=k:=h1.symm.trans e;have b:rX (q::qs) k=some q.2:=by simp[rX,gi,e']
   rw[iR e,b];exact h2
  ·have e':¬q.1=k:=λz=>e (h1.trans z);have b:rX (q::qs) k=rX qs k:=by simp[rX,gi,e']
   rw[iQ e,b];exact ih
def KV.any{kvs:List (κ×V)}{vs:List (κ×ae)}(r:KV kvs vs)(k:κ):(kvs.any λkv=>decide (kv.1=k))=vs.any λkv=>decide (kv.1=k):=by
 unfold KV at r
 induction r with
 |nil=>rfl
 |cons h t ih=>rw[kE,kE,ih,h.1]
def KV.repl{kvs:List (κ×V)}{vs:List (κ×ae)}(r:KV kvs vs)(k:κ){y:V}{u:ae}(ry:d5 y u) :
  KV (kvs.map λkv=>if kv.1=k then(kv.1,y) else kv) (vs.map λkv=>if kv.1=k then(kv.1,u) else kv):=by
 unfold KV at r ⊢
 induction r with
 |nil=>exact .nil
 |@cons p q ps qs h t ih=>
  rw[aY,aY];refine .cons ?_ ih;obtain⟨h1,h2⟩:=h;by_cases e:p.1=k
  ·rw[if_pos e,if_pos (h1.symm.trans e)];exact⟨h1,ry⟩
  ·rw[if_neg e,if_neg (λz=>e (h1.trans z))];exact⟨h1,h2⟩
def KV.put{kvs:List (κ×V)}{vs:List (κ×ae)}(r:KV kvs vs)(k:κ){y:V}{u:ae}(ry:d5 y u):KV (lR kvs k y) (stored vs k u):=by
 unfold lR stored;rw[r.any k];by_cases e:(vs.any λkv=>decide (kv.1=k))=true
 ·rw[if_pos e,if_pos e];exact r.repl k ry
 ·rw[if_neg e,if_neg e];exact Paired.snoc r ⟨rfl,ry⟩
def KV.keys{kvs:List (κ×V)}{vs:List (κ×ae)}(r:KV kvs vs):kvs.map (·.1)=vs.map (·.1):=by
 unfold KV at r
 induction r with
 |nil=>rfl
 |cons h t ih=>rw[aY,aY,ih,h.1]
def KV.length{kvs:List (κ×V)}{vs:List (κ×ae)}(r:KV kvs vs):kvs.length=vs.length:=Paired.length r
end
def Cz{P:aZ}{w:bK}{k:iy}{u:ae}(r:d5 (kV k) u):(fJ P w).is k u=true:=by
 cases k with
 |inl i=>obtain⟨t,e⟩:=(show ∃t,u=ae.int i t from r);subst e;exact FK P w i t
 |inr x=>obtain⟨t,e⟩:=(show ∃t,u=ae.str x t from r);subst e;exact FL P w x t
def Cy{P:aZ}{w:bK}:∀{ks:List iy} {us:List ae},c9 (ks.map kV) us->ItemsAre (fJ P w) ks us
 |[],_,r=>by rw[dh] at r;cases r;exact .nil
 |k::ks,_,r=>by
  rw[aY] at r;cases r with
  |cons h t=>exact .cons (Cz h) (Cy t)
abbrev KT(H:Hp):List (List iy×V)->List (List iy×ar×ae)->Prop:=Paired λp q=>p.1=q.1/\H q.2.1=some (.tup (p.1.map kV))/\d5 p.2 q.2.2
def KT.val{H:Hp}{kvs:List (List iy×V)}{xs:List (List iy×ar×ae)}(r:KT H kvs xs)(k:List iy):sD (jd kvs k) ((atKey xs k).map (·.2)):=by
 induction r with
 |nil=>exact True.intro
 |@cons p q ps qs h t ih=>
  obtain⟨h1,_,h2⟩:=h;by_cases e:p.1=k
  ·have e':q.1=k:=h1.symm.trans e;have b:atKey (q::qs) k=some q.2:=by simp[atKey,gi,e']
   rw[iR e,b];exact h2
  ·have e':¬q.1=k:=λz=>e (h1.trans z);have b:atKey (q::qs) k=atKey qs k:=by simp[atKey,gi,e']
   rw[iQ e,b];exact ih
def KT.repl{H:Hp}{kvs:List (List iy×V)}{xs:List (List iy×ar×ae)}(r:KT H kvs xs)(k:List iy){y:V}{u:ae}(ry:d5 y u) :
  KT H (kvs.map λkv=>if kv.1=k then(kv.1,y) else kv) (xs.map (putAt k u)):=by
 induction r with
 |nil=>exact .nil
 |@cons p q ps qs h t ih=>
  rw[aY,aY];refine .cons ?_ ih;obtain⟨h1,h2,h3⟩:=h;unfold putAt;by_cases e:p.1=k
  ·rw[if_pos e,if_pos (h1.symm.trans e)];exact⟨h1,h2,ry⟩
  ·rw[if_neg e,if_neg (λz=>e (h1.trans z))];exact⟨h1,h2,h3⟩
def KT.put{H:Hp}{kvs:List (List iy×V)}{xs:List (List iy×ar×ae)}(r:KT H kvs xs)(k:List iy){b:ar}{y:V}{u:ae}(hb:H b=some (.tup (k.map kV)))(ry:d5 y u) :
  KT H (lR kvs k y) (storedH xs k b u):=by
 have e:(kvs.any λkv=>decide (kv.1=k))=(atKey xs k).isSome:=by
  rw[rR,(r.val k).isSome_eq,mU]
 unfold lR storedH;rw[e];by_cases q:(atKey xs k).isSome=true
 ·rw[if_pos q,if_pos q];exact r.repl k ry
 ·rw[if_neg q,if_neg q];exact Paired.snoc r ⟨rfl,hb,ry⟩
def KT.keeps{H H':Hp}{kvs:List (List iy×V)}{xs:List (List iy×ar×ae)}(r:KT H kvs xs)(ht:∀b ys,H b=some (.tup ys)->H' b=some (.tup ys)):KT H' kvs xs:=
 Paired.mapP r λ_ _ z=>⟨z.1,ht _ _ z.2.1,z.2.2⟩
section
variable{P:aZ}{w:bK}{H:Hp}{h:Heap}{a:ar}
def RP{u:HO}(ok:qI P w H h)(e:Rd H a u):fk P w H h a u:=e.ok ok
def Cq{kvs:List (iy×V)}(ok:qI P w H h)(e:Rd H a (.dK kvs)):kvs.length<=av/\(a==iC)=false/\∃vs,KV kvs vs/\h.DictOf (fJ P w) a vs:=
 show fk P w H h a (.dK kvs) from RP ok e
def MF{kvs:List (iy×V)}(ok:qI P w H h)(e:H a=some (.dK kvs)):kvs.length<=av/\(a==iC)=false/\∃vs,KV kvs vs/\h.DictOf (fJ P w) a vs:=Cq ok (.inl e)
def zJ{ks:List iy}(ok:qI P w H h)(e:H a=some (.tup (ks.map kV))):(rW (fJ P w)).is h ks a:=by
 obtain⟨_,its,r,o,h1,h2,n,h3⟩:=(show fk P w H h a (.tup (ks.map kV)) from ok a _ e);exact⟨o,its.toArray,n,h1,h2.1,h3,by simpa using Cy r⟩
def Fn{kvs:List (List iy×V)}(ok:qI P w H h)(e:Rd H a (.dT kvs)):kvs.length<=av/\(a==iC)=false/\
  ∃xs,KT H kvs xs/\h.DictOfH (rW (fJ P w)) a xs:=by
 obtain⟨z,y,xs,r,o,es,ep,h1,h2,h3,h4,h5⟩:=(show fk P w H h a (.dT kvs) from RP ok e);refine⟨z,y,xs,r,o,es,ep,h1,h2,h3,h4,λx hx=>?_,h5⟩;have all:∀{l:List (List iy×V)} {m:List (List iy×ar×ae)},KT H l m->∀x∈m,(rW (fJ P w)).is h x.1 x.2.1:=by
  intro l m q
  induction q with
  |nil=>intro x hx;exact nomatch hx
  |@cons p q ps qs hq t ih=>
   intro x hx;rcases aE.mp hx with e|hx
   ·subst e;exact zJ ok (by rw[<-hq.1];exact hq.2.1)
   ·exact ih x hx
 exact all r x hx
def UD{kvs:List (List iy×V)}(ok:qI P w H h)(e:H a=some (.dT kvs)):kvs.length<=av/\(a==iC)=false/\
  ∃xs,KT H kvs xs/\h.DictOfH (rW (fJ P w)) a xs:=Fn ok (.inl e)
end
def uJ(H:Hp)(a:ar)(y:V)(r:Option V):Prop:=
 (∃kvs k,Rd H a (.dK kvs)/\y=kV k/\r=jd kvs k)\/∃kvs k b,Rd H a (.dT kvs)/\y=.ref b/\H b=some (.tup (k.map kV))/\r=jd kvs k
def EK(H:Hp)(a:ar)(y v:V)(H':Hp):Prop:=
 (∃kvs k,H a=some (.dK kvs)/\y=kV k/\kvs.length<av/\H'=upd H a (.dK (lR kvs k v)))\/
 ∃kvs k b,H a=some (.dT kvs)/\y=.ref b/\H b=some (.tup (k.map kV))/\kvs.length<av/\H'=upd H a (.dT (lR kvs k v))
def uJ.k{H:Hp}{a:ar}{kvs:List (iy×V)}{k:iy}(e:H a=some (.dK kvs)):uJ H a (kV k) (jd kvs k):=.inl ⟨kvs,k,.inl e,rfl,rfl⟩
def EK.k{H:Hp}{a:ar}{kvs:List (iy×V)}{k:iy}{v:V}(e:H a=some (.dK kvs))(hl:kvs.length<av):EK H a (kV k) v (upd H a (.dK (lR kvs k v))):=.inl ⟨kvs,k,e,rfl,hl,rfl⟩
section
variable{X:Cx}{pins:List (ar×Obj)}{σ:St}{H:Hp}{s:aq}{a:ar}{y v:V}{u r:ae}{o:Option V}{A:bu}{E:Zi}
def bZ.big(I:bZ X pins σ H s):iC<s.heap.objs.size:=by
 have h:bg<s.heap.objs.size:=(I.mod.glob.keeps I.bk).lt;exact pF (by decide) h
def Kk{Q:Zi}(hu:A.units+1<cLine)(I:bZ X pins σ H s)(g:uJ H a y (some v))(ry:d5 y u)(h:∀w' s',bZ X pins σ H s'->d5 v w'->Q w' s') :
  aM (model X.prog X.w) A (jE (.ref a) u) Q E s:=by
 rcases g with⟨kvs,k,e,ey,l⟩|⟨kvs,k,b,e,ey,eb,l⟩
 ·subst ey;obtain⟨z,hd,vs,rel,dd⟩:=Cq I.hok e;obtain⟨w',hw,rw'⟩:=sD.some_of (v:=v) (o:=rX vs k) (by rw[l];exact rel.val k);exact wpAny_getItem_of (Cz ry) dd.mapOf hw (h w' _ (I.tok _) rw')
 ·subst ey;cases(show u=ae.ref b from ry);obtain⟨z,hd,xs,rel,dd⟩:=Fn I.hok e;obtain⟨w',hw,rw'⟩:=sD.some_of (v:=v) (o:=(atKey xs k).map (·.2)) (by rw[l];exact rel.val k);obtain⟨p,hp,hp2⟩:=b5.mp hw;refine wpAny_getItem_heap (jo hu) (zJ I.hok eb) dd hp ?_;rw[hp2];exact h w' _ (I.tok _) rw'
def VD{Q:Zi}(hu:A.units+1<cLine)(I:bZ X pins σ H s)(g:uJ H a y o)(ry:d5 y u)(h:∀s',bZ X pins σ H s'->Q (.bool o.isSome) s') :
  aM (model X.prog X.w) A (cM .In u (.ref a)) Q E s:=by
 rcases g with⟨kvs,k,e,ey,l⟩|⟨kvs,k,b,e,ey,eb,l⟩
 ·subst ey;obtain⟨z,hd,vs,rel,dd⟩:=Cq I.hok e;refine wpAny_in_of (Cz ry) hd dd.mapOf ?_;rw[<-(rel.val k).isSome_eq,<-l];exact h _ (I.tok _)
 ·subst ey;cases(show u=ae.ref b from ry);obtain⟨z,hd,xs,rel,dd⟩:=Fn I.hok e;refine wpAny_in_heap (jo hu) (zJ I.hok eb) hd dd ?_;have q:=(rel.val k).isSome_eq;rw[mU] at q;rw[<-q,<-l];exact h _ (I.tok _)
def Pq{Q:Zi}(hu:A.units+1<cLine)(I:bZ X pins σ H s)(g:uJ H a y o)(ry:d5 y u)(h:∀s',bZ X pins σ H s'->Q (.bool (!o.isSome)) s') :
  aM (model X.prog X.w) A (cM .NotIn u (.ref a)) Q E s:=by
 rcases g with⟨kvs,k,e,ey,l⟩|⟨kvs,k,b,e,ey,eb,l⟩
 ·subst ey;obtain⟨z,hd,vs,rel,dd⟩:=Cq I.hok e;refine wpAny_notIn_of (Cz ry) hd dd.mapOf ?_;rw[<-(rel.val k).isSome_eq,<-l];exact h _ (I.tok _)
 ·subst ey;cases(show u=ae.ref b from ry);obtain⟨z,hd,xs,rel,dd⟩:=Fn I.hok e;refine wpAny_notIn_heap (jo hu) (zJ I.hok eb) hd dd ?_;have q:=(rel.val k).isSome_eq;rw[mU] at q;rw[<-q,<-l];exact h _ (I.tok _)
def DS{h':Heap}{t':Nat}{ob:HO}(I:bZ X pins σ H s)(mu:Ux (H a))(hs:Heap.SameBut a s.heap h')(he:∃q,h'.get? a=some q)(new:fk X.prog X.w (upd H a ob) h' a ob) :
  bZ X pins σ (upd H a ob) {s with heap:=h',toks:=t'}:=
 I.write (x:=a) (e:=a) mu (.inl rfl) (λb q hb z=>(hs.2 b hb).trans z) he new
def ME{P:aZ}{w:bK}{H':Hp}{h':Heap}{kvs:List (iy×V)}{vs:List (iy×ae)}(z:kvs.length<=av)(hd:(a==iC)=false)(rel:KV kvs vs)(dd:h'.DictOf (fJ P w) a vs) :
  fk P w H' h' a (.dK kvs):=⟨z,hd,vs,rel,dd⟩
def Kq{H':Hp}{Q:Unit->aq->Prop}(hu:A.units+1<cLine)(I:bZ X pins σ H s)(g:EK H a y v H')(ry:d5 y u)(rv:d5 v r)(h:∀s',bZ X pins σ H' s'->Q () s') :
  aM (model X.prog X.w) A (setItem (.ref a) u r) Q E s:=by
 rcases g with⟨kvs,k,e,ey,l,eH⟩|⟨kvs,k,b,e,ey,eb,l,eH⟩
 ·subst ey eH;obtain⟨z,hd,vs,rel,dd⟩:=MF I.hok e;have hz:vs.length<=av:=by rw[<-rel.length];exact z
  have hl:(lR kvs k v).length<=av:=by have:=q9 kvs k v;lia
  refine wpAny_setItem_pairs (hsz:=hz) (Cz ry) dd λh' dd' hs=>h _ ?_;have he:∃q,h'.get? a=some q:=let⟨q,_,_,hq,_⟩:=dd';⟨q,hq⟩;exact DS I (by rw[e];exact True.intro) hs he (ME hl hd (rel.put k rv) dd')
 ·subst ey eH;cases(show u=ae.ref b from ry);obtain⟨z,hd,xs,rel,dd⟩:=UD I.hok e;have hz:xs.length<=av:=by rw[<-Paired.length rel];exact z
  have hl:(lR kvs k v).length<=av:=by have:=q9 kvs k v;lia
  refine wpAny_setItem_heap (hsz:=hz) (jo hu) (zJ I.hok eb) dd λh' dd' hs=>h _ ?_;obtain⟨q,es,ep,hq,h2,h3,h4,_,h5⟩:=dd';refine DS I (by rw[e];exact True.intro) hs ⟨q,hq⟩ ⟨hl,hd,_,(rel.put k eb rv).keeps λc ys ec=>?_,q,es,ep,hq,h2,h3,h4,h5⟩;rw[aL (RF ec e (λz=>nomatch z))];exact ec
end
section
variable{X:Cx}{pins:List (ar×Obj)}{σ:St}{H:Hp}{s:aq}{a:ar}{kvs:List (iy×V)}{k:iy}{u:ae}{A:bu}{E:Zi}
end
def R1(i:Expr):Prop:=∀ov iv,subscripted i false ov iv=operate [ov,iv] (jE ov iv)
def Rg{prog:aZ}{w:bK}{A:bu}{E:Zi}{s:aq}{env:Env}{value slice:Expr}{pos:Pos}{T id:String}{Q:Zi}
  (hl:kj (.type T) "__getitem__"=pure (some (.builtin id))) (hs:R1 slice)
  (h:aM (model prog w) A (eval value env) (λo s₁=>aM (model prog w) A (eval slice env) (λi s₂=>s₂.TypeIs o T/\aM (model prog w) A (jE o i) Q E s₂) E s₁) E s) :
  aM (model prog w) A (eval (.Subscript value slice pos) env) Q E s:=by
 refine tQ (c7 h (λo s₁ h₁=>c7 h₁ (λi s₂ h₂=>?_) λ_ _ x=>x) λ_ _ x=>x);obtain⟨hT,h₂⟩:=h₂;unfold ny;refine aa ?_;rw[getitemInPython_of_ne hT.not_modules];refine aa (kZ hT hl ?_);have fin:aM (model prog w) A (subscripted slice false o i) (λr s₃=>aM (model prog w) A (letTemporaryGo value o r >>= λ_=>pure r) Q E s₃) E s₂:=by
  rw[hs o i];exact wpAny_operating (c7 h₂ (λr s₃ h₃=>aa (wpAny_letTemporaryGo (az h₃))) λ_ _ x=>x)
 first
  |exact az (aa fin)
  |exact aa (az (aa fin))
  |exact aa fin
def Fl{X:Cx}{pins:List (ar×Obj)}{σ:St}{H:Hp}{s:aq}{a:ar}{y:V}{o:Option V}(I:bZ X pins σ H s)(g:uJ H a y o):s.TypeIs (.ref a) "dict":=by
 rcases g with⟨kvs,k,e,_,_⟩|⟨kvs,k,b,e,_,_,_⟩
 ·obtain⟨_,_,vs,_,dd⟩:=Cq I.hok e;exact dd.typeIs
 ·obtain⟨_,_,xs,_,dd⟩:=Fn I.hok e;exact dd.typeIs
def Ow(td ty:TE):TE:=λσ H Q=>td σ H λx H1=>ty σ H1 λy H2=>∃a v,x=.ref a/\uJ H2 a y (some v)/\Q v H2
section
variable{X:Cx}{o i e value:Expr}{pos pos' tpos:Pos}{td ty tv:TE}
def Qj(hu:X.A.units+1<cLine)(ho:PE X o td)(hi:PE X i ty)(hs:R1 i):PE X (.Subscript o i pos) (Ow td ty):=by
 intro pins s σ H Q I h;refine Rg PySem.F.slot_dict_getitem.lookup hs (gs (ho pins s σ H _ I h) λu s1 ⟨x,H1,I1,rx,q1⟩=>gs (hi pins s1 σ H1 _ I1 q1) λiv s2 ⟨y,H2,I2,ry,a,v,ex,g,q2⟩=>?_);subst ex;obtain rfl:u=ae.ref a:=rx;exact⟨Fl I2 g,Kk hu I2 g ry λw' s3 I3 rw'=>⟨v,H2,I3,rw',q2⟩⟩
end
def Fm{P:aZ}{w:bK}{H:Hp}(h:Heap)(hb:iC<h.objs.size):fk P w H (h.push {cls:=.type "dict",data:=.dict #[]}) h.objs.size (.dK []):=
 ⟨b9 _,beq_eq_false_iff_ne.mpr (Ne.symm (a9 hb)),[],.nil,Heap.DictOf.new h⟩
def Aq:TE:=λ_ H Q=>∀p,H p=none->Q (.ref p) (upd H p (.dK []))
section
variable{X:Cx}{pos:Pos}
def NB:PE X (.Dict [] [] pos) Aq:=λpins s σ H Q I h=>
 wpAny_Dict_empty ⟨.ref s.heap.objs.size,_,I.laid (a:=s.heap.objs.size) (o:=.dK []) (t':=s.toks) (λ_ _ q=>ak _ q) (aB _) (Fm s.heap I.big),rfl,h _ (I.hok.fresh (aB _))⟩
end
def Io:List (TE×TE)->St->Hp->(List (V×V)->Hp->Prop)->Prop
 |[],_,H,Q=>Q [] H
 |(tk,tv)::r,σ,H,Q=>tk σ H λx H1=>tv σ H1 λy H2=>Io r σ H2 λps H3=>Q ((x,y)::ps) H3
abbrev VV:List (V×V)->List (ae×ae)->Prop:=Paired λp q=>d5 p.1 q.1/\d5 p.2 q.2
def Uz(X:Cx)(pos:Pos)(keys:List (Option Expr))(values:List Expr)(trs:List (TE×TE)):Prop:=
 ∀(pins:List (ar×Obj)) (s:aq) (σ:St) (H:Hp) (Q:List (V×V)->Hp->Prop),bZ X pins σ H s->Io trs σ H Q->
  aM (model X.prog X.w) X.A (evalPairs (pairTrees keys values X.env pos)) (λvs s'=>∃ps H',bZ X pins σ H' s'/\VV ps vs/\Q ps H') X.xe s
def Qy{X:Cx}{pos:Pos}:Uz X pos [] [] []:=λpins s σ H Q I h=>pairTrees_nil_walk ⟨[],H,I,.nil,h⟩
def NM{X:Cx}{pos:Pos}{k v:Expr}{ks:List (Option Expr)}{vs:List Expr}{tk tv:TE}{trs:List (TE×TE)}(hk:PE X k tk)(hv:PE X v tv)(hr:Uz X pos ks vs trs) :
  Uz X pos (some k::ks) (v::vs) ((tk,tv)::trs):=λpins s σ H Q I h=>
 pairTrees_cons_walk (gs (hk pins s σ H _ I h) λu s1 ⟨x,H1,I1,rx,q1⟩=>gs (hv pins s1 σ H1 _ I1 q1) λw2 s2 ⟨y,H2,I2,ry,q2⟩=>
  gs (hr pins s2 σ H2 _ I2 q2) λws s3 ⟨ps,H3,I3,rel,q3⟩=>⟨(x,y)::ps,H3,I3,.cons ⟨rx,ry⟩ rel,q3⟩)
def rj(kvs more:List (iy×V)):List (iy×V):=more.foldl (λacc kv=>lR acc kv.1 kv.2) kvs
def KV.merge:∀{more:List (iy×V)} {rs:List (iy×ae)} {kvs:List (iy×V)} {vs:List (iy×ae)},KV more rs->KV kvs vs->KV (rj kvs more) (merged vs rs):=by
 intro more rs kvs vs r;unfold KV at r
 induction r generalizing kvs vs with
 |nil=>intro q;exact q
 |@cons p q ps qs h t ih=>
  intro r0;have e:KV (lR kvs p.1 p.2) (stored vs q.1 q.2):=by
   have:=r0.put p.1 h.2;rw[<-h.1];exact this
  exact ih e
def sR:∀(more kvs:List (iy×V)),(rj kvs more).length<=kvs.length+more.length
 |[],kvs=>by show kvs.length<=kvs.length+0;lia
 |p::r,kvs=>by
  have h1:=sR r (lR kvs p.1 p.2);have h2:=q9 kvs p.1 p.2;show(rj (lR kvs p.1 p.2) r).length<=_;rw[aP];lia
def zk{P:aZ}{w:bK}:∀{kvs:List (iy×V)} {ws:List (ae×ae)},VV (kvs.map λkv=>(kV kv.1,kv.2)) ws->∃rs,Carries (fJ P w) ws rs/\KV kvs rs
 |[],_,r=>by rw[dh] at r;cases r;exact⟨[],True.intro,.nil⟩
 |p::kvs,_,r=>by
  rw[aY] at r;cases r with
  |@cons a b as bs h t=>
   obtain⟨rs,c,q⟩:=zk (P:=P) (w:=w) t;obtain⟨b1,b2⟩:=b;exact⟨(p.1,b2)::rs,⟨Cz h.1,rfl,c⟩,.cons ⟨rfl,h.2⟩ q⟩
def Ox(trs:List (TE×TE)):TE:=λσ H Q=>∀p,H p=none->Io trs σ (upd H p (.dK [])) λps H2=>H2 p=some (.dK [])/\∃kvs:List (iy×V),ps=kvs.map (λkv=>(kV kv.1,kv.2))/\kvs.length<=15/\Q (.ref p) (upd H2 p (.dK (rj [] kvs)))
def Qk{X:Cx}{pos:Pos}{keys:List (Option Expr)}{values:List Expr}{trs:List (TE×TE)}(h:Uz X pos keys values trs)(hall:keys.all (·.isSome)=true)(hl:keys.length=values.length)(h0:keys≠[])
  (h15:keys.length<=15):PE X (.Dict keys values pos) (Ox trs):=by
 intro pins s σ H Q I q;have hn:=I.hok.fresh (aB s.heap.objs.size);have I1:=I.laid (a:=s.heap.objs.size) (o:=.dK []) (h':=s.heap.push {cls:=.type "dict",data:=.dict #[]}) (t':=s.toks) (λ_ _ q=>ak _ q) (aB _) (Fm s.heap I.big);refine wpAny_Dict_walk (knd:=fJ X.prog X.w) hall hl h0 h15 (gs (h pins _ σ _ _ I1 (q _ hn)) λws s2 ⟨ps,H2,I2,rel,e,kvs,ep,lk,q2⟩=>?_);subst ep;obtain⟨rs,c,rk⟩:=zk (P:=X.prog) (w:=X.w) rel;obtain⟨z,hd,vs0,r0,dd⟩:=MF I2.hok e;cases r0;refine⟨rs,c,dd,λh' dd' hs=>⟨.ref s.heap.objs.size,_,?_,rfl,q2⟩⟩;have hz:(rj [] kvs).length<=av:=by
  have h1:=sR kvs [];rw[k9] at h1;rw[iB];lia
 have he:∃q,h'.get? s.heap.objs.size=some q:=let⟨q,_,_,hq,_⟩:=dd';⟨q,hq⟩;exact DS I2 (by rw[e];exact True.intro) hs he (ME hz hd (rk.merge .nil) dd')
section
variable{X:Cx}{pins:List (ar×Obj)}{σ:St}{H:Hp}{s:aq}{a:ar}{y d:V}{u r:ae}{o:Option V}{A:bu}{E:Zi}
end
section
variable{X:Cx}{o e f:Expr}{apos cpos:Pos}{td ty tx:TE}
end
section
variable{X:Cx}{pins:List (ar×Obj)}{σ:St}{H:Hp}{s:aq}{a:ar}{kvs:List (iy×V)}{A:bu}{E:Zi}
end
section
variable{X:Cx}{pins:List (ar×Obj)}{σ:St}{H:Hp}{s:aq}{a:ar}{y:V}{u:ae}{A:bu}{E:Zi}
end
section
variable{X:Cx}
end
section
variable{κ:Type}[DecidableEq κ]
def yH:∀{l:List κ} {k:κ},l.Nodup->¬k∈l->(l++[k]).Nodup
 |[],k,_,_=>by simp
 |a::r,k,h,hk=>by
  obtain⟨h1,h2⟩:=dC.mp h;show(a::(r++[k])).Nodup;refine dC.mpr ⟨λm=>?_,yH h2 λm=>hk (aE.mpr (Or.inr m))⟩;rcases aV.mp m with q|q
  ·exact h1 q
  ·exact hk (aE.mpr (Or.inl (ax.mp q).symm))
end
structure RY(fs:List ar)(e T:ar)(fl:ae)(T':ar)(h h':Heap):Prop where
 keep:∀b o,h.get? b=some o->b≠e->b≠T->b∉fs->h'.get? b=some o
 slot:∀b o,h.get? b=some o->b≠e->b≠T->∃sl,h'.get? b=some {o with slots:=sl}
 exc:∀o,h.get? e=some o->h'.get? e=some (Obj.mapFields (·.setIfInBounds 1 (.ref T')) o)
 old:T≠e->∀o,h.get? T=some o->∃o' us,h'.get? T=some o'/\o'.data=.fields us/\us[3]?=some .none
 new:h.objs.size<=T'
 tb:∃oT ts,h'.get? T'=some oT/\oT.data=.fields ts/\ts[3]?=some fl
section
variable{M:Model}{A:bu}{E:Zi}{s:aq}{base:Heap}{env:Env}{outer:List Env}{L e T:ar}{oe:Obj}{vs:Array ae}
def GN{head:ae}{hn:Bool}{Q:Unit->aq->Prop}(hfr:A.frames=some (env::outer))(hl:s.heap.FunFrames base (env::outer))(hf:env.frame=some L)
  (he:s.heap.get? e=some oe) (hd:oe.data=.fields vs) (hz:1<vs.size) (h:∀h' T',RY (EF (env::outer)) e e (ki L) T' s.heap h'->Q () {s with heap:=h'}) :
  aM M A (frameOf env >>= λa=>entryPlaceOf L hn >>= λpl=>EntryCells.newEntry head a .none (ki L) .none pl >>= λb=>setField (.ref e) 1 b) Q E s:=by
 have nf:e∉EF (env::outer):=λz=>by
  obtain⟨_,o,q,k⟩:=hl.mem z;rw[he] at q;cases q;exact k vs hd
 refine aa (wpAny_frameOf_fun hfr hl hf λh1 s1=>aa (wpAny_entryPlaceOf λpl ip=>?_));unfold EntryCells.newEntry newFields;refine aa (b4 ?_ (ip.sizeOk5 _ _ _ _ _));have e1:h1.get? e=some oe:=(s1.2.1 e nf).trans he;refine iE (ak _ e1) hd hz (h _ h1.objs.size ?_);have te:h1.objs.size≠e:=gU (aI e1);have dd:=Obj.data_mapFields hd (·.setIfInBounds 1 (ae.ref h1.objs.size));have kk:∀(on:Obj) b o,b≠e->h1.get? b=some o->((h1.push on).update e (Obj.mapFields (·.setIfInBounds 1 (ae.ref h1.objs.size)))).get? b=some o:=λon b o n q=>by
  rw[bM _ _ (Ne.symm n)];exact ak _ q
 refine⟨λb o q n _ nb=>kk _ b o n ((s1.2.1 b nb).trans q),λb o q n _=>?_,λo q=>?_,λn=>absurd rfl n,Nat.le_of_eq s1.1.symm,?_⟩
 ·obtain⟨sl,z⟩:=s1.2.2 b o q;exact⟨sl,kk _ b _ n z⟩
 ·rw[he] at q;cases q;exact cA _ (ak _ e1) (Obj.isFreed_of_fields dd)
 ·refine⟨_,_,(bM _ _ (Ne.symm te)).trans (aO h1 rfl),rfl,?_⟩;rcases ip with rfl|⟨_,_,_,_,_,_,_,rfl⟩<;>simp
def HP{Q:Unit->aq->Prop}(hfr:A.frames=some (env::outer))(hl:s.heap.FunFrames base (env::outer))(hf:env.frame=some L)
  (he:s.heap.get? e=some oe) (hd:oe.data=.fields vs) (h1:vs[1]?=some .none) (h:∀h' T',RY (EF (env::outer)) e e (ki L) T' s.heap h'->Q () {s with heap:=h'}) :
  aM M A (kg (.ref e) env) Q E s:=by
 unfold kg;simp only[hf];refine aa (bQ he hd h1 ?_);rw[if_neg (by decide)];exact GN hfr hl hf he hd (bO.mp h1).1 h
def KZ{oT:Obj}{ts:Array ae}{Q:Unit->aq->Prop}(hfr:A.frames=some (env::outer))(hl:s.heap.FunFrames base (env::outer))(hf:env.frame=some L)
  (he:s.heap.get? e=some oe) (hd:oe.data=.fields vs) (h1:vs[1]?=some (.ref T)) (hT:s.heap.get? T=some oT) (hdT:oT.data=.fields ts) (h3:ts[3]?=some .none) (hne:T≠e)
  (h:∀h' T',RY (EF (env::outer)) e T (ki L) T' s.heap h'->Q () {s with heap:=h'}):aM M A (kg (.ref e) env) Q E s:=by
 unfold kg;simp only[hf];refine aa (bQ he hd h1 ?_);rw[if_pos (show(ae.ref T != ae.none)=true from by simp)];refine aa (bQ hT hdT h3 ?_);rw[if_neg (show ¬((ae.none==ki L)=true) from by simp[ki])];refine aa (iE hT hdT (bO.mp h3).1 ?_);have ot:∀b,b≠T->(s.heap.update T (Obj.mapFields (·.setIfInBounds 3 ae.none))).get? b=s.heap.get? b:=λb n=>bM _ _ (Ne.symm n);have nT:∀b o,s.heap.get? b=some o->(∀ws,o.data≠.fields ws)->b≠T:=λb o q k z=>by
  rw[z,hT] at q;cases q;exact k ts hdT
 have dT:=Obj.data_mapFields hdT (·.setIfInBounds 3 ae.none);have gT:=cA (Obj.mapFields (·.setIfInBounds 3 ae.none)) hT (Obj.isFreed_of_fields dT);refine GN (s:={s with heap:=s.heap.update T (Obj.mapFields (·.setIfInBounds 3 ae.none))}) hfr (hl.of_keeps λb o q k=>⟨o,(ot b (nT b o q k)).trans q,rfl⟩) hf ((ot e (Ne.symm hne)).trans he) hd
  (bO.mp h1).1 λh' T' x=>h h' T' ⟨λb o q n m nb=>?_,λb o q n m=>?_,λo q=>?_,λ_ o q=>?_,?_,x.tb⟩
 ·exact x.keep b o ((ot b m).trans q) n n nb
 ·exact x.slot b o ((ot b m).trans q) n n
 ·exact x.exc o ((ot e (Ne.symm hne)).trans q)
 ·obtain⟨sl,z⟩:=x.slot T _ gT hne hne;exact⟨_,_,z,dT,by simp[(bO.mp h3).1]⟩
 ·have:=x.new
  rwa [show(s.heap.update T (Obj.mapFields (·.setIfInBounds 3 ae.none))).objs.size=s.heap.objs.size from Heap.size_after_update ..] at this
def DW{oT:Obj}{ts:Array ae}{Q:Unit->aq->Prop}(he:s.heap.get? e=some oe)(hd:oe.data=.fields vs)(h1:vs[1]?=some (.ref T))(hT:s.heap.get? T=some oT)(hdT:oT.data=.fields ts)(h3:3<ts.size)
  (h:∀h',(∀b,b≠T->h'.get? b=s.heap.get? b)->h'.objs.size=s.heap.objs.size->(∃o us,h'.get? T=some o/\o.data=.fields us/\us[3]?=some .none)->Q () {s with heap:=h'}):aM M A (setFlight (.ref e) none) Q E s:=by
 refine wpAny_setFlight_none he hd h1 hT hdT h3 (h _ (λb n=>bM _ _ (Ne.symm n)) (Heap.size_after_update ..) ?_);have dT:=Obj.data_mapFields hdT (·.setIfInBounds 3 ae.none);exact⟨_,_,cA _ hT (Obj.isFreed_of_fields dT),dT,by simp[h3]⟩
def RY.land{fs:List ar}{fl:ae}{T':ar}{h h1 h2:Heap}(x:RY fs e T fl T' h h1)(hT:∃o,h.get? T=some o)(he:∃o,h.get? e=some o)(k:∀b,b≠T'->h2.get? b=h1.get? b)(t:∃o us,h2.get? T'=some o/\o.data=.fields us/\us[3]?=some .none):RY fs e T .none T' h h2:=by
 have lt:∀b o,h.get? b=some o->b≠T':=λb o q z=>by
  have:=aI q;have:=x.new;rw[z] at *;exact absurd (bo ‹T'<_› ‹_›) (cW _)
 refine⟨λb o q n m f=>(k b (lt b o q)).trans (x.keep b o q n m f),λb o q n m=>?_,λo q=>(k e (lt e o q)).trans (x.exc o q),λn o q=>?_,x.new,t⟩
 ·obtain⟨sl,z⟩:=x.slot b o q n m;exact⟨sl,(k b (lt b o q)).trans z⟩
 ·obtain⟨o',us,z,y⟩:=x.old n o q;exact⟨o',us,(k T (lt T o q)).trans z,y⟩
end
open Builtin Builtin.ObjectAttr
abbrev Hj:List ae:=[.type "ValueError",.type "Exception",.type "BaseException",.type "object"]
section
variable{prog:aZ}{w:bK}{A:bu}{E:Zi}{h:Heap}{g:Array qK}{d:Drawn}{t:Nat}{os:OsState}
variable{nm q:Str}{C N B:ar}{bs:List ae}{hdct:Bool}{sn:List Str}{sub:List ae}{ab:Bool}{col:Option Bool}{dd:Option ar}{k0 k1 k2 k3 k5:Option ae}
abbrev IH(nm q:Str)(C N B:ar)(bs:List ae)(hdct:Bool)(sn:List Str)(sub:List ae)(ab:Bool)(col:Option Bool)(dd:Option ar)(k0 k1 k2 k3 k5:Option ae):Obj:=
 mR nm q C N bs (.ref B::Hj) hdct sn sub ab col dd k0 k1 k2 k3 k5 "ValueError.__new__"
def IJ(v:ae)(hv:Hj.contains v=true):(ae.ref C::ae.ref B::Hj).contains v=true:=by
 rw[gR,gR,hv,Bool.or_true,Bool.or_true]
def OQ(T:String)(hv:Hj.contains (.type T)=false):(ae.ref C::ae.ref B::Hj).contains (.type T)=false:=by
 rw[gR,gR,hv];rfl
def OS{M:Model}{rest:List ae}{Q:Unit->aq->Prop}(hC:h.get? C=some (IH nm q C N B bs hdct sn sub ab col dd k0 k1 k2 k3 k5))(hq:Q () ⟨h,g,d,t,os⟩) :
  aM M A (gH "ValueError.__new__" ⟨.ref C::rest,[]⟩) Q E ⟨h,g,d,t,os⟩:=by
 have F:=iI;have c1:=IJ (C:=C) (B:=B) (.type "ValueError") rfl;have st:=F.noStar;simp only[gH,F.newKind,F.newSplit,F.newRow]
 repeat (first|refine d8 hC ?_|(refine fA hC ?_;rw[c1])|refine wpAny_staticBase_exc hC ?_|refine wpAny_madeBy_exc hC ?_|simp only[bne_self_eq_false,Bool.false_eq_true,if_false]|wp_step)
 exact hq
def Uj{R:Result->aq->Prop}{rest:List ae}(hC:h.get? C=some (IH nm q C N B bs hdct sn sub ab col dd k0 k1 k2 k3 k5))(hz:rest.length<=av)
  (hq:R (.ok (.ret (.ref (h.objs.size+1)))) ⟨(h.push {cls:=.type "tuple",data:=.seq rest.toArray}).push {cls:=.ref C,data:=.fields #[.ref h.objs.size,.none,.none,.none,.bool false,.none]},g,d,t,os⟩) :
  gE (model prog w) A (.builtin "ValueError.__new__" ⟨.ref C::rest,[]⟩) R ⟨h,g,d,t,os⟩:=by
 have F:=iI;have en:=F.ends;have c1:=IJ (C:=C) (B:=B) (.type "ValueError") rfl;have c2:=OQ (C:=C) (B:=B) "AttributeError" rfl;have c3:=OQ (C:=C) (B:=B) "NameError" rfl;refine codeAny_builtinAt F.entry ?_;unfold aS.«BaseException.__new__»;refine PySem.wpAt_bind ?_;show PySem.wpAt _ _ _ (stack >>= _) _ _ _;refine PySem.wpAt_bind (PySem.wpAt_stack λp below=>PySem.wpAt_of_wpAny ?_)
 wp_walk
 refine PySem.wpAt_of_wpAny ?_;rw[F.owner]
 repeat (first|with_reducible refine wpAny_madeHere_exc F.canon hC ?_|with_reducible refine d8 hC ?_|(with_reducible refine fA hC ?_;first|rw[c1]|rw[c2]|rw[c3])|wp_step)
 show R _ _;rw[cY];exact hq
abbrev II(C t:ar):Obj:={cls:=.ref C,data:=.fields #[.ref t,.none,.none,.none,.bool false,.none]}
def Rk{rest:List ae}{fI:ar}{oI:Obj}{Q:Zi}(hC:h.get? C=some (IH nm q C N B bs hdct sn sub ab col dd k0 k1 k2 k3 k5))
  (hi:∀h',(∀b o,h.get? b=some o->h'.get? b=some o)->PySem.W.Looks (model prog w) h' (kj (.ref C) "__init__") (some (.ref fI))) (hf:h.get? fI=some oI) (hfc:oI.cls=.type "function") (hz:rest.length<=av)
  (hq:aM (model prog w) (A.under (.builtin "type.__call__" ⟨.ref C::rest,[]⟩)) (call (.ref fI) (.ref (h.objs.size+1)::rest)) (λr s'=>r=.none/\Q (.ref (h.objs.size+1)) s') E
   ⟨(h.push {cls:=.type "tuple",data:=.seq rest.toArray}).push (II C h.objs.size),g,d,t,os⟩) :
  aM (model prog w) A (call (.ref C) rest) Q E ⟨h,g,d,t,os⟩:=by
 have F:=iI;have f1:=tc_lookup;have f2:=tc_bind (.ref C);have hT:(⟨h,g,d,t,os⟩:aq).TypeIs (.ref C) "type":=⟨_,hC,rfl⟩;refine jq (kW ?_);show aM _ _ (callAny (.ref C) _) _ _ _
 repeat (any_goals (first|assumption|with_reducible refine d8 hC ?_|wp_step))
 refine⟨rfl,?_⟩;refine codeAny_call_builtin_at (Code.quiet_builtin _ (by decide +kernel)) entry_typeCall (wpAny_check_type_call_sub hC ?_)
 repeat (first|with_reducible refine d8 hC ?_|with_reducible refine wpAny_madeBy_exc hC ?_|wp_step)
 refine codeAny_call_builtin_code (Code.quiet_builtin _ F.quiet) (OS hC ?_);refine Uj hC hz ?_;show aM _ _ _ _ _ _;have kp:∀b o,h.get? b=some o->((h.push {cls:=.type "tuple",data:=.seq rest.toArray}).push (II C h.objs.size)).get? b=some o:=λb o e=>ak _ (ak _ e);have hC1:=kp _ _ hC;have gx:((h.push {cls:=.type "tuple",data:=.seq rest.toArray}).push (II C h.objs.size)).get? (h.objs.size+1)=some {cls:=.ref C,data:=.fields #[.ref h.objs.size,.none,.none,.none,.bool false,.none]}:=by heap_get
 have cC:(ae.ref C::ae.ref B::Hj).contains (.ref C)=true:=by simp
 unfold tT
 repeat (first|with_reducible refine d8 gx ?_|wp_step)
 refine fA hC1 ?_;rw[cC]
 repeat wp_step
 show aM _ _ (kj (.ref C) _) _ _ _;refine(hi _ kp).here ?_;refine bW (aa ?_);unfold bindSpecial;refine aa (iU (T:="function") ⟨_,kp _ _ hf,hfc⟩ ?_);rw[if_pos (by decide)];refine az (aa (c7 hq (λr s' hr=>?_) λ_ _ x=>x));obtain⟨rfl,hQ⟩:=hr
 wp_walk
 exact hQ
def OR{M:Model}{env:Env}{s:aq}{x:Sem ae}{Q:Flow->aq->Prop}(hh:A.handled=none)
  (hx:aM M A x (λv s1=>∃(e:ar) (od:Option ar) (u:ar) (sl:Array (Option ae)) (C:ar) (nm q:Str) (N B:ar) (bs:List ae) (hdct:Bool) (sn:List Str) (sub:List ae) (ab:Bool) (col:Option Bool) (dd:Option ar) (k0 k1 k2 k3 k5:Option ae),v=.ref e/\s1.heap.get? C=some (IH nm q C N B bs hdct sn sub ab col dd k0 k1 k2 k3 k5)/\
   s1.heap.get? e=some ⟨.ref C,od,.fields #[.ref u,.none,.none,.none,.bool false,.none],sl⟩/\E (.ref e) s1) E s):aM M A (raiseStmt env (some x) none) Q E s:=by
 unfold raiseStmt;refine aa (c7 hx (λv s1 h1=>?_) λ_ _ x=>x);obtain⟨e,od,u,sl,C,nm,q,N,B,bs,hdct,sn,sub,ab,col,dd,k0,k1,k2,k3,k5,rfl,hC,he,hE⟩:=h1;have c1:=IJ (C:=C) (B:=B) (.type "BaseException") rfl;obtain⟨hp,g,d,tk,os⟩:=s1
 repeat (first|with_reducible refine d8 he ?_|with_reducible refine d8 hC ?_|(with_reducible refine fA hC ?_;rw[c1])|wp_step)
 exact wpAny_raiseNew_none hh hE
end
end L2
end
section
namespace L2
open PySem PySem.Spec PyProof.Rows PySem.W
section
variable{prog:aZ}{w:bK}{A:bu}{E:Zi}{s:aq}{K:Fg}{x C D:ar}{ox od:Obj}{odo:Option Obj}{name:Str}
abbrev UE:ae:=.builtin "BaseException.__getattribute__"
def LL{tk:Tok}{A:bu}{E:Zi}{Q:Unit->aq->Prop}(X:K.In s.heap)(I:InstAt s.heap x ox C odo)(hb:mroIn K C (.type "BaseException")=some true)(hq:Q () s) :
  aM (model prog w) A (gH "BaseException.__getattribute__" ⟨[.ref x,.str name tk],[]⟩) Q E s:=by
 have L0:=I.type (M:=model prog w);have LI:Looks (model prog w) s.heap (tT (.ref x) (.type "BaseException")) true:=L0.andThen (looks_mroIn X hb);have hk:builtinKind "BaseException.__getattribute__"=some .slot:=by decide +kernel
 have hsplit:splitId "BaseException.__getattribute__"=some ("BaseException","__getattribute__"):=by decide +kernel
 have ha:=F.args_bexc_ga (.ref x) (.str name tk);simp only[gH,hk,hsplit];refine aa ?_;refine LI.here ?_
 repeat (any_goals (first|assumption|wp_step))
def Uh{tk:Tok}{fill expr:Bool}{v:ae}{s2:aq}{Q:Zi}(X:K.In s.heap)(I:InstAt s.heap x ox C odo)(ga:findIn K (.ref C) "__getattribute__"=some (some UE))(gh:findIn K (.ref C) "__getattr__"=some none)(hb:mroIn K C (.type "BaseException")=some true)
  (hv:handedIn v=true) (h:∀A',aM (model prog w) A' (aS.«object.__getattribute__» ⟨[.ref x,.str name tk],[]⟩) (λfin s'=>fin=.done (.ret v)/\s'=s2) (λ_ _=>False) s) (q:Q v s2) :
  aM (model prog w) A (getAttrBy (.ref x) (.str name tk) fill expr) Q E s:=by
 have L0:=I.type (M:=model prog w);have L1:=looks_findIn (M:=model prog w) X ga;have L2:=looks_findIn (M:=model prog w) X gh;have hx2:(UE==ae.builtin "object.__getattribute__")=false:=by decide +kernel
 unfold getAttrBy;refine bW (aa (L0.here (aa (L1.here ?_))));show aM _ _ (if(onTheHeap (.ref C)&&(UE==ae.builtin "object.__getattribute__"))=true then _ else _) _ _ _;rw[if_neg (by rw[hx2,Bool.and_false];exact Bool.noConfusion)];unfold getAttrByItsOwn hookBefore callGetattribute boundAndCalled;refine aa ?_;show aM _ _ (kj (.ref C) "__getattr__") _ _ _;refine L2.here ?_;refine aa (kD (bW ?_));rw[if_neg (by cases expr<;>exact Bool.noConfusion)];refine aa (kL (F.attr_ValueError.ga.bind _) ?_);refine c7 (Q:=λu s'=>u=v/\s'=s2) (E:=λ_ _=>False) (jq (fc F.attr_ValueError.ga.plain F.entry_bexc_ga (LL X I hb (c7 (h _) (λfin s' z=>?_) λ_ _ z=>z.elim)))) (λu s' z=>?_) λ_ _ z=>z.elim
 ·obtain⟨rfl,rfl⟩:=z;exact⟨rfl,rfl⟩
 ·obtain⟨rfl,rfl⟩:=z;show aM _ _ (handedOut u) _ _ _;rw[handedOut_of hv];exact az q
def LM{tk:Tok}{v:ae}{A':bu}{E:Zi}(X:K.In s.heap)(I:InstAt s.heap x ox C odo)(hf:findObj K C odo name=some (.value v)) :
  aM (model prog w) A' (aS.«object.__getattribute__» ⟨[.ref x,.str name tk],[]⟩) (λfin s'=>fin=.done (.ret v)/\s'=s) E s:=by
 have L0:=I.type (M:=model prog w);have L1:=looks_find (M:=model prog w) X I hf;unfold aS.«object.__getattribute__»;refine aa (kL (show slotArgs _ _ _=pure (.ref x,[.str name tk]) from rfl) ?_);refine aa (az (aa (L0.here (aa (L1.here ?_)))));exact az ⟨rfl,rfl⟩
def IK{v:ae}{expr:Bool}{Q:Zi}(X:K.In s.heap)(I:InstAt s.heap x ox C odo)(ga:findIn K (.ref C) "__getattribute__"=some (some UE))(gh:findIn K (.ref C) "__getattr__"=some none)(hb:mroIn K C (.type "BaseException")=some true)
  (hf:findObj K C odo name=some (.value v)) (hh:handedIn v=true) (h:Q v {s with toks:=s.toks+1}):aM (model prog w) A (getAttr (.ref x) name expr) Q E s:=by
 unfold getAttr;refine aa (wpAny_mkText ?_);exact Uh (s:={s with toks:=s.toks+1}) X I ga gh hb hh (λA'=>LM (s:={s with toks:=s.toks+1}) X I hf) h
end
end L2
end
section
namespace L2
open PySem PySem.Spec PyProof.Rows
open Builtin Builtin.ObjectAttr
def JY{P:aZ}{w:bK}{fs:List ar}{H H':Hp}{h h':Heap}(ws:List ar)(hok:qI P w H h)(hw:∀b∈ws,∃φ,H b=some (.ext φ))(frf:∀b∈fs,H b=none)
  (keep:∀b u,b∉ws->b∉fs->h.get? b=some u->h'.get? b=some u) (slot:∀b u,b∉ws->b∈fs->h.get? b=some u->∃sl,h'.get? b=some {u with slots:=sl})
  (thr:∀b∈ws,∃u,h'.get? b=some u) (same:∀b,b<h.objs.size->b∉ws->H' b=H b) (new:∀b,(h.objs.size<=b\/b∈ws)->∀o,H' b=some o->fk P w H' h' b o) :
  Un fs [] H H' h h'/\qI P w H' h':=by
 have nw:∀b,H b=none->b∉ws:=λb n z=>by obtain⟨φ,e⟩:=hw b z;rw[n] at e;cases e
 have st:∀b o,H b=some o->(∀φ,o≠.ext φ)->H' b=some o/\b∉ws:=λb o e n=>by
  have nb:b∉ws:=λz=>by obtain⟨φ,q⟩:=hw b z;rw[e] at q;cases q;exact n φ rfl
  exact⟨(same b (hok.lt e) nb).trans e,nb⟩
 refine⟨⟨λb o q n f _=>keep b o (nw b n) f q,λb o q n f _=>slot b o (nw b n) f q,λb o q n _=>(same b (aI q) (nw b n)).trans n,λb o q _=>?_,λb xs e=>(st b _ e λ_ z=>by cases z).1,λb o u e=>(st b _ e λ_ z=>by cases z).1,
  λb ps e=>⟨#[],by rw[Array.append_empty];exact(st b _ e λ_ z=>by cases z).1⟩⟩,λa o e=>?_⟩
 ·by_cases hb:b∈ws
  ·exact thr b hb
  ·by_cases hf:b∈fs
   ·obtain⟨sl,z⟩:=slot b o hb hf q;exact⟨_,z⟩
   ·exact⟨o,keep b o hb hf q⟩
 ·by_cases hz:h.objs.size<=a
  ·exact new a (.inl hz) o e
  ·by_cases hb:a∈ws
   ·exact new a (.inr hb) o e
   ·have e':H a=some o:=(same a (Nat.lt_of_not_le hz) hb).symm.trans e;refine(hok a o e').stay (λc u hc q=>?_) (λc q=>(st c _ q λ_ z=>by cases z).1) λc xs q=>(st c _ q λ_ z=>by cases z).1;rcases hc with rfl|hc
    ·exact keep c u hb (λz=>by rw[frf c z] at e';cases e') q
    ·exact keep c u (st c _ hc λ_ z=>by cases z).2 (λz=>by rw[frf c z] at hc;cases hc) q
def DV{P:aZ}{w:bK}{H:Hp}{h:Heap}{a:ar}{o:Obj}{φ:Heap->Prop}(p:φ h)(e:h.get? a=some o)(st:∀h1 h2:Heap,φ h1->(∀o,h1.get? a=some o->h2.get? a=some o)->φ h2):fk P w H h a (.ext φ):=⟨p,⟨o,e⟩,st⟩
def XF(x C:ar)(od:Option ar):HO:=.ext λh=>∃u,h.get? x=some ⟨.ref C,od,.fields #[.ref u,.none,.none,.none,.bool false,.none],#[]⟩
def XL(x C:ar)(od:Option ar):HO:=.ext λh=>∃vs sl,h.get? x=some ⟨.ref C,od,.fields vs,sl⟩
def TB(T:ar):HO:=.ext λh=>∃o ts,h.get? T=some o/\o.data=.fields ts/\ts[3]?=some .none
def XD(dx:ar)(fs:List (Str×V)):HO:=.ext λh=>fs.length<=1000/\∃mA,h.Ns1 dx mA/\(∀f,sD (fs.lookup f) (mA f))/\PySem.Within mA (fs.map (·.1))
section
variable{P:aZ}{w:bK}{H:Hp}{h:Heap}{x C T dx:ar}{od:Option ar}{fs:List (Str×V)}
def XF.ok{u:ar}(e:h.get? x=some ⟨.ref C,od,.fields #[.ref u,.none,.none,.none,.bool false,.none],#[]⟩):fk P w H h x (XF x C od):=
 DV ⟨u,e⟩ e λh1 h2 ⟨u,q⟩ k=>⟨u,k _ q⟩
def XL.ok{vs:Array ae}{sl:Array (Option ae)}(e:h.get? x=some ⟨.ref C,od,.fields vs,sl⟩):fk P w H h x (XL x C od):=
 DV ⟨vs,sl,e⟩ e λh1 h2 ⟨vs,sl,z⟩ k=>⟨vs,sl,k _ z⟩
def TB.ok{o:Obj}{ts:Array ae}(e:h.get? T=some o)(d:o.data=.fields ts)(q:ts[3]?=some .none):fk P w H h T (TB T):=
 DV ⟨o,ts,e,d,q⟩ e λh1 h2 ⟨o,ts,z,y⟩ k=>⟨o,ts,k _ z,y⟩
def XD.ok{mA:Str->Option ae}(z:fs.length<=1000)(n:h.Ns1 dx mA)(r:∀f,sD (fs.lookup f) (mA f))(wi:PySem.Within mA (fs.map (·.1))):fk P w H h dx (XD dx fs):=by
 obtain⟨o,es,ep,e,c⟩:=id n;refine DV ⟨z,mA,n,r,wi⟩ e λh1 h2 ⟨z,mA,⟨o,es,ep,e,c⟩,r,wi⟩ k=>⟨z,mA,⟨o,es,ep,k _ e,c⟩,r,wi⟩
def XF.get(ok:qI P w H h)(e:H x=some (XF x C od)):∃u,h.get? x=some ⟨.ref C,od,.fields #[.ref u,.none,.none,.none,.bool false,.none],#[]⟩:=(show fk P w H h x (XF x C od) from ok x _ e).1
def XL.get(ok:qI P w H h)(e:H x=some (XL x C od)):∃vs sl,h.get? x=some ⟨.ref C,od,.fields vs,sl⟩:=(show fk P w H h x (XL x C od) from ok x _ e).1
def EL(h:Heap)(x C:ar)(od:Option ar)(T:ar):Prop:=∃vs sl,h.get? x=some ⟨.ref C,od,.fields vs,sl⟩/\vs[1]?=some (.ref T)
def TB.get(ok:qI P w H h)(e:H T=some (TB T)):∃o ts,h.get? T=some o/\o.data=.fields ts/\ts[3]?=some .none:=(show fk P w H h T (TB T) from ok T _ e).1
def XD.get(ok:qI P w H h)(e:H dx=some (XD dx fs)):fs.length<=1000/\∃mA,h.Ns1 dx mA/\(∀f,sD (fs.lookup f) (mA f))/\PySem.Within mA (fs.map (·.1)):=(show fk P w H h dx (XD dx fs) from ok dx _ e).1
end
structure DD(K:Fg)(C:ar):Prop where
 ex:∃(nm q:Str) (N B:ar) (bs:List ae) (sn:List Str) (sub:List ae) (ab:Bool) (col:Option Bool) (dd:Option ar) (k0 k1 k2 k3 k5:Option ae),K.lookup C=some (IH nm q C N B bs true sn sub ab col dd k0 k1 k2 k3 k5)
 ga:cH K (.ref C) "__getattribute__"=some (some UE)
 gh:cH K (.ref C) "__getattr__"=some none
 sa:cH K (.ref C) "__setattr__"=some (some (.builtin "object.__setattr__"))
section
variable{prog:aZ}{w:bK}{A:bu}{E:Zi}{K:Fg}{C x:ar}{s:aq}{R:Result->aq->Prop}
def DD.cls(c:DD K C):∃cd B,sJ K C=some cd/\cd.mro=.ref C::.ref B::Hj/\cd.hasDict=true:=by
 obtain⟨nm,q,N,B,bs,sn,sub,ab,col,dd,k0,k1,k2,k3,k5,e⟩:=c.ex;exact⟨_,B,by unfold sJ;rw[e],rfl,rfl⟩
def DD.base(c:DD K C):fP K C (.type "BaseException")=some true:=by
 obtain⟨cd,B,e,m,_⟩:=c.cls;unfold fP;rw[e,iV,m];rfl
def DD.hd(c:DD K C):PySem.W.hasDictIn K C=true:=by
 obtain⟨cd,B,e,_,d⟩:=c.cls;unfold PySem.W.hasDictIn;rw[e];exact d
def Vi{ox:Obj}{od:Option Obj}{f:Str}{tk:Tok}{v:ae}(X:K.In s.heap)(J:PySem.W.InstAt s.heap x ox C od)(c:DD K C)(n:nM K C f)
  (h:∀b,aM (model prog w) A.in1 (storeInOwnDict (.ref x) (.ref C) (.str f tk) f v b) (λfin s'=>match fin with|.done f=>R (.ok f) s'|.again c'=>c'.quiet=true/\gE (model prog w) A c' R s') (λe s'=>R (.error e) s') s) :
  gE (model prog w) A (.call (.builtin "object.__setattr__") ⟨[.ref x,.str f tk,v],[]⟩) R s:=by
 obtain⟨cd,B,hc,hm,hdd⟩:=c.cls;have SF:=PySem.F.store_object;have VF:=PySem.F.store_ValueError;have lm:PySem.W.Looks (model prog w) s.heap (mroOf (.ref C)) cd.mro:=(lJ X hc).andThen .now;have sb:PySem.W.Looks (model prog w) s.heap (tT (.ref x) (.type "object")) true:=J.type.andThen (PySem.W.looks_mroIn X (by unfold fP;rw[hc,iV,hm];rfl));refine fc SF.slot.plain SF.entry (@PySem.W.check_slot (model prog w) _ _ s "object.__setattr__" "object" "__setattr__" (.ref x) [.str f tk,v] [] _ SF.kind SF.split sb (SF.args (.ref x) (.str f tk) v) ?_);rw[PySem.W.osa_eq,refuse_eq];refine aa (aa (J.type.here (aa (lm.here ?_))));rw[hm,refuseLoop_ref,refuseLoop_ref,VF.passes];refine az (aa (J.type.here (aa ((PySem.W.looks_findIn X n).here (aa ?_)))));exact az (h _)
end
def D8{H:Hp}{x:ar}{φ:Heap->Prop}(e:H x=some (.ext φ)):∀b∈[x],∃φ,H b=some (.ext φ):=λb hb=>by
 cases ax.mp hb;exact⟨φ,e⟩
def D9{h:Heap}{x:ar}{o:Obj}(e:h.get? x=some o):∀b∈[x],∃u,h.get? b=some u:=λb hb=>by
 cases ax.mp hb;exact⟨o,e⟩
section
variable{X:Cx}{pins:List (ar×Obj)}{σ:St}{H:Hp}{s:aq}{x C dx:ar}{fs:List (Str×V)}{f:Str}{v y:V}{u:ae}{A:bu}{E:Zi}
def Ga{y:V}{u:ae}{fs:List (Str×V)}{mA:Str->Option ae}(f:Str)(ry:d5 y u)(r:∀f,sD (fs.lookup f) (mA f)):∀g,sD ((nX f y fs).lookup g) (if g=f then some u else mA g):=λg=>by
 rw[xB];by_cases q:g=f
 ·rw[if_pos q,if_pos q];exact ry
 ·rw[if_neg q,if_neg q];exact r g
def A0{y:V}{u:ae}{fs:List (Str×V)}{mA:Str->Option ae}(f:Str)(wi:PySem.Within mA (fs.map (·.1))):PySem.Within (λg=>if g=f then some u else mA g) ((nX f y fs).map (·.1)):=λg hg=>by
 by_cases q:g=f
 ·rw[q];exact(wu f y fs).1
 ·refine(wu f y fs).2 g (wi g λz=>hg ?_);show(if g=f then some u else mA g)=none;rw[if_neg q];exact z
def IL{Q:Unit->aq->Prop}(I:bZ X pins σ H s)(e:H x=some (XF x C none))(c:DD X.K C)(n:nM X.K C f)(ry:d5 y u)
  (h:∀s' dx,H dx=none->dx≠x->bZ X pins σ (upd (upd H dx (XD dx [(f,y)])) x (XF x C (some dx))) s'->Q () s'):aM (model X.prog X.w) A (setAttr (.ref x) f u) Q E s:=by
 obtain⟨a,hx⟩:=XF.get I.hok e;obtain⟨cd,B,hc,hm,hdd⟩:=c.cls;refine PySem.W.set_plain I.kIn (od:=none) ⟨hx,rfl,rfl,True.intro⟩ c.sa (Vi (s:={s with toks:=s.toks+1}) (od:=none) I.kIn ⟨hx,rfl,rfl,True.intro⟩ c n λb=>?_);have ne:x≠s.heap.objs.size:=a9 (aI hx);refine aa (az (aa (aa (wpAny_loadPart hx (aa (PySem.W.Looks.here (s:={s with toks:=s.toks+1}) (lJ I.kIn hc) ?_))))));rw[hdd];show aM _ _ (alloc fj >>= λd=>(update x λo=>{cls:=o.cls,dict:=some d,data:=o.data,slots:=o.slots}) >>= λ_=>dictMade (.ref C) x d) _ _ _;have hx1:(s.heap.push fj).get? x=_:=ak _ hx;refine aa (wpAny_alloc (aa (wpAny_update hx1 ?_)));refine az ?_;have gd:((s.heap.push fj).update x λo=>{cls:=o.cls,dict:=some s.heap.objs.size,data:=o.data,slots:=o.slots}).get? s.heap.objs.size=some fj:=
  (Heap.get?_update_ne _ _ _ _ (Ne.symm ne)).trans (Heap.get?_push_at rfl rfl)
 have gx:((s.heap.push fj).update x λo=>{cls:=o.cls,dict:=some s.heap.objs.size,data:=o.data,slots:=o.slots}).get? x=some ⟨.ref C,some s.heap.objs.size,.fields #[.ref a,.none,.none,.none,.bool false,.none],#[]⟩:=
  cA _ hx1 rfl
 have nd:((s.heap.push fj).update x λo=>{cls:=o.cls,dict:=some s.heap.objs.size,data:=o.data,slots:=o.slots}).Ns s.heap.objs.size (λ_=>none):=⟨_,#[],_,gd,rfl,(λe he=>absurd he (by simp)),λ_=>rfl⟩;refine aa (az (aa ?_));refine wpAny_nsSet1 (s:={s with heap:=(s.heap.push fj).update x λo=>{cls:=o.cls,dict:=some s.heap.objs.size,data:=o.data,slots:=o.slots},toks:=s.toks+1}) (Heap.Ns1.of_empty nd) λh' hn2 hs2=>?_;obtain⟨oD,esD,epD,hoD,hdD,hcD⟩:=hn2.count (PySem.Within.cons f u PySem.Within.nil);refine aa (wpAny_lookBehind hoD (by rw[hdD];exact pastItsLine_dict (cT hcD (by rw[aP,k9,iB];lia))) ?_);have gx2:=(hs2.2 x ne).trans gx;have fr:=I.hok.fresh (aB s.heap.objs.size);obtain⟨un,ok⟩:=JY (P:=X.prog) (w:=X.w) (fs:=[]) (H':=upd (upd H s.heap.objs.size (XD s.heap.objs.size [(f,y)])) x (XF x C (some s.heap.objs.size))) (h':=h') [x] I.hok (D8 e) (λb z=>absurd z (by simp))
  (λb v nb _ q=>by
   have lt:=aI q;rw[hs2.2 b (a9 lt)];exact(Heap.get?_update_ne _ _ _ _ λz=>nb (ax.mpr z)).trans (ak _ q)) (λb u _ z=>absurd z (by simp)) (D9 gx2) (λb lt nb=>by
   rw[aL (λz=>nb (ax.mpr z)),aL (a9 lt)]) (λb hb o q=>by
   by_cases k:b=x
   ·subst k;rw[ag] at q;cases q;exact XF.ok gx2
   ·rw[aL k] at q;by_cases k2:b=s.heap.objs.size
    ·subst k2;rw[ag] at q;cases q;exact XD.ok (fs:=[(f,y)]) (mA:=λg=>if g=f then some u else none) (by show 1<=1000;decide) hn2 (Ga (fs:=[]) (mA:=λ_=>none) f ry λ_=>True.intro) (A0 (fs:=[]) (mA:=λ_=>none) f λg hg=>absurd rfl hg)
    ·rw[aL k2] at q;rcases hb with hb|hb
     ·rw[I.hok.fresh hb] at q;cases q
     ·exact absurd (ax.mp hb) k)
 exact az (h _ _ fr (Ne.symm ne) (I.un (t':=s.toks+1+1) (un.mono (λb z=>absurd z (by simp)) λb z=>z) ok))
def LN{Q:Unit->aq->Prop}(I:bZ X pins σ H s)(e:H x=some (XF x C (some dx)))(ne:dx≠x)(ed:H dx=some (XD dx fs))(c:DD X.K C)(n:nM X.K C f)(hl:fs.length<1000)(ry:d5 y u)
  (h:∀s',bZ X pins σ (upd H dx (XD dx (nX f y fs))) s'->Q () s'):aM (model X.prog X.w) A (setAttr (.ref x) f u) Q E s:=by
 obtain⟨a,hx⟩:=XF.get I.hok e;obtain⟨z,mA,ns,r,wi⟩:=XD.get I.hok ed;obtain⟨od,ho,hlk⟩:=CC ns;obtain⟨cd,B,hc,hm,hdd⟩:=c.cls;refine PySem.W.set_plain I.kIn (od:=some od) ⟨hx,rfl,rfl,ho⟩ c.sa (Vi (s:={s with toks:=s.toks+1}) (od:=some od) I.kIn ⟨hx,rfl,rfl,ho⟩ c n λb=>?_);refine aa (az (aa (aa (wpAny_loadPart hx (aa (PySem.W.Looks.here (s:={s with toks:=s.toks+1}) (lJ I.kIn hc) ?_))))));rw[hdd];refine az (a:=some dx) (aa (az (aa ?_)));refine wpAny_nsSet1 (s:={s with toks:=s.toks+1}) ns λh' hn2 hs2=>?_;obtain⟨oD,esD,epD,hoD,hdD,hcD⟩:=hn2.count (PySem.Within.cons f u wi);refine aa (wpAny_lookBehind hoD (by rw[hdD];exact pastItsLine_dict (cT hcD (by rw[aP,af,iB];lia))) ?_);obtain⟨un,ok⟩:=JY (P:=X.prog) (w:=X.w) (fs:=[]) (H':=upd H dx (XD dx (nX f y fs))) (h':=h') [dx] I.hok (D8 ed) (λb z=>absurd z (by simp))
  (λb u nb _ q=>(hs2.2 b λz=>nb (ax.mpr z)).trans q) (λb u _ z=>absurd z (by simp)) (D9 hoD) (λb _ nb=>aL λz=>nb (ax.mpr z)) (λb hb o q=>by
   by_cases k:b=dx
   ·subst k;rw[ag] at q;cases q;exact XD.ok (by have:=xw f y fs;lia) hn2 (Ga f ry r) (A0 f wi)
   ·rw[aL k] at q;rcases hb with hb|hb
    ·rw[I.hok.fresh hb] at q;cases q
    ·exact absurd (ax.mp hb) k)
 exact az (h _ (I.un (t':=s.toks+1+1) (un.mono (λb z=>absurd z (by simp)) λb z=>z) ok))
def VR{b:Bool}{Q:Zi}(I:bZ X pins σ H s)(ea:H x=some (XF x C (some dx))\/H x=some (XL x C (some dx)))(ed:H dx=some (XD dx fs))(c:DD X.K C)(n:nM X.K C f)(l:fs.lookup f=some v)
  (h:∀u s',bZ X pins σ H s'->d5 v u->Q u s'):aM (model X.prog X.w) A (getAttr (.ref x) f b) Q E s:=by
 obtain⟨z,mA,ns,r,wi⟩:=XD.get I.hok ed;obtain⟨od,ho,hlk⟩:=CC ns;obtain⟨u,hu,ru⟩:=sD.some_of (v:=v) (o:=mA f) (by rw[<-l];exact r f);have J:∃ox,PySem.W.InstAt s.heap x ox C (some od):=by
  rcases ea with ea|ea
  ·obtain⟨a,hx⟩:=XF.get I.hok ea;exact⟨_,hx,rfl,rfl,ho⟩
  ·obtain⟨vs,sl,hx⟩:=XL.get I.hok ea;exact⟨_,hx,rfl,rfl,ho⟩
 obtain⟨ox,J⟩:=J;exact IK I.kIn J c.ga c.gh c.base (PySem.W.findObj_own c.hd n rfl (by rw[hlk,hu])) (Kw ru) (h u _ (I.tok _) ru)
end
def GT(P:aZ)(w:bK):LP:=λouter H s E e s'=>∃x C od T H',e=.ref x/\s'.os=s.os/\lM s'.gens/\Un (EF outer) [] H H' s.heap s'.heap/\qI P w H' s'.heap/\
 H' x=some (XL x C od)/\H' T=some (TB T)/\EL s'.heap x C od T/\T≠x/\od≠some x/\E (.ref C) od H'
def oR(E:ar->XK):XK:=λcls od H'=>∀x C T',cls=.ref C->H' x=some (XL x C od)->od≠some x->H' T'=none->T'≠x->E x cls od (upd H' T' (TB T'))
def Rj{H:Hp}{x:ar}{o:HO}(h:H x=some o):upd H x o=H:=by
 funext b;by_cases c:b=x
 ·rw[c,ag,h]
 ·rw[aL c]
section
variable{X:Cx}{pins:List (ar×Obj)}{σ:St}{H:Hp}{s:aq}{x C T T':ar}{od:Option ar}{M:Model}{E:Zi}
def Jv{T0:ar}{φ:Heap->Prop}{h':Heap}{vs:Array ae}{sl:Array (Option ae)}(I:bZ X pins σ H s)(hx:H x=some (.ext φ))(hT:T0=x\/H T0=some (TB T0))(hg:s.heap.get? x=some ⟨.ref C,od,.fields vs,sl⟩)(hz:1<vs.size)
  (L:RY (EF X.stack) x T0 .none T' s.heap h'):bZ X pins σ (upd (upd H T' (TB T')) x (XL x C od)) {s with heap:=h'}/\EL h' x C od T':=by
 have nx:T'≠x:=λz=>by
  have:=aI hg;have:=L.new;rw[z] at this;exact absurd (bo ‹x<_› this) (cW _)
 have hT0:∃φ,H T0=some (.ext φ):=by
  rcases hT with rfl|z
  ·exact⟨φ,hx⟩
  ·exact⟨_,z⟩
 have me:∀b,b∈[x,T0]↔b=x\/b=T0:=λb=>by simp
 obtain⟨un,ok⟩:=JY (P:=X.prog) (w:=X.w) (fs:=EF X.stack) (H':=upd (upd H T' (TB T')) x (XL x C od)) (h':=h') [x,T0] I.hok (λb hb=>by
   rcases(me b).mp hb with rfl|rfl
   ·exact⟨φ,hx⟩
   ·exact hT0) I.stkFree (λb u nb nf q=>L.keep b u q (λz=>nb ((me b).mpr (.inl z))) (λz=>nb ((me b).mpr (.inr z))) nf)
  (λb u nb nf q=>L.slot b u q (λz=>nb ((me b).mpr (.inl z))) (λz=>nb ((me b).mpr (.inr z)))) (λb hb=>by
   rcases(me b).mp hb with rfl|rfl
   ·exact⟨_,L.exc _ hg⟩
   ·rcases hT with rfl|z
    ·exact⟨_,L.exc _ hg⟩
    ·by_cases c:b=x
     ·subst c;exact⟨_,L.exc _ hg⟩
     ·obtain⟨o,ts,q,_⟩:=TB.get I.hok z;obtain⟨o',us,q',_⟩:=L.old c o q;exact⟨o',q'⟩)
  (λb lt nb=>by
   rw[aL (λz=>nb ((me b).mpr (.inl z))),aL (λz=>by rw[z] at lt;exact absurd (bo lt L.new) (cW _))])
  (λb hb o e=>by
   by_cases c:b=x
   ·subst c;rw[ag] at e;cases e;exact XL.ok (vs:=vs.setIfInBounds 1 (.ref T')) (sl:=sl) (L.exc _ hg)
   ·rw[aL c] at e;by_cases c2:b=T'
    ·subst c2;rw[ag] at e;cases e;obtain⟨oT,ts,e1,e2,e3⟩:=L.tb;exact TB.ok e1 e2 e3
    ·rw[aL c2] at e;rcases hb with hb|hb
     ·rw[I.hok.fresh hb] at e;cases e
     ·rcases(me b).mp hb with z|z
      ·exact absurd z c
      ·subst z;rcases hT with z|z
       ·exact absurd z c
       ·rw[z] at e;cases e;obtain⟨o,ts,q,_⟩:=TB.get I.hok z;obtain⟨o',us,q',d',z'⟩:=L.old c o q;exact TB.ok q' d' z')
 exact⟨I.call' (s':={s with heap:=h'}) (ch:=[]) rfl un ok I.bare (λb z=>absurd z (by simp)),vs.setIfInBounds 1 (.ref T'),sl,L.exc _ hg,by simp[hz]⟩
def KY{Q:Unit->aq->Prop}(I:bZ X pins σ H s)(hst:X.stack=X.env::X.outer)(hfm:X.env.frame=some X.env.locals)(hx:H x=some (XF x C od))
  (h:∀s' T',H T'=none->T'≠x->bZ X pins σ (upd (upd H T' (TB T')) x (XL x C od)) s'->EL s'.heap x C od T'->Q () s') :
  aM M X.A (kg (.ref x) X.env) (λ_ s2=>aM M X.A (setFlight (.ref x) none) Q E s2) E s:=by
 obtain⟨u,hg⟩:=XF.get I.hok hx;have hfr:X.A.frames=some (X.env::X.outer):=by rw[I.ok.frames,hst]
 have hfu:s.heap.FunFrames X.base (X.env::X.outer):=by rw[<-hst];exact I.stack
 refine HP hfr hfu hfm hg rfl rfl λh1 T' L=>?_;have nx:T'≠x:=λz=>by
  have:=aI hg;have:=L.new;rw[z] at this;exact absurd (bo ‹x<_› this) (cW _)
 obtain⟨oT,ts,t1,t2,t3⟩:=L.tb;refine DW (s:={s with heap:=h1}) (L.exc _ hg) rfl (T:=T') (by simp) t1 t2 (bO.mp t3).1 λh2 k _ t=>?_;have L2:=L.land ⟨_,hg⟩ ⟨_,hg⟩ k t;rw[<-hst] at L2;have r:=Jv (s:=s) (h':=h2) I hx (.inl rfl) hg (by simp) L2;exact h {s with heap:=h2} T' (I.hok.fresh L.new) nx r.1 r.2
def FP{Q:Unit->aq->Prop}(I:bZ X pins σ H s)(hst:X.stack=X.env::X.outer)(hfm:X.env.frame=some X.env.locals)(hx:H x=some (XL x C od))(hT:H T=some (TB T))(hfl:EL s.heap x C od T)(ne:T≠x)
  (h:∀s' T',H T'=none->T'≠x->bZ X pins σ (upd H T' (TB T')) s'->EL s'.heap x C od T'->Q () s') :
  aM M X.A (kg (.ref x) X.env) (λ_ s2=>aM M X.A (setFlight (.ref x) none) Q E s2) E s:=by
 obtain⟨vs,sl,hg,h1⟩:=hfl;obtain⟨oT,ts,q1,q2,q3⟩:=TB.get I.hok hT;have hz:1<vs.size:=(bO.mp h1).1;have hfr:X.A.frames=some (X.env::X.outer):=by rw[I.ok.frames,hst]
 have hfu:s.heap.FunFrames X.base (X.env::X.outer):=by rw[<-hst];exact I.stack
 refine KZ hfr hfu hfm hg rfl h1 q1 q2 q3 ne λh1 T' L=>?_;have nx:T'≠x:=λz=>by
  have:=aI hg;have:=L.new;rw[z] at this;exact absurd (bo ‹x<_› this) (cW _)
 obtain⟨oT,ts,t1,t2,t3⟩:=L.tb;refine DW (s:={s with heap:=h1}) (L.exc _ hg) rfl (T:=T') (by simp[hz]) t1 t2 (bO.mp t3).1 λh2 k _ t=>?_;have L2:=L.land ⟨_,q1⟩ ⟨_,hg⟩ k t;rw[<-hst] at L2;have r:=Jv (s:=s) (h':=h2) I hx (.inr hT) hg hz L2;rw[Rj (show(upd H T' (TB T')) x=some (XL x C od) by rw[aL (Ne.symm nx)];exact hx)] at r;exact h {s with heap:=h2} T' (I.hok.fresh L.new) nx r.1 r.2
end
section
variable{P:aZ}{w:bK}{K:Fg}{mg:Str->Option ae}{base:Heap}{N:List Str}{qual:Str}{scope:Scope}{f:ar}{cd:ae}{A:bu}{outer:List Env}{s:aq}{H:Hp}{E:XK}
def jt:nO (GT P w) (sF (GT P w) P w K mg base N qual scope f cd A outer s H E) (oR λ_=>E):=by
 rintro pins σ H1 s1 e s' I ⟨x,C,od,T,H',rfl,os,bare,un,hok,hx,hT,hfl,ne,ndx,q⟩;have I1:=I.call' (ch:=[]) os un hok bare λb z=>absurd z (by simp);refine aa (FP I1 rfl rfl hx hT hfl ne λs2 T' nT nx I2 fl2=>?_);exact⟨x,C,od,T',_,rfl,I2.os,I2.bare,I2.base,I2.hok,by rw[aL (Ne.symm nx)];exact hx,ag,fl2,nx,ndx,q x C T' rfl hx ndx nT nx⟩
def HB{pins:List (ar×Obj)}{σ:St}{H1:Hp}{s1:aq}{x C:ar}{od:Option ar}(I:bZ (sF (GT P w) P w K mg base N qual scope f cd A outer s H E) pins σ H1 s1)(hx:H1 x=some (XF x C od))(ndx:od≠some x)
  (q:∀T',H1 T'=none->T'≠x->E (.ref C) od (upd (upd H1 T' (TB T')) x (XL x C od))):(sF (GT P w) P w K mg base N qual scope f cd A outer s H E).xe (.ref x) s1:=by
 refine aa (KY I rfl rfl hx λs2 T' nT nx I2 fl2=>?_);exact⟨x,C,od,T',_,rfl,I2.os,I2.bare,I2.base,I2.hok,ag,by rw[aL nx,ag],fl2,nx,ndx,q T' nT nx⟩
end
structure Vw(K:Fg)(C f:ar):Prop where
 cl:DD K C
 init:cH K (.ref C) "__init__"=some (some (.ref f))
 fn:uE K (.ref f)=true
 kp:cI K (.ref C)=true
def ux(C:ar)(sp:Sp)(t:TA):TE:=λσ H Q=>t σ H λvs H1=>∀x,H1 x=none->sp (.ref x::vs) (upd H1 x (XF x C none)) (λv H2=>v=.non/\Q (.ref x) H2) E0
def CI(K:Fg)(ta tv:TE)(f:Str):TS:=λD σ H=>tv σ H λy H1=>ta σ H1 λx H2=>∃a C,x=.ref a/\DD K C/\nM K C f/\
 ((H2 a=some (XF a C none)/\∀dx,H2 dx=none->dx≠a->D.nx σ (upd (upd H2 dx (XD dx [(f,y)])) a (XF a C (some dx))))\/
  ∃dx fs,H2 a=some (XF a C (some dx))/\dx≠a/\H2 dx=some (XD dx fs)/\fs.length<1000/\D.nx σ (upd H2 dx (XD dx (nX f y fs))))
def Oy(K:Fg)(ta:TE)(f:Str):TE:=λσ H Q=>ta σ H λx H1=>∃a C dx fs v,x=.ref a/\(H1 a=some (XF a C (some dx))\/H1 a=some (XL a C (some dx)))/\H1 dx=some (XD dx fs)/\DD K C/\nM K C f/\fs.lookup f=some v/\Q v H1
def uy(K:Fg)(E:XK)(te:TE):TS:=λ_ σ H=>te σ H λv H1=>∃x C od,v=.ref x/\DD K C/\H1 x=some (XF x C od)/\od≠some x/\∀T',H1 T'=none->T'≠x->E (.ref C) od (upd (upd H1 T' (TB T')) x (XL x C od))
def G1(X:Cx)(E:XK):Prop:=∀(pins:List (ar×Obj)) (σ:St) (H1:Hp) (s1:aq) (x C:ar) (od:Option ar),bZ X pins σ H1 s1->H1 x=some (XF x C od)->od≠some x->
 (∀T',H1 T'=none->T'≠x->E (.ref C) od (upd (upd H1 T' (TB T')) x (XL x C od)))->X.xe (.ref x) s1
section
variable{X:Cx}{k:Nat}{f C:ar}{fd:dR}{ps:List Str}{sp:Sp}{x:Str}{p pos apos:Pos}{e o value:Expr}{es:List Expr}{ta tv:TE}{t:TA}
def Ln{pins:List (ar×Obj)}{σ:St}{H:Hp}{s:aq}{Q:VK}{us:List ae}{vs:List V}(M:Vw X.K C f)(F:oF X.prog X.w X.K X.mg X.base Dl k f fd ps sp)(hr:gW (k+1) X.A)(hb:qf X.K fd ps [])(hz:ps.length<=1000)
  (I:bZ X pins σ H s) (r:c9 vs us) (h:∀x,H x=none->sp (.ref x::vs) (upd H x (XF x C none)) (λv H2=>v=.non/\Q (.ref x) H2) E0) :
  aM (model X.prog X.w) X.A (call (.ref C) us) (EP X pins σ Q) X.xe s:=by
 have hq:=h (s.heap.objs.size+1) (I.hok.fresh (mT _));obtain⟨nm,q,N,B,bs,sn,sub,ab,col,dd,k0,k1,k2,k3,k5,lk⟩:=M.cl.ex;have lf:∃oI,s.heap.get? f=some oI/\oI.cls=.type "function":=by
  have:=beq_iff_eq.mp M.fn;obtain⟨oI,e1,e2⟩:=b5.mp this;exact⟨oI,I.kIn _ _ e1,e2⟩
 obtain⟨oI,lf1,lf2⟩:=lf;have kp:∀b u,s.heap.get? b=some u->((s.heap.push {cls:=.type "tuple",data:=.seq us.toArray}).push (II C s.heap.objs.size)).get? b=some u:=λb u q=>ak _ (ak _ q);have gx:((s.heap.push {cls:=.type "tuple",data:=.seq us.toArray}).push (II C s.heap.objs.size)).get? (s.heap.objs.size+1)=some (II C s.heap.objs.size):=by heap_get
 have I2:bZ X pins σ (upd H (s.heap.objs.size+1) (XF (s.heap.objs.size+1) C none)) {s with heap:=(s.heap.push {cls:=.type "tuple",data:=.seq us.toArray}).push (II C s.heap.objs.size)}:=
  I.laid (t':=s.toks) kp (mT _) (XF.ok gx)
 have r2:c9 (V.ref (s.heap.objs.size+1)::vs) (ae.ref (s.heap.objs.size+1)::us):=.cons rfl r;have hl:(ae.ref (s.heap.objs.size+1)::us).length=ps.length:=by
  have e:=r2.length;rw[F.len _ _ _ _ hq] at e;exact e.symm
 have hl2:us.length<=av:=by
  have:us.length+1=ps.length:=hl;rw[iB];lia
 obtain⟨hh,g,d,tk,os⟩:=s;refine Rk (I.kIn _ _ lk) (λh' k'=>PySem.W.looks_findIn (λb o q=>k' b o (I.kIn b o q)) M.init) lf1 lf2 hl2 ?_;have hbi:=hb ⟨_,g,d,tk,os⟩ (ae.ref (hh.objs.size+1)::us) I2.kIn (by rw[dn];exact hl);rw[dn] at hbi;refine jq (gQ (F.run _ X.stack _ _ ⟨ae.ref (hh.objs.size+1)::us,[]⟩ (ae.ref (hh.objs.size+1)::us) _ _ E0 (hr.make C us []) (I2.env0.make C us []) hbi r2 hq) λr s' hq'=>?_);cases r with
 |error e=>exact False.elim hq'
 |ok fl=>
  cases fl with
  |ret u=>
   obtain⟨v,H',I3,rv,ev,q3⟩:=I2.after hq';subst ev;exact⟨rv,⟨V.ref (hh.objs.size+1),H',I3,rfl,q3⟩⟩
  |next=>exact False.elim hq'
  |brk=>exact False.elim hq'
  |cont=>exact False.elim hq'
def ND(M:Vw X.K C f)(F:oF X.prog X.w X.K X.mg X.base Dl k f fd ps sp)(hr:gW (k+1) X.A)(hg:Gl X x)(hm:X.mg x=some (.ref C))(hb:qf X.K fd ps [])(hz:ps.length<=1000)
  (ha:PA X (e::es) t) (hdb:(x==("__debug__":Str))=false:=by decide) (he:aT (e::es) X.env=(false,eval e X.env)::aT es X.env:=by rfl) (hpl:(eW pos (aT es X.env)).any (·.1)=false:=by rfl) :
  PE X (.Call (.Name x p) (e::es) [] pos) (ux C sp t):=by
 intro pins s σ H Q I h;refine eG (uY I hg hm ?_ hdb);refine PySem.W.callWith_K (h₀:=X.base) I.ok.mod.kin M.kp (gs (ha pos pins s σ H _ I h) λus s1 ⟨vs,H1,I1,r,q⟩=>⟨I1.kIn,?_⟩) he hpl;exact Ln M F hr hb hz I1 r q
def QC{fl:Str}{pos':Pos}(ha:PE X o ta)(hv:PE X value tv)(hs:iT value (some (.Attribute o fl pos')) pos.line X.env=pure false):PS X (.Assign [.Attribute o fl pos'] value pos) (CI X.K ta tv fl):=by
 intro pins s σ H D I h;refine plainObj_wpAny_Assign_Attribute (gs (hv pins s σ H _ I h) λu s1 ⟨y,H1,I1,ry,q⟩=>gs (ha pins s1 σ H1 _ I1 q) λov s2 ⟨x,H2,I2,rx,a,C,ex,c,n,q2⟩=>?_) hs;subst ex;obtain rfl:ov=ae.ref a:=rx;rcases q2 with⟨ea,q2⟩|⟨dx,fs,ea,ne,ed,l,q2⟩
 ·exact IL I2 ea c n ry λs3 dx hd hn I3=>⟨σ,_,I3,q2 dx hd hn⟩
 ·exact LN I2 ea ne ed c n l ry λs3 I3=>⟨σ,_,I3,q2⟩
def Ql{fl:Str}(he:PE X e ta)(hb:eM e fl X.env (eval e X.env)=eval e X.env):PE X (.Attribute e fl pos) (Oy X.K ta fl):=by
 intro pins s σ H Q I h;refine Pl hb (gs (he pins s σ H _ I h) λu s1 ⟨x,H1,I1,rx,a,C,dx,fs,v,ex,ea,ed,c,n,l,q⟩=>?_);subst ex;obtain rfl:u=ae.ref a:=rx;exact VR I1 ea ed c n l λu' s2 I2 ru=>⟨v,H1,I2,ru,q⟩
def NN{E:XK}{te:TE}(hl:G1 X E)(hh:X.A.handled=none)(he:PE X e te):PS X (.Raise (some e) none pos) (uy X.K E te):=by
 intro pins s σ H D I h;rw[arm_exec_Raise];refine aa (hZ ?_);refine OR hh (aa (gs (he pins s σ H _ I h) λu s1 ⟨v,H1,I1,rv,x,C,od,ev,c,hx,ndx,q⟩=>aa (hZ (az ?_))));subst ev;obtain rfl:u=ae.ref x:=rv;obtain⟨nm,q',N,B,bs,sn,sub,ab,col,dd,k0,k1,k2,k3,k5,lk⟩:=c.ex;obtain⟨w0,hg⟩:=XF.get I1.hok hx;exact⟨x,od,w0,_,C,nm,q',N,B,bs,true,sn,sub,ab,col,dd,k0,k1,k2,k3,k5,rfl,I1.kIn _ _ lk,hg,hl pins σ H1 s1 x C od I1 hx ndx q⟩
end
abbrev Cx.tryIn(X:Cx)(pl:List (ar×Obj))(E:Zi):Cx:={X with pn:=X.pn++pl,xe:=E}
abbrev Cx.inSuite(X:Cx)(x:ar):Cx:={X with A:=X.A.mark (some (.ref x)),calm:=false,xe:=λ_ _=>False}
section
variable{X:Cx}{pins pins':List (ar×Obj)}{σ:St}{H:Hp}{s:aq}{E:Zi}{x:ar}
def Cx.Ok.tryIn(ok:X.Ok)(pl:List (ar×Obj))(E:Zi):(X.tryIn pl E).Ok:=
 ⟨ok.mod,ok.kind,ok.glob,ok.blt,ok.above,ok.inj,ok.has,ok.cab,ok.hd,ok.frames,ok.stk,ok.exf,ok.bs,ok.bsz,ok.noex,ok.exfs,ok.funs,ok.frf⟩
def Cx.Ok.unTry{pl:List (ar×Obj)}(ok:(X.tryIn pl E).Ok):X.Ok:=
 ⟨ok.mod,ok.kind,ok.glob,ok.blt,ok.above,ok.inj,ok.has,ok.cab,ok.hd,ok.frames,ok.stk,ok.exf,ok.bs,ok.bsz,ok.noex,ok.exfs,ok.funs,ok.frf⟩
def bZ.tryIn(I:bZ X pins σ H s)(E:Zi):bZ (X.tryIn pins E) [] σ H s:=
 ⟨I.ok.tryIn pins E,I.os,I.bare,I.base,I.loc,I.cell,I.free,I.freeC,λp hp=>I.pin p (by rw[dn] at hp;exact hp),I.hok,I.len⟩
def bZ.unTry(I:bZ (X.tryIn pins E) pins' σ H s):bZ X pins σ H s:=
 ⟨I.ok.unTry,I.os,I.bare,I.base,I.loc,I.cell,I.free,I.freeC,λp hp=>I.pin p (bX _ hp),I.hok,I.len⟩
def SP.unTry{D:oE}{f:Flow}{s':aq}(h:SP (X.tryIn pins E) pins' D f s'):SP X pins D f s':=by
 cases f with
 |next=>obtain⟨σ',H',I,q⟩:=h;exact⟨σ',H',I.unTry,q⟩
 |brk=>obtain⟨σ',H',I,q⟩:=h;exact⟨σ',H',I.unTry,q⟩
 |cont=>obtain⟨σ',H',I,q⟩:=h;exact⟨σ',H',I.unTry,q⟩
 |ret u=>obtain⟨v,σ',H',I,r,q⟩:=h;exact⟨v,σ',H',I.unTry,r,q⟩
def bZ.inSuite(I:bZ X pins σ H s)(x:ar):bZ (X.inSuite x) pins σ H s:=
 ⟨⟨I.ok.mod,I.ok.kind,I.ok.glob,I.ok.blt,I.ok.above,I.ok.inj,I.ok.has,I.ok.cab,(λz=>by cases z),I.ok.frames,I.ok.stk,I.ok.exf,I.ok.bs,I.ok.bsz,I.ok.noex,I.ok.exfs,I.ok.funs,I.ok.frf⟩,
  I.os,I.bare,I.base,I.loc,I.cell,I.free,I.freeC,I.pin,I.hok,I.len⟩
def bZ.unSuite(I:bZ (X.inSuite x) pins σ H s)(hd:X.calm=true->X.A.handled=none):bZ X pins σ H s:=
 ⟨⟨I.ok.mod,I.ok.kind,I.ok.glob,I.ok.blt,I.ok.above,I.ok.inj,I.ok.has,I.ok.cab,hd,I.ok.frames,I.ok.stk,I.ok.exf,I.ok.bs,I.ok.bsz,I.ok.noex,I.ok.exfs,I.ok.funs,I.ok.frf⟩,
  I.os,I.bare,I.base,I.loc,I.cell,I.free,I.freeC,I.pin,I.hok,I.len⟩
def Df{M:Model}{A:bu}{E:Zi}{i:Nat}{n:Str}{pos:Pos}{Q:Unit->aq->Prop}(I:bZ X pins σ H s)(hN:X.N.Nodup)(hi:X.N[i]?=some n)(hk:X.env.kindOf n=some .local)
  (h:∀s',bZ X pins (σ.set i none) H s'->Q () s'):aM M A (do bindName X.env n .none;unbindBehindTheSuite X.env n pos) Q E s:=by
 have hcls:(X.env.scope.kind==.class || (X.env.scope.kind==.module&&X.env.locals != X.env.globals))=false:=by rw[I.ok.kind];rfl
 refine aa (wpAny_bindName (vm (v:=.non) I hN hi (.inl hk) rfl (λs1 I1=>?_) (.inr hk)));obtain⟨m,hn,hl⟩:=id I1.loc;have hiσ:i<σ.length:=by rw[I.len];exact(aj.mp hi).1
 have hmn:m n=some .none:=by
  obtain⟨u,ru,q⟩:=hl i n .non hi (by rw[bJ hiσ]) (.inl hk);obtain rfl:u=ae.none:=ru;rcases q with⟨_,q⟩|⟨k,_⟩
  ·exact q
  ·rw[hk] at k;rcases k with k|k<;>cases k
 unfold unbindBehindTheSuite;refine nB ?_;unfold unbindName;refine aa (wpAny_point (aa ?_));unfold deleteName;simp only[hk,hcls];rw[if_neg (by decide)];refine aa (wpAny_nsDel_keeps hn λh2 v hn2 hs=>?_);rw[hmn];simp only[if_true,Option.isSome_some,Bool.not_true,Bool.false_eq_true,if_false];refine az (wpAny_point (h _ ?_));obtain⟨oL,_,_,hoL,_⟩:=id hn;have hok:qI X.prog X.w H h2:=λb ob e=>by
  refine(I1.hok b ob e).stay (λc w' hc q=>(hs.2 c ?_).trans q) (λ_ q=>q) λ_ _ q=>q;rintro rfl;rcases hc with rfl|hc
  ·rw[I1.free] at e;cases e
  ·rw[I1.free] at hc;cases hc
 have neL:∀b o,X.s₀.heap.get? b=some o->b≠X.env.locals:=λb o e=>a9 (bo (aI e) I1.ok.above);refine⟨I1.ok,I1.os,I1.bare,⟨λb o e nn hb hx=>?_,λb o e nn hb hx=>?_,I1.base.free,λb o e hx=>?_,I1.base.tups,I1.base.frzs,I1.base.tbls⟩,⟨_,hn2,λj y v' e1 e2 e3=>?_⟩,λy c e=>?_,I1.free,I1.freeC,λp hp=>?_,hok,by simpa using I.len⟩
 ·exact(hs.2 b (neL b o e)).trans (I1.base.keep b o e nn hb hx)
 ·obtain⟨sl,e1⟩:=I1.base.slot b o e nn hb hx;exact⟨sl,(hs.2 b (neL b o e)).trans e1⟩
 ·obtain⟨o',e1⟩:=I1.base.there b o e hx;exact⟨o',(hs.2 b (neL b o e)).trans e1⟩
 ·have hj:j≠i:=λz=>by
   subst z;rw[bJ hiσ] at e2;cases e2
  rw[b6 (Ne.symm hj)] at e2;obtain⟨u',r',q⟩:=hl j y v' e1 (by rw[b6 (Ne.symm hj)];exact e2) e3;refine⟨u',r',?_⟩;rcases q with⟨k,e⟩|⟨k,c,e,z⟩
  ·refine .inl ⟨k,?_⟩;have:y≠n:=λe=>hj (zP hN e1 (e ▸ hi));simp[this,e]
  ·exact .inr ⟨k,c,e,z.sameBut hs (I1.cne y c e)⟩
 ·obtain⟨w',z⟩:=I1.cell y c e;exact⟨w',z.sameBut hs (I1.cne y c e)⟩
 ·obtain⟨e,nn,ne,nf,d⟩:=I1.pin p hp;exact⟨(hs.2 p.1 ne).trans e,nn,ne,nf,d⟩
end
structure UB(K:Fg)(C0:ar):Prop where
 ex:∃(nm q:Str) (N:ar) (bs bm:List ae) (hdct:Bool) (sn:List Str) (sub:List ae) (ab:Bool) (col:Option Bool) (dd:Option ar) (k0 k1 k2 k3 k5:Option ae) (nid:String),K.lookup C0=some (mR nm q C0 N bs bm hdct sn sub ab col dd k0 k1 k2 k3 k5 nid)
 exc:fP K C0 (.type "BaseException")=some true
structure Pj(K:Fg)(C C0:ar):Prop where
 cl:DD K C
 er:UB K C0
 sub:fP K C (.ref C0)=some true
def Ck(n:Nat):St:=bB n none
def Ud(K:Fg)(C0:ar)(n i:Nat)(tb:XK->TS)(th:TS):TS:=λD σ H=>
 tb (oR λx cls od H2=>∃C,cls=.ref C/\Pj K C C0/\th {nx:=λσ2 H3=>D.nx (σ2.set i none) H3,rt:=D.rt} ((Ck n).set i (some (.ref x))) H2) D σ H
section
variable{X:Cx}
def Jy{K:Fg}{C:ar}{o:Obj}{cd:ClassData}{v:ae}{b:Bool}(lk:K.lookup C=some o)(ho:o.data=.cls cd)(e:fP K C v=some b):cd.mro.contains v=b:=by
 unfold fP sJ at e;rw[lk] at e;obtain⟨oc,od,dt,sl⟩:=o;cases ho;rw[iV] at e;split at e
 ·cases e
 ·exact Option.some.inj e
def Rl{C C0 N N0 x:ar}{nm q nm0 q0:Str}{bs bm bs0 bm0:List ae}{hdct hdct0:Bool}{sn sn0:List Str}{sub sub0:List ae}{ab ab0:Bool}{col col0:Option Bool}{dd dd0:Option ar}{k0 k1 k2 k3 k5 j0 j1 j2 j3 j5:Option ae}{nid nid0:String}{M:Model}{A:bu}{E:Zi}{h:Heap}{g:Array qK}{d:Drawn}{t:Nat}{os:OsState}{o:Obj}{Q:Bool->aq->Prop}
  (hC:h.get? C=some (mR nm q C N bs bm hdct sn sub ab col dd k0 k1 k2 k3 k5 nid)) (hC0:h.get? C0=some (mR nm0 q0 C0 N0 bs0 bm0 hdct0 sn0 sub0 ab0 col0 dd0 j0 j1 j2 j3 j5 nid0))
  (c1:(ae.ref C0::bm0).contains (.type "BaseException")=true) (c2:(ae.ref C::bm).contains (.ref C0)=true) (hx:h.get? x=some o) (hc:o.cls=.ref C) (hq:Q true ⟨h,g,d,t,os⟩):aM M A (excMatches (.ref x) (.ref C0)) Q E ⟨h,g,d,t,os⟩:=by
 have f:=tc_notTuple;unfold excMatches
 repeat (first|(with_reducible refine d8 hx ?_;rw[hc])|with_reducible refine d8 hC0 ?_|(with_reducible refine fA hC0 ?_;rw[c1])|(with_reducible refine fA hC ?_;rw[c2])|wp_step)
 exact hq
def Ui{K:Fg}{C C0 x:ar}{M:Model}{A:bu}{E:Zi}{s:aq}{o:Obj}{Q:Bool->aq->Prop}(KX:K.In s.heap)(m:Pj K C C0)(hx:s.heap.get? x=some o)(hc:o.cls=.ref C)(q:Q true s):aM M A (excMatches (.ref x) (.ref C0)) Q E s:=by
 obtain⟨nm,q',N,B,bs,sn,sub,ab,col,dd,k0,k1,k2,k3,k5,lk⟩:=m.cl.ex;obtain⟨nm0,q0,N0,bs0,bm0,hd0,sn0,sub0,ab0,col0,dd0,j0,j1,j2,j3,j5,nid0,lk0⟩:=m.er.ex;have c1:=Jy lk0 rfl m.er.exc;have c2:=Jy lk rfl m.sub;obtain⟨h,g,d,t,os⟩:=s;exact Rl (KX _ _ lk) (KX _ _ lk0) c1 c2 hx hc q
def Tu{body suite:List Stmt}{b0:Stmt}{cn n:Str}{np hpos pos:Pos}{C0:ar}{i:Nat}{tb:XK->TS}{th:TS}(hc:X.calm=true)(hst:X.stack=X.env::X.outer)(hfm:X.env.frame=some X.env.locals)(hg:Gl X cn)(hm:X.mg cn=some (.ref C0))
  (hN:X.N.Nodup) (hi:X.N[i]?=some n) (hk:X.env.kindOf n=some .local) (hb:∀pl E' Ein,nO (GT X.prog X.w) (X.tryIn pl E') Ein->Cb (X.tryIn pl E') body (tb Ein)) (hs:∀x,Cb (X.inSuite x) (b0::suite) th)
  (hdb:(cn==("__debug__":Str))=false:=by decide):PS X (.Try body [.ExceptHandler (some (.Name cn np)) (some n) (b0::suite) hpos] [] [] pos) (Ud X.K C0 X.N.length i tb th):=by
 intro pins s σ H D I h;refine wpAny_Try_except ?_;have hd:X.A.handled=none:=I.ok.hd hc;have ps:nO (GT X.prog X.w) (X.tryIn pins (λe s1=>aM (model X.prog X.w) X.A (kg e X.env) (λ_ s2=>aM (model X.prog X.w) X.A (setFlight e none) (λ_ s3=>aM (model X.prog X.w) X.A (handleBy e X.env [.ExceptHandler (some (.Name cn np)) (some n) (b0::suite) hpos]) (SP X pins D) X.xe s3) X.xe s2) X.xe s1))
   (oR λx cls od H2=>∃C,cls=.ref C/\Pj X.K C C0/\th {nx:=λσ2 H3=>D.nx (σ2.set i none) H3,rt:=D.rt} ((Ck X.N.length).set i (some (.ref x))) H2):=by
  rintro pl σ1 H1 s1 e s' I1 ⟨x,C,od,T,H',rfl,os,bare,un,hok,hx,hT,hfl,ne,ndx,q⟩;have I2:=(I1.call' (ch:=[]) os un hok bare λb z=>absurd z (by simp)).unTry;refine FP I2 hst hfm hx hT hfl ne λs2 T' nT nx I3 fl3=>?_;obtain⟨C',ec,m,q2⟩:=q x C T' rfl hx ndx nT nx;cases ec;obtain⟨vs,sl,hg3,h13⟩:=fl3;refine wpAny_handleBy_cons (codeAny_handlers_test (uY (X:=X.inSuite x) (I3.inSuite x) hg hm ?_ hdb)) (by intro z;cases z);refine Ui I3.kIn m hg3 rfl (codeAny_handlers_suite_as ?_);have I4:bZ X pins (Ck X.N.length) (upd H' T' (TB T')) s2:=I3.weak (by unfold Ck;rw[cB,I3.len]) λj v e=>by
   unfold Ck at e;rw[jx] at e;split at e<;>cases e
  obtain⟨oT,ts,t1,t2,t3⟩:=TB.get I3.hok ag;refine DW (s:=s2) hg3 rfl h13 t1 t2 (bO.mp t3).1 λh5 k5 z5 t5=>?_;have I5:bZ X pins (Ck X.N.length) (upd H' T' (TB T')) {s2 with heap:=h5}:=by
   have hTT:(upd H' T' (TB T')) T'=some (TB T'):=ag;obtain⟨un5,ok5⟩:=JY (P:=X.prog) (w:=X.w) (fs:=[]) (H':=upd H' T' (TB T')) (h':=h5) [T'] I4.hok (D8 hTT) (λb z=>absurd z (by simp))
    (λb u nb _ q=>(k5 b λz=>nb (ax.mpr z)).trans q) (λb u _ z=>absurd z (by simp)) (let⟨_,_,e,_⟩:=t5;D9 e) (λb _ _=>rfl) (λb hb o e=>by
     rcases hb with hb|hb
     ·rw[I4.hok.fresh hb] at e;cases e
     ·rw[ax.mp hb] at e ⊢;rw[hTT] at e;cases e;obtain⟨o,us,e1,e2,e3⟩:=t5;exact TB.ok e1 e2 e3)
   exact I4.un (t':=s2.toks) (un5.mono (λb z=>absurd z (by simp)) λb z=>z) ok5
  refine vm (X:=X) (v:=.ref x) I5 hN hi (.inl hk) rfl (λs6 I6=>?_) (.inr hk);refine c7 (hs x pins s6 _ _ _ (I6.inSuite x) q2) (λf s7 h7=>?_) λ_ _ z=>False.elim z;have hd':X.calm=true->X.A.handled=none:=λ_=>hd;cases f with
  |next=>
   obtain⟨σ',H7,I7,q7⟩:=h7;exact Df (X:=X) (I7.unSuite hd') hN hi hk λs8 I8=>⟨_,_,I8,q7⟩
  |ret u=>
   obtain⟨v,σ',H7,I7,r7,q7⟩:=h7;exact Df (X:=X) (I7.unSuite hd') hN hi hk λs8 I8=>⟨v,_,_,I8,r7,q7⟩
  |brk=>obtain⟨_,_,_,q7⟩:=h7;exact False.elim q7
  |cont=>obtain⟨_,_,_,q7⟩:=h7;exact False.elim q7
 refine c7 (hb pins _ _ ps [] s σ H D (I.tryIn _) h) (λf s1 h1=>?_) λ_ _ z=>z;have h2:=SP.unTry h1;cases f with
 |next=>exact az h2
 |_=>exact h2
end
section
variable{prog:aZ}{w:bK}{A:bu}{E:Zi}{s:aq}{K:Fg}{x C D:ar}{ox od:Obj}
end
section
variable{prog:aZ}{w:bK}{A:bu}{R:Result->aq->Prop}{s:aq}
def DN{elt target iter:Expr}{ifs:List Expr}{scope:Scope}{pos:Pos}{it acc:ae}{env:Env}(I:Nat->aq->Prop)
  (turn:∀n s,I n s->aM (model prog w) A (kh it) (λr s₁=>match r with
   |none=>R (.ok .next) s₁
   |some v=>aM (model prog w) A (kX target it v) (λ_ s₁=>aM (model prog w) A (assign target env v) (λ_ s₂=>
     aM (model prog w) A (forIn ifs true λc r=>if r=true then do let ok <-isTrue c env (eval c env);pure (ForInStep.yield ok) else pure (ForInStep.yield r)) (λok s₃=>
      if ok=true then aM (model prog w) A (eval elt env) (λx s₄=>
       aM (model prog w) A (call (.builtin "list.append") [acc,x]) (λ_ s₅=>∃m,m<n/\I m s₅) (λ_ _=>False) s₄) (λ_ _=>False) s₃
      else ∃m,m<n/\I m s₃) (λ_ _=>False) s₂) (λ_ _=>False) s₁) (λ_ _=>False) s₁) (λ_ _=>False) s)
  (n:Nat) (h:I n s) :
  gE (model prog w) A (.compLoop (.ListComp elt [⟨target,iter,ifs,0⟩] scope pos) 0 it acc env) R s:=by
 refine codeAny_loop rfl I (λn s hI=>?_) n h;show aM _ A ((compTurn (.ListComp elt [⟨target,iter,ifs,0⟩] scope pos) 0 it acc env).onRaise (λx=>do kg x env;theTreesLotGoes x)) _ _ s;refine wpAny_noted ?_;rw[compTurn_list];refine aa (hZ (aa (c7 (turn n s hI) (λr s₁ h₁=>?_) λ_ _ h'=>h'.elim)));cases r with
 |none=>exact az h₁
 |some v=>
  refine aa (c7 h₁ (λ_ s₁' h₁'=>?_) λ_ _ h'=>h'.elim);refine aa (c7 h₁' (λ_ s₂ h₂=>aa (c7 h₂ (λok s₃ h₃=>?_) λ_ _ h'=>h'.elim)) λ_ _ h'=>h'.elim);cases ok with
  |false=>exact az ⟨rfl,h₃⟩
  |true=>
   exact aa (aa (c7 h₃ (λx s₄ h₄=>aa (c7 h₄ (λ_ s₅ h₅=>az (az ⟨rfl,h₅⟩)) λ_ _ h'=>h'.elim)) λ_ _ h'=>h'.elim))
end
def tZ{env:Env}{f:Str×ck->List (Str×ar)->Sem (ForInStep (List (Str×ar)))}
  (hf:∀n k cs,f (n,k) cs=if(k==ck.free)=true then(do let c <-cellOf env n;pure (.yield ((n,c)::cs))) else pure (.yield cs)) :
  ∀(names:List (Str×ck)) (cs:List (Str×ar)),(∀x∈names,x.2=ck.free->∃c,env.cells.lookup x.1=some c)->(∀n c,cs.lookup n=some c->env.cells.lookup n=some c)->
   ∃cl,(forIn names cs f:Sem (List (Str×ar)))=pure cl/\(∀n c,cl.lookup n=some c->env.cells.lookup n=some c)/\(∀n,(cs.lookup n).isSome=true->(cl.lookup n).isSome=true)/\∀x∈names,x.2=ck.free->(cl.lookup x.1).isSome=true
 |[],cs,_,h2=>⟨cs,rfl,h2,λ_ h=>h,λ_ h=>nomatch h⟩
 |(n,k)::r,cs,h1,h2=>by
  have h1r:∀x∈r,x.2=ck.free->∃c,env.cells.lookup x.1=some c:=λx hx=>h1 x (bx _ hx);rw[jg,hf];by_cases hk:k=ck.free
  ·subst hk;obtain⟨c,hc⟩:=h1 (n,ck.free) bT rfl;have h2':∀m d,((n,c)::cs).lookup m=some d->env.cells.lookup m=some d:=λm d hd=>by
    rw[fR] at hd;cases e:(m==n) with
    |true=>
     rw[e] at hd;have:m=n:=by simpa using e
     rw[this];cases hd;exact hc
    |false=>rw[e] at hd;exact h2 m d hd
   obtain⟨cl,e1,e2,e3,e4⟩:=tZ hf r ((n,c)::cs) h1r h2';refine⟨cl,?_,e2,λm hm=>e3 m ?_,λx hx hk=>?_⟩
   ·rw[<-e1];have ec:cellOf env n=pure c:=by unfold cellOf;rw[hc]
    rw[ec];rfl
   ·rw[fR];cases e:(m==n) with
    |true=>rfl
    |false=>exact hm
   ·rcases aE.mp hx with rfl|hx
    ·exact e3 n (by rw[fR,beq_self_eq_true];rfl)
    ·exact e4 x hx hk
  ·have hb:(k==ck.free)=false:=by simpa using hk
   obtain⟨cl,e1,e2,e3,e4⟩:=tZ hf r cs h1r h2;refine⟨cl,?_,e2,e3,λx hx hk'=>?_⟩
   ·rw[<-e1,hb];rfl
   ·rcases aE.mp hx with rfl|hx
    ·exact absurd hk' hk
    ·exact e4 x hx hk'
def zm{scope:Scope}{env:Env}(h1:∀x∈scope.names,x.2=ck.free->∃c,env.cells.lookup x.1=some c) :
  ∃cl,closureFor scope env=pure cl/\(∀n c,cl.lookup n=some c->env.cells.lookup n=some c)/\∀x∈scope.names,x.2=ck.free->(cl.lookup x.1).isSome=true:=by
 obtain⟨cl,e1,e2,_,e4⟩:=tZ (env:=env) (f:=λ(x:Str×ck) cs=>if(x.2==ck.free)=true then(do let c <-cellOf env x.1;pure (.yield ((x.1,c)::cs))) else pure (.yield cs)) (λ_ _ _=>rfl) scope.names [] h1 (λ_ _ h=>nomatch h);refine⟨cl,Eq.trans (show closureFor scope env=((forIn scope.names ([]:List (Str×ar)) λ(x:Str×ck) cs=>if(x.2==ck.free)=true then(do let c <-cellOf env x.1;pure (.yield ((x.1,c)::cs))) else pure (.yield cs)) >>= λcs=>pure cs) from rfl) ?_,e2,e4⟩;rw[e1]
 all_goals rfl
def jT{env:Env}{x:Str}:∀(names:List (Str×ck)),
  (names.map λ(n,k)=>if(k==ck.free&&env.scope.kind==.function&&env.kindOf n==some .cell) then(n,ck.cell) else(n,k)).lookup x =
   (names.lookup x).map λk=>if(k==ck.free&&env.scope.kind==.function&&env.kindOf x==some .cell) then ck.cell else k
 |[]=>rfl
 |(n,k)::r=>by
  have ih:=jT (env:=env) (x:=x) r;show iH x ((if(k==ck.free&&env.scope.kind==.function&&env.kindOf n==some .cell)=true then(n,ck.cell) else(n,k))::_)=_;cases hx:x==n with
  |true=>
   have e:x=n:=by simpa using hx
   subst e;by_cases hc:(k==ck.free&&env.scope.kind==.function&&env.kindOf x==some .cell)=true
   ·rw[if_pos hc];simp only[fR,hx,cq,if_pos hc]
   ·rw[if_neg hc];simp only[fR,hx,cq,if_neg hc]
  |false=>
   by_cases hc:(k==ck.free&&env.scope.kind==.function&&env.kindOf n==some .cell)=true
   ·rw[if_pos hc];simp only[fR,hx];exact ih
   ·rw[if_neg hc];simp only[fR,hx];exact ih
def Oh{scope:Scope}{env:Env}{x:Str}(hcell:∀y∈scope.names,y.2≠ck.cell)(h:(relabel scope env).names.lookup x=some .cell\/(relabel scope env).names.lookup x=some .free):scope.names.lookup x=some .free:=by
 have e:(relabel scope env).names.lookup x=_:=jT (env:=env) (x:=x) scope.names;rw[e] at h;cases q:scope.names.lookup x with
 |none=>rw[q] at h;rcases h with h|h<;>cases h
 |some k=>
  rw[q] at h;by_cases hk:k=ck.free
  ·rw[hk]
  ·have hb:(k==ck.free)=false:=by simpa using hk
   simp only[cq,hb,Bool.false_and,Bool.false_eq_true,if_false] at h;rcases h with h|h
   ·cases h;exact absurd rfl (hcell _ (dI q))
   ·exact h
def Q7{scope:Scope}{env:Env}{x:Str}(h:(relabel scope env).names.lookup x≠none):scope.names.lookup x≠none:=by
 have e:(relabel scope env).names.lookup x=_:=jT (env:=env) (x:=x) scope.names;intro q;rw[e,q] at h;exact h rfl
structure tV(sc:Scope)(N:List Str)(scope:Scope)(NY:List Str)(js:List Nat):Prop where
 kind:scope.kind=.function
 cell:∀y∈scope.names,y.2≠ck.cell
 names:∀x∈scope.names,x.2=ck.local->scope.names.lookup x.1=some .local
 free:∀x∈scope.names,x.2=ck.free->sc.names.lookup x.1=some .cell\/sc.names.lookup x.1=some .free
 pre:NY.take N.length=N
 cap:∀p∈N.zipIdx,js.contains p.2=true\/scope.names.lookup p.1=none\/scope.names.lookup p.1=some .free
def EE(js:List Nat)(k:Nat)(σ:St):St:=js.foldl (λs j=>s.set j none) σ++bB k none
def r8:∀(js:List Nat) (σ:St),(js.foldl (λs j=>s.set j none) σ).length=σ.length
 |[],_=>rfl
 |j::r,σ=>by rw[jf,r8 r,gj]
def Co:∀(js:List Nat) (σ:St) (i:Nat) (v:V),(js.foldl (λs j=>s.set j none) σ)[i]?=some (some v)->σ[i]?=some (some v)/\js.contains i=false
 |[],σ,i,v,h=>⟨h,rfl⟩
 |j::r,σ,i,v,h=>by
  rw[jf] at h;obtain⟨h1,h2⟩:=Co r _ i v h;by_cases e:j=i
  ·subst e;by_cases hj:j<σ.length
   ·rw[bJ hj] at h1;cases h1
   ·rw[cS (by rw[gj];lia)] at h1;cases h1
  ·rw[b6 e] at h1;refine⟨h1,?_⟩;rw[gR,h2];have:(i==j)=false:=by simpa using λz=>e z.symm
   rw[this];rfl
def Pw{js:List Nat}{k:Nat}{σ:St}{i:Nat}{v:V}(h:(EE js k σ)[i]?=some (some v)):σ[i]?=some (some v)/\js.contains i=false:=by
 unfold EE at h;by_cases hi:i<σ.length
 ·rw[cF (by rw[r8];exact hi)] at h;exact Co js σ i v h
 ·rw[bV (by rw[r8];lia),jx] at h;split at h<;>cases h
def Px{js:List Nat}{k:Nat}{σ:St}:(EE js k σ).length=σ.length+k:=by
 unfold EE;rw[aN,r8,cB]
def eJ(X:Cx)(NY:List Str)(scope:Scope)(cl:List (Str×ar))(C:ar)(s₀:aq)(H₀:Hp)(fp:List ar):Cx:=
 {X with N:=NY,s₀:=s₀,H₀:=H₀,env:=compEnvC scope cl C X.env,outer:=X.stack,ex:=fp,fn:=λ_=>false,pn:=[],xe:=λ_ _=>False}
def J5(X:Cx)(ifs:List Expr)(t:TT):Prop:=
 ∀(pins:List (ar×Obj)) (s:aq) (σ:St) (H:Hp) (Q:Bool->Hp->Prop),bZ X pins σ H s->t σ H Q->
  aM (model X.prog X.w) X.A (forIn ifs true λc r=>if r=true then do let ok <-isTrue c X.env (eval c X.env);pure (ForInStep.yield ok) else pure (ForInStep.yield r)) (TP X pins σ Q) X.xe s
def oj:TT:=λ_ H Q=>Q true H
def Qt{X:Cx}:J5 X [] oj:=λ_ _ _ H _ I h=>wpAny_tests_nil ⟨H,I,h⟩
def Qu{X:Cx}{c:Expr}{t:TT}(h:PT X c t):J5 X [c] t:=λpins s σ H Q I q=>wpAny_tests_one (h pins s σ H Q I q)
def uq(D:ar)(tc:TT)(te:TE):TS:=λE σ H=>tc σ H λb H1=>if b=true then te σ H1 λy H2=>∃ys,H2 D=some (.lst ys)/\ys.length<av/\E.nx σ (upd H2 D (.lst (ys++[y]))) else E.nx σ H1
def hW(js:List Nat)(k:Nat)(wi:TI)(g:TG)(tc:TT)(te:TE):TE:=λσ H Q=>wi σ H λJ H1=>∀D,H1 D=none->
 ∃W:Nat->Nat->St->Hp->Prop,(∃m,W 0 m (EE js k σ) (upd H1 D (.lst [])))/\∀i m σ H,W i m σ H->
  (J.stop i H/\Q (.ref D) H)\/(J.go i H/\∃N:St->Hp->Prop,(∀σ' H',N σ' H'->∃m',m'<m/\W (i+1) m' σ' H')/\∀x H',J.yld i H x H'->g x σ H' λσ2 H2=>uq D tc te {nx:=N,rt:=λ_ _=>False,ct:=N,bk:=λ_ H'=>Q (.ref D) H'} σ2 H2)
section
variable{X:Cx}{pins:List (ar×Obj)}{σ:St}{H2:Hp}{s₂:aq}{N NY:List Str}{sc scope:Scope}{cl:List (Str×ar)}{C:ar}{fp:List ar}{js:List Nat}{k:Nat}
def Pm(I2:bZ X pins σ H2 s₂)(hf:∀b∈fp,sC X pins H2 b)(hfl:∀b∈fp,∃o,s₂.heap.get? b=some o)(hkind:scope.kind=.function)(hcell:∀y∈scope.names,y.2≠ck.cell)
  (hcl1:∀n c,cl.lookup n=some c->X.env.cells.lookup n=some c) (hcl2:∀x∈scope.names,x.2=ck.free->(cl.lookup x.1).isSome=true) (hC:s₂.heap.objs.size<=C) :
  (eJ X NY scope cl C s₂ H2 fp).Ok where
 mod:=I2.ok.mod
 kind:=hkind
 glob:=I2.ok.glob
 blt:=I2.ok.blt
 above:=hC
 inj:=λx y c h1 h2=>I2.ok.inj x y c (hcl1 x c h1) (hcl1 y c h2)
 has:=λx hx=>by
  have e:scope.names.lookup x=some .free:=Oh (env:=X.env) hcell hx;exact gy.mp (hcl2 (x,.free) (dI e) rfl)
 cab:=λ_ _ h _=>nomatch h
 hd:=I2.ok.hd
 frames:=I2.ok.frames
 stk:=.inl rfl
 exf:=λb hb=>by
  obtain⟨o,ho⟩:=hfl b hb;exact⟨a9 (bo (aI ho) hC),λx c h=>(hf b hb).2.2.2.2.1 x c (hcl1 x c h)⟩
 bs:=I2.bs
 bsz:=cT I2.ok.bsz I2.sz
 noex:=λb o e hb=>by
  rcases(hf b hb).2.2.2.1 with z|z
  ·exact I2.ok.noex b o e z
  ·exact absurd (bo (aI e) (cT I2.ok.bsz z)) (cW _)
 exfs:=λb hb z=>by
  rcases aE.mp (I2.stkSub b z) with e|e
  ·exact(hf b hb).2.1 e
  ·exact(hf b hb).2.2.1 e
 funs:=I2.stack
 frf:=I2.stkFree
variable{elt iter target:Expr}{ifs:List Expr}{pos:Pos}{it:ar}{tn:Nat->Heap->Prop}{J:It}{g:TG}{tc:TT}{te:TE}{Q:VK}{RR:ae->ar->Result->aq->Prop}{E:Zi}
def zo(ok:tV sc N scope NY js)(hsc:X.env.scope=sc)(hN:X.N=N)(hk:NY.length=N.length+k)(hc:X.calm=true)(I2:bZ X pins σ H2 s₂)(T:Bd X.prog X.w X.K target J fp it tn)(st2:tn 0 s₂.heap)(f2:∀b∈fp,sC X pins H2 b)
  (hcl1:∀n c,cl.lookup n=some c->X.env.cells.lookup n=some c) (hcl2:∀x∈scope.names,x.2=ck.free->(cl.lookup x.1).isSome=true)
  (hg:∀cl C s₀ H₀ fp,PG (eJ X NY scope cl C s₀ H₀ fp) target g) (hi:∀cl C s₀ H₀ fp,J5 (eJ X NY scope cl C s₀ H₀ fp) ifs tc) (he:∀cl C s₀ H₀ fp,PE (eJ X NY scope cl C s₀ H₀ fp) elt te)
  (loop:∀D,H2 D=none->
   ∃W:Nat->Nat->St->Hp->Prop,(∃m,W 0 m (EE js k σ) (upd H2 D (.lst [])))/\∀i m σ H,W i m σ H->
    (J.stop i H/\Q (.ref D) H)\/(J.go i H/\∃N:St->Hp->Prop,(∀σ' H',N σ' H'->∃m',m'<m/\W (i+1) m' σ' H')/\∀x H',J.yld i H x H'->g x σ H' λσ2 H2=>uq D tc te {nx:=N,rt:=λ_ _=>False,ct:=N,bk:=λ_ H'=>Q (.ref D) H'} σ2 H2))
  (hRR:∀D C H' s' m,s'.heap.Ns C m->bZ X pins σ H' s'->H' C=none->C≠X.env.locals->X.s₀.heap.objs.size<=C->(∀x c,X.env.cells.lookup x=some c->c≠C)->(∀p∈X.pn++pins,p.1≠C)->D≠C->Q (.ref D) H'->RR (.ref D) C (.ok .next) s') :
  aM (model X.prog X.w) X.A (newList []) (λacc s₃=>aM (model X.prog X.w) X.A (newFunctionEnv scope X.env.globals cl [] X.env.qual none .none (some X.env)) (λcenv s₄=>
   gE (model X.prog X.w) X.A (.compStart (.ListComp elt [⟨target,iter,ifs,0⟩] scope pos) 0 (.ref it) acc {cenv with scope:=relabel scope X.env}) (RR acc cenv.locals) s₄) E s₃) E s₂:=by
 refine b4 (wpAny_newFunctionEnv ok.cell (by intro y hy;simp at hy) (λh₁ hns₁ hsb₁=>?_) ok.kind);dsimp only at hns₁ hsb₁ ⊢;generalize hG:s₂.heap.push {cls:=.type "list",dict:=none,data:=.seq ([]:List ae).toArray}=G at hns₁ hsb₁ ⊢;have hC:G.objs.size=s₂.heap.objs.size+1:=by rw[<-hG,cY]
 have hDC:s₂.heap.objs.size≠G.objs.size:=by rw[hC];exact a9 (oy _)
 have hCle:s₂.heap.objs.size<=G.objs.size:=by rw[hC];exact mT _
 have below:∀b,b<s₂.heap.objs.size->b≠G.objs.size:=λb hb=>by rw[hC];exact a9 (gm hb)
 have old:∀b o,s₂.heap.get? b=some o->h₁.get? b=some o:=λb o e=>hsb₁.extBut b o (below b (aI e)) (ak _ (hG ▸ ak _ e));have hacc:h₁.get? s₂.heap.objs.size=some {cls:=.type "list",dict:=none,data:=.seq ([]:List ae).toArray}:=hsb₁.extBut _ _ hDC (ak _ (hG ▸ aO _ rfl));have hfl:∀b∈fp,∃o,s₂.heap.get? b=some o:=λb hb=>let⟨o,ho,_⟩:=T.obj 0 _ st2 b hb;⟨o,ho⟩;have fD:H2 s₂.heap.objs.size=none:=I2.hok.fresh (aB _);have fC:H2 G.objs.size=none:=I2.hok.fresh hCle;have I4:bZ (eJ X NY scope cl G.objs.size s₂ H2 fp) [] (EE js k σ) (upd H2 s₂.heap.objs.size (.lst [])) {s₂ with heap:=h₁,toks:=s₂.toks+([]:List (Str×ae)).length}:=by
  refine⟨Pm I2 f2 hfl ok.kind ok.cell hcl1 hcl2 hCle,rfl,I2.bare,Un.laid old (aB _) fD,⟨_,hns₁,λi y v h1 h2 h3=>?_⟩,λx c h=>?_,?_,λx c h=>?_,λp hp=>absurd (show p∈([]:List (ar×Obj)) from hp) (by simp),I2.hok.laid old (aB _) ⟨b9 _,[],0,.nil,hacc⟩,?_⟩
  ·obtain⟨e1,e2⟩:=Pw h2;have hi:i<N.length:=by
    have:=(aj.mp e1).1;rw[I2.len,hN] at this;exact this
   have hy:N[i]?=some y:=by
    rw[<-ok.pre,i7 hi];exact h1
   have hz:(y,i)∈N.zipIdx:=by
    rw[List.mem_zipIdx_iff_getElem?];exact hy
   have nn:scope.names.lookup y≠none:=Q7 (env:=X.env) (x:=y) (by
    rcases h3 with z|z|z
    ·intro q;rw[show(relabel scope X.env).names.lookup y=_ from z] at q;cases q
    ·intro q;rw[show(relabel scope X.env).names.lookup y=_ from z] at q;cases q
    ·intro q;rw[show(relabel scope X.env).names.lookup y=_ from z] at q;cases q)
   have hfr:scope.names.lookup y=some .free:=by
    rcases ok.cap (y,i) hz with z|z|z
    ·rw[e2] at z;cases z
    ·exact absurd z nn
    ·exact z
   have hX:=ok.free (y,.free) (dI hfr) rfl;rw[<-hsc] at hX;obtain⟨m,hn,hl⟩:=I2.loc;obtain⟨u,ru,lk⟩:=hl i y v (by rw[hN];exact hy) e1 (by
    rcases hX with z|z
    ·exact .inr (.inl z)
    ·exact .inr (.inr z))
   refine⟨u,ru,?_⟩;rcases lk with⟨lk,_⟩|⟨_,c,hc1,hc2⟩
   ·have lk:X.env.scope.names.lookup y=some .local:=lk;rcases hX with z|z<;>· rw[z] at lk;cases lk
   ·have hs:=hcl2 (y,.free) (dI hfr) rfl;obtain⟨c',hc'⟩:=gy.mp hs;have e3:=hcl1 y c' hc';rw[hc1] at e3;cases e3;refine .inr ⟨?_,c,hc',hc2.keeps old⟩;show(relabel scope X.env).names.lookup y=some .cell\/(relabel scope X.env).names.lookup y=some .free;have e:(relabel scope X.env).names.lookup y=_:=jT (env:=X.env) (x:=y) scope.names;rw[e,hfr,cq];split
    ·exact .inl rfl
    ·exact .inr rfl
  ·obtain⟨v,q⟩:=I2.cell x c (hcl1 x c h);exact⟨v,q.keeps old⟩
  ·show upd H2 s₂.heap.objs.size (.lst []) G.objs.size=none;rw[aL (Ne.symm hDC)];exact fC
  ·have q:=I2.freeC x c (hcl1 x c h);obtain⟨v,o,ho,_⟩:=I2.cell x c (hcl1 x c h);show upd H2 s₂.heap.objs.size (.lst []) c=none;rw[aL (a9 (aI ho))];exact q
  ·show(EE js k σ).length=NY.length;rw[Px,I2.len,hN,hk]
 have st4:tn 0 h₁:=T.keep _ _ _ st2 λb _ o e=>old b o e;obtain⟨W,⟨m0,w0⟩,turn⟩:=loop s₂.heap.objs.size fD;have stat:∀{H':Hp},(∀b∈fp,H' b=none)->∀b∈fp,sC (eJ X NY scope cl G.objs.size s₂ H2 fp) [] H' b:=λhn b hb=>by
  obtain⟨o,ho⟩:=hfl b hb;refine⟨hn b hb,below b (aI ho),λz=>?_,.inl hb,λx c h=>(f2 b hb).2.2.2.2.1 x c (hcl1 x c h),λp hp=>absurd (show p∈([]:List (ar×Obj)) from hp) (by simp)⟩;rcases aE.mp (I2.stkSub b z) with e|e
  ·exact(f2 b hb).2.1 e
  ·exact(f2 b hb).2.2.1 e
 have go:∀s₄:aq,s₄={s₂ with heap:=h₁,toks:=s₂.toks+([]:List (Str×ae)).length}->
   gE (model X.prog X.w) X.A (.compLoop (.ListComp elt [⟨target,iter,ifs,0⟩] scope pos) 0 (.ref it) (.ref s₂.heap.objs.size) (compEnvC scope cl G.objs.size X.env)) (RR (.ref s₂.heap.objs.size) G.objs.size) s₄:=by
  rintro s₄ rfl;refine DN (λn s'=>∃i σ' H',bZ (eJ X NY scope cl G.objs.size s₂ H2 fp) [] σ' H' s'/\tn i s'.heap/\(∀b∈fp,H' b=none)/\W i n σ' H') ?_ m0
   ⟨0,_,_,I4,st4,λb hb=>by
    obtain⟨o,ho⟩:=hfl b hb;rw[aL (a9 (aI ho))];exact(f2 b hb).1,w0⟩
  rintro n s3 ⟨i,σ3,H3,I3,st3,fr3,w3⟩;rcases turn i n σ3 H3 w3 with⟨stop,qn⟩|⟨go,Nx,hNx,step⟩
  ·refine gs (T.done (eJ X NY scope cl G.objs.size s₂ H2 fp) rfl rfl rfl hc i [] s3 σ3 H3 _ I3 (stat fr3) st3 stop) λr s5 ⟨hr,I5⟩=>?_;subst hr;have IX:bZ X pins σ H3 s5:=I2.call' (ch:=fp) I5.os I5.base I5.hok I5.bare λb hb=>⟨(f2 b hb).2.2.2.1,(f2 b hb).2.1,(f2 b hb).2.2.2.2.1,(f2 b hb).2.2.2.2.2⟩;obtain⟨m,hm,_⟩:=I5.loc;refine hRR _ _ H3 s5 m hm IX I5.free (λz=>?_) (cT I2.sz hCle) (λx c h z=>?_) (λp hp z=>?_) hDC qn
   ·have:=I2.lt;rw[<-z] at this;exact cW _ (bo this hCle)
   ·obtain⟨v,o,ho,_⟩:=I2.cell x c h;have:=aI ho;rw[z] at this;exact cW _ (bo this hCle)
   ·have:=aI (I2.pin p hp).1;rw[z] at this;exact cW _ (bo this hCle)
  ·refine gs (T.item (eJ X NY scope cl G.objs.size s₂ H2 fp) rfl rfl rfl hc i [] s3 σ3 H3 _ I3 (stat fr3) st3 go) λr s5 ⟨u,hr,h5⟩=>?_;subst hr;refine gs h5 λ_ s6 ⟨x,H6,I6,r6,y6,st6,fr6⟩=>?_;have I6':=I6.pinned (stat fr6) (T.obj _ _ st6);have again:∀{σ7:St} {H7:Hp} {s7:aq},bZ (eJ X NY scope cl G.objs.size s₂ H2 fp) ([]++zV fp s6.heap) σ7 H7 s7->Nx σ7 H7->∃m,m<n/\∃i σ' H',bZ (eJ X NY scope cl G.objs.size s₂ H2 fp) [] σ' H' s7/\tn i s7.heap/\(∀b∈fp,H' b=none)/\W i m σ' H':=λ{σ7 H7 s7} I7 n7=>by
    obtain⟨m',hm,w7⟩:=hNx σ7 H7 n7;refine⟨m',hm,i+1,σ7,H7,I7.unpinned,T.keep _ _ _ st6 λb hb o e=>(I7.pin (b,o) (bI _ (bI _ (pM hb e)))).1,λb hb=>?_,w7⟩;obtain⟨o,e,d⟩:=T.obj _ _ st6 b hb;exact(I7.pin (b,o) (bI _ (bI _ (pM hb e)))).2.1
   refine gs (hg cl G.objs.size s₂ H2 fp _ s6 σ3 H6 x u _ I6' r6 (step x H6 y6)) λ_ s7 ⟨σ7,H7,I7,q7⟩=>?_;refine gs (hi cl G.objs.size s₂ H2 fp _ s7 σ7 H7 _ I7 q7) λok s8 ⟨H8,I8,q8⟩=>?_;cases ok with
   |false=>
    rw[if_neg Bool.false_ne_true] at q8 ⊢;exact again I8 q8
   |true=>
    rw[if_pos rfl] at q8 ⊢;refine gs (he cl G.objs.size s₂ H2 fp _ s8 σ7 H8 _ I8 q8) λy s9 ⟨z,H9,I9,r9,ys,hD,hz,n9⟩=>?_;refine gs (CD (X:=eJ X NY scope cl G.objs.size s₂ H2 fp) _ s9 σ7 H9 (.ref s₂.heap.objs.size) [z] (.ref s₂.heap.objs.size) [y] (λ_ H'=>H'=upd H9 s₂.heap.objs.size (.lst (ys++[z]))) I9 rfl (.cons r9 .nil) ⟨_,ys,z,rfl,rfl,hD,hz,rfl⟩) λ_ s10 ⟨_,H10,I10,_,q10⟩=>?_;subst q10;exact again I10 n9
 exact codeAny_compStart_list (go _ rfl) (T.self _ 0 _ _ _ st4 (go _ rfl))
def Qi{wi:TI}(ok:tV sc N scope NY js)(hsc:X.env.scope=sc)(hN:X.N=N)(hk:NY.length=N.length+k)(hc:X.calm=true)(hit:PI X target iter wi)
  (hg:∀cl C s₀ H₀ fp,PG (eJ X NY scope cl C s₀ H₀ fp) target g) (hi:∀cl C s₀ H₀ fp,J5 (eJ X NY scope cl C s₀ H₀ fp) ifs tc) (he:∀cl C s₀ H₀ fp,PE (eJ X NY scope cl C s₀ H₀ fp) elt te)
  (hs:∀x,eP iter X.env x=pure x:=by intro _;rfl):PE X (.ListComp elt [⟨target,iter,ifs,0⟩] scope pos) (hW js k wi g tc te):=by
 intro pins s σ H Q I h;obtain⟨cl,hclos,hcl1,hcl2⟩:=zm (scope:=scope) (env:=X.env) λx hx hf=>I.ok.has x.1 (by
  have:=ok.free x hx hf;rw[<-hsc] at this;exact this)
 rw[eval_ListComp];refine wpAny_comprehension_free (use:=none) rfl hs hclos ok.kind ok.names (gs (hit pins s σ H _ I h) λxv s₁ h₁=>gs h₁ λitv s₂ h₂=>?_);obtain⟨it,fp,tn,J,H2,rfl,I2,T,st2,f2,loop⟩:=h₂;refine zo (RR:=λacc C=>compPost (model X.prog X.w) X.A X.xe none (EP X pins σ Q) acc C) (Q:=Q) ok hsc hN hk hc I2 T st2 f2 hcl1 hcl2 hg hi he loop ?_;intro D C H' s' m hm IX fC c1 c2 c3 c4 _ q;exact⟨m,hm,λh' hs'=>⟨.ref D,H',IX.turned (t':=s'.toks) (λb o hb e=>(hs'.2 b hb).trans e) fC c1 (.inr c2) c3 c4,rfl,q⟩⟩
def Qz{wi:TI}{i:Nat}{y:Str}{py spos:Pos}(ok:tV sc N scope NY js)(hsc:X.env.scope=sc)(hN:X.N=N)(hk:NY.length=N.length+k)(hc:X.calm=true)(hit:PI X target iter wi)
  (hg:∀cl C s₀ H₀ fp,PG (eJ X NY scope cl C s₀ H₀ fp) target g) (hi:∀cl C s₀ H₀ fp,J5 (eJ X NY scope cl C s₀ H₀ fp) ifs tc) (he:∀cl C s₀ H₀ fp,PE (eJ X NY scope cl C s₀ H₀ fp) elt te)
  (nd:X.N.Nodup) (hy:X.N[i]?=some y) (hl:L7 X.env.scope y) (hsw:iT (.ListComp elt [⟨target,iter,ifs,0⟩] scope pos) (some (.Name y py)) spos.line X.env=pure true)
  (hs:∀x,eP iter X.env x=pure x:=by intro _;rfl) (hf:X.fn y=true\/X.env.scope.names.lookup y=some .local:=by first|exact .inl rfl|exact .inr rfl|assumption) :
  PS X (.Assign [.Name y py] (.ListComp elt [⟨target,iter,ifs,0⟩] scope pos) spos) (cu (hW js k wi g tc te) (aW i)):=by
 intro pins s σ H D I h;obtain⟨cl,hclos,hcl1,hcl2⟩:=zm (scope:=scope) (env:=X.env) λx hx hf=>I.ok.has x.1 (by
  have:=ok.free x hx hf;rw[<-hsc] at this;exact this)
 rw[exec_Assign_Name_used _ _ _ _ hsw];refine aa (hZ (aa ?_));show aM _ X.A (do let _ <-comprehension (.ListComp elt [⟨target,iter,ifs,0⟩] scope pos) scope X.env _ (newList []) false (eval iter X.env) (some (assign (.Name y py) X.env))) _ _ s;refine aa (c7 (wpAny_comprehension_free (use:=some (assign (.Name y py) X.env)) (Q:=λ_ s'=>SP X pins D .next s') rfl hs hclos ok.kind ok.names
  (gs (hit pins s σ H _ I h) λxv s₁ h₁=>gs h₁ λitv s₂ h₂=>?_)) (λ_ s' hq=>az (az hq)) λ_ _ e=>e)
 obtain⟨it,fp,tn,J,H2,rfl,I2,T,st2,f2,loop⟩:=h₂;refine zo (RR:=λacc C=>compPost (model X.prog X.w) X.A X.xe (some (assign (.Name y py) X.env)) (λ_ s'=>SP X pins D .next s') acc C) (Q:=λx H1=>aW i x σ H1 D.nx) ok hsc hN hk hc I2 T st2 f2 hcl1 hcl2 hg hi he loop ?_;intro Da C H' s' m hm IX fC c1 c2 c3 c4 _ q;show aM _ X.A (assign (.Name y py) X.env (.ref Da)) _ _ _;refine wpAny_assign_Name (CO IX nd hy hl (v:=.ref Da) rfl (λs2 IY ⟨a,sb,ha⟩=>?_) hf);have hne:C≠a:=by
  rcases ha with rfl|ha
  ·exact c1
  ·exact λz=>c3 y a ha z.symm
 exact⟨m,hm.sameBut sb hne,λh' hs'=>⟨_,H',IY.turned (t':=s2.toks) (λb o hb e=>(hs'.2 b hb).trans e) fC c1 (.inr c2) c3 c4,q⟩⟩
end
section
variable{X:Cx}{pins:List (ar×Obj)}{σ:St}{H:Hp}{s:aq}{h':Heap}
def bZ.turnedL{t':Nat}{ch:List ar}(I:bZ X pins σ H s)(k:∀b o,b∉ch->s.heap.get? b=some o->h'.get? b=some o)(hf:∀b∈ch,sC X pins H b) :
  bZ X pins σ H {s with heap:=h',toks:=t'}:=by
 have nit:∀b u,H b=some u->b∉ch:=λb u e z=>by rw[(hf b z).1] at e;cases e
 refine I.step (g':=s.gens) (d':=s.drawn) (ch:=ch) (λb hb=>⟨(hf b hb).2.2.2.1,(hf b hb).2.1,(hf b hb).2.2.2.2.1,(hf b hb).2.2.2.2.2⟩) (λb o _ _ hc e _=>k b o hc e) (λb o _ _ hc e _=>⟨o.slots,k b o hc e⟩) (λ_ _ _ _ n=>n)
  (λb o hc e=>⟨o,k b o hc e⟩) (λ_ _ e=>e) (λ_ _ _ e=>e) (λb ps e=>⟨#[],by rw[e];simp⟩) (λm hm=>?_) (λb u e=>?_) I.bare
 ·obtain⟨o,es,ep,ho,r⟩:=hm;exact⟨o,es,ep,k _ o (λz=>(hf _ z).2.1 rfl) ho,r⟩
 ·refine(I.hok b u e).stay (λc v hc q=>k c v ?_ q) (λ_ q=>q) λ_ _ q=>q;rcases hc with z|z
  ·rw[z];exact nit b u e
  ·exact nit c _ z
def bZ.adopt{T:ar}{o:HO}(I:bZ X pins σ H s)(hf:sC X pins H T)(new:fk X.prog X.w (upd H T o) s.heap T o):bZ X pins σ (upd H T o) s:=by
 have nT:∀b u,H b=some u->b≠T:=λb u e z=>by rw[z,hf.1] at e;cases e
 refine I.step (h':=s.heap) (H':=upd H T o) (g':=s.gens) (d':=s.drawn) (t':=s.toks) (ch:=[T]) (λb hb=>?_) (λb _ _ _ _ e _=>e) (λb ob _ _ _ e _=>⟨ob.slots,e⟩) (λb ob hb _ n=>?_)
  (λb ob _ e=>⟨ob,e⟩) (λb xs e=>?_) (λb ob u e=>?_) (λb ps e=>⟨#[],?_⟩) (λm hm=>hm) (λb u e=>?_) I.bare
 ·have e:b=T:=by simpa using hb
  subst e;exact⟨hf.2.2.2.1,hf.2.1,hf.2.2.2.2.1,hf.2.2.2.2.2⟩
 ·rw[aL (λz=>hb (by simp[z]))];exact n
 ·rw[aL (nT b _ e)];exact e
 ·rw[aL (nT b _ e)];exact e
 ·rw[aL (nT b _ e),e];simp
 ·by_cases hb:b=T
  ·subst hb;rw[ag] at e;cases e;exact new
  ·rw[aL hb] at e;exact(I.hok b u e).stay (λc v _ q=>q) (λc q=>by rw[aL (nT c _ q)];exact q) λc xs q=>by rw[aL (nT c _ q)];exact q
end
def Uu(K:Fg)(a:ar):It:=
 ⟨λi H=>∃xs x,cN K H a xs/\xs[i]?=some x,λi H x H'=>∃p v,H p=none/\x=.ref p/\H'=upd H p (.tup [.int (i:Nat),v])/\∀xs,cN K H a xs->xs[i]?=some v,λi H=>∃xs,cN K H a xs/\xs.length<=i⟩
def Uw(K:Fg)(a b:ar):It:=
 ⟨λi H=>∃xs x ys y,cN K H a xs/\xs[i]?=some x/\cN K H b ys/\ys[i]?=some y,
  λi H x H'=>∃p v u,H p=none/\x=.ref p/\H'=upd H p (.tup [v,u])/\(∀xs,cN K H a xs->xs[i]?=some v)/\∀ys,cN K H b ys->ys[i]?=some u,
  λi H=>∃xs ys,cN K H a xs/\cN K H b ys/\(xs.length<=i\/ys.length<=i)⟩
def yO{X:Cx}{H:Hp}{h:Heap}{T:ar}{x y:V}{u v:ae}{n:Nat}(e:h.get? T=some {cls:=.type "tuple",data:=.seq #[u,v] n})(r1:d5 x u)(r2:d5 y v):fk X.prog X.w H h T (.tup [x,y]):=
 ⟨show 2<=av by decide,[u,v],.cons r1 (.cons r2 .nil),⟨_,e,⟨rfl,rfl⟩,_,rfl⟩⟩
def P8{h:Heap}{it a:ar}{i:Nat}{l:ar}{items:Array ae}(p:h.IsList a items)(q:h.IsListIter it l i):a≠it:=by
 intro e;subst e;obtain⟨o,e1,c1,_⟩:=p;obtain⟨o',e2,c2,_⟩:=q;rw[e1] at e2;cases e2;rw[c1] at c2;injection c2 with c3;exact absurd c3 (by decide)
def LG{P:aZ}{w:bK}{K:Fg}{elts:List Expr}{k:Nat}{pos:Pos}(a e it:ar)(hne:e≠it) :
  Bd P w K (.Tuple elts k pos) (Uu K a) [e,it] e (λi h=>(∃old,IsEnum h e it (i:Nat) old)/\h.IsListIter it a i) where
 mem:=by simp
 obj:=λi h st b hb=>by
  obtain⟨⟨old,he⟩,⟨o,ho,c,d⟩⟩:=st;rcases aE.mp hb with rfl|hb
  ·exact⟨_,he,λv z=>by have z':Data.fields _=Data.cell v:=z;cases z'⟩
  ·rw[ax.mp hb];exact⟨o,ho,λv z=>by rw[d] at z;cases z⟩
 keep:=λi h h' st k=>⟨let⟨old,he⟩:=st.1;⟨old,k e (by simp) _ he⟩,st.2.at λo q=>k it (by simp) o q⟩
 item:=by
  intro X hP hw hK hc i pins s σ H E I hf st hg;subst hP hw hK;obtain⟨⟨old,he⟩,hit⟩:=st;obtain⟨xs,x,hq,hx⟩:=hg;obtain⟨its,rv,p,hz⟩:=I.list hq;obtain⟨u,hu,ru⟩:=rv.get hx;have hlt:i<its.toArray.size:=by have:=(aj.mp hu).1;simpa using this
  have na:a≠it:=P8 p.isList hit;have nb:e≠a:=by
   intro z;subst z;obtain⟨o,n,e1,c1,_⟩:=p;rw[he] at e1;cases e1;injection c1 with c3;exact absurd c3 (by decide)
  have Dw:=Draws.list (prog:=X.prog) (w:=X.w) (A:=X.A.in1) (show X.A.in1.handled=none from I.ok.hd hc) it a na its.toArray;refine wpAny_pyNext_enum_itemD Dw he ⟨hit,p.isList⟩ hlt hne (by simp[hne,nb]) λy h1 tk hP ho st1 hT hsz hk=>?_;have ey:y=u:=by
   have h1:its.toArray[i]?=some y:=hP;have h2:its[i]?=some y:=by simpa using h1
   rw[hu] at h2;exact(Option.some.inj h2).symm
  subst ey;refine⟨_,rfl,?_⟩;have fT:sC X pins H s.heap.objs.size:=I.fpOk (aB _) (I.hok.fresh (aB _));refine wpAny_letOwnedTupleGo_enum ho λh2 he2 hs2=>?_;have helt:e<s.heap.objs.size:=aI he;have I1:bZ X pins σ H {s with heap:=h2,toks:=tk+1}:=I.turnedL (t':=tk+1) (ch:=[e,it]) (λb o hb q=>by
   have b1:b≠e:=λz=>hb (by simp[z]);have b2:b≠it:=λz=>hb (by simp[z]);exact(hs2.2 b b1).trans (hk b o b1 b2 q)) hf
  have gT:h2.get? s.heap.objs.size=some {cls:=.type "tuple",data:=.seq #[.int i tk,y]}:=(hs2.2 _ (gU helt)).trans hT;have I2:=I1.adopt (T:=s.heap.objs.size) (o:=.tup [.int (i:Nat),x]) fT (yO (X:=X) gT ⟨tk,rfl⟩ ru);refine⟨.ref s.heap.objs.size,_,I2,rfl,⟨s.heap.objs.size,x,fT.1,rfl,rfl,λys hy=>by rw[I.list_inj hy hq];exact hx⟩,⟨⟨y,?_⟩,?_⟩,λb hb=>?_⟩
  ·have e2:(((i+1:Nat):Nat):Int)=(i:Int)+1:=by lia
   show IsEnum h2 e it (((i+1:Nat):Nat):Int) y;rw[e2];exact he2
  ·obtain⟨o,q1,q2⟩:=st1.1;exact⟨o,(hs2.2 it (Ne.symm hne)).trans q1,q2⟩
  ·have nT:b≠s.heap.objs.size:=by
    rcases aE.mp hb with rfl|hb
    ·exact a9 helt
    ·rw[ax.mp hb];obtain⟨o,ho,_⟩:=hit;exact a9 (aI ho)
   rw[aL nT];exact(hf b hb).1
 done:=by
  intro X hP hw hK hc i pins s σ H E I hf st hg;subst hP hw hK;obtain⟨⟨old,he⟩,hit⟩:=st;obtain⟨xs,hq,hx⟩:=hg;obtain⟨its,rv,p,hz⟩:=I.list hq;have hl:=rv.length;have hT:s.TypeIs (.ref e) "enumerate":=⟨_,he,rfl⟩;unfold kh;refine aa (kD (b8 (name:=Str.ofString "__next__") hT F.slot_enumerate_next
   (dq F.slot_enumerate_next hT F.entry_enumerate_next ?_ (F.args_enumerate_next_1 _))))
  show aM _ _ (field (.ref e) 2 >>= _) _ _ _;refine aa (bQ he rfl (x:=.ref it) rfl ?_);refine aa (wpAny_nextOf_list_end (show X.A.in1.handled=none from I.ok.hd hc) hit p.isList (by simp;lia) λh1 x1 eb hx1=>?_);obtain⟨o,ho,hcl⟩:=hx1;refine aa (ko (T:="StopIteration") (b:=true) ⟨o,ho,hcl⟩ isSubtype_stop ?_);exact az ⟨rfl,I.turnedL (t':=s.toks) (ch:=[e,it]) (λb ob hb q=>eb b ob (λz=>hb (by simp[z])) q) hf⟩
 self:=λ_ _ _ _ _ st h=>let⟨_,he⟩:=st.1;jG he h
section
variable{X:Cx}{elts:List Expr}{k:Nat}{tpos:Pos}
def Cv(K:Fg)(tl:TA):TI:=λσ H R=>tl σ H λvs H1=>∃a,vs=[.ref a]/\(∃xs,cN K H1 a xs)/\R (Uu K a) H1
def Qq{a:Expr}{ta:TA}{p pos:Pos}(hg:Gl X "enumerate")(hm:X.mg "enumerate"=none)(ha:PA X [a] ta)(hs:aT [a] X.env=[(false,eval a X.env)]:=by rfl) :
  PI X (.Tuple elts k tpos) (.Call (.Name "enumerate" p) [a] [] pos) (Cv X.K ta):=by
 intro pins s σ H R I h;refine Call_ (lA I hg hm boot_enumerate (cL (gs (ha pos pins s σ H _ I h) λus s1 ⟨vs,H1,I1,r1,q1⟩=>?_) hs rfl));obtain⟨l,e,⟨xs,hq⟩,q⟩:=q1;subst e;cases r1 with
 |cons r rr=>
  cases rr;cases r;obtain⟨its,rv,pl,hz⟩:=I1.list hq;refine call_enumerate_list pl.isList λh1 he hit hsz hk=>?_;refine jG he ?_;have I2:bZ X pins σ H1 {s1 with heap:=h1}:=I1.kept (t':=s1.toks) hk;refine⟨s1.heap.objs.size+1,[s1.heap.objs.size+1,s1.heap.objs.size],_,_,H1,rfl,I2,LG l _ _ (Nat.succ_ne_self _),⟨⟨.none,he⟩,hit⟩,λb hb=>?_,q⟩;have hb':s1.heap.objs.size<=b:=by
   rcases aE.mp hb with rfl|hb
   ·lia
   ·rw[ax.mp hb];exact aB _
  exact I1.fpOk hb' (I1.hok.fresh hb')
end
def OK{P:aZ}{w:bK}{K:Fg}{elts:List Expr}{k:Nat}{pos:Pos}(z TI TO i1 i2 l1 l2:ar)(D:oq z TI TO i1 i2 l1 l2) :
  Bd P w K (.Tuple elts k pos) (Uw K l1 l2) [z,TI,TO,i1,i2] z (λi h=>IsZip h z TI TO .none/\ie h TI (.ref i1) (.ref i2)/\(∃a b,ie h TO a b)/\h.IsListIter i1 l1 i/\h.IsListIter i2 l2 i) where
 mem:=by simp
 obj:=λi h st b hb=>by
  obtain⟨hz,hTI,⟨a',b',hTO⟩,⟨o1,e1,c1,d1⟩,⟨o2,e2,c2,d2⟩⟩:=st;simp only[aE,bj,or_false] at hb;rcases hb with rfl|rfl|rfl|rfl|rfl
  ·exact⟨_,hz,λv q=>by have q':Data.fields _=Data.cell v:=q;cases q'⟩
  ·exact⟨_,hTI,λv q=>by have q':Data.seq _ _=Data.cell v:=q;cases q'⟩
  ·exact⟨_,hTO,λv q=>by have q':Data.seq _ _=Data.cell v:=q;cases q'⟩
  ·exact⟨o1,e1,λv q=>by rw[d1] at q;cases q⟩
  ·exact⟨o2,e2,λv q=>by rw[d2] at q;cases q⟩
 keep:=λi h h' st k=>by
  obtain⟨hz,hTI,⟨a',b',hTO⟩,h1,h2⟩:=st;exact⟨k z (by simp) _ hz,k TI (by simp) _ hTI,⟨a',b',k TO (by simp) _ hTO⟩,h1.at λo q=>k i1 (by simp) o q,h2.at λo q=>k i2 (by simp) o q⟩
 item:=by
  intro X hP hw hK hc i pins s σ H E I hf st hg;subst hP hw hK;obtain⟨hz,hTI,⟨a',b',hTO⟩,h1,h2⟩:=st;obtain⟨xs,x,ys,y,hq1,hx,hq2,hy⟩:=hg;obtain⟨its1,rv1,p1,_⟩:=I.list hq1;obtain⟨its2,rv2,p2,_⟩:=I.list hq2;obtain⟨u,hu,ru⟩:=rv1.get hx;obtain⟨v,hv,rv⟩:=rv2.get hy;refine wpAny_pyNext_zip_item D hz hTI hTO h1 h2 p1.isList p2.isList (x:=u) (y:=v) (by simpa using hu) (by simpa using hv) λh3 a1 a2 a3 a4 a5 a6 hk=>?_;refine⟨_,rfl,?_⟩;have fT:sC X pins H s.heap.objs.size:=I.fpOk (aB _) (I.hok.fresh (aB _));have lt:∀{c o},s.heap.get? c=some o->c≠s.heap.objs.size:=λe=>a9 (aI e);refine wpAny_letOwnedTupleGo_zip a1 λh4 hz4 hs4=>?_;have I1:bZ X pins σ H {s with heap:=h4,toks:=s.toks}:=I.turnedL (t':=s.toks) (ch:=[z,TI,TO,i1,i2]) (λb o hb q=>by
   have b1:b≠z:=λe=>hb (by simp[e]);exact(hs4.2 b b1).trans (hk b o b1 (λe=>hb (by simp[e])) (λe=>hb (by simp[e])) (λe=>hb (by simp[e])) q)) hf
  have gT:h4.get? s.heap.objs.size=some {cls:=.type "tuple",data:=.seq #[u,v]}:=(hs4.2 _ (Ne.symm (lt hz))).trans a5;have I2:=I1.adopt (T:=s.heap.objs.size) (o:=.tup [x,y]) fT (yO (X:=X) gT ru rv);have ext:∀c o,c≠z->h3.get? c=some o->h4.get? c=some o:=λc o hc q=>(hs4.2 c hc).trans q;refine⟨.ref s.heap.objs.size,_,I2,rfl,⟨s.heap.objs.size,x,y,fT.1,rfl,rfl,λzs hz=>by rw[I.list_inj hz hq1];exact hx,λzs hz=>by rw[I.list_inj hz hq2];exact hy⟩,
   ⟨hz4,ext _ _ D.TIz (hk _ _ D.TIz D.TITO D.TIi1 D.TIi2 hTI),⟨_,_,ext _ _ D.TOz a2⟩,a3.at λo q=>ext _ o D.i1z q,a4.at λo q=>ext _ o D.i2z q⟩,λb hb=>?_⟩
  have nT:b≠s.heap.objs.size:=by
   obtain⟨o1,e1,_⟩:=h1;obtain⟨o2,e2,_⟩:=h2;simp only[aE,bj,or_false] at hb;rcases hb with rfl|rfl|rfl|rfl|rfl
   ·exact lt hz
   ·exact lt hTI
   ·exact lt hTO
   ·exact lt e1
   ·exact lt e2
  rw[aL nT];exact(hf b hb).1
 done:=by
  intro X hP hw hK hc i pins s σ H E I hf st hg;subst hP hw hK;obtain⟨hz,hTI,⟨a',b',hTO⟩,h1,h2⟩:=st;obtain⟨xs,ys,hq1,hq2,hend⟩:=hg;obtain⟨its1,rv1,p1,_⟩:=I.list hq1;obtain⟨its2,rv2,p2,_⟩:=I.list hq2;have l1':=rv1.length;have l2':=rv2.length;refine wpAny_pyNext_zip_end (I.ok.hd hc) D hz hTI hTO h1 h2 p1.isList p2.isList (hend.imp (λh=>by simp;lia) λh=>by simp;lia) λh3 hk=>⟨rfl,?_⟩;exact I.turnedL (t':=s.toks) (ch:=[z,TI,TO,i1,i2]) (λb o hb q=>hk b o (λe=>hb (by simp[e])) (λe=>hb (by simp[e])) (λe=>hb (by simp[e])) (λe=>hb (by simp[e])) q) hf
 self:=λ_ _ _ _ _ st h=>kr st.1 h
section
variable{X:Cx}{elts:List Expr}{k:Nat}{tpos:Pos}
def Sm(K:Fg)(tl:TA):TI:=λσ H R=>tl σ H λvs H1=>∃a b,vs=[.ref a,.ref b]/\(∃xs,cN K H1 a xs)/\(∃xs,cN K H1 b xs)/\R (Uw K a b) H1
def Tn{a b:Expr}{ta:TA}{p pos:Pos}(hg:Gl X "zip")(hm:X.mg "zip"=none)(ha:PA X [a,b] ta)(hs:aT [a,b] X.env=[(false,eval a X.env),(false,eval b X.env)]:=by rfl)(hs2:aT [b] X.env=[(false,eval b X.env)]:=by rfl) :
  PI X (.Tuple elts k tpos) (.Call (.Name "zip" p) [a,b] [] pos) (Sm X.K ta):=by
 intro pins s σ H R I h;refine Call_ (lA I hg hm boot_zip (cL (gs (ha pos pins s σ H _ I h) λus s1 ⟨vs,H1,I1,r1,q1⟩=>?_) (by rw[hs,hs2]) (by rw[hs2];rfl)));obtain⟨l1,l2,e,⟨xs,hq1⟩,⟨ys,hq2⟩,q⟩:=q1;subst e;cases r1 with
 |cons r rr=>
  cases rr with
  |cons r' rr=>
   cases rr;cases r;cases r';obtain⟨its1,rv1,p1,_⟩:=I1.list hq1;obtain⟨its2,rv2,p2,_⟩:=I1.list hq2;have b1:l1<s1.heap.objs.size:=by obtain⟨o,e,_⟩:=p1.isList;exact aI e
   have b2:l2<s1.heap.objs.size:=by obtain⟨o,e,_⟩:=p2.isList;exact aI e
   refine call_zip_2 p1.isList p2.isList λh1 hz hTI hTO hi1 hi2 hsz hk=>?_;refine kr hz ?_;have I2:bZ X pins σ H1 {s1 with heap:=h1}:=I1.kept (t':=s1.toks) hk;refine⟨_,_,_,_,H1,rfl,I2,OK _ _ _ _ _ l1 l2 (zipApart_new b1 b2),⟨hz,hTI,⟨_,_,hTO⟩,hi1,hi2⟩,λb hb=>?_,q⟩;have hb':s1.heap.objs.size<=b:=by
    simp only[aE,bj,or_false] at hb;rcases hb with rfl|rfl|rfl|rfl|rfl<;>lia
   exact I1.fpOk hb' (I1.hok.fresh hb')
end
def uU{K:Fg}{a:ar}{xs:List V}{g:TG}{tb:TS}{D:oE}{σ:St}{H:Hp}(Pv:Nat->St->Hp->Prop)(h0:Pv 0 σ H)(hl:∀i σ H,i<=xs.length->Pv i σ H->cN K H a xs)
  (hs:∀i x σ H p,xs[i]?=some x->H p=none->Pv i σ H->g (.ref p) σ (upd H p (.tup [.int (i:Nat),x])) λσ2 H2=>tb {D with nx:=Pv (i+1),ct:=Pv (i+1),bk:=D.nx} σ2 H2) (hd:∀σ H,Pv xs.length σ H->D.nx σ H) :
  ∃W:Nat->Nat->St->Hp->Prop,(∃m,W 0 m σ H)/\∀i m σ H,W i m σ H->
   ((Uu K a).stop i H/\D.nx σ H)\/((Uu K a).go i H/\∃N:St->Hp->Prop,(∀σ' H',N σ' H'->∃m',m'<m/\W (i+1) m' σ' H')/\∀x H',(Uu K a).yld i H x H'->g x σ H' λσ2 H2=>tb {D with nx:=N,ct:=N,bk:=D.nx} σ2 H2):=by
 refine⟨λi m σ H=>m=xs.length-i/\i<=xs.length/\Pv i σ H,⟨xs.length,by simp,b9 _,h0⟩,?_⟩;rintro i m σ H ⟨rfl,hi,p⟩;have q:=hl i σ H hi p;by_cases hlt:i<xs.length
 ·refine .inr ⟨⟨xs,xs[i],q,by simp[hlt]⟩,Pv (i+1),λσ' H' p'=>⟨xs.length-(i+1),by lia,rfl,hlt,p'⟩,λx H' y=>?_⟩;obtain⟨pp,v,e1,rfl,rfl,y⟩:=y;exact hs i v σ H pp (y xs q) e1 p
 ·have e:i=xs.length:=by lia
  subst e;exact .inl ⟨⟨xs,q,aB _⟩,hd σ H p⟩
def PD{K:Fg}{a b:ar}{xs ys:List V}{g:TG}{tb:TS}{D:oE}{σ:St}{H:Hp}(el:xs.length=ys.length)(Pv:Nat->St->Hp->Prop)(h0:Pv 0 σ H)(hl:∀i σ H,i<=xs.length->Pv i σ H->cN K H a xs/\cN K H b ys)
  (hs:∀i x y σ H p,xs[i]?=some x->ys[i]?=some y->H p=none->Pv i σ H->g (.ref p) σ (upd H p (.tup [x,y])) λσ2 H2=>tb {D with nx:=Pv (i+1),ct:=Pv (i+1),bk:=D.nx} σ2 H2) (hd:∀σ H,Pv xs.length σ H->D.nx σ H) :
  ∃W:Nat->Nat->St->Hp->Prop,(∃m,W 0 m σ H)/\∀i m σ H,W i m σ H->
   ((Uw K a b).stop i H/\D.nx σ H)\/((Uw K a b).go i H/\∃N:St->Hp->Prop,(∀σ' H',N σ' H'->∃m',m'<m/\W (i+1) m' σ' H')/\∀x H',(Uw K a b).yld i H x H'->g x σ H' λσ2 H2=>tb {D with nx:=N,ct:=N,bk:=D.nx} σ2 H2):=by
 refine⟨λi m σ H=>m=xs.length-i/\i<=xs.length/\Pv i σ H,⟨xs.length,by simp,b9 _,h0⟩,?_⟩;rintro i m σ H ⟨rfl,hi,p⟩;obtain⟨q1,q2⟩:=hl i σ H hi p;by_cases hlt:i<xs.length
 ·have hlt2:i<ys.length:=by lia
  refine .inr ⟨⟨xs,xs[i],ys,ys[i],q1,by simp[hlt],q2,by simp[hlt2]⟩,Pv (i+1),λσ' H' p'=>⟨xs.length-(i+1),by lia,rfl,hlt,p'⟩,λx H' y=>?_⟩;obtain⟨pp,v,u,e1,rfl,rfl,y1,y2⟩:=y;exact hs i v u σ H pp (y1 xs q1) (y2 ys q2) e1 p
 ·have e:i=xs.length:=by lia
  subst e;exact .inl ⟨⟨xs,ys,q1,q2,.inl (aB _)⟩,hd σ H p⟩
end L2
namespace PySem
open Sem (wp)
open Builtin MeetsSeq MeetsSeq2 MeetsSeq3
def wB:fillsNumberSlot (.type "tuple") "mul"=pure false:=
 fillsNumberSlot_seq (id:="tuple.__mul__") (r:=some (.builtin "tuple.__rmul__")) F.slot_tuple_mul.lookup (by decide +kernel) F.slot_tuple_rmul.lookup (by decide +kernel)
def Ei:seqRepeat? (.type "tuple")=pure (some (.builtin "tuple.__mul__")):=by
 unfold seqRepeat?;rw[seqSlot_of (T:="tuple") (name:="__mul__") (id:="tuple.__mul__") F.slot_tuple_mul.lookup (by decide +kernel),seqSlot_of (T:="tuple") (name:="__rmul__") (id:="tuple.__rmul__") F.slot_tuple_rmul.lookup (by decide +kernel)];rfl
def zx(a:Int)(t:Tok)(l:ar)(items:Array ae)(n:Nat)(dd:Option ar)(sl:Array (Option ae)) :
  Meets (aS.«int.__rmul__» ⟨[.int a t,.ref l],[]⟩) (λ_ R s=>s.heap.get? l=some {cls:=.type "tuple",dict:=dd,data:=.seq items n,slots:=sl}/\R (.ok (.ret ae.notImplemented)) s):=
 .of_wp λprog w A R s h=>by obtain⟨hp,g,d,tk,os⟩:=s;obtain⟨hl,h⟩:=h;wp_walk;exact⟨_,rfl,h⟩
def AX(l:ar)(items:Array ae)(n:Nat)(dd:Option ar)(sl:Array (Option ae))(x:Int)(u:Tok)(hlo:-(2 ^ 63)<=x)(hhi:x<2 ^ 63)(he:items.isEmpty=false)(h1:¬x=1)(hp:0<x)(hsz:items.size*x.toNat<=av) :
  Meets (aS.«tuple.__mul__» ⟨[.ref l,.int x u],[]⟩) (λ_ R s=>s.heap.get? l=some {cls:=.type "tuple",dict:=dd,data:=.seq items n,slots:=sl}/\
   R (.ok (.ret (ae.ref s.heap.objs.size))) {s with heap:=s.heap.push {cls:=ae.type "tuple",data:=Data.seq (yQ (λx1 x2=>x1++x2) #[] (bB x.toNat items))},toks:=s.toks}):=
 .of_wp λprog w A R s h=>by
  obtain⟨hp,g,d,tk,os⟩:=s;obtain⟨hl,h⟩:=h;have z1:(decide (x < -(2 ^ 63)) || decide (x >= 2 ^ 63))=false:=by simp;lia
  have z2:(items.isEmpty || x==1)=false:=by simp[he,h1]
  have z3:(decide (x<=0) || items.isEmpty)=false:=by simp[he];lia
  have ex:(items.size:Int)*x=((items.size*x.toNat:Nat):Int):=by
   rw[Int.natCast_mul];congr 1;lia
  have z4:¬((items.size:Int)*x>(2 ^ 63-1) / 8):=by
   rw[ex];have:(av:Nat)<=(2 ^ 63-1) / 8:=by decide
   lia
  have z5:Tuple.tupleTooMany ((items.size:Int)*x)=false:=by
   unfold Tuple.tupleTooMany;rw[ex];exact decide_eq_false (by lia)
  have z6:(yQ (λ(x1 x2:Array ae)=>x1++x2) #[] (bB x.toNat items)).size<=av:=by
   have e:=AutoListH.size_joined items x.toNat #[];rw[e,lO];simpa using hsz
  wp_walk
  refine wpAny_ite_false (by rw[z1];rfl) ?_
  wp_walk using AutoSeq1.wpAny_loadPart' hl
  refine wpAny_ite_false (decide_eq_false z4) ?_
  wp_walk
  refine wpAny_ite_false (by rw[z5];rfl) ?_
  wp_walk
  exact⟨_,rfl,h⟩
def BS(l:ar)(items:Array ae)(n:Nat)(dd:Option ar)(sl:Array (Option ae))(u:Tok) :
  Meets (aS.«tuple.__mul__» ⟨[.ref l,.int 1 u],[]⟩) (λ_ R s=>s.heap.get? l=some {cls:=.type "tuple",dict:=dd,data:=.seq items n,slots:=sl}/\R (.ok (.ret (ae.ref l))) s):=
 .of_wp λprog w A R s h=>by
  obtain⟨hp,g,d,tk,os⟩:=s;obtain⟨hl,h⟩:=h;have z2:(items.isEmpty || (1:Int)==1)=true:=by simp
  wp_walk using AutoSeq1.wpAny_loadPart' hl
  first|exact⟨_,rfl,h⟩|trace_state
def AY(l:ar)(items:Array ae)(n:Nat)(dd:Option ar)(sl:Array (Option ae))(u:Tok)(he:items.isEmpty=false) :
  Meets (aS.«tuple.__mul__» ⟨[.ref l,.int 0 u],[]⟩) (λ_ R s=>s.heap.get? l=some {cls:=.type "tuple",dict:=dd,data:=.seq items n,slots:=sl}/\
   R (.ok (.ret (ae.ref s.heap.objs.size))) {s with heap:=s.heap.push {cls:=ae.type "tuple",data:=Data.seq #[]},toks:=s.toks}):=
 .of_wp λprog w A R s h=>by
  obtain⟨hp,g,d,tk,os⟩:=s;obtain⟨hl,h⟩:=h;have z2:(items.isEmpty || (0:Int)==1)=false:=by simp[he]
  have z3:(decide ((0:Int)<=0) || items.isEmpty)=true:=by simp
  wp_walk using AutoSeq1.wpAny_loadPart' hl
  first|exact⟨_,rfl,h⟩|trace_state
end PySem
namespace L2
open PySem PySem.Spec PyProof.Rows
section
variable{X:Cx}
def RN(K:Fg):R2:=λx y H Q=>∃(l:ar) (k:Nat) (xs:List V),x=.ref l/\y=.int (k:Nat)/\dA K H l xs/\xs≠[]/\xs.length*k<=av/\(k=1->Q (.ref l) H)/\
 (k≠1->∀p,H p=none->Q (.ref p) (upd H p (.tup (bB k xs).flatten)))
def Qe:lK X (eO .Mult) (RN X.K):=by
 intro pins s σ H x y v u Q I rx ry h;obtain⟨l,k,xs,rfl,rfl,hq,hne,hz,q1,q2⟩:=h;cases rx;obtain⟨t,rfl⟩:=ry;obtain⟨its,r,⟨⟨cls,dd,data,sl⟩,e,hc,n,hd⟩,hl⟩:=I.tuple hq;simp only at hc hd;subst hc hd;have hlen:=r.length;have he:its.toArray.isEmpty=false:=by
  cases its with
  |nil=>simp at hlen;exact absurd hlen hne
  |cons a r'=>rfl
 have hs:its.toArray.size*k<=av:=by rw[aF,<-hlen];exact hz
 have road:aM (model X.prog X.w) X.A (call (.builtin "tuple.__mul__") [.ref l,.int (k:Nat) t]) (EP X pins σ Q) X.xe s->aM (model X.prog X.w) X.A (eO .Mult (.ref l) (.int (k:Nat) t)) (EP X pins σ Q) X.xe s:=λhcall=>
  wpAny_binaryOp_repeat_ref (T:="tuple") (U:="int") (by decide) ⟨_,e,rfl⟩ (λs'=>typeIs_int s' k t) wB F.fills_int_mul F.slot_int_rmul Ei F.slot_int_index.lookup
   (gu F.slot_int_rmul (typeIs_int s k t) F.entry_int_rmul (F.args_int_rmul_2 _ _) (zx k t l its.toArray n dd sl) ⟨e,rfl,⟨_,e,rfl⟩,hcall⟩)
 refine road ?_;by_cases h1:k=1
 ·subst h1;exact gu F.slot_tuple_mul ⟨_,e,rfl⟩ F.entry_tuple_mul (F.args_tuple_mul_2 _ _) (BS l its.toArray n dd sl t) ⟨e,⟨.ref l,H,I,rfl,q1 rfl⟩⟩
 ·have hn:H s.heap.objs.size=none:=I.hok.fresh (aB _);by_cases h0:k=0
  ·subst h0;refine gu F.slot_tuple_mul ⟨_,e,rfl⟩ F.entry_tuple_mul (F.args_tuple_mul_2 _ _) (AY l its.toArray n dd sl t he) ⟨e,⟨.ref s.heap.objs.size,_,?_,rfl,q2 h1 _ hn⟩⟩;exact I.laid (t':=s.toks) (λb o e=>ak _ e) (aB _) ⟨b9 _,[],.nil,⟨_,aO _ rfl,⟨rfl,rfl⟩,_,rfl⟩⟩
  ·have hk64:(k:Int)<2 ^ 63:=by
    have h3:1<=its.toArray.size:=by
     cases its with
     |nil=>simp at he
     |cons a r'=>simp
    have h4:k<=its.toArray.size*k:=Nat.le_mul_of_pos_left k h3;have h5:(av:Nat)<2 ^ 63:=by decide
    lia
   refine gu F.slot_tuple_mul ⟨_,e,rfl⟩ F.entry_tuple_mul (F.args_tuple_mul_2 _ _) (AX l its.toArray n dd sl k t (by lia) hk64 he (by lia) (by lia) (by simpa using hs)) ⟨e,?_⟩;have f0:=Cs its k [];rw[List.nil_append] at f0;have ek:((k:Nat):Int).toNat=k:=by simp
   rw[ek,f0];refine⟨.ref s.heap.objs.size,_,?_,rfl,q2 h1 _ hn⟩;refine I.laid (t':=s.toks) (λb o e=>ak _ e) (aB _) ⟨?_,(bB k its).flatten,r.rep k,⟨_,aO _ rfl,⟨rfl,rfl⟩,_,rfl⟩⟩;rw[P1,lO];exact hz
def DJ:iJ X (.builtin "divmod") (λxs H Q=>∃i j,xs=[.int i,.int j]/\(0<j/\j<2 ^ 64)/\∀p,H p=none->Q (.ref p) (upd H p (.tup [.int (i / j),.int (i % j)]))):=by
 intro pins s σ H xs us Q I r h;obtain⟨i,j,rfl,⟨h1,h2⟩,q⟩:=h;obtain⟨u,w',rfl,⟨t,rfl⟩,⟨t',rfl⟩⟩:=GR r;have hb:j.natAbs.log2<9000:=by
  have h3:j.natAbs.log2<64:=(w4 (by lia)).mpr (by lia);lia
 refine divmod_int (by lia) ?_ (.inl (PyProof.noPylong_of_log2 hb));rw[iG i (by lia),Int.fmod_eq_emod_of_nonneg i (by lia)];have hn:H s.heap.objs.size=none:=I.hok.fresh (aB _);refine⟨.ref s.heap.objs.size,_,?_,rfl,q _ hn⟩;refine I.laid (λb o e=>ak _ e) (aB _) ⟨by simp only[aP,k9];rw[iB];decide,[.int (i / j) s.toks,.int (i % j) (s.toks+1)],.cons ⟨_,rfl⟩ (.cons ⟨_,rfl⟩ .nil),?_⟩;exact⟨_,aO s.heap rfl,⟨rfl,rfl⟩,0,rfl⟩
inductive A3(K:Fg)(H:Hp):V->String->Bool->Prop where
 |int_int (i:Int):A3 K H (.int i) "int" true
 |int_bool (i:Int):A3 K H (.int i) "bool" false
 |int_tuple (i:Int):A3 K H (.int i) "tuple" false
 |str_tuple (x:Str):A3 K H (.str x) "tuple" false
 |tup_tuple {a:ar} {xs:List V} (h:dA K H a xs):A3 K H (.ref a) "tuple" true
 |lst_list {a:ar} {xs:List V} (h:cN K H a xs):A3 K H (.ref a) "list" true
 |str_str (x:Str):A3 K H (.str x) "str" true
 |bl_bool (b:Bool):A3 K H (.bl b) "bool" true
def qW:iJ X (.builtin "isinstance") (λxs H Q=>∃x T b,xs=[x,.ty T]/\A3 X.K H x T b/\Q (.bl b) H):=by
 intro pins s σ H xs us Q I r h;obtain⟨x,T,b,rfl,hi,q⟩:=h;obtain⟨u,w',rfl,r1,r2⟩:=GR r;cases r2;cases hi with
 |int_int i=>obtain⟨t,rfl⟩:=r1;exact IsiPair.int_int ⟨.bl true,H,I,rfl,q⟩
 |int_bool i=>obtain⟨t,rfl⟩:=r1;exact IsiPair.int_bool ⟨.bl false,H,I.tok _,rfl,q⟩
 |int_tuple i=>obtain⟨t,rfl⟩:=r1;exact IsiPair.int_tuple ⟨.bl false,H,I.tok _,rfl,q⟩
 |str_tuple z=>obtain⟨t,rfl⟩:=r1;exact IsiPair.str_tuple ⟨.bl false,H,I.tok _,rfl,q⟩
 |tup_tuple hs=>
  cases r1;obtain⟨its,rv,⟨o,e,hc,_⟩,hz⟩:=I.tuple hs;exact IsiPair.tuple_tuple e hc ⟨.bl true,H,I,rfl,q⟩
 |lst_list hs=>
  cases r1;obtain⟨its,rv,pl,hz⟩:=I.list hs;obtain⟨o,e,hc,_⟩:=pl.isList;exact IsiPair.list_list e hc ⟨.bl true,H,I,rfl,q⟩
 |str_str z=>obtain⟨t,rfl⟩:=r1;exact IsiPair.str_str ⟨.bl true,H,I,rfl,q⟩
 |bl_bool z=>cases r1;exact IsiPair.bool_bool ⟨.bl true,H,I,rfl,q⟩
def Sa(bs:List Bool):(cX bs.length).all (λi=>(bs[i]?).getD false)=bs.all id:=by
 rw[Bool.eq_iff_iff,fQ,fQ];constructor
 ·intro h b hb;obtain⟨i,hi,e⟩:=b7.mp hb;have:=h i (ef.mpr hi);rw[ao hi,iW,e] at this;exact this
 ·intro h i hi;have hi:=ef.mp hi;rw[ao hi,iW];exact h _ (dZ hi)
def m5(hc:X.calm=true):iJ X (.builtin "all") (λxs H Q=>∃(p:ar) (bs:List Bool),xs=[.ref p]/\cN X.K H p (bs.map V.bl)/\Q (.bl (bs.all id)) H):=by
 intro pins s σ H xs us Q I r h;obtain⟨p,bs,rfl,hq,q⟩:=h;obtain⟨u,rfl,rx⟩:=kU r;cases rx;obtain⟨its,rv,pl,hz⟩:=I.list hq;have hlen:=rv.length;rw[af] at hlen;have hlt:p<s.heap.objs.size:=by obtain⟨o,e,_⟩:=pl.isList;exact aI e
 refine call_all_walk (ik pl.isList ?_);refine⟨_,_,_,_,_,_,λi=>(bs[i]?).getD false,rfl,sI.list (A:=X.A.in1) (show X.A.in1.handled=none from I.ok.hd hc) s.heap.objs.size p (a9 hlt) its.toArray,⟨⟨_,aO _ rfl,rfl,rfl⟩,pl.isList.push _⟩,?_,λh' tk hk=>?_⟩
 ·intro i v s' Q' E' hP hQ;have hP':its[i]?=some v:=by
   have:its.toArray[i]?=some v:=hP;simpa using this
  have hi:i<bs.length:=by rw[hlen];exact(aj.mp hP').1
  obtain⟨u,hu,ru⟩:=rv.get (i:=i) (x:=V.bl bs[i]) (by rw[aQ,ao hi];rfl);rw[hP'] at hu;cases hu;cases ru;have hQ':Q' ((bs[i]?).getD false) s':=hQ;rw[ao hi,iW] at hQ';exact fg hQ'
 ·have e:its.toArray.size=bs.length:=by rw[aF,hlen]
  rw[e,Sa];refine⟨.bl _,H,?_,rfl,q⟩;refine I.kept (t':=tk) λb o eb=>?_;refine hk b o (λz=>?_) (ak _ eb);have e2:b=s.heap.objs.size:=by simpa using z
  have h2:=aI eb;rw[e2] at h2;exact cW _ h2
def DL(hc:X.calm=true):iJ X (.builtin "sum") (λxs H Q=>∃(p:ar) (ns:List Int),xs=[.ref p]/\cN X.K H p (ns.map V.int)/\∀z:Int,Q (.int z) H):=by
 intro pins s σ H xs us Q I r h;obtain⟨p,ns,rfl,hq,q⟩:=h;obtain⟨u,rfl,rx⟩:=kU r;cases rx;obtain⟨its,rv,pl,hz⟩:=I.list hq;have intsOf:∀(ns:List Int) (its:List ae),c9 (ns.map V.int) its->∃xs:List (Int×Tok),its=xs.map λp=>ae.int p.1 p.2:=by
  intro ns
  induction ns with
  |nil=>intro its r;cases r;exact⟨[],rfl⟩
  |cons n ns ih=>
   intro its r;cases r with
   |cons r rr=>
    obtain⟨xs,rfl⟩:=ih _ rr;obtain⟨t,rfl⟩:=r;exact⟨(n,t)::xs,rfl⟩
 obtain⟨xs,rfl⟩:=intsOf ns its rv;refine sum_intListG (xs:=xs.toArray) (I.ok.hd hc) ?_ λh' tk t' hk=>⟨.int _,H,I.kept hk,⟨t',rfl⟩,q _⟩;have e:=pl.isList;simpa[ou] using e
end
section
variable{X:Cx}
def vn:∀{ys:List Str} {us:List ae},c9 (ys.map V.str) us->rS us ys
 |[],_,r=>by cases r;exact .nil
 |y::ys,_,r=>by
  cases r with
  |cons r rr=>
   obtain⟨t,rfl⟩:=r;exact .cons _ _ (vn rr)
def ke(K:Fg):V->List V->Hp->VK->Prop:=λx vs H Q=>∃(sep:Str) (p:ar) (ys:List Str),x=.str sep/\vs=[.ref p]/\cN K H p (ys.map V.str)/\(ys.map (·.length)).sum+ys.length*sep.length<=16777216/\Q (.str (Txt.join sep ys)) H
def P7:R0 X "str.join" (ke X.K):=by
 intro pins s σ H x vs v us Q I rx rv h;obtain⟨sep,p,ys,rfl,rfl,hq,hz,q⟩:=h;obtain⟨t,rfl⟩:=rx;obtain⟨u,rfl,ru⟩:=rv.one;cases ru;obtain⟨its,r,pl,_⟩:=I.list hq;exact join_list pl.isList (by simpa using vn r) hz λt' k=>⟨.str _,H,I.tok k,⟨t',rfl⟩,q⟩
end
section
variable{X:Cx}
def sG(xs ys:List V):Bool:=(cX (min xs.length ys.length)).all (λj=>MK ((xs[j]?).getD .non) ((ys[j]?).getD .non))&&xs.length==ys.length
def Q1(K:Fg)(neg:Bool):R2:=λx y H Q=>∃p q xs ys,x=.ref p/\y=.ref q/\dA K H p xs/\dA K H q ys/\xs.all mr=true/\ys.all mr=true/\Q (.bl (if neg then !sG xs ys else sG xs ys)) H
def Jg{A:bu}{s:aq}{xs ys:List V}{us vs:List ae}(r1:c9 xs us)(r2:c9 ys vs)(f1:xs.all mr=true)(f2:ys.all mr=true) :
  ∀j (h1:j<us.toArray.size) (h2:j<vs.toArray.size),SeqAt.EqAt A s us.toArray[j] vs.toArray[j] (MK ((xs[j]?).getD .non) ((ys[j]?).getD .non)):=by
 intro j h1 h2;have l1:=r1.length;have l2:=r2.length;rw[aF] at h1 h2;have j1:j<xs.length:=by lia
 have j2:j<ys.length:=by lia
 obtain⟨u,hu,ru⟩:=r1.get (ao j1);obtain⟨v,hv,rv⟩:=r2.get (ao j2);have eu:us.toArray[j]=u:=by
  have:=ao h1;rw[hu] at this;simpa using(Option.some.inj this).symm
 have ev:vs.toArray[j]=v:=by
  have:=ao h2;rw[hv] at this;simpa using(Option.some.inj this).symm
 rw[eu,ev,ao j1,ao j2,iW,iW];exact MH ru rv (fQ.mp f1 _ (dZ j1)) (fQ.mp f2 _ (dZ j2))
def SN(hu:X.A.units<cLine):lK X (cM .Eq) (Q1 X.K false):=by
 intro pins s σ H x y v u Q I rx ry h;obtain⟨p,q,xs,ys,rfl,rfl,h1,h2,f1,f2,qq⟩:=h;cases rx;cases ry;obtain⟨us,r1,t1,_⟩:=I.tuple h1;obtain⟨vs,r2,t2,_⟩:=I.tuple h2;refine SeqAt.eq_tupleAt (show s.heap.IsTuple p us.toArray from t1) (show s.heap.IsTuple q vs.toArray from t2) hu (Jg r1 r2 f1 f2) ⟨.bl (sG xs ys),H,I,?_,qq⟩;show ae.bool _=ae.bool _;unfold sG;rw[aF,aF,r1.length,r2.length]
def RL(K:Fg):R2:=λx y H Q=>∃p xs z,x=.ref p/\y=.str z/\dA K H p xs/\Q (.bl false) H
def Qd(hu:X.A.units<cLine):lK X (cM .Eq) (RL X.K):=by
 intro pins s σ H x y v u Q I rx ry h;obtain⟨p,xs,z,rfl,rfl,h1,qq⟩:=h;cases rx;obtain⟨t,rfl⟩:=ry;obtain⟨us,r1,t1,_⟩:=I.tuple h1;exact SeqAt.RcAt.tuple_str z t (show s.heap.IsTuple p us.toArray from t1) hu X.prog X.w X.xe _ ⟨.bl false,H,I,rfl,qq⟩
def SS(hu:X.A.units<cLine):lK X (cM .NotEq) (Q1 X.K true):=by
 intro pins s σ H x y v u Q I rx ry h;obtain⟨p,q,xs,ys,rfl,rfl,h1,h2,f1,f2,qq⟩:=h;cases rx;cases ry;obtain⟨us,r1,t1,_⟩:=I.tuple h1;obtain⟨vs,r2,t2,_⟩:=I.tuple h2;refine SeqAt.RcNeAt.tuples (show s.heap.IsTuple p us.toArray from t1) (show s.heap.IsTuple q vs.toArray from t2) hu (Jg r1 r2 f1 f2) X.prog X.w X.xe _ ⟨.bl (!sG xs ys),H,I,?_,qq⟩;show ae.bool _=ae.bool _;unfold sG;rw[aF,aF,r1.length,r2.length]
end
section
variable{X:Cx}
def Q0(K:Fg)(neg:Bool):R2:=λx y H Q=>∃p q xs ys,x=.ref p/\y=.ref q/\cN K H p xs/\cN K H q ys/\xs.all mr=true/\ys.all mr=true/\Q (.bl (if neg then !sG xs ys else sG xs ys)) H
def Fo{xs ys:List V}(h:xs.length=ys.length):sG xs ys=(cX xs.length).all (λj=>MK ((xs[j]?).getD .non) ((ys[j]?).getD .non)):=by
 unfold sG;rw[<-h,Nat.min_self];simp
def Jp{xs ys:List V}(h:¬xs.length=ys.length):sG xs ys=false:=by
 unfold sG;rw[Bool.and_eq_false_iff];right;simpa using h
def SM(hu:X.A.units<cLine):lK X (cM .Eq) (Q0 X.K false):=by
 intro pins s σ H x y v u Q I rx ry h;obtain⟨p,q,xs,ys,rfl,rfl,h1,h2,f1,f2,qq⟩:=h;cases rx;cases ry;obtain⟨us,r1,t1,_⟩:=I.list h1;obtain⟨vs,r2,t2,_⟩:=I.list h2;have l1:=r1.length;have l2:=r2.length;by_cases c:xs.length=ys.length
 ·refine SeqAt.eq_listAt t1.isList t2.isList (by rw[aF,aF];lia) hu (Jg r1 r2 f1 f2) ⟨.bl (sG xs ys),H,I,?_,qq⟩;show ae.bool _=ae.bool _;rw[Fo c,aF,l1]
 ·refine SeqAt.eq_list_lengthsAt t1.isList t2.isList (by rw[aF,aF];simp;lia) hu ⟨.bl (sG xs ys),H,I,?_,qq⟩;show ae.bool _=ae.bool _;rw[Jp c]
def SR(hu:X.A.units<cLine):lK X (cM .NotEq) (Q0 X.K true):=by
 intro pins s σ H x y v u Q I rx ry h;obtain⟨p,q,xs,ys,rfl,rfl,h1,h2,f1,f2,qq⟩:=h;cases rx;cases ry;obtain⟨us,r1,t1,_⟩:=I.list h1;obtain⟨vs,r2,t2,_⟩:=I.list h2;have l1:=r1.length;have l2:=r2.length;by_cases c:xs.length=ys.length
 ·refine SeqAt.RcNeAt.lists t1.isList t2.isList (by rw[aF,aF];lia) hu (Jg r1 r2 f1 f2) X.prog X.w X.xe _ ⟨.bl (!sG xs ys),H,I,?_,qq⟩;show ae.bool _=ae.bool _;rw[Fo c,aF,l1]
 ·refine SeqAt.RcNeAt.lists_lengths t1.isList t2.isList (by rw[aF,aF];simp;lia) hu X.prog X.w X.xe _ ⟨.bl (!sG xs ys),H,I,?_,qq⟩;show ae.bool _=ae.bool _;rw[Jp c];rfl
end
section
variable{prog:aZ}{w:bK}{A:bu}{E:Zi}
def zu{it t:ar}{items:Array ae}(hne:t≠it):∀(n i:Nat) (s:aq) (Q:List ae->aq->Prop),s.heap.IsListIter it t i->s.heap.IsList t items->i+n<=items.size->
  (∀h':Heap,h'.IsListIter it t (i+n)->Heap.SameBut it s.heap h'->Q ((items.toList.drop i).take n) {s with heap:=h'})->aM (model prog w) A (draw (.ref it) n) Q E s
 |0,i,s,Q,hit,_,_,hQ=>by
  show aM _ _ (pure []) Q E s;exact az (by simpa using hQ s.heap hit (Heap.SameBut.refl ..))
 |n+1,i,s,Q,hit,ht,hle,hQ=>by
  have hlt:i<items.size:=by lia
  show aM _ _ (kh (.ref it) >>= _) Q E s;refine aa (wpAny_pyNext_list_item hit ht (x:=items[i]) (by simp[hlt]) λh₁ hit₁ hs₁=>?_);refine aa (bW (zu hne n (i+1) _ _ hit₁ (ht.extBut hs₁.extBut hne) (by lia) λh₂ hit₂ hs₂=>az ?_));have hd:items.toList.drop i=items[i]::items.toList.drop (i+1):=by simp[List.drop_eq_getElem_cons,hlt]
  have:=hQ h₂ (by rw[show i+(n+1)=i+1+n by lia];exact hit₂) (hs₁.trans hs₂);rw[hd,List.take_succ_cons] at this;exact this
def vE{s:aq}{t:ar}{items:Array ae}{Q:List ae->aq->Prop}(hh:A.handled=none)(ht:s.heap.IsList t items)
  (hQ:∀h':Heap,Heap.ExtBut s.heap.objs.size s.heap h'->Q items.toList {s with heap:=h'}):aM (model prog w) A (unpackItems (.ref t) items.size none) Q E s:=by
 have hlt:t≠s.heap.objs.size:=by obtain⟨o,ho,_⟩:=ht;exact a9 (aI ho)
 unfold unpackItems;refine aa ?_
 ·unfold notIterableAtAll;refine aa (kZ ht.typeIs slot_list_iter.lookup ?_);refine az ?_;simp only[Bool.false_eq_true,if_false];refine aa (bW (ik ht ?_));refine aa (bW (zu hlt items.size 0 _ _ ⟨_,aO _ rfl,rfl,rfl⟩ (ht.push _) (by lia) λh₁ hit₁ hs₁=>?_));have hall:List.take items.size (List.drop 0 items.toList)=items.toList:=by
   rw[qL];exact bA (by simp)
  rw[hall];rw[if_neg (by simp)];have ht₁:h₁.IsList t items:=(ht.push _).extBut hs₁.extBut hlt;refine aa (bW (wpAny_pyNext_list_end hh hit₁ ht₁ (by simp) λh₂ he₂=>?_));simp only[Option.isSome_none,Bool.false_eq_true,if_false];refine az (hQ h₂ λb o hb e=>he₂ b o hb (hs₁.extBut b o hb (ak _ e)))
end
section
variable{X:Cx}{pos:Pos}
def MT(K:Fg)(n:Nat)(t:Kc):TG:=λv σ H Q=>∃a xs,v=.ref a/\cN K H a xs/\xs.length=n/\t xs σ H Q
def Qo{es:List Expr}{k:Nat}{t:Kc}{n:Nat}(hc:X.calm=true)(h:Uo X es t)
  (hn:(eF es X.env).length=n:=by rfl) (hst:(eF es X.env).findIdx? (·.1)=none:=by rfl):PG X (.Tuple es k pos) (MT X.K n t):=by
 intro pins s σ H v u Q I r hw;obtain⟨a,xs,e1,hq,hl,hw⟩:=hw;subst e1;cases r;obtain⟨its,rv,ht,hz⟩:=I.list hq;rw[assign_Tuple];refine aa (hZ ?_);unfold unpack;have e:(eF es X.env).length=its.toArray.size:=by simp[hn,<-hl,rv.length]
 rw[e,hst];refine aa (bW (vE (I.ok.hd hc) ht.isList λh' hx=>?_));have I1:bZ X pins σ H {s with heap:=h'}:=I.kept (t':=s.toks) λb o e=>hx b o (a9 (aI e)) e;exact h pins _ σ H xs _ Q I1 (by simpa using rv) hw
end
def Vd:R2:=λx y H Q=>∃i j,x=.str i/\y=.str j/\i.length+j.length<=av/\Q (.str (i++j)) H
def d9(K:Fg):R2:=λx y H Q=>LR (λi j=>.int (i+j)) x y H Q\/(Vd x y H Q\/(U2 x y H Q\/RJ K x y H Q))
def Ac:R2:=LR λi j=>.int (i-j)
def lE(K:Fg):R2:=λx y H Q=>rI O1 (λi j=>.int (i*j)) x y H Q\/RN K x y H Q
def mB:R2:=rI (λ_ j=>0<j) λi j=>.int (i % j)
def HY:R2:=rI Us λi j=>.int (i / j)
def sS:R2:=rI Ut λi j=>.int (i ^ j.toNat)
def fb(K:Fg):R2:=λx y H Q=>V1 x y H Q\/(Q1 K false x y H Q\/(RL K x y H Q\/Q0 K false x y H Q))
def FY(K:Fg):R2:=λx y H Q=>V2 x y H Q\/(Q1 K true x y H Q\/Q0 K true x y H Q)
def sH:R2:=LR λi j=>.bl (decide (i<j))
def FV:R2:=LR λi j=>.bl (decide (j<i))
def TM:R2:=LR λi j=>.bl (decide (j<=i))
def U3:R2:=λx y H Q=>y=.non/\Q (.bl (decide (x=.non))) H
def RM:R2:=λx y H Q=>y=.non/\Q (.bl (!decide (x=.non))) H
def N5:V->Hp->VK->Prop:=rU λi=>.int (-i)
def F1(K:Fg):V->Option Int->Option Int->Hp->VK->Prop:=λx lo hi H Q=>Va K x lo hi H Q\/Vc K x lo hi H Q
def gA(K:Fg):List V->Hp->VK->Prop:=λxs H Q=>∃x n,xs=[x]/\L6 K x H n/\Q (.int n) H
def QZ:List V->Hp->VK->Prop:=λxs H Q=>∃i j,xs=[.int i,.int j]/\(0<j/\j<2 ^ 64)/\∀p,H p=none->Q (.ref p) (upd H p (.tup [.int (i / j),.int (i % j)]))
def U7:List V->Hp->VK->Prop:=λxs H Q=>∃i j,xs=[.int i,.int j]/\Q (.int (if j>i then j else i)) H
def U8:List V->Hp->VK->Prop:=λxs H Q=>∃i j,xs=[.int i,.int j]/\Q (.int (if j<i then j else i)) H
def VL(K:Fg):List V->Hp->VK->Prop:=λxs H Q=>∃(p:ar) (ns:List Int),xs=[.ref p]/\cN K H p (ns.map V.int)/\∀z:Int,Q (.int z) H
def NX(K:Fg):List V->Hp->VK->Prop:=λxs H Q=>∃(p:ar) (bs:List Bool),xs=[.ref p]/\cN K H p (bs.map V.bl)/\Q (.bl (bs.all id)) H
def N3(K:Fg):List V->Hp->VK->Prop:=λxs H Q=>∃x T b,xs=[x,.ty T]/\A3 K H x T b/\Q (.bl b) H
def N2:List V->Hp->VK->Prop:=λxs H Q=>(∃i,xs=[.int i]/\Q (.int i) H)\/∃k,xs=[.bl k]/\Q (.int (if k then 1 else 0)) H
def so(K:Fg):List V->Hp->VK->Prop:=λxs H Q=>∃p ys,xs=[.ref p]/\(cN K H p ys\/dA K H p ys)/\∀l,H l=none->Q (.ref l) (upd H l (.lst ys))
def hV(K:Fg):List V->Hp->VK->Prop:=λxs H Q=>∃p ys,xs=[.ref p]/\((cN K H p ys/\∀l,H l=none->Q (.ref l) (upd H l (.tup ys)))\/(dA K H p ys/\Q (.ref p) H))
def jR(K:Fg)(tl:TE):TI:=λσ H R=>Rx K tl σ H R\/UF K tl σ H R
section
variable{X:Cx}
def cx:lK X (eO .Add) (d9 X.K):=SK.or (HQ.or (SL.or Qb))
def iL:lK X (eO .Mult) (lE X.K):=SQ.or Qe
def cw(hu:X.A.units<cLine):lK X (cM .Eq) (fb X.K):=UN.or ((SN hu).or ((Qd hu).or (SM hu)))
def ue(hu:X.A.units<cLine):lK X (cM .NotEq) (FY X.K):=UO.or ((SS hu).or (SR hu))
def ju:Kb X (F1 X.K):=Rc.or T9
def Th{tg l:Expr}{tl:TE}(hl:PE X l tl):PI X tg l (jR X.K tl):=by
 intro pins s σ H R I h;rcases h with h|h
 ·exact Qr hl pins s σ H R I h
 ·exact Tj hl pins s σ H R I h
end
structure cP(P:aZ)(w:bK)(K:Fg)(mg:Str->Option ae)(base:Heap)(x:Str)(ps:List Str)(k:Nat)(sp:Sp):Prop where
 ex:∃(f:ar) (fd:dR),mg x=some (.ref f)/\cI K (.ref f)=true/\qf K fd ps []/\oF P w K mg base Dl k f fd ps sp
def US{X:Cx}{x:Str}{ps:List Str}{k:Nat}{sp:Sp}{e:Expr}{es:List Expr}{t:TA}{p pos:Pos}(c:cP X.prog X.w X.K X.mg X.base x ps k sp)(hr:gW k X.A)(hg:Gl X x)(ha:PA X (e::es) t)
  (hdb:(x==("__debug__":Str))=false:=by decide) (he:aT (e::es) X.env=(false,eval e X.env)::aT es X.env:=by rfl) (hpl:(eW pos (aT es X.env)).any (·.1)=false:=by rfl) :
  PE X (.Call (.Name x p) (e::es) [] pos) (bE sp [] E0 t):=by
 obtain⟨f,fd,hm,hk,hb,F⟩:=c.ex;exact JB F hr hg hm hk hb .nil UP ha hdb he hpl
structure kG(mg:Str->Option ae):Prop where
 len_:mg "len"=none
 range_:mg "range"=none
 divmod_:mg "divmod"=none
 max_:mg "max"=none
 min_:mg "min"=none
 sum_:mg "sum"=none
 all_:mg "all"=none
 isinstance_:mg "isinstance"=none
 int_:mg "int"=none
 bool_:mg "bool"=none
 list_:mg "list"=none
 tuple_:mg "tuple"=none
 enumerate_:mg "enumerate"=none
 zip_:mg "zip"=none
 sorted_:mg "sorted"=none
 set_:mg "set"=none
 dict_:mg "dict"=none
 str_:mg "str"=none
 any_:mg "any"=none
 reversed_:mg "reversed"=none
 abs_:mg "abs"=none
def gc(a:ar)(H H':Hp):Prop:=∀b o,b≠a->H b=some o->H' b=some o
def gc.refl(a:ar)(H:Hp):gc a H H:=λ_ _ _ h=>h
def gc.trans{a:ar}{H H1 H2:Hp}(x:gc a H H1)(y:gc a H1 H2):gc a H H2:=λc o n h=>y c o n (x c o n h)
def aK.but{a:ar}{H H':Hp}(x:aK H H'):gc a H H':=λb o _ h=>x b o h
def gc.upd_at{a:ar}{H:Hp}{o:HO}:gc a H (upd H a o):=λb u n h=>by rw[aL n];exact h
def gc.new{a p:ar}{H H1:Hp}{o:HO}(x:gc a H H1)(hp:H1 p=none):gc a H (upd H1 p o):=λb u n h=>by
 rw[aL (aC (x b u n h) hp)];exact x b u n h
def aK.new{p:ar}{H H1:Hp}{o:HO}(x:aK H H1)(hp:H1 p=none):aK H (upd H1 p o):=λb u h=>by
 rw[aL (aC (x b u h) hp)];exact x b u h
def gc.free{a p:ar}{H H':Hp}(x:gc a H H')(n:p≠a)(h:H' p=none):H p=none:=by
 cases q:H p with
 |none=>rfl
 |some o=>rw[x p o n q] at h;cases h
def zp{js:List Nat}{k:Nat}{lo:Int}{n:Nat}{g:TG}{tc:TT}{te:TE}{R:Hp->Prop}{σ:St}{H:Hp}{D:ar}(Pv:Nat->St->Hp->Prop)(h0:Pv 0 (EE js k σ) (upd H D (.lst [])))
  (hs:∀i σ H,i<n->Pv i σ H->g (.int (lo+i)) σ H λσ2 H2=>uq D tc te {nx:=Pv (i+1),rt:=λ_ _=>False,ct:=Pv (i+1),bk:=λ_ H'=>R H'} σ2 H2) (hd:∀σ H,Pv n σ H->R H) :
  ∃W:Nat->Nat->St->Hp->Prop,(∃m,W 0 m (EE js k σ) (upd H D (.lst [])))/\∀i m σ H,W i m σ H->
   ((O6 lo n).stop i H/\R H)\/((O6 lo n).go i H/\∃N:St->Hp->Prop,(∀σ' H',N σ' H'->∃m',m'<m/\W (i+1) m' σ' H')/\∀x H',(O6 lo n).yld i H x H'->g x σ H' λσ2 H2=>uq D tc te {nx:=N,rt:=λ_ _=>False,ct:=N,bk:=λ_ H'=>R H'} σ2 H2):=
 oN (D:={nx:=λ_ H'=>R H',rt:=λ_ _=>False}) Pv h0 hs hd
def jB{js:List Nat}{k:Nat}{K:Fg}{a:ar}{xs:List V}{g:TG}{tc:TT}{te:TE}{R:Hp->Prop}{σ:St}{H:Hp}{D:ar}(Pv:Nat->St->Hp->Prop)(h0:Pv 0 (EE js k σ) (upd H D (.lst [])))(hl:∀i σ H,i<=xs.length->Pv i σ H->cN K H a xs)
  (hs:∀i x σ H,xs[i]?=some x->Pv i σ H->g x σ H λσ2 H2=>uq D tc te {nx:=Pv (i+1),rt:=λ_ _=>False,ct:=Pv (i+1),bk:=λ_ H'=>R H'} σ2 H2) (hd:∀σ H,Pv xs.length σ H->R H) :
  ∃W:Nat->Nat->St->Hp->Prop,(∃m,W 0 m (EE js k σ) (upd H D (.lst [])))/\∀i m σ H,W i m σ H->
   ((Rn K a).stop i H/\R H)\/((Rn K a).go i H/\∃N:St->Hp->Prop,(∀σ' H',N σ' H'->∃m',m'<m/\W (i+1) m' σ' H')/\∀x H',(Rn K a).yld i H x H'->g x σ H' λσ2 H2=>uq D tc te {nx:=N,rt:=λ_ _=>False,ct:=N,bk:=λ_ H'=>R H'} σ2 H2):=
 qY (D:={nx:=λ_ H'=>R H',rt:=λ_ _=>False}) Pv h0 hl hs hd
def uS{js:List Nat}{k:Nat}{K:Fg}{a:ar}{xs:List V}{g:TG}{tc:TT}{te:TE}{R:Hp->Prop}{σ:St}{H:Hp}{D:ar}(Pv:Nat->St->Hp->Prop)(h0:Pv 0 (EE js k σ) (upd H D (.lst [])))(hl:∀i σ H,i<=xs.length->Pv i σ H->dA K H a xs)
  (hs:∀i x σ H,xs[i]?=some x->Pv i σ H->g x σ H λσ2 H2=>uq D tc te {nx:=Pv (i+1),rt:=λ_ _=>False,ct:=Pv (i+1),bk:=λ_ H'=>R H'} σ2 H2) (hd:∀σ H,Pv xs.length σ H->R H) :
  ∃W:Nat->Nat->St->Hp->Prop,(∃m,W 0 m (EE js k σ) (upd H D (.lst [])))/\∀i m σ H,W i m σ H->
   ((Ro K a).stop i H/\R H)\/((Ro K a).go i H/\∃N:St->Hp->Prop,(∀σ' H',N σ' H'->∃m',m'<m/\W (i+1) m' σ' H')/\∀x H',(Ro K a).yld i H x H'->g x σ H' λσ2 H2=>uq D tc te {nx:=N,rt:=λ_ _=>False,ct:=N,bk:=λ_ H'=>R H'} σ2 H2):=
 kJ (D:={nx:=λ_ H'=>R H',rt:=λ_ _=>False}) Pv h0 hl hs hd
def gc.through{a l:ar}{H H1 H2:Hp}{o:HO}(x:gc a H H1)(hl:H1 l=none)(y:gc l (upd H1 l o) H2):gc a H H2:=λb u n h=>by
 have h1:=x b u n h;have nl:b≠l:=aC h1 hl;exact y b u nl (by rw[aL nl];exact h1)
structure QE(X:Cx)(e:Expr)(t:TE):Prop where
 up:PE X e t
structure QT(X:Cx)(e:Expr)(t:TT):Prop where
 up:PT X e t
structure QW(X:Cx)(e:Expr)(t:TT):Prop where
 up:PW X e t
structure QA(X:Cx)(e:List Expr)(t:TA):Prop where
 up:PA X e t
structure QS(X:Cx)(e:Stmt)(t:TS):Prop where
 up:PS X e t
structure LQ(X:Cx)(e:List Stmt)(t:TS):Prop where
 up:Cb X e t
structure QG(X:Cx)(e:Expr)(t:TG):Prop where
 up:PG X e t
structure UA(X:Cx)(e:List Expr)(t:Kc):Prop where
 up:Uo X e t
structure QI(X:Cx)(a b:Expr)(t:TI):Prop where
 up:PI X a b t
structure QO(X:Cx)(e:Option Expr)(t:TO):Prop where
 up:PO X e t
structure Ka(X:Cx)(e:List Expr)(t:TT):Prop where
 up:J5 X e t
def qv(i:Nat){x:Str}{pos:Pos}(hN:X.N[i]?=some x:=by rfl)(hv:Vp X.env.scope x:=by first|exact Or.inl rfl|exact Or.inr (Or.inl rfl)|exact Or.inr (Or.inr rfl))(hd:(x==("__debug__":Str))=false:=by decide)(hcd:(x==("__classdict__":Str))=false:=by decide):QE X (.Name x pos) (au i):=
 ⟨pv i hN hv hd hcd⟩
def aw{i j pos}:QE X (.Constant (.int i) j pos) (tC (.int i)):=
 ⟨S0 ⟩
def lL{b j pos}:QE X (.Constant (.bool b) j pos) (tC (.bl b)):=
 ⟨UQ ⟩
def lC{j pos}:QE X (.Constant .none j pos) (tC .non):=
 ⟨NF ⟩
def aR{x j pos}:QE X (.Constant (.str x) j pos) (tC (.str x)):=
 ⟨Tc ⟩
def bR{op:Operator}{r:R2}(ho:lK X (eO op) r)(ha:QE X a ta)(hb:QE X b tb):QE X (.BinOp a op b pos) (bq r ta tb):=
 ⟨UU ho ha.up hb.up⟩
def FT{op:UnaryOp}{r:V->Hp->VK->Prop}(ho:Vo X (unaryOp op) r)(ha:QE X a ta):QE X (.UnaryOp op a pos) (Ue r ta):=
 ⟨UW ho ha.up⟩
def TH(ha:QE X a ta):QE X (.UnaryOp .Not a pos) (OA ta):=
 ⟨Ta ha.up⟩
def gG{op:CmpOp}{r:R2}(ho:lK X (cM op) r)(ha:QE X a ta)(hb:QE X b tb)(hm:nA op b=false):QE X (.Compare a [op] [b] pos) (bq r ta tb):=
 ⟨Qh ho ha.up hb.up hm⟩
def uh{rest:List Expr}(ha:QE X a ta)(hb:QE X (.BoolOp .And (b::rest) pos) tb):QE X (.BoolOp .And (a::b::rest) pos) (vo ta tb):=
 ⟨SW ha.up hb.up⟩
def U0{rest:List Expr}(ha:QE X a ta)(hb:QE X (.BoolOp .Or (b::rest) pos) tb):QE X (.BoolOp .Or (a::b::rest) pos) (Uc ta tb):=
 ⟨UV ha.up hb.up⟩
def uk{op}{t:TE}(h:QE X a t):QE X (.BoolOp op [a] pos) t:=
 ⟨Tb h.up⟩
def NT{c:Expr}(hc:QT X c tA)(ha:QE X a ta)(hb:QE X b tb):QE X (.IfExp c a b pos) (VO tA ta tb):=
 ⟨NC hc.up ha.up hb.up⟩
def eB{lo hi:Option Expr}{r:V->Option Int->Option Int->Hp->VK->Prop}(hr:Kb X r)(he:QE X e te)(hl:QO X lo tl)(hu:QO X hi th):QE X (.Subscript e (.Slice lo hi none p2) pos) (As r te tl th):=
 ⟨NH hr he.up hl.up hu.up⟩
def UZ{r:R2}(hr:OW X r)(ha:QE X a ta)(hb:QE X b tb)(hs:DA b):QE X (.Subscript a b pos) (bq r ta tb):=
 ⟨UT hr ha.up hb.up hs⟩
def cy{x1}(h:QA X es t):QE X (.Tuple es x1 pos) (e6 t):=
 ⟨Td h.up⟩
def d7(h:QA X es t):QE X (.List es pos) (iO t):=
 ⟨S9 h.up⟩
def zZ{id:String}(pa:tR T)(slot:Slot T name id)(hty:typeOf (.builtin id)=pure (.type "method_descriptor"))(hm:R0 X id r)(ho:QE X o to)(ha:QA X (e::es) t)(hbase:eM o name X.env (eval o X.env)=eval o X.env:=by rfl)(hfew:((eW cpos (aT (e::es) X.env)).all (λx=>!x.1)&&(lZ cpos (iA [] X.env)).all (λx=>x.1.isSome)
   && decide ((e::es).length+([]:List iS).length+(if([]:List iS).isEmpty then 0 else 1)<30))=true:=by rfl) (hline:(apos.endLine==cpos.line)=true:=by rfl) (hs:aT (e::es) X.env=(false,eval e X.env)::aT es X.env:=by rfl) (hplain:(eW cpos (aT es X.env)).any (·.1)=false:=by rfl):QE X (.Call (.Attribute o name apos) (e::es) [] cpos) (qt X.K T r to t):=
 ⟨UR pa slot hty hm ho.up ha.up hbase hfew hline hs hplain⟩
def NQ{id:String}(pa:tR T)(slot:Slot T name id)(hty:typeOf (.builtin id)=pure (.type "method_descriptor"))(hm:R0 X id r)(ho:QE X o to)(hbase:eM o name X.env (eval o X.env)=eval o X.env:=by rfl)(hline:(apos.endLine==cpos.line)=true:=by rfl):QE X (.Call (.Attribute o name apos) [] [] cpos) (Rh X.K T r to):=
 ⟨SX pa slot hty hm ho.up hbase hline⟩
def eS{id:String}(hc:iJ X (.builtin id) r)(hg:Gl X x)(hm:X.mg x=none)(hv:fE x=some (.builtin id))(ha:QA X (e::es) t)(hn:x≠"__name__":=by decide)(hdb:(x==("__debug__":Str))=false:=by decide)(he:aT (e::es) X.env=(false,eval e X.env)::aT es X.env:=by rfl)(hpl:(eW pos (aT es X.env)).any (·.1)=false:=by rfl):QE X (.Call (.Name x p) (e::es) [] pos) (fS r t):=
 ⟨NA hc hg hm hv ha.up hn hdb he hpl⟩
def cv(hc:iJ X (.type T) r)(hg:Gl X x)(hm:X.mg x=none)(hv:fE x=some (.type T))(ha:QA X (e::es) t)(hn:x≠"__name__":=by decide)(hdb:(x==("__debug__":Str))=false:=by decide)(he:aT (e::es) X.env=(false,eval e X.env)::aT es X.env:=by rfl)(hpl:(eW pos (aT es X.env)).any (·.1)=false:=by rfl):QE X (.Call (.Name x p) (e::es) [] pos) (fS r t):=
 ⟨K8 hc hg hm hv ha.up hn hdb he hpl⟩
def RI{X:Cx}{x:Str}{ps:List Str}{k:Nat}{sp:Sp}{e:Expr}{es:List Expr}{t:TA}{p pos:Pos}(c:cP X.prog X.w X.K X.mg X.base x ps k sp)(hr:gW k X.A)(hg:Gl X x)(ha:QA X (e::es) t)(hdb:(x==("__debug__":Str))=false:=by decide)(he:aT (e::es) X.env=(false,eval e X.env)::aT es X.env:=by rfl)(hpl:(eW pos (aT es X.env)).any (·.1)=false:=by rfl):QE X (.Call (.Name x p) (e::es) [] pos) (bE sp [] E0 t):=
 ⟨US c hr hg ha.up hdb he hpl⟩
def QK{wi:TI}(ok:tV sc N scope NY js)(hsc:X.env.scope=sc)(hN:X.N=N)(hk:NY.length=N.length+k)(hc:X.calm=true)(hit:QI X target iter wi)(hg:∀cl C s₀ H₀ fp,QG (eJ X NY scope cl C s₀ H₀ fp) target g)(hi:∀cl C s₀ H₀ fp,Ka (eJ X NY scope cl C s₀ H₀ fp) ifs tc)(he:∀cl C s₀ H₀ fp,QE (eJ X NY scope cl C s₀ H₀ fp) elt te)(hs:∀x,eP iter X.env x=pure x:=by intro _;rfl):QE X (.ListComp elt [⟨target,iter,ifs,0⟩] scope pos) (hW js k wi g tc te):=
 ⟨Qi ok hsc hN hk hc hit.up (λcl C s₀ H₀ fp=>(hg cl C s₀ H₀ fp).up) (λcl C s₀ H₀ fp=>(hi cl C s₀ H₀ fp).up) (λcl C s₀ H₀ fp=>(he cl C s₀ H₀ fp).up) hs⟩
def QY{wi:TI}{i:Nat}{y:Str}{py spos:Pos}(ok:tV sc N scope NY js)(hsc:X.env.scope=sc)(hN:X.N=N)(hk:NY.length=N.length+k)(hc:X.calm=true)(hit:QI X target iter wi)(hg:∀cl C s₀ H₀ fp,QG (eJ X NY scope cl C s₀ H₀ fp) target g)(hi:∀cl C s₀ H₀ fp,Ka (eJ X NY scope cl C s₀ H₀ fp) ifs tc)(he:∀cl C s₀ H₀ fp,QE (eJ X NY scope cl C s₀ H₀ fp) elt te)(nd:X.N.Nodup)(hy:X.N[i]?=some y)(hl:L7 X.env.scope y)(hsw:iT (.ListComp elt [⟨target,iter,ifs,0⟩] scope pos) (some (.Name y py)) spos.line X.env=pure true)(hs:∀x,eP iter X.env x=pure x:=by intro _;rfl)(hf:X.fn y=true\/X.env.scope.names.lookup y=some .local:=by first|exact .inl rfl|exact .inr rfl|assumption):QS X (.Assign [.Name y py] (.ListComp elt [⟨target,iter,ifs,0⟩] scope pos) spos) (cu (hW js k wi g tc te) (aW i)):=
 ⟨Qz ok hsc hN hk hc hit.up (λcl C s₀ H₀ fp=>(hg cl C s₀ H₀ fp).up) (λcl C s₀ H₀ fp=>(hi cl C s₀ H₀ fp).up) (λcl C s₀ H₀ fp=>(he cl C s₀ H₀ fp).up) nd hy hl hsw hs hf⟩
def e8 :QO X none eU:=
 ⟨Qw ⟩
def e9(h:QE X e te):QO X (some e) (iP te):=
 ⟨Qx h.up⟩
def i6 :QA X [] aJ:=
 ⟨SU ⟩
def aA(ha:QE X e te)(hr:QA X es t)(hs:aT (e::es) X.env=(false,eval e X.env)::aT es X.env:=by rfl):QA X (e::es) (ai te t):=
 ⟨Qf ha.up hr.up hs⟩
def aU{op:CmpOp}{r:R2}(ho:lK X (cM op) r)(ha:QE X a ta)(hb:QE X b tb)(hm:nA op b=false):QT X (.Compare a [op] [b] pos) (bH (bq r ta tb)):=
 ⟨QH ho ha.up hb.up hm⟩
def um(ha:QT X a tA):QT X (.UnaryOp .Not a pos) (Ep tA):=
 ⟨Tv ha.up⟩
def eT{rest:List Expr}(ha:QT X a tA)(hb:QW X (.BoolOp .And (b::rest) pos) tB'):QW X (.BoolOp .And (a::b::rest) pos) (jv tA tB'):=
 ⟨Tx ha.up hb.up⟩
def fM(ha:QT X a tA):QW X (.BoolOp .And [a] pos) tA:=
 ⟨QJ ha.up⟩
def rz{rest:List Expr}(ha:QT X a tA)(hb:QW X (.BoolOp .Or (b::rest) pos) tB'):QW X (.BoolOp .Or (a::b::rest) pos) (Lr tA tB'):=
 ⟨UY ha.up hb.up⟩
def pQ(ha:QT X a tA):QW X (.BoolOp .Or [a] pos) tA:=
 ⟨Tz ha.up⟩
def QW.pt{X:Cx}{e:Expr}{t:TT}(h:QW X e t):QT X e t:=
 ⟨PW.pt h.up⟩
def fL{e:Expr}{t:TE}(h:QE X e t)(he:∀whole,isTrue e X.env whole=(do let v <-whole;standAt e.pos;holding [v] (truthy v)):=by intro _;rfl):QT X e (tB t):=
 ⟨Tw h.up he⟩
def lV{a:Expr}{ta:TA}{p pos:Pos}(hg:Gl X "range")(hm:X.mg "range"=none)(ha:QA X [a] ta)(hs:aT [a] X.env=[(false,eval a X.env)]:=by rfl):QI X tg (.Call (.Name "range" p) [a] [] pos) (xr ta):=
 ⟨Lb hg hm ha.up hs⟩
def yI{a:Expr}{ta:TA}{p pos:Pos}(hg:Gl X "enumerate")(hm:X.mg "enumerate"=none)(ha:QA X [a] ta)(hs:aT [a] X.env=[(false,eval a X.env)]:=by rfl):QI X (.Tuple elts k tpos) (.Call (.Name "enumerate" p) [a] [] pos) (Cv X.K ta):=
 ⟨Qq hg hm ha.up hs⟩
def TJ{a b:Expr}{ta:TA}{p pos:Pos}(hg:Gl X "zip")(hm:X.mg "zip"=none)(ha:QA X [a,b] ta)(hs:aT [a,b] X.env=[(false,eval a X.env),(false,eval b X.env)]:=by rfl)(hs2:aT [b] X.env=[(false,eval b X.env)]:=by rfl):QI X (.Tuple elts k tpos) (.Call (.Name "zip" p) [a,b] [] pos) (Sm X.K ta):=
 ⟨Tn hg hm ha.up hs hs2⟩
def fz{tg l:Expr}{tl:TE}(hl:QE X l tl):QI X tg l (jR X.K tl):=
 ⟨Th hl.up⟩
def QR{i:Nat}{x:Str}(hN:X.N.Nodup)(hi:X.N[i]?=some x)(hx:L7 X.env.scope x)(hf:X.fn x=true\/X.env.scope.names.lookup x=some .local:=by first|exact .inl rfl|exact .inr rfl|assumption):QG X (.Name x pos) (aW i):=
 ⟨Qn hN hi hx hf⟩
def mz{es:List Expr}{k:Nat}{t:Kc}{n:Nat}(hc:X.calm=true)(h:UA X es t)(hn:(eF es X.env).length=n:=by rfl)(hst:(eF es X.env).findIdx? (·.1)=none:=by rfl):QG X (.Tuple es k pos) (wc X.K n t):=
 ⟨Tg hc h.up hn hst⟩
def QU{es:List Expr}{k:Nat}{t:Kc}{n:Nat}(hc:X.calm=true)(h:UA X es t)(hn:(eF es X.env).length=n:=by rfl)(hst:(eF es X.env).findIdx? (·.1)=none:=by rfl):QG X (.Tuple es k pos) (MT X.K n t):=
 ⟨Qo hc h.up hn hst⟩
def jm :UA X [] uV:=
 ⟨Qp ⟩
def dy{e:Expr}{es:List Expr}{t:TG}{u:Kc}(h1:QG X e t)(h2:UA X es u)(hs:(eF (e::es) X.env).map (·.2)=assign e X.env::(eF es X.env).map (·.2):=by rfl):UA X (e::es) (gD t u):=
 ⟨NI h1.up h2.up hs⟩
def lD{o i:Expr}{to ti:TE}{t:Ph}(ho:QE X o to)(hi:QE X i ti)(hs:Pg X t)(ha:∀v,assign (.Subscript o i pos) X.env v=(do
   let ov <-holding [v] (eval o X.env);let iv <-holding [v,ov] (eval i X.env)
   standAt pos
   holding [v,ov,iv] (setItem ov iv v)
   release [v,ov,iv] []):=by intro _;rfl):QG X (.Subscript o i pos) (t9 to ti t):=
 ⟨Tf ho.up hi.up hs ha⟩
def TK{i:Nat}{x:Str}{e:Expr}{te:TE}{pos':Pos}(hN:X.N.Nodup)(hi:X.N[i]?=some x)(hx:L7 X.env.scope x)(he:QE X e te)(hs:iT e (some (.Name x pos')) pos.line X.env=pure false:=by rfl)(hf:X.fn x=true\/X.env.scope.names.lookup x=some .local:=by first|exact .inl rfl|exact .inr rfl|assumption):QS X (.Assign [.Name x pos'] e pos) (cu te (aW i)):=
 ⟨Tt hN hi hx he.up hs hf⟩
def ky{tg e:Expr}{te:TE}{g:TG}(he:QE X e te)(hg:QG X tg g)(hs:swapsWithSole [tg] e pos.line X.env=pure false:=by rfl)(hw:swappedStores [tg] e X.env=pure none:=by rfl)(h1:(eF [tg] X.env).map (·.2)=[assign tg X.env]:=by rfl):QS X (.Assign [tg] e pos) (cu te g):=
 ⟨Tq he.up hg.up hs hw h1⟩
def eE(he:QE X e te)(hs:iT e none pos.line X.env=pure false:=by rfl):QS X (.Expr e pos) (gM te):=
 ⟨QB he.up hs⟩
def bz(he:QE X e te):QS X (.Return (some e) pos) (cK te):=
 ⟨Ts he.up⟩
def u9{c:Expr}{a b:List Stmt}{tc:TT}(hc:QT X c tc)(ha:LQ X a t)(hb:LQ X b u):QS X (.If c a b pos) (de tc t u):=
 ⟨UX hc.up ha.up hb.up⟩
def va{c:Expr}{body:List Stmt}{tc:TT}{tb:TS}(hp:cb (model X.prog X.w) X.A X.env X.xe)(hc:QT X c tc)(hb:LQ X body tb):QS X (.While c body [] pos) (wQ tc tb):=
 ⟨NO hp hc.up hb.up⟩
def fK{iter:Expr}{body:List Stmt}{wi:TI}{g:TG}{tb:TS}{pos:Pos}(hp:cb (model X.prog X.w) X.A X.env X.xe)(hc:X.calm=true)(hi:QI X tg iter wi)(hg:QG X tg g)(hb:LQ X body tb)(hs:∀x,eP iter X.env x=pure x:=by intro _;rfl):QS X (.For tg iter body [] pos) (kC wi g tb):=
 ⟨Tr hp hc hi.up hg.up hb.up hs⟩
def ay{st:Stmt}{rest:List Stmt}(h1:QS X st t)(h2:LQ X rest u):LQ X (st::rest) (bC t u):=
 ⟨NP h1.up h2.up⟩
def a7{st:Stmt}(h1:QS X st t):LQ X [st] t:=
 ⟨QF h1.up⟩
def sk :LQ X [] bY:=
 ⟨QD ⟩
def m8{x:Str}{v:V}{u:ae}{pos:Pos}(hg:Gl X x)(hm:X.mg x=none)(hv:fE x=some u)(r:d5 v u)(hn:x≠"__name__":=by decide)(hd:(x==("__debug__":Str))=false:=by decide):QE X (.Name x pos) (tC v):=
 ⟨Qg hg hm hv r hn hd⟩
def iu{X:Cx}:Ka X [] oj:=
 ⟨Qt ⟩
def Ec{X:Cx}{c:Expr}{t:TT}(h:QT X c t):Ka X [c] t:=
 ⟨Qu h.up⟩
def HZ(neg:Bool):R2:=λx y H Q=>∃a o,y=.ref a/\uJ H a x o/\Q (.bl (if neg then !o.isSome else o.isSome)) H
def F0:V->V->V->Hp->(Hp->Prop)->Prop:=λo i v H Q=>∃a H',o=.ref a/\EK H a i v H'/\Q H'
section
variable{X:Cx}
def SO(hu:X.A.units+1<cLine):lK X (cM .In) (HZ false):=by
 intro pins s σ H x y v u Q I rx ry h;obtain⟨a,o,rfl,g,q⟩:=h;cases ry;exact VD hu I g rx λs' I'=>⟨.bl o.isSome,H,I',rfl,q⟩
def sj(hu:X.A.units+1<cLine):lK X (cM .NotIn) (HZ true):=by
 intro pins s σ H x y v u Q I rx ry h;obtain⟨a,o,rfl,g,q⟩:=h;cases ry;exact Pq hu I g rx λs' I'=>⟨.bl (!o.isSome),H,I',rfl,q⟩
def vf(hu:X.A.units+1<cLine):Pg X F0:=by
 intro pins s σ H o i v ov iv u Q I ro ri rv h;obtain⟨a,H',rfl,g,q⟩:=h;cases ro;exact Kq hu I g ri rv λs' I'=>⟨H',I',q⟩
def EB:∀{us:List ae} {ns:List Int},lN us ns->c9 (ns.map V.int) us:=by
 intro us ns h
 induction h with
 |nil=>exact .nil
 |cons n t _ ih=>exact .cons ⟨t,rfl⟩ ih
def zF{prog:aZ}{w:bK}:∀{ns:List Int} {vs:List (iy×ae)} {us:List ae},vs.map (·.1)=ns.map Sum.inl->us.length=vs.length->(∀(j:Nat) v,us[j]?=some v->∃k x,vs[j]?=some (k,x)/\(fJ prog w).is k v=true)->lN us ns
 |[],vs,us,h1,h2,_=>by
  have:vs=[]:=by cases vs with|nil=>rfl|cons a r=>cases h1
  subst this;have:us=[]:=dO.mp h2;subst this;exact .nil
 |n::ns,vs,us,h1,h2,h3=>by
  cases vs with
  |nil=>cases h1
  |cons a vs=>
   cases us with
   |nil=>cases h2
   |cons u us=>
    obtain⟨k,x,e,hk⟩:=h3 0 u rfl;have e':a=(k,x):=Option.some.inj e;subst e';injection h1 with h1 h1';have h1:k=Sum.inl n:=h1;subst h1;obtain⟨t,rfl⟩:=ae.isInt_shape (k:=n) (v:=u) hk;refine .cons n t (zF (prog:=prog) (w:=w) h1' (by simpa using h2) λj v e=>?_);exact h3 (j+1) v (by simpa using e)
def N7:List V->Hp->VK->Prop:=λxs H Q=>∃(d:ar) (kvs:List (iy×V)) (ns:List Int),xs=[.ref d]/\H d=some (.dK kvs)/\kvs.map (·.1)=ns.map Sum.inl/\ns.length<64/\∀(l:ar) (ns':List Int),H l=none->ns'.Perm ns->ns'.Pairwise (·<=·)->Q (.ref l) (upd H l (.lst (ns'.map V.int)))
def Hn(hc:X.calm=true):iJ X (.builtin "sorted") N7:=by
 intro pins s σ H xs us Q I r h;obtain⟨d,kvs,ns,rfl,hd,hk,h64,q⟩:=h;obtain⟨u,rfl,rx⟩:=kU r;cases rx;obtain⟨z,lo,vs,rel,dd⟩:=MF I.hok hd;obtain⟨ep,hat⟩:=dd.dictAt;have hh:X.A.handled=none:=I.ok.hd hc;have kl:=rel.length;have hv:vs.map (·.1)=ns.map Sum.inl:=by rw[<-rel.keys];exact hk
 have vl:vs.length=ns.length:=by have:=congrArg gk hv;simpa using this
 refine Calls.call_function_entry kind_sorted plain_sorted entry_sorted (args_sorted1 _) ?_;unfold aS.«sorted»;refine aa (m:=checkCount "sorted" 1 1 _) (az ?_);refine aa (PySem.W.kdu_collect (A:=X.A.in1) (PySem.W.kdl_dict (knd:=fJ X.prog X.w) (kvs:=vs) (ep:=ep) lo) hh hat (by rw[<-kl];exact z) λh' tk acc hkp hacc=>?_);have hl:acc.toList.length=vs.length:=by rw[bh];exact hacc.1
 have hI:lN acc.toList ns:=zF (prog:=X.prog) (w:=X.w) hv hl λj v e=>hacc.2 j v (by rw[<-cR];exact e);refine aa (wpAny_newList ?_ (by rw[hl,<-kl];exact z));have hoL:(h'.push (seqObj "list" acc.toList.toArray 0)).get? h'.objs.size=some (seqObj "list" acc.toList.toArray 0):=aO _ rfl;show aM _ _ _ _ _ {s with heap:=h'.push (seqObj "list" acc.toList.toArray 0),toks:=tk};refine aa (bW (dq slot_list_sort ⟨_,hoL,rfl⟩ entry_list_sort (list_sort_tree hoL hI (by rw[hl,vl];exact h64) λout ns' a1 a2 a3=>⟨_,rfl,?_⟩) (args_list_sort _)));refine az ⟨_,rfl,?_⟩;obtain⟨e,he⟩:=sortedHeap_at (n:=0) (out:=out) hoL;have hn:=EB a1;have hlen:ns'.length=ns.length:=a2.length_eq;have I1:bZ X pins σ H {s with heap:=h',toks:=tk}:=I.kept hkp;refine⟨.ref h'.objs.size,_,I1.laid (t':=tk) (λb u q1=>?_) (aB _) (show fk X.prog X.w _ _ _ (.lst (ns'.map V.int)) from⟨?_,out.toList,e,hn,?_⟩),rfl,q _ _ (I1.hok.fresh (aB _)) a2 a3⟩
 ·have lt:=aI q1;rw[sortedHeap_old (a9 lt) (by rw[size_push'];exact gm lt)];exact ak _ q1
 ·rw[af,hlen];exact cT (di h64) (by decide)
 ·rw[Array.toArray_toList];exact he
end
structure O5(K:Fg)(x qual:Str)(st:Stmt)(dV:ae)(f:ar)(fd:dR):Prop where
 ex:∃(oc:ae) (od:Option ar) (kV doc pm:ae) (an:Option ar) (cdv ct:ae) (osl:Array (Option ae)),
  fd=dk x qual (gX st) (eX st) (bS st) dV kV doc pm an cdv ct/\K.lookup f=some ⟨oc,od,.func fd,osl⟩/\eh K cdv qual=true
 kp:cI K (.ref f)=true
section
variable{P:aZ}{w:bK}{K:Fg}{mg:Str->Option ae}{base:Heap}
def O5.ok{x qual:Str}{st:Stmt}{dV:ae}{f:ar}{fd:dR}{N ps:List Str}{k:Nat}{sp:Sp}(F:O5 K x qual st dV f fd)(S:kH N ps (bS st))(len:∀vs H Q E,sp vs H Q E->vs.length=ps.length)
  (hbody:∀(cdv:ae) (A:bu) (outer:List Env) (s:aq) (H:Hp) (vs:List V) (Q:VK) (E:XK),gW k (A.deeper (h9 qual (bS st) s.heap.objs.size f cdv))->sp vs H Q E->
   ∃t,Cb (sF Dl P w K mg base N qual (bS st) f cdv A outer s H E).nox (eX st) t/\t {nx:=λ_ H'=>Q .non H',rt:=Q} (cQ N vs) H):oF P w K mg base Dl (k+1) f fd ps sp:=by
 obtain⟨oc,od,kV,doc,pm,an,cdv,ct,osl,rfl,lk,hcd⟩:=F.ex;refine MQ lk hcd S len λA outer s H vs Q E hr hsp=>?_;obtain⟨t,h,q⟩:=hbody cdv A outer s H vs Q E hr hsp;exact⟨t,h.nox,q⟩
def PF{x qual:Str}{st:Stmt}{dV:ae}{f:ar}{oc:ae}{od an:Option ar}{osl:Array (Option ae)}{kV doc pm cdv ct:ae}(l:K.lookup f=some ⟨oc,od,.func (dk x qual (gX st) (eX st) (bS st) dV kV doc pm an cdv ct),osl⟩)
  (c:eh K cdv qual=true) (k:cI K (.ref f)=true):O5 K x qual st dV f (dk x qual (gX st) (eX st) (bS st) dV kV doc pm an cdv ct):=⟨⟨oc,od,kV,doc,pm,an,cdv,ct,osl,rfl,l,c⟩,k⟩
end
structure Vn(X:Cx)(pos:Pos)(keys:List (Option Expr))(values:List Expr)(trs:List (TE×TE)):Prop where
 up:Uz X pos keys values trs
def QX{X:Cx}{pos:Pos}:Vn X pos [] [] []:=⟨Qy⟩
def NW{X:Cx}{pos:Pos}{k v:Expr}{ks:List (Option Expr)}{vs:List Expr}{tk tv:TE}{trs:List (TE×TE)}(hk:QE X k tk)(hv:QE X v tv)(hr:Vn X pos ks vs trs):Vn X pos (some k::ks) (v::vs) ((tk,tv)::trs):=⟨NM hk.up hv.up hr.up⟩
def QM{X:Cx}{pos:Pos}{keys:List (Option Expr)}{values:List Expr}{trs:List (TE×TE)}(h:Vn X pos keys values trs)(hall:keys.all (·.isSome)=true)(hl:keys.length=values.length)(h0:keys≠[])(h15:keys.length<=15):QE X (.Dict keys values pos) (Ox trs):=⟨Qk h.up hall hl h0 h15⟩
def z9{X:Cx}{pos:Pos}:QE X (.Dict [] [] pos) Aq:=⟨NB⟩
end L2
end
section
namespace BgSet
open PySem
def OX(ps:Array Nat):Prop:=ps.toList.Pairwise (·<·)
def OX.at{ps:Array Nat}(hr:OX ps){i j a b:Nat}(hij:i<j)(ha:ps[i]?=some a)(hb:ps[j]?=some b):a<b:=by
 rw[<-cR] at ha hb;obtain⟨hi,rfl⟩:=aj.mp ha;obtain⟨hj,rfl⟩:=aj.mp hb;exact List.pairwise_iff_getElem.mp hr i j hi hj hij
def Mo{ps:Array Nat}{j:Nat}(hr:OX ps):∀fl lo hi,hi-lo<=fl->hi<=ps.size->lo<=hi->
  (∀i a,i<lo->ps[i]?=some a->a<j)->(∀i a,hi<=i->ps[i]?=some a->j<=a)->
  bw.below.go ps j fl lo hi<=ps.size/\(∀i a,i<bw.below.go ps j fl lo hi->ps[i]?=some a->a<j)
   /\(∀i a,bw.below.go ps j fl lo hi<=i->ps[i]?=some a->j<=a):=by
 intro fl
 induction fl with
 |zero=>
  intro lo hi hf hs hl h1 h2;have:lo=hi:=by lia
  subst this;exact⟨hs,h1,h2⟩
 |succ fl ih=>
  intro lo hi hf hs hl h1 h2;unfold bw.below.go;by_cases hlt:lo<hi
  ·rw[if_pos hlt];have hm:(lo+hi) / 2<ps.size:=by lia
   have hg:ps[(lo+hi) / 2]?=some (ps.getD ((lo+hi) / 2) j):=by
    simp[Array.getD,hm]
   dsimp only;by_cases hc:ps.getD ((lo+hi) / 2) j<j
   ·rw[if_pos hc];refine ih _ _ (by lia) hs (by lia) (λi a hi' ha=>?_) h2;rcases pE i ((lo+hi) / 2) with hq|hq
    ·exact pF (hr.at hq ha hg) hc
    ·have:i=(lo+hi) / 2:=by lia
     subst this;rw[hg] at ha;cases ha;exact hc
   ·rw[if_neg hc];refine ih _ _ (by lia) (by lia) (by lia) h1 (λi a hi' ha=>?_);rcases pE ((lo+hi) / 2) i with hq|hq
    ·exact di (mf (yR.mp hc) (hr.at hq hg ha))
    ·have:i=(lo+hi) / 2:=by lia
     subst this;rw[hg] at ha;cases ha;exact yR.mp hc
  ·rw[if_neg hlt];have:lo=hi:=by lia
   subst this;exact⟨hs,h1,h2⟩
def E5{ps:Array Nat}(hr:OX ps)(j:Nat):bw.below ps j<=ps.size/\(∀i a,i<bw.below ps j->ps[i]?=some a->a<j)
  /\(∀i a,bw.below ps j<=i->ps[i]?=some a->j<=a):=by
 refine Mo hr ps.size 0 ps.size (aB _) (aB _) (b9 _) (λi a h=>absurd h (cE _)) (λi a h ha=>?_);rw[Array.getElem?_eq_none h] at ha;cases ha
def Ii{ps:Array Nat}(hr:OX ps){j:Nat}(hn:∀i:Nat,ps[i]?≠some j):OX (bw.insertAt ps (bw.below ps j) j):=by
 obtain⟨h1,h2,h3⟩:=E5 hr j;unfold OX;rw[bw.toList_insertAt];have hlow:∀a∈ps.toList.take (bw.below ps j),a<j:=λa ha=>by
  obtain⟨i,hi⟩:=List.getElem?_of_mem ha;rw[List.getElem?_take] at hi;split at hi
  ·rename_i hlt;exact h2 i a hlt (by rw[<-cR];exact hi)
  ·cases hi
 have hhigh:∀a∈ps.toList.drop (bw.below ps j),j<a:=λa ha=>by
  obtain⟨i,hi⟩:=List.getElem?_of_mem ha;rw[List.getElem?_drop,cR] at hi;have:=h3 _ a (Nat.le_add_right _ _) hi;rcases Nat.lt_or_eq_of_le this with h|h
  ·exact h
  ·subst h;exact absurd hi (hn _)
 refine List.pairwise_append.mpr ⟨hr.sublist (jL _ _),List.pairwise_cons.mpr ⟨hhigh,hr.sublist (List.drop_sublist _ _)⟩,λa ha b hb=>?_⟩;rcases aE.mp hb with rfl|hb
 ·exact hlow a ha
 ·exact pF (hlow a ha) (hhigh b hb)
structure vV(led:Bool)(t:bw):Prop where
 led:t.led=led
 dum:t.dummies=#[]
 ris:t.plain=true->OX t.place
def vV.fresh(a b:Nat)(led:Bool):vV led (bw.fresh a b led):=⟨rfl,rfl,λ_=>List.Pairwise.nil⟩
def vV.standIn{led:Bool}{t:bw}(h:vV led t)(n:Nat):vV led (t.standIn n):=
 ⟨h.led,rfl,λhp=>by simp[bw.standIn] at hp⟩
def vV.orStandIn{led:Bool}{t:bw}(h:vV led t)(n:Nat):vV led (t.orStandIn n):=by
 unfold bw.orStandIn;split
 ·exact h
 ·exact h.standIn n
def Fs(j:Nat):bw.has #[] j=false:=by
 unfold bw.has;simp
def Il{t:bw}(hd:t.dummies=#[]){j:Nat}:t.slot j≠.dummy:=by
 unfold bw.slot;rw[hd,Fs];dsimp only;split<;>simp
def HW{t:bw}(hd:t.dummies=#[]){f:Nat->Int}{h:Int}:∀fl (p:bw.Probe) (j:Nat) (d:Option Nat),p.dummy=none->
  bw.probe.go t f h fl p=some (.empty j d)->d=none/\t.slot j=.empty:=by
 intro fl
 induction fl with
 |zero=>intro p j d hp hq;unfold bw.probe.go at hq;cases hq
 |succ fl ih=>
  intro p j d hp hq;unfold bw.probe.go at hq;have hadv:(t.advance p).dummy=none:=by
   unfold bw.advance;split<;>exact hp
  cases hs:t.slot p.j with
  |empty=>rw[hs] at hq;simp only[Option.some.injEq,bw.Met.empty.injEq] at hq;obtain⟨rfl,rfl⟩:=hq;exact⟨hp,hs⟩
  |dummy=>exact absurd hs (Il hd)
  |live i=>
   rw[hs] at hq;simp only at hq;split at hq
   ·cases hq
   ·exact ih _ j d hadv hq
def Kv{t:bw}(hd:t.dummies=#[]){h:Int}{sl:Nat}{wd:Bool}(hq:t.freeSlot h=some (sl,wd)):t.slot sl=.empty:=by
 unfold bw.freeSlot bw.probe at hq;split at hq
 ·rename_i j d he;obtain⟨rfl,hs⟩:=HW hd _ _ j d rfl he;simp only[oz,Option.some.injEq,Prod.mk.injEq] at hq;rw[<-hq.1];exact hs
 ·cases hq
def Ou{t:bw}(hr:OX t.place){j:Nat}(hs:t.slot j=.empty):∀i:Nat,t.place[i]?≠some j:=by
 intro i hi;obtain⟨h1,h2,h3⟩:=E5 hr j;have hb:bw.below t.place j=i:=by
  rcases Nat.lt_trichotomy (bw.below t.place j) i with h|h|h
  ·have hlt:bw.below t.place j<t.place.size:=by
    have:=(bO.mp hi).1;lia
   have hq:=Array.getElem?_eq_getElem hlt;have a1:=h3 _ _ (aB _) hq;have a2:=hr.at h hq hi;lia
  ·exact h
  ·exact absurd (h2 i j h hi) (cW _)
 unfold bw.slot at hs;rw[hb] at hs;dsimp only at hs;rw[hi] at hs;simp at hs
def vV.put{led:Bool}{t:bw}(h:vV led t){sl:Nat}(hs:t.slot sl=.empty):vV led (t.put sl).1:=by
 refine⟨h.led,?_,λhp=>?_⟩
 ·show(if bw.has t.dummies sl=true then _ else t.dummies)=#[];rw[h.dum,Fs];rfl
 ·exact Ii (h.ris hp) (Ou (h.ris hp) hs)
def vV.layNew{led:Bool}{t:bw}(h:vV led t)(es:Array (Int×ae))(hs:Int)(x:ae):vV led (layNew t es hs x).2.1:=by
 unfold PySem.layNew;split
 ·rename_i sl wd hq;exact(h.put (Kv h.dum hq)).orStandIn _
 ·exact h.standIn _
def vV.off{led:Bool}{t:bw}(h:vV led t):vV led {t with plain:=false}:=⟨h.led,h.dum,λhp=>by simp at hp⟩
def zM(g:Nat->Option Nat):∀l:List Nat,((l.filterMap λj=>(g j).map (j,·)).map (·.1)).Sublist l
 |[]=>List.Sublist.refl _
 |j::l=>by
  rw[dE];cases hg:g j with
  |none=>simpa using(zM g l).cons j
  |some b=>simpa using(zM g l).cons_cons j
def vV.relaid{led:Bool}{t t':bw}{hs:Array Int}{n:Nat}{o:Array Nat}(h:vV led t)(hq:t.relaid hs n=some (t',o)):vV led t':=by
 unfold bw.relaid bw.laid at hq;cases ho:bw.layClean (bw.sizeAbove n-1) hs with
 |none=>rw[ho] at hq;simp at hq
 |some ow=>
  rw[ho] at hq;simp only[Option.bind_eq_bind,iV,Option.pure_def,Option.some.injEq,Prod.mk.injEq] at hq;rw[<-hq.1];refine⟨h.led,rfl,λ_=>?_⟩;unfold OX;rw[List.toList_toArray];exact(List.pairwise_lt_range).sublist (zM (λj=>ow.getD j none) _)
def vV.relay{led:Bool}{t:bw}(h:vV led t)(es:Array (Int×ae))(n:Nat):vV led (jF t es n).2.1:=by
 unfold jF;split
 ·rename_i t' o hq;dsimp only;split
  ·exact h.relaid hq
  ·exact h.standIn _
 ·exact h.standIn _
def FS{t:bw}(h:t.plain=false)(es:Array (Int×ae))(n:Nat):(jF t es n).2.1.plain=false:=by
 unfold jF;split
 ·rename_i t' o hq;dsimp only;split
  ·unfold bw.relaid bw.laid at hq;cases ho:bw.layClean (bw.sizeAbove n-1) (es.map (·.1)) with
   |none=>rw[ho] at hq;simp at hq
   |some ow=>
    rw[ho] at hq;simp only[Option.bind_eq_bind,iV,Option.pure_def,Option.some.injEq,Prod.mk.injEq] at hq;rw[<-hq.1];exact h
  ·rfl
 ·rfl
section
variable{prog:aZ}{w:bK}{K:Type}[DecidableEq K]
def yT(kd:KeyKind prog w K)(l:List (Int×ae)):Prop:=
 l.Pairwise λe e'=>∀k,kd.is k e.2=true->kd.is k e'.2=false
def yT.perm{kd:KeyKind prog w K}{l l':List (Int×ae)}(h:yT kd l)(p:l'.Perm l):yT kd l':=by
 refine(p.pairwise_iff (λ{x y} hxy k hk=>?_)).mpr h;cases hx:kd.is k x.2 with
 |false=>rfl
 |true=>have:=hxy k hx;rw[hk] at this;cases this
def SetTb(kd:KeyKind prog w K)(h:Heap)(a:ar)(S:K->Bool)(n:Nat)(led np:Bool):Prop:=
 ∃o es ep t,h.get? a=some o/\o.ExactSet/\o.data=.set es ep t/\ElemsOf kd es.toList/\(∀k,S k=true↔∃e∈es.toList,kd.is k e.2=true)
  /\es.size<scanBound/\t.fits es.size=true/\es.size=n/\vV led t/\(np=true->n≠0->t.plain=false)/\yT kd es.toList
variable{kd:KeyKind prog w K}{A:bu}{E:Zi}{s:aq}
def SetTb.congr{h:Heap}{a:ar}{S S':K->Bool}{n n':Nat}{led np:Bool}(hS:SetTb kd h a S n led np)(e:∀k,S k=S' k)(en:n=n'):SetTb kd h a S' n' led np:=by
 cases(funext e:S=S');cases en;exact hS
def SetTb.keep{h h':Heap}{a:ar}{S:K->Bool}{n:Nat}{led np:Bool}(hS:SetTb kd h a S n led np)(e:∀o,h.get? a=some o->h'.get? a=some o):SetTb kd h' a S n led np:=by
 obtain⟨o,es,ep,t,ho,r⟩:=hS;exact⟨o,es,ep,t,e o ho,r⟩
def SetTb.fresh{h:Heap}{a:ar}{led np:Bool}{x y:Nat}(hg:h.get? a=some {cls:=.type "set",dict:=none,data:=.set #[] 0 (.fresh x y led)}) :
  SetTb kd h a (λ_=>false) 0 led np:=
 ⟨_,#[],0,_,hg,⟨rfl,rfl,rfl⟩,rfl,λe he=>by simp at he,λk=>by simp,by decide,rfl,rfl,vV.fresh x y led,λ_ hn=>absurd rfl hn,List.Pairwise.nil⟩
structure G0(kd:KeyKind prog w K)(S:K->Bool)(n:Nat)(led np:Bool)(es:Array (Int×ae))(t:bw):Prop where
 el:ElemsOf kd es.toList
 mem:∀k,S k=true↔∃e∈es.toList,kd.is k e.2=true
 few:es.size<scanBound
 fit:t.fits es.size=true
 many:es.size=n
 tab:vV led t
 off:np=true->t.plain=false
 apart:yT kd es.toList
def G0.relay{S:K->Bool}{n:Nat}{led np:Bool}{es:Array (Int×ae)}{t:bw}(h:G0 kd S n led np es t)(wn:Nat) :
  G0 kd S n led np (jF t es wn).1 (jF t es wn).2.1:=by
 have hp:=relayAll_perm t es wn;have hz:(jF t es wn).1.size=es.size:=by rw[<-bh,hp.length_eq,bh]
 exact⟨h.el.perm hp,λk=>(h.mem k).trans ⟨λ⟨e,he,q⟩=>⟨e,hp.mem_iff.mpr he,q⟩,λ⟨e,he,q⟩=>⟨e,hp.mem_iff.mp he,q⟩⟩,
  by rw[hz];exact h.few,relayAll_fits t es wn,by rw[hz];exact h.many,h.tab.relay es wn,λe=>FS (h.off e) es wn,h.apart.perm hp⟩
def G0.stored{S:K->Bool}{n:Nat}{led np:Bool}{es':Array (Int×ae)}{t':bw}(L:G0 kd S n led np es' t')
  {h:Heap} {a:ar} {o:Obj} {es:Array (Int×ae)} {ep:Nat} {t:bw} (ho:h.get? a=some o) (hex:o.ExactSet) (hd:o.data=.set es ep t) :
  (h.update a (Obj.putSet es' t')).get? a=some {o with data:=.set es' (ep+1) t'}/\SetTb kd (h.update a (Obj.putSet es' t')) a S n led np:=by
 have hg:=(SetOf_store (knd:=kd) ho hex hd L.el L.mem L.few L.fit).1;exact⟨hg,_,es',ep+1,t',hg,hex,rfl,L.el,L.mem,L.few,L.fit,L.many,L.tab,λe _=>L.off e,L.apart⟩
def E3{g:Bool->Sem Unit}(hg:∀(b:Bool) (s₁:aq) (Q':Unit->aq->Prop),Q' () s₁->aM (model prog w) A (g b) Q' E s₁)
  {a:ar} {o:Obj} {es:Array (Int×ae)} {ep:Nat} {t:bw} (ho:s.heap.get? a=some o) (hex:o.ExactSet) (hd:o.data=.set es ep t)
  {es1:Array (Int×ae)} {t2:bw} {S:K->Bool} {n:Nat} {led np:Bool} (L:G0 kd S n led np es1 t2) {wd:Bool} {R:Option Bool->aq->Prop}
  (hR:∀h',Heap.SameBut a s.heap h'->SetTb kd h' a S n led np->R (some true) {s with heap:=h'}) :
  aM (model prog w) A (do
    storeSet a es1 t2
    if(!wd&&t2.tooFull)=true then do
      g (jF t2 es1 (bw.grown es1.size)).2.2
      storeSet a (jF t2 es1 (bw.grown es1.size)).1 (jF t2 es1 (bw.grown es1.size)).2.1
      pure (some true)
     else pure (some true)) R E s:=by
 refine aa (wpAny_storeSet_of ho hd ?_ (fits_of_scanBound L.few));obtain⟨g1,T1⟩:=L.stored ho hex hd;have sb:=Heap.SameBut.update s.heap a (Obj.putSet es1 t2);split
 ·have L2:=L.relay (bw.grown es1.size);refine aa (hg _ _ _ ?_);refine aa (wpAny_storeSet_of g1 rfl ?_ (fits_of_scanBound L2.few));obtain⟨-,T2⟩:=L2.stored g1 hex rfl;exact az (hR _ (sb.trans (Heap.SameBut.update _ a _)) T2)
 ·exact az (hR _ sb T1)
def Q9{a:ar}{S:K->Bool}{n:Nat}{led np:Bool}{k:K}{x:ae}{Q:Bool->aq->Prop}(hkey:kd.is k x=true)(hsc:x.scannable=true)
  (hnp:np=true->lT x=false) (hS:SetTb kd s.heap a S n led np) (hroom:n+1<scanBound)
  (hQ:∀h',Heap.SameBut a s.heap h'->SetTb kd h' a (λk'=>S k' || decide (k'=k)) (if S k then n else n+1) led np->Q (!S k) {s with heap:=h'}) :
  aM (model prog w) A (setAddHashed a x (kd.hash k)) Q E s:=by
 obtain⟨o,es,ep,t,ho,hex,hd,hel,hmem,hb,hf,hn,htab,hoff,hap⟩:=hS;have hb1:es.size+1<scanBound:=by rw[hn];exact hroom
 unfold setAddHashed setAddHashedIn;refine bW (aa (wpAny_setState_of ho hd hf ?_));dsimp only;rw[byScan_of hsc hb hel];simp only[↓reduceIte];unfold setAddByScan;refine aa ?_;refine aa (iD ?_);refine aa (wpAny_setScan_of hkey ho hd hf hel ?_);cases hr:List.findIdx? (λe=>kd.is k e.2) es.toList with
 |some j=>
  dsimp only;obtain⟨hj,hpj,-⟩:=List.findIdx?_eq_some_iff_getElem.mp hr;have hk:S k=true:=(hmem k).mpr ⟨_,dZ hj,hpj⟩;refine az (az ?_);have es0:s={s with heap:=s.heap}:=by cases s;rfl
  have done:=hQ s.heap (Heap.SameBut.refl a s.heap) (SetTb.congr (S:=S) (n:=n) ⟨o,es,ep,t,ho,hex,hd,hel,hmem,hb,hf,hn,htab,hoff,hap⟩
   (λk'=>by by_cases e:k'=k<;>simp[e,hk]) (by rw[hk];rfl))
  rw[hk] at done;rw[es0];exact done
 |none=>
  dsimp only;have hall:=List.findIdx?_eq_none_iff.mp hr;have hk:S k=false:=by
   cases hk:S k with
   |false=>rfl
   |true=>obtain⟨e,he,hp⟩:=(hmem k).mp hk;rw[hall e he] at hp;cases hp
  have hper:=layNew_perm t es (kd.hash k) x;have hfit:=layNew_fits t es (kd.hash k) x;have htb:=htab.layNew es (kd.hash k) x;generalize layNew t es (kd.hash k) x=L at hper hfit htb ⊢;obtain⟨es1,t1,wd,gv⟩:=L;dsimp only at hper hfit htb ⊢;rw[Array.toList_push] at hper;have hz:es1.size=n+1:=by rw[<-bh,hper.length_eq,aN,bh,hn];rfl
  have hap1:yT kd es1.toList:=by
   refine yT.perm (List.pairwise_append.mpr ⟨hap,List.pairwise_singleton _ _,λe he e' he' k' hk'=>?_⟩) hper;rw[ax] at he';subst he';cases hq:kd.is k' x with
   |false=>rfl
   |true=>cases kd.inj x k' k hq hkey;rw[hall e he] at hk';cases hk'
  have hL:∀t2:bw,t2.fits es1.size=true->vV led t2->(np=true->t2.plain=false)->G0 kd (λk'=>S k' || decide (k'=k)) (n+1) led np es1 t2:=
   λt2 f2 tb2 o2=>⟨(hel.push hkey hsc).perm hper,mem_push_iff hkey hmem hper,by rw[hz];exact hroom,f2,hz,tb2,o2,hap1⟩
  have hend:∀h',Heap.SameBut a s.heap h'->SetTb kd h' a (λk'=>S k' || decide (k'=k)) (n+1) led np->Q true {s with heap:=h'}:=by
   intro h' sb T;have q:=hQ h' sb;rw[hk] at q;exact q T
  have gw:∀(c:Bool) {s₁:aq} {Q₁:Unit->aq->Prop},Q₁ () s₁->
    aM (model prog w) A (match c with|true=>rule "set.scan.the-table-gave-way"|false=>pure ()) Q₁ E s₁:=λc s₁ Q₁ hq=>by
   cases c<;>first|exact az hq|exact iD hq
  refine aa (gw _ ?_);split
  ·refine aa ?_;rw[hashByValue_scannable 8 hsc];refine az ?_;refine E3 (n:=n+1) (led:=led) (np:=np) ?_ ho hex hd (hL _ ?_ ?_ ?_) ?_
   ·exact λb s₁ Q' hq=>gw b hq
   ·split
    ·exact hfit
    ·exact bw.fits_plain_off hfit
   ·split
    ·exact htb
    ·exact htb.off
   ·intro e;rw[hnp e];rfl
   ·intro h' sb T;dsimp only;exact az (hend h' sb T)
  ·rename_i hpl;refine aa (az ?_);simp only[↓reduceIte];refine E3 (n:=n+1) (led:=led) (np:=np) ?_ ho hex hd (hL _ hfit htb (λ_=>by simpa using hpl)) ?_
   ·exact λb s₁ Q' hq=>gw b hq
   ·intro h' sb T;dsimp only;exact az (hend h' sb T)
end
def byText(w:bK):Bool:=w.params.followText "set-order"
section
variable{prog:aZ}{w:bK}{A:bu}{E:Zi}{s:aq}
end
section
variable{prog:aZ}{w:bK}{A:bu}{E:Zi}{s:aq}{I a:ar}{i n ep:Nat}{es:Array (Int×ae)}{t:bw}
end
end BgSet
end
section
namespace BgSet
open PySem PyProof.Rows
section
variable{prog:aZ}{w:bK}{A:bu}{R:Result->aq->Prop}{I:ar}{fp wr:List ar}{G:Array qK->Array qK->Prop}{n:Nat}{P:Nat->ae->Prop}{St:Nat->aq->Prop}
variable{K:Type}[DecidableEq K]{kd:KeyKind prog w K}
def met(val:Nat->K)(i:Nat)(k:K):Bool:=decide (k∈(cX i).map val)
def Nk(val:Nat->K)(i:Nat)(k:K):(met val i k || decide (k=val i))=met val (i+1) k:=by
 unfold met;rw[Bool.eq_iff_iff,Bool.or_eq_true,decide_eq_true_eq,decide_eq_true_eq,decide_eq_true_eq,qc,aG,aV];simp
def Gh(W:WalksS prog w A.in1 I fp wr G n P St)(S:ar)(hSf:S∉fp)(val:Nat->K)(led np:Bool)
  (hval:∀i v,P i v->kd.is (val i) v=true/\v.scannable=true/\(np=true->lT v=false)) (hb:n+1<scanBound) :
  ∀(k i m:Nat) (s:aq),n-i=k->i<=n->m<=i->St i s->SetTb kd s.heap S (met val i) m led np->
   (∀s' m',Moved (S::wr) G s s'->m'<=n->SetTb kd s'.heap S (met val n) m' led np->R (.ok (.ret .none)) s')->
   gE (model prog w) A (.builtin "set.update.loop" ⟨[.ref S,.ref I],[]⟩) R s:=by
 have hSw:S∉wr:=λh=>hSf (W.sub _ h);have more:∀b∈wr,b∈S::wr:=λb hb=>bx _ hb;intro k
 induction k with
 |zero=>
  intro i m s hk hi hm st T hR;cases(by lia:i=n);refine eD PyProof.Rows.F.entry_set_update_loop ?_;rw[bu.under_plainId PyProof.Rows.F.plain_set_update_loop _];show aM _ A.in1 (kh (.ref I) >>= _) _ _ s;refine aa (W.done s _ _ st λs' mv=>?_);show aM _ A.in1 (ret ae.none) _ _ s';exact az (hR s' m (mv.mono more) hm (T.keep λo e=>mv.heap S _ hSw e))
 |succ k ih=>
  intro i m s hk hi hm st T hR;have lt:i<n:=by lia
  refine eD PyProof.Rows.F.entry_set_update_loop ?_;rw[bu.under_plainId PyProof.Rows.F.plain_set_update_loop _];show aM _ A.in1 (kh (.ref I) >>= _) _ _ s;refine aa (W.item i s _ _ lt st λv s' hP st' mv=>?_);obtain⟨h1,h2,h3⟩:=hval i v hP;have T':=T.keep (h':=s'.heap) λo e=>mv.heap S _ hSw e;show aM _ A.in1 (holding [v] (setAdd S v) >>= _) _ _ s';refine aa (bW ?_);unfold setAdd;refine bW ?_;refine aa (kd.pyHash (k:=val i) h1 ?_);refine Q9 (s:={s' with toks:=s'.toks+1}) h1 h2 h3 T' (by lia) λh' sb T2=>?_;have hm2:(if met val i (val i)=true then m else m+1)<=i+1:=by split<;>lia
  refine az ⟨fN PyProof.Rows.F.plain_set_update_loop _,ih (i+1) _ _ (by lia) lt hm2 (W.frame _ s' _ _ st' (mT _) λb hb o e=>?_)
   (T2.congr (λk'=>Nk val i k') rfl) λs'' m' mv2 hm' T3=>?_⟩
  ·rw[sb.2 b (λh:b=S=>hSf (by rw[<-h];exact hb))];exact e
  ·refine hR s'' m' (Moved.trans W.gtrans ((mv.mono more).then_heap (mT _) λb o hb e=>?_) mv2) hm' T3;rw[sb.2 b (λh:b=S=>hb (by rw[h];exact bT))];exact e
end
section
variable{prog:aZ}{w:bK}{A:bu}{E:Zi}{s:aq}{K:Type}[DecidableEq K]{kd:KeyKind prog w K}
def eR(w:bK):Obj:={cls:=.type "set",dict:=none,data:=.set #[] 0 (.fresh 0 0 (!byText w))}
def JK(v:ae){Q:Zi}(h:Q (.ref s.heap.objs.size) {s with heap:=s.heap.push (eR w)}) :
  gE (model prog w) A (.call (.builtin "set.__new__") ⟨[.type "set",v],[]⟩) (wants Q E) s:=by
 refine kW ?_;show aM _ A.in1 (gH "set.__new__" ⟨[.type "set",v],[]⟩ >>= λ_=>again (.builtin "set.__new__" ⟨[.type "set",v],[]⟩)) _ _ s;refine aa (kL (PySem.F.newCall_set_1 v) (az ⟨fN PySem.F.plain_set_new _,eD PySem.F.entry_set_new ?_⟩));rw[bu.under_plainId PySem.F.plain_set_new _];unfold aS.«set.__new__» aS.Frozenset.newClass;have hsub:=sub_set_self;obtain⟨hp,g,d,tk,os⟩:=s;dsimp only
 wp_walk
 refine wpAny_askSetting (az ?_);dsimp only;simp only[newObj];refine aa (wpAny_alloc (az ?_));exact az h
end
section
variable{prog:aZ}{w:bK}{A:bu}{E:Zi}{s:aq}{K:Type}[DecidableEq K][Inhabited K]{kd:KeyKind prog w K}
def set_of_list{l:ar}{its:Array ae}(ks:List K)(np:Bool){Q:Zi}(hh:A.handled=none)(hl:s.heap.IsList l its)(hk:ks.length=its.size)
  (hv:∀(i:Nat) k v,ks[i]?=some k->its[i]?=some v->kd.is k v=true/\v.scannable=true/\(np=true->lT v=false)) (hb:its.size+1<scanBound)
  (hQ:∀(h':Heap) (tk m:Nat),m<=its.size->SetTb kd h' s.heap.objs.size (λk=>decide (k∈ks)) m (!byText w) np->
   (∀b o,b<s.heap.objs.size->s.heap.get? b=some o->h'.get? b=some o)->Q (.ref s.heap.objs.size) {s with heap:=h',toks:=tk}) :
  aM (model prog w) A (call (.type "set") [.ref l]) Q E s:=by
 obtain⟨c,tl,mro⟩:=PySem.F.called_set.mro;have made:=PySem.F.called_set.made;have sub0:=PySem.F.called_set.sub;refine jq (kW ?_);show aM _ _ (callAny (.type "set") _) _ _ _;refine az ⟨Code.quiet_builtin _ (by decide +kernel),eD PySem.F.entry_type_call ?_⟩;rw[bu.under_plain (weight_type_call_type "set" [.ref l] []) rfl];have f1:=PySem.F.called_set.notType;have f2:=PySem.F.called_set.canCreate;have f3:=PySem.F.typeCall_set_1 (.ref l)
 repeat (any_goals (first|assumption|wp_step))
 refine gQ (JK (.ref l) (E:=E) (Q:=λv s1=>v=.ref s.heap.objs.size/\s1={s with heap:=s.heap.push (eR w)}) ⟨rfl,rfl⟩) λr s1 hr=>?_;cases r with
 |error e=>exact hr
 |ok fl=>
  cases fl with
  |ret v=>
   obtain⟨rfl,rfl⟩:=hr;have gS:(s.heap.push (eR w)).get? s.heap.objs.size=some (eR w):=aO _ rfl;have tS:aq.TypeIs {s with heap:=s.heap.push (eR w)} (.ref s.heap.objs.size) "set":=⟨_,gS,rfl⟩;have li:=PySem.F.called_set.init.lookup;have bi:=PySem.F.called_set.init.bind (.ref s.heap.objs.size)
   repeat (any_goals (first|assumption|wp_step))
   refine gQ (fc (R:=wants (λr s2=>r=.none/\∃h' tk m,s2={s with heap:=h',toks:=tk}/\m<=its.size/\
     SetTb kd h' s.heap.objs.size (λk=>decide (k∈ks)) m (!byText w) np/\(∀b o,b<s.heap.objs.size->s.heap.get? b=some o->h'.get? b=some o)) E)
     PySem.F.called_set.init.plain PySem.F.entry_set_init (check_set_init_1 tS ?_)) λr2 s2 hr2=>?_
   ·obtain⟨ol,gl,hcl,nl,hdl⟩:=hl;obtain⟨ocls,odict,odata,oslots⟩:=ol;simp only at hcl hdl;subst hcl;subst hdl;have gl2:(s.heap.push (eR w)).get? l=some {cls:=.type "list",dict:=odict,data:=.seq its nl,slots:=oslots}:=ak _ gl;have u1:=PySem.F.sub_list_set;have u2:=PySem.F.sub_list_frozenset;have u3:(ae.type "list"==ae.type "dict")=false:=by decide
    have hl1:(s.heap.push (eR w)).IsList l its:=⟨_,gl2,rfl,nl,rfl⟩;unfold aS.«set.__init__» noKeywords aS.Frozenset.updateFrom;generalize hPI:tU=PI
    wp_walk
    subst hPI;refine ik hl1 ?_;refine aa (wpAny_runValue ?_);have lt:l<s.heap.objs.size:=aI gl;have hh3:A.in1.in1.in1.handled=none:=by simp[hh]
    have ne:l≠(s.heap.push (eR w)).objs.size:=by
     rw[cY];exact a9 (gm lt)
    have nf:s.heap.objs.size∉[(s.heap.push (eR w)).objs.size,l]:=by
     rw[cY];simp only[aE,bj,or_false,not_or];exact⟨a9 (oy _),gU lt⟩
    have hval:∀(i:Nat) (v:ae),its[i]?=some v->kd.is (ks.getD i default) v=true/\v.scannable=true/\(np=true->lT v=false):=λi v hi=>by
     have hlt:i<ks.length:=by rw[hk];exact(bO.mp hi).1
     refine hv i _ v ?_ hi;rw[fV,ao hlt];rfl
    refine Gh ((sI.list hh3 _ l ne its).toS) s.heap.objs.size nf (λi=>ks.getD i default) (!byText w) np hval hb (its.size-0) 0 0 _ (by lia) (b9 _) (aB _)
     ⟨⟨_,aO _ rfl,rfl,rfl⟩,(hl1.push _)⟩ (SetTb.congr (SetTb.fresh (x:=0) (y:=0) (ak _ gS)) (λk=>rfl) rfl) λs' m mv hm T=>?_
    obtain⟨h',g',d',tk',os'⟩:=s';have eg:g'=s.gens:=mv.gens;have ed:d'=s.drawn:=mv.drawn;have eo:os'=s.os:=mv.os;subst eg;subst ed;subst eo;show aM _ _ _ _ _ _;refine az ?_;show aM _ _ (ret ae.none) _ _ _;refine az ⟨rfl,h',tk',m,rfl,hm,T.congr (λk=>?_) rfl,λb o hb e=>?_⟩
    ·unfold met;rw[Bool.eq_iff_iff,decide_eq_true_eq,decide_eq_true_eq];have:(cX its.size).map (λi=>ks.getD i default)=ks:=by
      refine jH λi=>?_;rw[aQ];rcases pE i its.size with h|h
      ·rw[iZ h,ao (by rw[hk];exact h)];simp[fV,hk,h]
      ·rw[cS (by simpa using h),cS (by rw[hk];exact h)];rfl
     rw[this]
    ·have n1:b≠s.heap.objs.size:=a9 hb;have n2:b≠(s.heap.push (eR w)).objs.size:=by
      rw[cY];exact a9 (gm hb)
     refine mv.heap b o ?_ (ak _ (ak _ e));simp only[aE,bj,or_false,not_or];exact⟨n1,n2⟩
   ·cases r2 with
    |error e=>exact hr2
    |ok fl2=>
     cases fl2 with
     |ret r=>
      obtain⟨rfl,h',tk,m,rfl,hm,T,kp⟩:=hr2
      repeat (any_goals (first|assumption|wp_step))
      exact hQ _ _ m hm T kp
     |_=>exact hr2.elim
  |_=>exact hr.elim
def set_of_tuple{l:ar}{its:Array ae}(ks:List K)(np:Bool){Q:Zi}(hh:A.handled=none)(hl:s.heap.IsTuple l its)(hk:ks.length=its.size)
  (hv:∀(i:Nat) k v,ks[i]?=some k->its[i]?=some v->kd.is k v=true/\v.scannable=true/\(np=true->lT v=false)) (hb:its.size+1<scanBound)
  (hQ:∀(h':Heap) (tk m:Nat),m<=its.size->SetTb kd h' s.heap.objs.size (λk=>decide (k∈ks)) m (!byText w) np->
   (∀b o,b<s.heap.objs.size->s.heap.get? b=some o->h'.get? b=some o)->Q (.ref s.heap.objs.size) {s with heap:=h',toks:=tk}) :
  aM (model prog w) A (call (.type "set") [.ref l]) Q E s:=by
 obtain⟨c,tl,mro⟩:=PySem.F.called_set.mro;have made:=PySem.F.called_set.made;have sub0:=PySem.F.called_set.sub;refine jq (kW ?_);show aM _ _ (callAny (.type "set") _) _ _ _;refine az ⟨Code.quiet_builtin _ (by decide +kernel),eD PySem.F.entry_type_call ?_⟩;rw[bu.under_plain (weight_type_call_type "set" [.ref l] []) rfl];have f1:=PySem.F.called_set.notType;have f2:=PySem.F.called_set.canCreate;have f3:=PySem.F.typeCall_set_1 (.ref l)
 repeat (any_goals (first|assumption|wp_step))
 refine gQ (JK (.ref l) (E:=E) (Q:=λv s1=>v=.ref s.heap.objs.size/\s1={s with heap:=s.heap.push (eR w)}) ⟨rfl,rfl⟩) λr s1 hr=>?_;cases r with
 |error e=>exact hr
 |ok fl=>
  cases fl with
  |ret v=>
   obtain⟨rfl,rfl⟩:=hr;have gS:(s.heap.push (eR w)).get? s.heap.objs.size=some (eR w):=aO _ rfl;have tS:aq.TypeIs {s with heap:=s.heap.push (eR w)} (.ref s.heap.objs.size) "set":=⟨_,gS,rfl⟩;have li:=PySem.F.called_set.init.lookup;have bi:=PySem.F.called_set.init.bind (.ref s.heap.objs.size)
   repeat (any_goals (first|assumption|wp_step))
   refine gQ (fc (R:=wants (λr s2=>r=.none/\∃h' tk m,s2={s with heap:=h',toks:=tk}/\m<=its.size/\
     SetTb kd h' s.heap.objs.size (λk=>decide (k∈ks)) m (!byText w) np/\(∀b o,b<s.heap.objs.size->s.heap.get? b=some o->h'.get? b=some o)) E)
     PySem.F.called_set.init.plain PySem.F.entry_set_init (check_set_init_1 tS ?_)) λr2 s2 hr2=>?_
   ·obtain⟨ol,gl,hcl,nl,hdl⟩:=hl;obtain⟨ocls,odict,odata,oslots⟩:=ol;simp only at hcl hdl;subst hcl;subst hdl;have gl2:(s.heap.push (eR w)).get? l=some {cls:=.type "tuple",dict:=odict,data:=.seq its nl,slots:=oslots}:=ak _ gl;have u1:=PySem.F.sub_tuple_set;have u2:=PySem.F.sub_tuple_frozenset;have u3:(ae.type "tuple"==ae.type "dict")=false:=by decide
    have hl1:(s.heap.push (eR w)).IsTuple l its:=⟨_,gl2,rfl,nl,rfl⟩;unfold aS.«set.__init__» noKeywords aS.Frozenset.updateFrom;generalize hPI:tU=PI
    wp_walk
    subst hPI;refine fU hl1 ?_;refine aa (wpAny_runValue ?_);have lt:l<s.heap.objs.size:=aI gl;have hh3:A.in1.in1.in1.handled=none:=by simp[hh]
    have ne:l≠(s.heap.push (eR w)).objs.size:=by
     rw[cY];exact a9 (gm lt)
    have nf:s.heap.objs.size∉[(s.heap.push (eR w)).objs.size,l]:=by
     rw[cY];simp only[aE,bj,or_false,not_or];exact⟨a9 (oy _),gU lt⟩
    have hval:∀(i:Nat) (v:ae),its[i]?=some v->kd.is (ks.getD i default) v=true/\v.scannable=true/\(np=true->lT v=false):=λi v hi=>by
     have hlt:i<ks.length:=by rw[hk];exact(bO.mp hi).1
     refine hv i _ v ?_ hi;rw[fV,ao hlt];rfl
    refine Gh ((sI.tuple hh3 _ l ne its).toS) s.heap.objs.size nf (λi=>ks.getD i default) (!byText w) np hval hb (its.size-0) 0 0 _ (by lia) (b9 _) (aB _)
     ⟨⟨_,aO _ rfl,rfl,rfl⟩,(hl1.push _)⟩ (SetTb.congr (SetTb.fresh (x:=0) (y:=0) (ak _ gS)) (λk=>rfl) rfl) λs' m mv hm T=>?_
    obtain⟨h',g',d',tk',os'⟩:=s';have eg:g'=s.gens:=mv.gens;have ed:d'=s.drawn:=mv.drawn;have eo:os'=s.os:=mv.os;subst eg;subst ed;subst eo;show aM _ _ _ _ _ _;refine az ?_;show aM _ _ (ret ae.none) _ _ _;refine az ⟨rfl,h',tk',m,rfl,hm,T.congr (λk=>?_) rfl,λb o hb e=>?_⟩
    ·unfold met;rw[Bool.eq_iff_iff,decide_eq_true_eq,decide_eq_true_eq];have:(cX its.size).map (λi=>ks.getD i default)=ks:=by
      refine jH λi=>?_;rw[aQ];rcases pE i its.size with h|h
      ·rw[iZ h,ao (by rw[hk];exact h)];simp[fV,hk,h]
      ·rw[cS (by simpa using h),cS (by rw[hk];exact h)];rfl
     rw[this]
    ·have n1:b≠s.heap.objs.size:=a9 hb;have n2:b≠(s.heap.push (eR w)).objs.size:=by
      rw[cY];exact a9 (gm hb)
     refine mv.heap b o ?_ (ak _ (ak _ e));simp only[aE,bj,or_false,not_or];exact⟨n1,n2⟩
   ·cases r2 with
    |error e=>exact hr2
    |ok fl2=>
     cases fl2 with
     |ret r=>
      obtain⟨rfl,h',tk,m,rfl,hm,T,kp⟩:=hr2
      repeat (any_goals (first|assumption|wp_step))
      exact hQ _ _ m hm T kp
     |_=>exact hr2.elim
  |_=>exact hr.elim
end
section
variable{prog:aZ}{w:bK}{A:bu}{E:Zi}{s:aq}{a:ar}{es:Array (Int×ae)}{ep:Nat}{t:bw}
end
end BgSet
end
section
namespace PySem.W
open PySem PySem.Calls PyProof.Rows PyProof.V PySem.Spec
def HD:kj (.type "list_reverseiterator") "__len__"=pure none:=by rw[typeLookup_type,builtinLookup_eq_fast];kernel_rfl
def Ni:kj (.type "list_reverseiterator") "__length_hint__"=pure (some (.builtin "list_reverseiterator.__length_hint__")):=by rw[typeLookup_type,builtinLookup_eq_fast];kernel_rfl
section
variable{prog:aZ}{w:bK}{A:bu}{E:Zi}{s:aq}{r l:ar}
def MV{Q:Bool->aq->Prop}(hT:s.TypeIs (.ref r) "list_reverseiterator")(h:Q false s):aM (model prog w) A (aS.List.listLengthHint (.ref r)) Q E s:=by
 unfold aS.List.listLengthHint;refine aa (kZ hT HD ?_);refine gY (λhab=>absurd hab (by decide)) (λ_=>?_);refine gY (λhab=>absurd hab (by decide)) (λ_=>?_);refine aa (kZ hT Ni ?_);generalize hid:("list_reverseiterator.__length_hint__":String)=id0
 wp_delta
 rw[show splitId id0=some ("list_reverseiterator","__length_hint__") from by subst hid;decide +kernel];subst hid;refine aa (ko (T:="list_reverseiterator") (b:=true) hT (by rw[isSubtype_type];kernel_rfl) ?_);refine gY (λhab=>absurd hab (by decide)) (λ_=>?_);refine gY (λ_=>?_) (λhab=>absurd (by decide +kernel) hab);refine gY (λhab=>absurd hab (by decide +kernel)) (λ_=>?_);exact az h
def Ih{items:Array ae}{R:Result->aq->Prop}(hh:A.handled=none)(hl:s.heap.IsList l items)(hit:s.heap.IsRevIter r l ((items.size:Int)-1))(hne:l≠r)(S:ar)(hSr:S≠r)(hSl:S≠l)(res:ae)(c₀:Nat)(hS:s.heap.get? S=some {cls:=.type "list",data:=.seq #[] c₀})
  (hR:∀h' tk acc' c',(∀b o,b≠S->b≠r->s.heap.get? b=some o->h'.get? b=some o)->h'.get? S=some {cls:=.type "list",dict:=none,data:=.seq acc' c',slots:=#[]}->ItemsOf (λi v=>items[items.size-1-i]?=some v) acc' items.size->R (.ok (.ret res)) {s with heap:=h',toks:=tk}) (hn:items.size<=av) :
  aM (model prog w) A.in1 (aS.List.listExtendWith (.ref S) (.ref r) res)
   (λfin s'=>match fin with|.done f=>R (.ok f) s'|.again c'=>c'.quiet=true/\gE (model prog w) A c' R s') (λe s'=>R (.error e) s') s:=by
 have hSf:S∉[r,l]:=by simp only[aE,bj,or_false,not_or];exact⟨hSr,hSl⟩
 have W:=sI.listRev (prog:=prog) (w:=w) (A:=A.in1) hh r l hne items;have key:∀(h:Heap) (c₁ tk:Nat),(0<=items.size/\h.IsRevIter r l ((items.size:Int)-1-((0:Nat):Int))/\h.IsList l items)->(∀b o,b≠S->s.heap.get? b=some o->h.get? b=some o)->
   h.get? S=some {cls:=.type "list",data:=.seq #[] c₁}->gE (model prog w) A (.builtin "list.extend.loop" ⟨[.ref S,.ref r,res],[]⟩) R {s with heap:=h,toks:=tk}:=by
  intro h c₁ tk hst hk hS₁;refine codeAny_extend_loopS W.toS hn S hSf res items.size 0 _ #[] c₁ rfl (b9 _) hst hS₁ (ItemsOf.nil _) λs' acc' c' hm hS' hacc=>?_;rw[Moved.eq_with hm];refine hR s'.heap s'.toks acc' c' (λb o hb hbr e=>hm.heap b o (λhmem=>?_) (hk b o hb e)) hS' hacc;rcases aE.mp hmem with e'|hmem
  ·exact hb e'
  ·exact hbr (ax.mp hmem)
 have st0:0<=items.size/\s.heap.IsRevIter r l ((items.size:Int)-1-((0:Nat):Int))/\s.heap.IsList l items:=⟨b9 _,(by have e:(items.size:Int)-1-((0:Nat):Int)=(items.size:Int)-1:=(by omega);rw[e];exact hit),hl⟩;unfold aS.List.listExtendWith;refine aa (iU (T:="list_reverseiterator") hit.typeIs ?_);have h1:aS.List.listSameRef (.ref S) (.ref r)=false:=by simp[aS.List.listSameRef,hSr]
 have h2:(ae.type "list_reverseiterator"==ae.type "list")=false:=by decide
 have h3:(ae.type "list_reverseiterator"==ae.type "tuple")=false:=by decide
 simp only[h1,h2,h3,Bool.or_false,Bool.false_eq_true,if_false];refine aa (wpAny_pyIter_revIter hit ?_);refine aa (bW (MV hit.typeIs ?_));refine gY (λ_=>?_) (λ_=>az ⟨fN PySem.F.plain_extend_loop _,key _ c₀ _ st0 (λb o _ e=>e) hS⟩);refine aa (iD ?_);refine aa ?_;show aM _ _ (updateSeq S (·.push .none) >>= λ_=>updateSeq S (·.pop)) _ _ _;refine aa (je hS rfl ?_);have hS₂:=cA (Obj.mapSeq (·.push ae.none)) hS rfl;refine je (hz:=by seq_fits) hS₂ rfl ?_;have hS₃:=cA (Obj.mapSeq (·.pop)) hS₂ rfl;refine az ⟨fN PySem.F.plain_extend_loop _,key _ _ _ ?_ (λb o hb e=>?_) hS₃⟩
 ·refine W.frame 0 _ _ st0 λb hb o e=>?_;have hbS:b≠S:=λh=>hSf (h ▸ hb);exact(bM _ _ (Ne.symm hbS)).trans ((bM _ _ (Ne.symm hbS)).trans e)
 ·exact(bM _ _ (Ne.symm hb)).trans ((bM _ _ (Ne.symm hb)).trans e)
end
end PySem.W
namespace L2
open PySem PySem.Spec PyProof.Rows
section
variable{X:Cx}
end
end L2
end
section
namespace HT
open PySem PyProof.Rows
section
variable{prog:aZ}{w:bK}{A:bu}{E:Zi}{s:aq}
def cat_tup0{t b:ar}{vs ws:List ae}{Q:Zi}(ht:IsTup s.heap t vs.toArray)(hb:IsTup s.heap b ws.toArray)(hv:vs=[])(h:Q (.ref b) s):aM (model prog w) A (eO .Add (.ref t) (.ref b)) Q E s:=by
 obtain⟨⟨cls,dd,data,sl⟩,ho,hc,n,hd⟩:=id ht;obtain⟨⟨cls2,dd2,data2,sl2⟩,ho2,hc2,n2,hd2⟩:=id hb;simp only at hc hd hc2 hd2;subst hc hd hc2 hd2;exact concat_meets ⟨_,ho,rfl⟩ ⟨_,ho2,rfl⟩ noFill_tuple_add seq_tuple_add jN jz (ja _ _)
   (tuple_addW0 t b vs.toArray ws.toArray n n2 dd dd2 sl sl2 (by simp[hv])) ⟨ho,ho2,h⟩
def getItem_tuple_all{t sl:ar}{items:Array ae}{vl vu:ae}{lo hi:Option Int}{Q:Zi}(ht:IsTup s.heap t items)(hs:s.heap.IsSliceOf sl vl vu .none)(pl:pC vl lo)(pu:pC vu hi)
  (hw:sIx items.size 0 lo=0/\sIx items.size items.size hi=items.size) (h:Q (.ref t) s):aM (model prog w) A (jE (.ref t) (.ref sl)) Q E s:=by
 obtain⟨os,hos,hcs,hds⟩:=id hs;have hTs:s.TypeIs (.ref sl) "slice":=⟨os,hos,hcs⟩;unfold jE
 try with_reducible refine bW ?_
 first|refine aa (az ?_)|skip
 refine aa (wpAny_sequenceKey ht.typeIs (by decide) ?_);refine aa (b8 (name:=Str.ofString "__getitem__") ht.typeIs dc
  (dq dc ht.typeIs entry_tuple_getitem ?_ (args_tuple_getitem _ _)))
 show aM _ _ (aS.Tuple.tupleItemsOf (.ref t) >>= _) _ _ s;refine aa (tupleItemsOf_ ht ?_);refine aa (iU hTs ?_);rw[if_pos (by decide)];refine aa (oW hs pl pu ?_);have hyes:(((sIx items.size 0 lo:Nat):Int)==0&&(1:Int)==1&&(sIx items.size items.size hi-sIx items.size 0 lo)==items.size)=true:=by
  rw[hw.1,hw.2];simp
 show aM _ _ (if(((sIx items.size 0 lo:Nat):Int)==0&&(1:Int)==1&&(sIx items.size items.size hi-sIx items.size 0 lo)==items.size)=true then _ else _) _ _ s;rw[if_pos hyes];refine aa (m:=aS.Tuple.tupleIsExact (.ref t)) ?_;unfold aS.Tuple.tupleIsExact;refine aa (iU ht.typeIs (az ?_));rw[if_pos (by decide)];exact aa (iD (az ⟨_,rfl,az h⟩))
end
end HT
namespace L2
open PySem PySem.Spec PyProof.Rows
section
variable{X:Cx}
def NZ(K:Fg):R2:=λx y H Q=>∃a b ys,x=.ref a/\y=.ref b/\dA K H a []/\dA K H b ys/\Q (.ref b) H
def Nt:lK X (eO .Add) (NZ X.K):=by
 intro pins s σ H x y v u Q I rx ry h;obtain⟨a,b,ys,rfl,rfl,ha,hb,q⟩:=h;cases rx;cases ry;obtain⟨its,r1,p1,_⟩:=I.tuple ha;obtain⟨its2,r2,p2,_⟩:=I.tuple hb;exact HT.cat_tup0 p1 p2 (r1.nil_iff.mpr rfl) ⟨.ref b,H,I,rfl,q⟩
def uo(K:Fg):R2:=λx y H Q=>NZ K x y H Q\/d9 K x y H Q
def rq:lK X (eO .Add) (uo X.K):=Nt.or cx
def RO(K:Fg):V->Option Int->Option Int->Hp->VK->Prop:=λx lo hi H Q=>∃a xs,x=.ref a/\dA K H a xs/\(HT.sIx xs.length 0 lo=0/\HT.sIx xs.length xs.length hi=xs.length)/\Q (.ref a) H
def Re:Kb X (RO X.K):=by
 intro pins s σ H x v vl vu lo hi sl Q I rx hs pl pu h;obtain⟨a,xs,rfl,hx,hw,q⟩:=h;cases rx;obtain⟨its,r,ht,hz⟩:=I.tuple hx;have hlen:its.toArray.size=xs.length:=by rw[aF];exact r.length.symm
 refine⟨"tuple",_,dc.lookup,ht.typeIs,?_⟩;exact HT.getItem_tuple_all ht hs pl pu (by rw[hlen];exact hw) ⟨.ref a,H,I,rfl,q⟩
def N6(K:Fg):V->Option Int->Option Int->Hp->VK->Prop:=λx lo hi H Q=>RO K x lo hi H Q\/F1 K x lo hi H Q
def Ek:Kb X (N6 X.K):=Re.or ju
def RK(K:Fg):R2:=λx y H Q=>∃p q xs,x=.ref p/\y=.ref q/\dA K H p xs/\dA K H q []/\Q (.bl (decide (xs=[]))) H
def Qc(hu:X.A.units<cLine):lK X (cM .Eq) (RK X.K):=by
 intro pins s σ H x y v u Q I rx ry h;obtain⟨p,q,xs,rfl,rfl,h1,h2,qq⟩:=h;cases rx;cases ry;obtain⟨us,r1,t1,_⟩:=I.tuple h1;obtain⟨vs,r2,t2,_⟩:=I.tuple h2;have ev:vs=[]:=r2.nil_iff.mpr rfl;subst ev;refine SeqAt.eq_tupleAt (e:=λ_=>true) (show s.heap.IsTuple p us.toArray from t1) (show s.heap.IsTuple q ([]:List ae).toArray from t2) hu (λj h1 h2=>absurd h2 (by simp)) ⟨.bl (decide (xs=[])),H,I,?_,qq⟩;show ae.bool _=ae.bool _;congr 1;rw[aF,<-r1.length];cases xs<;>simp
def Ed(K:Fg):R2:=λx y H Q=>RK K x y H Q\/fb K x y H Q
def rp(hu:X.A.units<cLine):lK X (cM .Eq) (Ed X.K):=(Qc hu).or (cw hu)
end
end L2
end
section
namespace PySem
open Sem (wp)
namespace F
end F
def j8(tp:Bool)(h:Heap)(i l:ar)(k:Nat):Prop:=match tp with
 |true=>h.IsTupleIter i l k
 |false=>h.IsListIter i l k
def g8(tp:Bool)(h:Heap)(l:ar)(xs:Array ae):Prop:=match tp with
 |true=>h.IsTuple l xs
 |false=>h.IsList l xs
def j8.at{tp:Bool}{h h':Heap}{i l:ar}{k:Nat}(x:j8 tp h i l k)(e:∀o,h.get? i=some o->h'.get? i=some o):j8 tp h' i l k:=by
 cases tp with
 |true=>exact Heap.IsTupleIter.at (show h.IsTupleIter i l k from x) e
 |false=>exact Heap.IsListIter.at (show h.IsListIter i l k from x) e
def g8.at{tp:Bool}{h h':Heap}{l:ar}{xs:Array ae}(x:g8 tp h l xs)(e:∀o,h.get? l=some o->h'.get? l=some o):g8 tp h' l xs:=by
 cases tp with
 |true=>obtain⟨o,ho,r⟩:=(show h.IsTuple l xs from x);exact⟨o,e o ho,r⟩
 |false=>exact Heap.IsList.at (show h.IsList l xs from x) e
def j8.extBut{tp:Bool}{h h':Heap}{i l b:ar}{k:Nat}(x:j8 tp h i l k)(hs:Heap.ExtBut b h h')(n:i≠b):j8 tp h' i l k:=x.at λo e=>hs i o n e
def g8.extBut{tp:Bool}{h h':Heap}{l b:ar}{xs:Array ae}(x:g8 tp h l xs)(hs:Heap.ExtBut b h h')(n:l≠b):g8 tp h' l xs:=x.at λo e=>hs l o n e
def j8.lt{tp:Bool}{h:Heap}{i l:ar}{k:Nat}(x:j8 tp h i l k):i<h.objs.size:=by
 cases tp with
 |true=>obtain⟨o,ho,_⟩:=(show h.IsTupleIter i l k from x);exact aI ho
 |false=>obtain⟨o,ho,_⟩:=(show h.IsListIter i l k from x);exact aI ho
def g8.lt{tp:Bool}{h:Heap}{l:ar}{xs:Array ae}(x:g8 tp h l xs):l<h.objs.size:=by
 cases tp with
 |true=>obtain⟨o,ho,_⟩:=(show h.IsTuple l xs from x);exact aI ho
 |false=>obtain⟨o,ho,_⟩:=(show h.IsList l xs from x);exact aI ho
def Fw(tp:Bool)(l:ar):Obj:={cls:=.type (if tp then "tuple_iterator" else "list_iterator"),data:=.fields #[.ref l,.int 0 0]}
section
variable{prog:aZ}{w:bK}{A:bu}{E:Zi}{s:aq}
def zY{tp:Bool}{l:ar}{xs:Array ae}{Q:Zi}(hl:g8 tp s.heap l xs)(hQ:Q (.ref s.heap.objs.size) {s with heap:=s.heap.push (Fw tp l)}):aM (model prog w) A (tU (.ref l)) Q E s:=by
 cases tp with
 |true=>exact fU (show s.heap.IsTuple l xs from hl) hQ
 |false=>exact ik (show s.heap.IsList l xs from hl) hQ
def Fu{tp:Bool}{l:ar}(h:Heap):j8 tp (h.push (Fw tp l)) h.objs.size l 0:=by
 cases tp with
 |true=>exact⟨_,aO _ rfl,rfl,rfl⟩
 |false=>exact⟨_,aO _ rfl,rfl,rfl⟩
def u4{it t:ar}{i:Nat}{items}{x:ae}{Q:Zi}(hit:s.heap.IsTupleIter it t i)
  (ht:s.heap.IsTuple t items) (hx:items[i]?=some x)
  (hQ:∀h',h'.IsTupleIter it t (i+1)->Heap.SameBut it s.heap h'->Q x {s with heap:=h'}) :
  aM (model prog w) A (aS.SmallTypes.nextOf (.ref it)) Q E s:=by
 obtain⟨o,ho,hc,hd⟩:=id hit;obtain⟨ol,hol,_,nl,hdl⟩:=ht;unfold aS.SmallTypes.nextOf;refine aa (b8 (name:=Str.ofString "__next__") hit.typeIs F.slot_tuple_iterator_next
  (dq F.slot_tuple_iterator_next hit.typeIs F.entry_tuple_iterator_next ?_ (F.args_tuple_iterator_next_1 _)))
 show aM _ _ (field (.ref it) 0 >>= _) _ _ s;refine aa (bQ ho hd (x:=.ref t) rfl ?_);show aM _ _ (if(ae.ref t==ae.none)=true then _ else _) _ _ s;rw[if_neg (show ¬((ae.ref t==ae.none)=true) from Bool.false_ne_true)];show aM _ _ (field (.ref it) 1 >>= _) _ _ s;refine aa (bQ ho hd (x:=.int i 0) rfl ?_);show aM _ _ (lU (.ref t) >>= _) _ _ s;refine aa (dB hol hdl ?_);simp only[dJ,hx];refine aa (iE ho hd (by simp) (az ⟨x,rfl,az (hQ _ ?_ (Heap.SameBut.update ..))⟩));exact⟨_,cA _ ho (Obj.isFreed_of_fields (Obj.data_mapFields hd _)),(Obj.cls_mapFields ..).trans hc,by
  rw[Obj.data_mapFields hd];simp[ki]⟩
def wA{it t:ar}{i:Nat}{items}{Q:Zi}(hh:A.handled=none)
  (hit:s.heap.IsTupleIter it t i) (ht:s.heap.IsTuple t items) (hx:items[i]?=none)
  (hE:∀h' e,Heap.ExtBut it s.heap h'->(∃o,h'.get? e=some o/\o.cls=.type "StopIteration")->E (.ref e) {s with heap:=h'}):aM (model prog w) A (aS.SmallTypes.nextOf (.ref it)) Q E s:=by
 obtain⟨o,ho,hc,hd⟩:=id hit;obtain⟨ol,hol,_,nl,hdl⟩:=ht;unfold aS.SmallTypes.nextOf;refine aa (b8 (name:=Str.ofString "__next__") hit.typeIs F.slot_tuple_iterator_next
  (dq F.slot_tuple_iterator_next hit.typeIs F.entry_tuple_iterator_next ?_ (F.args_tuple_iterator_next_1 _)))
 show aM _ _ (field (.ref it) 0 >>= _) _ _ s;refine aa (bQ ho hd (x:=.ref t) rfl ?_);show aM _ _ (if(ae.ref t==ae.none)=true then _ else _) _ _ s;rw[if_neg (show ¬((ae.ref t==ae.none)=true) from Bool.false_ne_true)];show aM _ _ (field (.ref it) 1 >>= _) _ _ s;refine aa (bQ ho hd (x:=.int i 0) rfl ?_);show aM _ _ (lU (.ref t) >>= _) _ _ s;refine aa (dB hol hdl ?_);simp only[dJ,hx];refine aa (iD (aa (iE ho hd (by simp) ?_)));show aM _ _ (newExc (.type "StopIteration") [] >>= _) _ _ _;refine aa ?_;simp only[newExc,newTuple];refine aa (b4 ?_ (by size_fits));refine aa (m:=ma _ _) (kL (a:=ae.none) (by first|rfl|(simp only[ma];rfl)) ?_)
 refine b4 ?_ (by size_fits);simp only[raiseNew];refine aa (wpAny_handled ?_)
 first|rw[show A.in1.handled=none from hh]|rw[hh]
 refine aa (az (wpAny_throw ?_));exact hE _ _ (((Heap.SameBut.update ..).extBut.push _).push _) ⟨_,aO _ rfl,rfl⟩
def xD{tp:Bool}{it l:ar}{i:Nat}{xs:Array ae}{x:ae}{Q:Zi}(hit:j8 tp s.heap it l i)(hl:g8 tp s.heap l xs)(hx:xs[i]?=some x)
  (hQ:∀h',j8 tp h' it l (i+1)->Heap.SameBut it s.heap h'->Q x {s with heap:=h'}):aM (model prog w) A (aS.SmallTypes.nextOf (.ref it)) Q E s:=by
 cases tp with
 |true=>exact u4 hit hl hx hQ
 |false=>exact wpAny_nextOf_list_item hit hl hx hQ
def zO{tp:Bool}{it l:ar}{i:Nat}{xs:Array ae}{Q:Zi}(hh:A.handled=none)(hit:j8 tp s.heap it l i)(hl:g8 tp s.heap l xs)(hx:xs[i]?=none)
  (hE:∀h' e,Heap.ExtBut it s.heap h'->(∃o,h'.get? e=some o/\o.cls=.type "StopIteration")->E (.ref e) {s with heap:=h'}):aM (model prog w) A (aS.SmallTypes.nextOf (.ref it)) Q E s:=by
 cases tp with
 |true=>exact wA hh hit hl hx hE
 |false=>exact wpAny_nextOf_list_end hh hit hl hx hE
end
abbrev Do(h:Heap)(z TI TO T0:ar)(b:Bool):Prop:=
 h.get? z=some {cls:=.type "zip",dict:=none,data:=.fields #[ki T0,.bool b,.bool false,.ref TI,.ref TO],slots:=#[]}
section
variable{prog:aZ}{w:bK}{A:bu}{E:Zi}{s:aq}{t1 t2:Bool}
def LK{a:ar}{Q:Option Obj->aq->Prop}(h:Q (s.heap.get? a) s):aM (model prog w) A (loadIfAlive a) Q E s:=λΓ p hin=>by
 show wp _ Γ (Sem.loadIfAlive a Sem.pure) _ _ p s;rw[Sem.wp_loadIfAlive];exact az (M:=model prog w) (A:=A) (E:=E) h Γ p hin
def OU{z TI TO T0 i1 i2 l1 l2:ar}{k1 k2:Nat}{xs ys:Array ae}{b:Bool}{oT:Obj}{Q:Fin->aq->Prop}(hh:A.handled=none)(D:oq z TI TO i1 i2 l1 l2)
  (hz:Do s.heap z TI TO T0 b) (hTI:ie s.heap TI (.ref i1) (.ref i2)) (hT0:s.heap.get? T0=some oT)
  (h1:j8 t1 s.heap i1 l1 k1) (h2:j8 t2 s.heap i2 l2 k2) (hl1:g8 t1 s.heap l1 xs) (hl2:g8 t2 s.heap l2 ys) (hend:xs[k1]?=none)
  (hE:∀h' e,(∀c o,c≠z->c≠i1->c≠i2->s.heap.get? c=some o->h'.get? c=some o)->(∃o,h'.get? e=some o/\o.cls=.type "StopIteration")->E (.ref e) {s with heap:=h'}) :
  aM (model prog w) A (aS.«zip.__next__» ⟨[.ref z],[]⟩) Q E s:=by
 show aM _ _ (field (.ref z) 2 >>= _) _ _ _;refine aa (bQ hz rfl (x:=.bool false) rfl ?_);show aM _ _ (field (.ref z) 3 >>= _) _ _ _;refine aa (bQ hz rfl (x:=.ref TI) rfl ?_);refine aa (dB hTI rfl ?_);show aM _ _ (aS.SmallTypes.ownedTupleIsFree (.ref z) >>= _) _ _ _;refine aa ?_;unfold aS.SmallTypes.ownedTupleIsFree;refine aa (bQ hz rfl (x:=ki T0) rfl ?_);show aM _ _ (loadIfAlive (T0:Int).toNat >>= _) _ _ _;have hn:(T0:Int).toNat=T0:=by lia
 rw[hn];refine aa (LK ?_);rw[hT0];show aM _ _ (field (.ref z) 1 >>= _) _ _ _;refine aa (bQ hz rfl (x:=.bool b) rfl ?_);have key:∀(h₁:Heap) (Q':Zi),Heap.SameBut z s.heap h₁->aM (model prog w) A (aS.SmallTypes.nextOf (.ref i1)) Q' E {s with heap:=h₁}:=by
  intro h₁ Q' hs₁;refine zO hh (h1.extBut hs₁.extBut D.i1z) (hl1.extBut hs₁.extBut D.l1z) hend λh₂ e hs₂ he=>?_;exact hE h₂ e (λc o c1 c2 _ x=>hs₂ _ _ c2 (hs₁.extBut _ _ c1 x)) he
 cases b with
 |true=>
  rw[if_neg (by decide)];refine az ?_;rw[if_neg (by decide)];simp only[List.forIn_toArray,jg,md];refine aa (aa (aa (bW ?_)));show aM _ _ (aS.SmallTypes.nextOf (.ref i1) >>= _) _ _ _;exact aa (key s.heap _ (Heap.SameBut.refl ..))
 |false=>
  rw[if_pos (by decide)];refine aa (wpAny_setField_rec hz (by simp) λh₁ hz₁ hs₁=>?_);refine az ?_;rw[if_neg (by decide)];simp only[List.forIn_toArray,jg,md];refine aa (aa (aa (bW ?_)));show aM _ _ (aS.SmallTypes.nextOf (.ref i1) >>= _) _ _ _;exact aa (key h₁ _ hs₁)
end
structure RZ(z TI TO:ar)(f:ae)(b:Bool)(h h':Heap):Prop where
 at_:h'.get? z=some {cls:=.type "zip",dict:=none,data:=.fields #[f,.bool b,.bool false,.ref TI,.ref TO],slots:=#[]}
 sm:Heap.SameBut z h h'
section
variable{prog:aZ}{w:bK}{A:bu}{E:Zi}{s:aq}{t1 t2:Bool}
def Jx{z TI TO:ar}{f f':ae}{b:Bool}{Q:Unit->aq->Prop}(hz:s.heap.get? z=some {cls:=.type "zip",dict:=none,data:=.fields #[f,.bool b,.bool false,.ref TI,.ref TO],slots:=#[]})
  (k:∀h',RZ z TI TO f' b s.heap h'->Q () {s with heap:=h'}):aM (model prog w) A (setField (.ref z) 0 f') Q E s:=
 wpAny_setField_rec hz (by simp) λh' a e=>k h' ⟨a,e⟩
def LO{z TI TO i1 i2 l1 l2:ar}{k1 k2:Nat}{xs ys:Array ae}{x y a b:ae}{Q:Zi}(D:oq z TI TO i1 i2 l1 l2)
  (hz:IsZip s.heap z TI TO .none) (hTI:ie s.heap TI (.ref i1) (.ref i2)) (hTO:ie s.heap TO a b)
  (h1:j8 t1 s.heap i1 l1 k1) (h2:j8 t2 s.heap i2 l2 k2) (hl1:g8 t1 s.heap l1 xs) (hl2:g8 t2 s.heap l2 ys) (hx:xs[k1]?=some x) (hy:ys[k2]?=some y)
  (k:∀h',Do h' z TI TO s.heap.objs.size false->j8 t1 h' i1 l1 (k1+1)->j8 t2 h' i2 l2 (k2+1)->ie h' s.heap.objs.size x y->ie h' TO x y->
   (∀c o,c≠z->c≠TO->c≠i1->c≠i2->s.heap.get? c=some o->h'.get? c=some o)->Q (.ref s.heap.objs.size) {s with heap:=h'}) :
  aM (model prog w) A (aS.«zip.__next__» ⟨[.ref z],[]⟩) (λfin s'=>∃v,fin=.done (.ret v)/\Q v s') E s:=by
 refine aa (m:=field (.ref z) 2) (bQ hz rfl (x:=.bool false) rfl ?_);refine aa (m:=field (.ref z) 3) (bQ hz rfl (x:=.ref TI) rfl (aa (dB hTI rfl ?_)));refine aa (m:=aS.SmallTypes.ownedTupleIsFree (.ref z)) (aa (bQ hz rfl (x:=.none) rfl (az ?_)));refine aa (iD (aa (bQ hz rfl (x:=.ref TO) rfl (aa (Jx hz λg1 m1=>?_)))));simp only[List.zipIdx_cons,List.zipIdx_nil,jg,md];have e1:=m1.sm.extBut;refine aa (aa (aa (nB (aa (m:=aS.SmallTypes.nextOf (.ref i1)) (xD (h1.extBut e1 D.i1z) (hl1.extBut e1 D.l1z) hx λg2 i1' s2=>az ?_)))));have e2:=s2.extBut;have o2:ie g2 TO a b:=e2 _ _ D.TOi1 (e1 _ _ D.TOz hTO);refine aa (dB o2 rfl (aa (wpAny_updateSeq_pair o2 λg3 o3 s3=>aa (kK (az ?_)))));have e3:=s3.extBut
 replace o3:ie g3 TO x b:=o3
 refine aa (aa (nB (aa (m:=aS.SmallTypes.nextOf (.ref i2)) (xD (((h2.extBut e1 D.i2z).extBut e2 D.i12.symm).extBut e3 D.TOi2.symm) (((hl2.extBut e1 D.l2z).extBut e2 D.l2i1).extBut e3 D.l2TO) hy λg4 i2' s4=>az ?_))));have e4:=s4.extBut;have o4:ie g4 TO x b:=e4 _ _ D.TOi2 o3;refine aa (dB o4 rfl (aa (wpAny_updateSeq_pair o4 λg5 o5 s5=>aa (kK (az (az ?_))))));have e5:=s5.extBut
 replace o5:ie g5 TO x y:=o5
 refine aa (dB o5 rfl (aa (wpAny_newTuple ?_)));have size:g5.objs.size=s.heap.objs.size:=(s5.1.trans (s4.1.trans (s3.1.trans (s2.1.trans m1.sm.1))));have z5:=ak {cls:=.type "tuple",data:=.seq #[x,y]} (e5 _ _ D.TOz.symm (e4 _ _ D.i2z.symm (e3 _ _ D.TOz.symm (e2 _ _ D.i1z.symm m1.at_))));have zl:z≠g5.objs.size:=by rw[size];exact a9 (aI hz)
 refine aa (m:=aS.SmallTypes.ownedTupleHandOut (.ref z) (.ref g5.objs.size)) (aa (Jx z5 λg6 m6=>wpAny_setField_rec m6.at_ (by simp) λg7 z7 s7=>az ⟨_,rfl,?_⟩));have up:∀c o,c≠z->g5.get? c=some o->g7.get? c=some o:=λc o n e=>s7.extBut _ _ n (m6.sm.extBut _ _ n (ak _ e));have pr:ie g7 g5.objs.size x y:=s7.extBut _ _ (Ne.symm zl) (m6.sm.extBut _ _ (Ne.symm zl) (aO _ rfl));rw[size] at pr;show Q (.ref g5.objs.size) _;have z7':Do g7 z TI TO g5.objs.size false:=z7;rw[size] at z7' ⊢;refine k g7 z7' ?_ ?_ pr (up _ _ D.TOz o5) λc o c1 c2 c3 c4 e=>up c o c1 (e5 _ _ c2 (e4 _ _ c4 (e3 _ _ c2 (e2 _ _ c3 (e1 _ _ c1 e)))))
 ·exact(((i1'.extBut e3 D.TOi1.symm).extBut e4 D.i12).extBut e5 D.TOi1.symm).at λo e=>up _ o D.i1z e
 ·exact(i2'.extBut e5 D.TOi2.symm).at λo e=>up _ o D.i2z e
def OT{z TI TO i1 i2 l1 l2:ar}{k1 k2:Nat}{xs ys:Array ae}{Q:Fin->aq->Prop}(hh:A.handled=none)(D:oq z TI TO i1 i2 l1 l2)
  (hz:IsZip s.heap z TI TO .none) (hTI:ie s.heap TI (.ref i1) (.ref i2)) (h1:j8 t1 s.heap i1 l1 k1) (hl1:g8 t1 s.heap l1 xs) (hx:xs[k1]?=none)
  (k:∀h' e,(∀c o,c≠z->c≠i1->c≠i2->s.heap.get? c=some o->h'.get? c=some o)->(∃o,h'.get? e=some o/\o.cls=.type "StopIteration")->E (.ref e) {s with heap:=h'}) :
  aM (model prog w) A (aS.«zip.__next__» ⟨[.ref z],[]⟩) Q E s:=by
 refine aa (m:=field (.ref z) 2) (bQ hz rfl (x:=.bool false) rfl ?_);refine aa (m:=field (.ref z) 3) (bQ hz rfl (x:=.ref TI) rfl (aa (dB hTI rfl ?_)));refine aa (m:=aS.SmallTypes.ownedTupleIsFree (.ref z)) (aa (bQ hz rfl (x:=.none) rfl (az ?_)));refine aa (iD (aa (bQ hz rfl (x:=.ref TO) rfl (aa (Jx hz λg1 m1=>?_)))));simp only[List.zipIdx_cons,List.zipIdx_nil,jg,md];have e1:=m1.sm.extBut;refine aa (aa (aa (nB (aa (m:=aS.SmallTypes.nextOf (.ref i1)) (zO hh (h1.extBut e1 D.i1z) (hl1.extBut e1 D.l1z) hx λg2 e x2 ⟨oe,he,ce⟩=>?_)))));have z2:=x2 _ _ D.i1z.symm m1.at_;have ne:e≠z:=λq=>by subst q;rw[z2] at he;cases he;simp at ce
 exact Jx z2 λg3 m3=>k g3 e (λc o c1 c2 _ q=>m3.sm.extBut _ _ c1 (x2 _ _ c2 (e1 _ _ c1 q))) ⟨oe,m3.sm.extBut _ _ ne he,ce⟩
end
abbrev Uq(t1:Bool)(h:Heap)(l1:ar):Heap:=h.push (Fw t1 l1)
abbrev Vj(t1 t2:Bool)(h:Heap)(l1 l2:ar):Heap:=(Uq t1 h l1).push (Fw t2 l2)
abbrev Vk(t1 t2:Bool)(h:Heap)(l1 l2:ar):Heap:=(Vj t1 t2 h l1 l2).push {cls:=.type "tuple",data:=.seq #[.ref h.objs.size,.ref (Uq t1 h l1).objs.size]}
abbrev Vl(t1 t2:Bool)(h:Heap)(l1 l2:ar):Heap:=(Vk t1 t2 h l1 l2).push {cls:=.type "tuple",data:=.seq #[.none,.none]}
abbrev Ur(t1 t2:Bool)(h:Heap)(l1 l2:ar):Heap:=(Vl t1 t2 h l1 l2).push {cls:=.type "zip",data:=.fields #[.none,.bool false,.bool false,.ref (Vj t1 t2 h l1 l2).objs.size,.ref (Vk t1 t2 h l1 l2).objs.size]}
def Bp{t1 t2:Bool}(l1 l2:ar)(xs ys:Array ae) :
  Meets (aS.«zip.__new__» ⟨[.type "zip",.ref l1,.ref l2],[]⟩) (λ_ R s=>g8 t1 s.heap l1 xs/\g8 t2 s.heap l2 ys/\
   R (.ok (.ret (.ref (Vl t1 t2 s.heap l1 l2).objs.size))) {s with heap:=Ur t1 t2 s.heap l1 l2}):=
 .of_wp λprog w A R s h=>by
  obtain⟨hp,g,d,tk,os⟩:=s;obtain⟨a1,a2,h⟩:=h;have hsub:=sub_zip;have b1:g8 t1 (aq.heap ⟨hp,g,d,tk,os⟩) l1 xs:=a1;have b2:g8 t2 (aq.heap ⟨hp.push (Fw t1 l1),g,d,tk,os⟩) l2 ys:=a2.at λo e=>ak _ e
  wp_walk using zY b1,zY b2
  exact⟨_,rfl,h⟩
section
variable{prog:aZ}{w:bK}{A:bu}{R:Result->aq->Prop}{t1 t2:Bool}{K:Type}[DecidableEq K]{knd:KeyKind prog w K}
structure Ml(t1 t2:Bool)(z TI TO i1 i2 l1 l2:ar)(xs ys:Array ae)(i:Nat)(h:Heap):Prop where
 ti:ie h TI (.ref i1) (.ref i2)
 a1:j8 t1 h i1 l1 i
 a2:j8 t2 h i2 l2 i
 s1:g8 t1 h l1 xs
 s2:g8 t2 h l2 ys
 st:(IsZip h z TI TO .none/\∃a b,ie h TO a b)\/∃T0 b o,Do h z TI TO T0 b/\h.get? T0=some o/\o.cls=.type "tuple"
def Ml.typeIs{z TI TO i1 i2 l1 l2:ar}{xs ys:Array ae}{i:Nat}{s:aq}(st:Ml t1 t2 z TI TO i1 i2 l1 l2 xs ys i s.heap):s.TypeIs (.ref z) "zip":=by
 rcases st.st with⟨h,_⟩|⟨_,_,_,h,_⟩<;>exact⟨_,h,rfl⟩
def OV{E:Zi}{z TI TO i1 i2 l1 l2:ar}{xs ys:Array ae}{i:Nat}{s:aq}{Q:Option ae->aq->Prop}(hh:A.handled=none)(D:oq z TI TO i1 i2 l1 l2)(st:Ml t1 t2 z TI TO i1 i2 l1 l2 xs ys i s.heap)(hx:xs[i]?=none)
  (k:∀h',(∀c o,c≠z->c≠i1->c≠i2->s.heap.get? c=some o->h'.get? c=some o)->Q none {s with heap:=h'}):aM (model prog w) A (kh (.ref z)) Q E s:=by
 have hT:=st.typeIs;have fin:∀(h':Heap) (e:ar),(∀c o,c≠z->c≠i1->c≠i2->s.heap.get? c=some o->h'.get? c=some o)->(∃o,h'.get? e=some o/\o.cls=.type "StopIteration")->
   aM (model prog w) A (tT (.ref e) (.type "StopIteration")) (λa s'=>a=true/\Q none s') E {s with heap:=h'}:=λh' e kp ⟨o,ho,hc⟩=>ko (T:="StopIteration") (b:=true) ⟨o,ho,hc⟩ isSubtype_stop ⟨rfl,k h' kp⟩
 unfold kh;refine aa (kD (b8 (name:=Str.ofString "__next__") hT F.slot_zip_next (dq F.slot_zip_next hT F.entry_zip_next ?_ (F.args_zip_next_1 _))));rcases st.st with⟨hz,a,b,ho⟩|⟨T0,b,o,hz,h0,hc⟩
 ·refine OT (ys:=ys) (k2:=0) hh D hz st.ti st.a1 st.s1 hx λh' e kp he=>aa (c7 (fin h' e kp he) (λa s' q=>?_) λ_ _ z=>z);obtain⟨rfl,q⟩:=q;exact az q
 ·refine OU hh D hz st.ti h0 st.a1 st.a2 st.s1 st.s2 hx λh' e kp he=>aa (c7 (fin h' e kp he) (λa s' q=>?_) λ_ _ z=>z);obtain⟨rfl,q⟩:=q;exact az q
end
section
variable{prog:aZ}{w:bK}{A:bu}{E:Zi}{s:aq}{t1 t2:Bool}{K:Type}[DecidableEq K]{knd:KeyKind prog w K}
def DM{l1 l2:ar}{xs ys:Array ae}{Q:Zi}(a1:g8 t1 s.heap l1 xs)(a2:g8 t2 s.heap l2 ys)
  (h:∀h' z TI TO i1 i2,s.heap.objs.size<=TI->oq z TI TO i1 i2 l1 l2->s.heap.objs.size<=z->s.heap.objs.size<=TO->s.heap.objs.size<=i1->s.heap.objs.size<=i2->IsZip h' z TI TO .none->ie h' TO .none .none->ie h' TI (.ref i1) (.ref i2)->j8 t1 h' i1 l1 0->j8 t2 h' i2 l2 0->
   (∀c o,s.heap.get? c=some o->h'.get? c=some o)->Q (.ref z) {s with heap:=h'}) :
  aM (model prog w) A (call (.type "zip") [.ref l1,.ref l2]) Q E s:=by
 refine callType_new F.called_zip (by decide) (F.typeCall_zip_2 _ _) (F.newCall_zip_2 _ _) (λobj=>F.args_object_init_3 obj _ _) F.entry_zip_new (Bp (t1:=t1) (t2:=t2) l1 l2 xs ys) ⟨a1,a2,?_⟩;have zA:(Uq t1 s.heap l1).objs.size=s.heap.objs.size+1:=cY ..;have zB:(Vj t1 t2 s.heap l1 l2).objs.size=s.heap.objs.size+2:=(cY ..).trans (by rw[zA]);have zC:(Vk t1 t2 s.heap l1 l2).objs.size=s.heap.objs.size+3:=(cY ..).trans (by rw[zB]);have zD:(Vl t1 t2 s.heap l1 l2).objs.size=s.heap.objs.size+4:=(cY ..).trans (by rw[zC]);have q1:=a1.lt;have q2:=a2.lt;have pz:(Ur t1 t2 s.heap l1 l2).get? (Vl t1 t2 s.heap l1 l2).objs.size=some _:=aO _ rfl;have po:(Ur t1 t2 s.heap l1 l2).get? (Vk t1 t2 s.heap l1 l2).objs.size=some _:=ak _ (aO _ rfl);have pi:(Ur t1 t2 s.heap l1 l2).get? (Vj t1 t2 s.heap l1 l2).objs.size=some _:=ak _ (ak _ (aO _ rfl));have b2:j8 t2 (Ur t1 t2 s.heap l1 l2) (Uq t1 s.heap l1).objs.size l2 0:=(Fu (Uq t1 s.heap l1)).at λo e=>ak _ (ak _ (ak _ e));have b1:j8 t1 (Ur t1 t2 s.heap l1 l2) s.heap.objs.size l1 0:=(Fu s.heap).at λo e=>ak _ (ak _ (ak _ (ak _ e)));refine⟨⟨_,pz,rfl⟩,h _ (Vl t1 t2 s.heap l1 l2).objs.size (Vj t1 t2 s.heap l1 l2).objs.size (Vk t1 t2 s.heap l1 l2).objs.size s.heap.objs.size (Uq t1 s.heap l1).objs.size (by lia) ?_ (by lia) (by lia) (by lia) (by lia) pz po pi b1 b2 λc o e=>
  ak _ (ak _ (ak _ (ak _ (ak _ e))))⟩
 rw[zD,zB,zC,zA];exact PyProof.Rows.zipApart_new q1 q2
end
end PySem
namespace L2
open PySem PySem.Spec PyProof.Rows
section
variable{X:Cx}
end
def eK(K:Fg)(x:Str):ar:=match bG K bg x with
 |some (some (.ref C))=>C
 |_=>0
def E9{K:Fg}{x:Str}{C:ar}(h:bG K bg x=some (some (.ref C))):eK K x=C:=by unfold eK;rw[h]
def Ry(s:Stmt)(i:Nat):Stmt:=match s with
 |.ClassDef _ _ _ b _ _ _ _ _ _ _=>b.getD i (.Pass ⟨0,0,0,0⟩)
 |_=>.Pass ⟨0,0,0,0⟩
section
variable{X:Cx}{C:ar}{m x:Str}{ps:List Str}{k:Nat}{sp:Sp}{e o:Expr}{es:List Expr}{ta:TE}{t:TA}{p pos apos:Pos}
def QL{d i:Expr}{td ty:TE}(hu:X.A.units+1<cLine)(ho:QE X d td)(hi:QE X i ty)(hs:R1 i):QE X (.Subscript d i pos) (Ow td ty):=⟨Qj hu ho.up hi.up hs⟩
end
section
variable{X:Cx}
end
section
variable{X:Cx}
end
section
variable{X:Cx}{pins:List (ar×Obj)}{σ:St}{H:Hp}{s:aq}{d:ar}{kvs:List (iy×V)}{u u':HO}
def PX{P:aZ}{w:bK}{k:iy}{u:ae}(h:(fJ P w).is k u=true):d5 (kV k) u:=by
 cases k with
 |inl i=>
  obtain⟨t,rfl⟩:=ae.isInt_shape (k:=i) (v:=u) h;exact⟨t,rfl⟩
 |inr x=>
  obtain⟨t,rfl⟩:=ae.isStrOf_shape (x:=x) (v:=u) h;exact⟨t,rfl⟩
end
section
variable{X:Cx}{tg:Expr}
end
end L2
end
section
namespace PySem
open Sem (wp)
section
variable{prog:aZ}{w:bK}{A:bu}{R:Result->aq->Prop}{K:Type}[DecidableEq K]{knd:KeyKind prog w K}
end
section
variable{prog:aZ}{w:bK}{A:bu}{E:Zi}{s:aq}{K:Type}[DecidableEq K]{knd:KeyKind prog w K}
end
end PySem
end
section
namespace L2
open PySem PySem.Spec PyProof.Rows
section
variable{X:Cx}
def Dh:∀{xs:List V} {us:List ae},us.length=xs.length->(∀(j:Nat) x u,xs[j]?=some x->us[j]?=some u->d5 x u)->c9 xs us
 |[],[],_,_=>.nil
 |x::xs,u::us,hl,h=>.cons (h 0 x u rfl rfl) (Dh (Nat.succ.inj hl) λj x u e1 e2=>h (j+1) x u e1 e2)
def N4:List V->Hp->VK->Prop:=λxs H Q=>∃(d:ar) (kvs:List (iy×V)),xs=[.ref d]/\Rd H d (.dK kvs)/\∀l,H l=none->Q (.ref l) (upd H l (.lst (kvs.map λkv=>kV kv.1)))
def Hm(hc:X.calm=true):iJ X (.type "list") N4:=by
 intro pins s σ H xs us Q I r h;obtain⟨d,kvs,rfl,hd,q⟩:=h;obtain⟨u,rfl,rx⟩:=kU r;cases rx;obtain⟨z,lo,vs,rel,dd⟩:=Cq I.hok hd;obtain⟨ep,hat⟩:=dd.dictAt;have kl:=rel.length;refine PySem.W.kdl_call (PySem.W.kdl_dict (knd:=fJ X.prog X.w) (kvs:=vs) (ep:=ep) lo) (I.ok.hd hc) hat (by rw[<-kl];exact z) λh' tk acc c hk hD hacc=>?_;have hl:acc.toList.length=vs.length:=by rw[bh];exact hacc.1
 have hv:c9 (kvs.map λkv=>kV kv.1) acc.toList:=Dh (by rw[af];lia) λj x v e1 e2=>by
  rw[aQ] at e1;cases ek:kvs[j]? with
  |none=>rw[ek] at e1;cases e1
  |some p=>
   rw[ek] at e1;have e1':kV p.1=x:=Option.some.inj e1;obtain⟨k,y,e3,his⟩:=hacc.2 j v (by rw[<-cR];exact e2);have:k=p.1:=by
    have a1:(vs.map (·.1))[j]?=some k:=by rw[aQ,e3];rfl
    rw[<-rel.keys,aQ,ek] at a1;exact(Option.some.inj a1).symm
   subst this;rw[<-e1'];exact PX his
 have hn:H s.heap.objs.size=none:=I.hok.fresh (aB _);refine⟨.ref s.heap.objs.size,_,I.laid (t':=tk) (o:=.lst (kvs.map λkv=>kV kv.1)) hk (aB _) ⟨by rw[af];exact z,acc.toList,c,hv,?_⟩,rfl,q _ hn⟩;rw[Array.toArray_toList];exact hD
end
section
variable{X:Cx}
end
section
variable{X:Cx}{tg:Expr}
end
section
variable{X:Cx}{tg l o e f:Expr}{tl td ty tx:TE}{apos cpos:Pos}
end
def GV(K:Fg)(tp:Bool)(H:Hp)(a:ar)(xs:List V):Prop:=match tp with
 |true=>dA K H a xs
 |false=>cN K H a xs
def bZ.seqB{X:Cx}{pins:List (ar×Obj)}{σ:St}{H:Hp}{s:aq}{tp:Bool}{a:ar}{xs:List V}(I:bZ X pins σ H s)(h:GV X.K tp H a xs):∃its:List ae,c9 xs its/\g8 tp s.heap a its.toArray:=by
 cases tp with
 |true=>obtain⟨its,r,p,_⟩:=I.tuple h;exact⟨its,r,p⟩
 |false=>obtain⟨its,r,p,_⟩:=I.list h;exact⟨its,r,p.isList⟩
def bZ.seqB_inj{X:Cx}{pins:List (ar×Obj)}{σ:St}{H:Hp}{s:aq}{tp:Bool}{a:ar}{xs ys:List V}(I:bZ X pins σ H s)(h:GV X.K tp H a xs)(h':GV X.K tp H a ys):xs=ys:=by
 cases tp with
 |true=>exact I.tuple_inj h h'
 |false=>exact I.list_inj h h'
def Fv{tp:Bool}{h:Heap}{i l:ar}{k:Nat}(x:j8 tp h i l k):∃o,h.get? i=some o/\∀v,o.data=.cell v->False:=by
 cases tp with
 |true=>obtain⟨o,e,c,d⟩:=(show h.IsTupleIter i l k from x);exact⟨o,e,λv q=>by rw[d] at q;cases q⟩
 |false=>obtain⟨o,e,c,d⟩:=(show h.IsListIter i l k from x);exact⟨o,e,λv q=>by rw[d] at q;cases q⟩
def EM(K:Fg)(t1 t2:Bool)(a b:ar):It:=
 ⟨λi H=>∃xs x ys y,GV K t1 H a xs/\xs[i]?=some x/\GV K t2 H b ys/\ys[i]?=some y,
  λi H x H'=>∃p v u,H p=none/\x=.ref p/\H'=upd H p (.tup [v,u])/\(∀xs,GV K t1 H a xs->xs[i]?=some v)/\∀ys,GV K t2 H b ys->ys[i]?=some u,
  λi H=>∃xs ys,GV K t1 H a xs/\GV K t2 H b ys/\xs.length<=i⟩
def LJ{P:aZ}{w:bK}{K:Fg}{elts:List Expr}{k:Nat}{pos:Pos}(t1 t2:Bool)(z TI TO i1 i2 l1 l2:ar)(D:oq z TI TO i1 i2 l1 l2) :
  Bd P w K (.Tuple elts k pos) (EM K t1 t2 l1 l2) [z,TI,TO,i1,i2] z (λi h=>IsZip h z TI TO .none/\ie h TI (.ref i1) (.ref i2)/\(∃a b,ie h TO a b)/\j8 t1 h i1 l1 i/\j8 t2 h i2 l2 i) where
 mem:=by simp
 obj:=λi h st b hb=>by
  obtain⟨hz,hTI,⟨a',b',hTO⟩,h1,h2⟩:=st;obtain⟨o1,e1,d1⟩:=Fv h1;obtain⟨o2,e2,d2⟩:=Fv h2;simp only[aE,bj,or_false] at hb;rcases hb with rfl|rfl|rfl|rfl|rfl
  ·exact⟨_,hz,λv q=>by have q':Data.fields _=Data.cell v:=q;cases q'⟩
  ·exact⟨_,hTI,λv q=>by have q':Data.seq _ _=Data.cell v:=q;cases q'⟩
  ·exact⟨_,hTO,λv q=>by have q':Data.seq _ _=Data.cell v:=q;cases q'⟩
  ·exact⟨o1,e1,λv q=>d1 v q⟩
  ·exact⟨o2,e2,λv q=>d2 v q⟩
 keep:=λi h h' st k=>by
  obtain⟨hz,hTI,⟨a',b',hTO⟩,h1,h2⟩:=st;exact⟨k z (by simp) _ hz,k TI (by simp) _ hTI,⟨a',b',k TO (by simp) _ hTO⟩,h1.at λo q=>k i1 (by simp) o q,h2.at λo q=>k i2 (by simp) o q⟩
 item:=by
  intro X hP hw hK hc i pins s σ H E I hf st hg;subst hP hw hK;obtain⟨hz,hTI,⟨a',b',hTO⟩,h1,h2⟩:=st;obtain⟨xs,x,ys,y,hq1,hx,hq2,hy⟩:=hg;obtain⟨its1,rv1,p1⟩:=I.seqB hq1;obtain⟨its2,rv2,p2⟩:=I.seqB hq2;obtain⟨u,hu,ru⟩:=rv1.get hx;obtain⟨v,hv,rv⟩:=rv2.get hy;have hT:s.TypeIs (.ref z) "zip":=⟨_,hz,rfl⟩;unfold kh;refine aa (kD (b8 (name:=Str.ofString "__next__") hT F.slot_zip_next (dq F.slot_zip_next hT F.entry_zip_next ?_ (F.args_zip_next_1 _))));refine LO D hz hTI hTO h1 h2 p1 p2 (x:=u) (y:=v) (by simpa using hu) (by simpa using hv) λh3 a1 a3 a4 a5 a2 hk=>az ?_;refine⟨_,rfl,?_⟩;have fT:sC X pins H s.heap.objs.size:=I.fpOk (aB _) (I.hok.fresh (aB _));have lt:∀{c o},s.heap.get? c=some o->c≠s.heap.objs.size:=λe=>a9 (aI e);refine wpAny_letOwnedTupleGo_zip a1 λh4 hz4 hs4=>?_;have I1:bZ X pins σ H {s with heap:=h4,toks:=s.toks}:=I.turnedL (t':=s.toks) (ch:=[z,TI,TO,i1,i2]) (λb o hb q=>by
   have b1:b≠z:=λe=>hb (by simp[e]);exact(hs4.2 b b1).trans (hk b o b1 (λe=>hb (by simp[e])) (λe=>hb (by simp[e])) (λe=>hb (by simp[e])) q)) hf
  have gT:h4.get? s.heap.objs.size=some {cls:=.type "tuple",data:=.seq #[u,v]}:=(hs4.2 _ (Ne.symm (lt hz))).trans a5;have I2:=I1.adopt (T:=s.heap.objs.size) (o:=.tup [x,y]) fT (yO (X:=X) gT ru rv);have ext:∀c o,c≠z->h3.get? c=some o->h4.get? c=some o:=λc o hc q=>(hs4.2 c hc).trans q;refine⟨.ref s.heap.objs.size,_,I2,rfl,⟨s.heap.objs.size,x,y,fT.1,rfl,rfl,λzs hz=>by rw[I.seqB_inj hz hq1];exact hx,λzs hz=>by rw[I.seqB_inj hz hq2];exact hy⟩,
   ⟨hz4,ext _ _ D.TIz (hk _ _ D.TIz D.TITO D.TIi1 D.TIi2 hTI),⟨_,_,ext _ _ D.TOz a2⟩,a3.at λo q=>ext _ o D.i1z q,a4.at λo q=>ext _ o D.i2z q⟩,λb hb=>?_⟩
  have nT:b≠s.heap.objs.size:=by
   simp only[aE,bj,or_false] at hb;rcases hb with rfl|rfl|rfl|rfl|rfl
   ·exact lt hz
   ·exact lt hTI
   ·exact lt hTO
   ·exact a9 h1.lt
   ·exact a9 h2.lt
  rw[aL nT];exact(hf b hb).1
 done:=by
  intro X hP hw hK hc i pins s σ H E I hf st hg;subst hP hw hK;obtain⟨hz,hTI,⟨a',b',hTO⟩,h1,h2⟩:=st;obtain⟨xs,ys,hq1,hq2,hend⟩:=hg;obtain⟨its1,rv1,p1⟩:=I.seqB hq1;obtain⟨its2,rv2,p2⟩:=I.seqB hq2;have l1':=rv1.length;refine OV (I.ok.hd hc) D ⟨hTI,h1,h2,p1,p2,.inl ⟨hz,a',b',hTO⟩⟩ (by simp;lia) λh3 hk=>⟨rfl,?_⟩;exact I.turnedL (t':=s.toks) (ch:=[z,TI,TO,i1,i2]) (λb o hb q=>hk b o (λe=>hb (by simp[e])) (λe=>hb (by simp[e])) (λe=>hb (by simp[e])) q) hf
 self:=λ_ _ _ _ _ st h=>kr st.1 h
def MX(K:Fg)(tl:TA):TI:=λσ H R=>tl σ H λvs H1=>∃t1 t2 a b,vs=[.ref a,.ref b]/\(∃xs,GV K t1 H1 a xs)/\(∃xs,GV K t2 H1 b xs)/\R (EM K t1 t2 a b) H1
section
variable{X:Cx}{elts:List Expr}{k:Nat}{tpos:Pos}
def Qs{a b:Expr}{ta:TA}{p pos:Pos}(hg:Gl X "zip")(hm:X.mg "zip"=none)(ha:PA X [a,b] ta)(hs:aT [a,b] X.env=[(false,eval a X.env),(false,eval b X.env)]:=by rfl)(hs2:aT [b] X.env=[(false,eval b X.env)]:=by rfl) :
  PI X (.Tuple elts k tpos) (.Call (.Name "zip" p) [a,b] [] pos) (MX X.K ta):=by
 intro pins s σ H R I h;refine Call_ (lA I hg hm boot_zip (cL (gs (ha pos pins s σ H _ I h) λus s1 ⟨vs,H1,I1,r1,q1⟩=>?_) (by rw[hs,hs2]) (by rw[hs2];rfl)));obtain⟨t1,t2,l1,l2,e,⟨xs,hq1⟩,⟨ys,hq2⟩,q⟩:=q1;subst e;cases r1 with
 |cons r rr=>
  cases rr with
  |cons r' rr=>
   cases rr;cases r;cases r';obtain⟨its1,rv1,p1⟩:=I1.seqB hq1;obtain⟨its2,rv2,p2⟩:=I1.seqB hq2;refine DM (t1:=t1) (t2:=t2) p1 p2 λh1 z TI TO i1 i2 gI D gz gO g1 g2 hz hTO hTI hi1 hi2 hk=>?_;refine kr hz ?_;have I2:bZ X pins σ H1 {s1 with heap:=h1}:=I1.kept (t':=s1.toks) hk;refine⟨_,_,_,_,H1,rfl,I2,LJ t1 t2 z TI TO i1 i2 l1 l2 D,⟨hz,hTI,⟨_,_,hTO⟩,hi1,hi2⟩,λb hb=>?_,q⟩;have hb':s1.heap.objs.size<=b:=by
    simp only[aE,bj,or_false] at hb;rcases hb with rfl|rfl|rfl|rfl|rfl<;>assumption
   exact I1.fpOk hb' (I1.hok.fresh hb')
def QV{a b:Expr}{ta:TA}{p pos:Pos}(hg:Gl X "zip")(hm:X.mg "zip"=none)(ha:QA X [a,b] ta)(hs:aT [a,b] X.env=[(false,eval a X.env),(false,eval b X.env)]:=by rfl)(hs2:aT [b] X.env=[(false,eval b X.env)]:=by rfl):QI X (.Tuple elts k tpos) (.Call (.Name "zip" p) [a,b] [] pos) (MX X.K ta):=
 ⟨Qs hg hm ha.up hs hs2⟩
end
def MR{K:Fg}{t1 t2:Bool}{a b:ar}{xs ys:List V}{g:TG}{tb:TS}{D:oE}{σ:St}{H:Hp}(el:xs.length<=ys.length)(Pv:Nat->St->Hp->Prop)(h0:Pv 0 σ H)(hl:∀i σ H,i<=xs.length->Pv i σ H->GV K t1 H a xs/\GV K t2 H b ys)
  (hs:∀i x y σ H p,xs[i]?=some x->ys[i]?=some y->H p=none->Pv i σ H->g (.ref p) σ (upd H p (.tup [x,y])) λσ2 H2=>tb {D with nx:=Pv (i+1),ct:=Pv (i+1),bk:=D.nx} σ2 H2) (hd:∀σ H,Pv xs.length σ H->D.nx σ H) :
  ∃W:Nat->Nat->St->Hp->Prop,(∃m,W 0 m σ H)/\∀i m σ H,W i m σ H->
   ((EM K t1 t2 a b).stop i H/\D.nx σ H)\/((EM K t1 t2 a b).go i H/\∃N:St->Hp->Prop,(∀σ' H',N σ' H'->∃m',m'<m/\W (i+1) m' σ' H')/\∀x H',(EM K t1 t2 a b).yld i H x H'->g x σ H' λσ2 H2=>tb {D with nx:=N,ct:=N,bk:=D.nx} σ2 H2):=by
 refine⟨λi m σ H=>m=xs.length-i/\i<=xs.length/\Pv i σ H,⟨xs.length,by simp,b9 _,h0⟩,?_⟩;rintro i m σ H ⟨rfl,hi,p⟩;obtain⟨q1,q2⟩:=hl i σ H hi p;by_cases hlt:i<xs.length
 ·have hlt2:i<ys.length:=by lia
  refine .inr ⟨⟨xs,xs[i],ys,ys[i],q1,by simp[hlt],q2,by simp[hlt2]⟩,Pv (i+1),λσ' H' p'=>⟨xs.length-(i+1),by lia,rfl,hlt,p'⟩,λx H' y=>?_⟩;obtain⟨pp,v,u,e1,rfl,rfl,y1,y2⟩:=y;exact hs i v u σ H pp (y1 xs q1) (y2 ys q2) e1 p
 ·have e:i=xs.length:=by lia
  subst e;exact .inl ⟨⟨xs,ys,q1,q2,aB _⟩,hd σ H p⟩
def Kj{js:List Nat}{k:Nat}{K:Fg}{t1 t2:Bool}{a b:ar}{xs ys:List V}{g:TG}{tc:TT}{te:TE}{R:Hp->Prop}{σ:St}{H:Hp}{D:ar}(el:xs.length<=ys.length)(Pv:Nat->St->Hp->Prop)(h0:Pv 0 (EE js k σ) (upd H D (.lst [])))(hl:∀i σ H,i<=xs.length->Pv i σ H->GV K t1 H a xs/\GV K t2 H b ys)
  (hs:∀i x y σ H p,xs[i]?=some x->ys[i]?=some y->H p=none->Pv i σ H->g (.ref p) σ (upd H p (.tup [x,y])) λσ2 H2=>uq D tc te {nx:=Pv (i+1),rt:=λ_ _=>False,ct:=Pv (i+1),bk:=λ_ H'=>R H'} σ2 H2) (hd:∀σ H,Pv xs.length σ H->R H) :
  ∃W:Nat->Nat->St->Hp->Prop,(∃m,W 0 m (EE js k σ) (upd H D (.lst [])))/\∀i m σ H,W i m σ H->
   ((EM K t1 t2 a b).stop i H/\R H)\/((EM K t1 t2 a b).go i H/\∃N:St->Hp->Prop,(∀σ' H',N σ' H'->∃m',m'<m/\W (i+1) m' σ' H')/\∀x H',(EM K t1 t2 a b).yld i H x H'->g x σ H' λσ2 H2=>uq D tc te {nx:=N,rt:=λ_ _=>False,ct:=N,bk:=λ_ H'=>R H'} σ2 H2):=
 MR (D:={nx:=λ_ H'=>R H',rt:=λ_ _=>False}) el Pv h0 hl hs hd
end L2
end
section
namespace PySem.SeqAt
open AutoSeq1 (wpAny_loadPart')
open MeetsSeq MeetsSeq2 MeetsSeq3 SeqRoads2
end PySem.SeqAt
namespace L2
open PySem PySem.Spec PyProof.Rows
section
variable{X:Cx}{o e:Expr}{es:List Expr}{to ta tb:TE}{t:TA}{apos cpos:Pos}
end
section
variable{X:Cx}{C:ar}{m x:Str}{ps:List Str}{k:Nat}{sp:Sp}{e:Expr}{es:List Expr}{t:TA}{p pos apos:Pos}
end
end L2
end
section
namespace Bg
open PySem L2
inductive bU where
 |num (x:Str) (z:Int)
 |op (x s a b:Str)
 |call (x:Str) (k:Nat) (as:List Str)
 |say (a:Str)
 |jump (to:Nat)
 |test (a:Str) (to:Nat)
 |give (a:Str)
structure dr where
 name:Str
 params:List Str
 rows:List bU
def yB:bU->Str
 |.num _ _=>"num"|.op _ _ _ _=>"op"|.call _ _ _=>"call"|.say _=>"say"|.jump _=>"jump"|.test _ _=>"test"|.give _=>"give"
def e7(H:Hp)(v:V):bU->Prop
 |.num x z=>∃p,v=.ref p/\H p=some (.tup [.str "num",.str x,.int z])
 |.op x s a b=>∃p,v=.ref p/\H p=some (.tup [.str "op",.str x,.str s,.str a,.str b])
 |.call x k as=>∃p q,v=.ref p/\H p=some (.tup [.str "call",.str x,.int (k:Nat),.ref q])/\H q=some (.tup (as.map V.str))
 |.say a=>∃p,v=.ref p/\H p=some (.tup [.str "say",.str a])
 |.jump to=>∃p,v=.ref p/\H p=some (.tup [.str "jump",.int (to:Nat)])
 |.test a to=>∃p,v=.ref p/\H p=some (.tup [.str "test",.str a,.int (to:Nat)])
 |.give a=>∃p,v=.ref p/\H p=some (.tup [.str "give",.str a])
def Tp(H H':Hp):Prop:=∀p xs,H p=some (.tup xs)->H' p=some (.tup xs)
def Tp.refl(H:Hp):Tp H H:=λ_ _ h=>h
def Tp.trans{H H1 H2:Hp}(x:Tp H H1)(y:Tp H1 H2):Tp H H2:=λp xs h=>y p xs (x p xs h)
def Tp.of_same{H H':Hp}(x:aK H H'):Tp H H':=λp xs h=>x p _ h
def Tp.of_but{a:ar}{ys:List V}{H H':Hp}(x:gc a H H')(ha:H a=some (.lst ys)):Tp H H':=λp xs h=>x p _ (by rintro rfl;rw[h] at ha;cases ha) h
def Tp.new{p:ar}{H H1:Hp}{o:HO}(x:Tp H H1)(hp:H1 p=none):Tp H (upd H1 p o):=λb xs h=>by
 rw[aL (aC (x b xs h) hp)];exact x b xs h
def Tp.lst{p:ar}{H H1:Hp}{ys:List V}{o:HO}(x:Tp H H1)(hp:H1 p=some (.lst ys)):Tp H (upd H1 p o):=λb xs h=>by
 have h1:=x b xs h;rw[aL (by rintro rfl;rw[h1] at hp;cases hp)];exact h1
def e7.mono{H H':Hp}{v:V}{r:bU}(h:e7 H v r)(t:Tp H H'):e7 H' v r:=by
 cases r with
 |num x z=>obtain⟨p,e,h⟩:=h;exact⟨p,e,t _ _ h⟩
 |op x s a b=>obtain⟨p,e,h⟩:=h;exact⟨p,e,t _ _ h⟩
 |call x k as=>obtain⟨p,q,e,h,h'⟩:=h;exact⟨p,q,e,t _ _ h,t _ _ h'⟩
 |say a=>obtain⟨p,e,h⟩:=h;exact⟨p,e,t _ _ h⟩
 |jump to=>obtain⟨p,e,h⟩:=h;exact⟨p,e,t _ _ h⟩
 |test a to=>obtain⟨p,e,h⟩:=h;exact⟨p,e,t _ _ h⟩
 |give a=>obtain⟨p,e,h⟩:=h;exact⟨p,e,t _ _ h⟩
def e7.ref{H:Hp}{v:V}{r:bU}(h:e7 H v r):∃p xs,v=.ref p/\H p=some (.tup (.str (yB r)::xs)):=by
 cases r with
 |num x z=>obtain⟨p,e,h⟩:=h;exact⟨p,_,e,h⟩
 |op x s a b=>obtain⟨p,e,h⟩:=h;exact⟨p,_,e,h⟩
 |call x k as=>obtain⟨p,q,e,h,h'⟩:=h;exact⟨p,_,e,h⟩
 |say a=>obtain⟨p,e,h⟩:=h;exact⟨p,_,e,h⟩
 |jump to=>obtain⟨p,e,h⟩:=h;exact⟨p,_,e,h⟩
 |test a to=>obtain⟨p,e,h⟩:=h;exact⟨p,_,e,h⟩
 |give a=>obtain⟨p,e,h⟩:=h;exact⟨p,_,e,h⟩
structure b3{α:Type}(R:V->α->Prop)(vs:List V)(rs:List α):Prop where
 len:vs.length=rs.length
 at_:∀(i:Nat) v r,vs[i]?=some v->rs[i]?=some r->R v r
def b3.nil{α:Type}{R:V->α->Prop}:b3 R [] []:=⟨rfl,λi v r h=>by simp at h⟩
def b3.imp{α:Type}{R R':V->α->Prop}{vs:List V}{rs:List α}(h:b3 R vs rs)(f:∀v r,R v r->R' v r):b3 R' vs rs:=⟨h.len,λi v r a b=>f v r (h.at_ i v r a b)⟩
def b3.snoc{α:Type}{R:V->α->Prop}{vs:List V}{rs:List α}{v:V}{r:α}(h:b3 R vs rs)(q:R v r):b3 R (vs++[v]) (rs++[r]):=by
 refine⟨by simp[h.len],λi w t a b=>?_⟩;by_cases hi:i<vs.length
 ·rw[cF hi] at a;rw[cF (by rw[<-h.len];exact hi)] at b;exact h.at_ i w t a b
 ·rw[bV (by omega)] at a;rw[bV (by rw[<-h.len];omega)] at b;have e:i-vs.length=0:=by
   have:=(aj.mp a).1;simp at this;omega
  rw[e] at a;rw[<-h.len,e] at b;simp at a b;rw[<-a,<-b];exact q
def b3.set{α:Type}{R:V->α->Prop}{vs:List V}{rs:List α}{j:Nat}{v:V}{r:α}(h:b3 R vs rs)(q:R v r):b3 R (vs.set j v) (rs.set j r):=by
 refine⟨by simp[h.len],λi w t a b=>?_⟩;by_cases e:j=i
 ·subst e;have hj:j<vs.length:=by have:=(aj.mp a).1;rw[gj] at this;exact this
  rw[bJ hj] at a;rw[bJ (by rw[<-h.len];exact hj)] at b;cases a;cases b;exact q
 ·rw[b6 e] at a b;exact h.at_ i w t a b
def b3.get{α:Type}{R:V->α->Prop}{vs:List V}{rs:List α}(h:b3 R vs rs){i:Nat}(hi:i<rs.length):∃v r,vs[i]?=some v/\rs[i]?=some r/\R v r:=by
 have h1:i<vs.length:=by rw[h.len];exact hi
 exact⟨vs[i],rs[i],ao h1,ao hi,h.at_ i _ _ (ao h1) (ao hi)⟩
def b3.of_v{α:Type}{R:V->α->Prop}{vs:List V}{rs:List α}(h:b3 R vs rs){i:Nat}{v:V}(e:vs[i]?=some v):∃r,rs[i]?=some r/\R v r:=by
 have h1:=(aj.mp e).1;obtain⟨v',r,e1,e2,q⟩:=h.get (i:=i) (by rw[<-h.len];exact h1);rw[e] at e1;cases e1;exact⟨r,e2,q⟩
def lh(H:Hp)(v:V)(b:dr):Prop:=∃p q r rs,v=.ref p/\H p=some (.tup [.str b.name,.ref q,.ref r])/\H q=some (.tup (b.params.map V.str))/\H r=some (.tup rs)/\b3 (e7 H) rs b.rows
def lh.mono{H H':Hp}{v:V}{b:dr}(h:lh H v b)(t:Tp H H'):lh H' v b:=by
 obtain⟨p,q,r,rs,e,h1,h2,h3,h4⟩:=h;exact⟨p,q,r,rs,e,t _ _ h1,t _ _ h2,t _ _ h3,h4.imp λ_ _ z=>z.mono t⟩
def mZ(K:Fg)(H:Hp)(a:ar)(ns:List Int):Prop:=
 (∃o,H a=some (.frz o (.lst (ns.map V.int))))\/∃(o:Obj) (its:Array ae) (n:Nat),K.lookup a=some o/\o.cls=.type "list"/\o.dict=none/\o.data=.seq its n/\its.size<=av/\c9 (ns.map V.int) its.toList
def mZ.sq{K:Fg}{H:Hp}{a:ar}{ns:List Int}(h:mZ K H a ns):cN K H a (ns.map V.int):=by
 rcases h with⟨o,h⟩|h
 ·exact .inl (.inr ⟨o,h⟩)
 ·exact .inr h
def Fz(H H':Hp):Prop:=∀p o u,H p=some (.frz o u)->H' p=some (.frz o u)
def Fz.of_but{a:ar}{ys:List V}{H H':Hp}(x:gc a H H')(ha:H a=some (.lst ys)):Fz H H':=λp o u h=>x p _ (by rintro rfl;rw[h] at ha;cases ha) h
def Fz.of_same{H H':Hp}(x:aK H H'):Fz H H':=λp o u h=>x p _ h
def mZ.mono{K:Fg}{H H':Hp}{a:ar}{ns:List Int}(h:mZ K H a ns)(f:Fz H H'):mZ K H' a ns:=by
 rcases h with⟨o,h⟩|h
 ·exact .inl ⟨o,f _ _ _ h⟩
 ·exact .inr h
def j9(K:Fg)(H:Hp)(st:ar)(k:Nat):Prop:=∃scr ns c,H st=some (.lst [.ref scr,.int (k:Nat),.int c])/\mZ K H scr ns/\ns.length<=63
def j9.lst{K:Fg}{H:Hp}{st:ar}{k:Nat}(h:j9 K H st k):∃ys,H st=some (.lst ys):=by
 obtain⟨scr,ns,c,e,_⟩:=h;exact⟨_,e⟩
def j9.mono{K:Fg}{H H':Hp}{a st:ar}{k:Nat}{ys:List V}(h:j9 K H st k)(x:gc a H H')(ha:H a=some (.lst ys))(n:st≠a):j9 K H' st k:=by
 obtain⟨scr,ns,c,e,q,l⟩:=h;exact⟨scr,ns,c,x _ _ n e,q.mono (.of_but x ha),l⟩
def j9.same{K:Fg}{H H':Hp}{st:ar}{k:Nat}(h:j9 K H st k)(x:aK H H'):j9 K H' st k:=by
 obtain⟨scr,ns,c,e,q,l⟩:=h;exact⟨scr,ns,c,x _ _ e,q.mono (.of_same x),l⟩
def j9.new{K:Fg}{H:Hp}{st p:ar}{o:HO}{k:Nat}(h:j9 K H st k)(hp:H p=none):j9 K (upd H p o) st k:=h.same ((aK.refl H).new hp)
def dm(K:Fg):Sp:=λvs H Q _=>∃(st:ar) (m:Int) (k:Nat),vs=[.ref st,.int m]/\j9 K H st k/\k<=1000000/\0<m/\m<2 ^ 64/\
 ∀(d:Int) (H':Hp),0<=d->d<m->j9 K H' st (k+1)->gc st H H'->Q (.int d) H'
def Ag:List Str:=["part","call","say","jump","test","give"]
structure Nm(y:Str):Prop where
 l1:1<=y.length
 l8:y.length<=8
 abc:∀c∈y.cps.toList,97<=c/\c<=122
 no:y∉Ag
def Nm.ne{y:Str}(h:Nm y):y≠"":=by
 rintro rfl;exact absurd h.l1 (by decide +kernel)
def vj(K:Fg):Sp:=λvs H Q _=>∃(st:ar) (n k:Nat),vs=[.ref st,.int (n:Nat)]/\j9 K H st k/\k<=900000/\n<=20/\
 ∀(l:ar) (ys:List Str) (k':Nat) (H':Hp),H l=none->ys.length=n->ys.Nodup->(∀y∈ys,Nm y)->H' l=some (.lst (ys.map V.str))->j9 K H' st k'->k'<=k+11->gc st H H'->Q (.ref l) H'
def Ao(K:Fg):Sp:=λvs H Q _=>∃(st:ar) (k:Nat),vs=[.ref st]/\j9 K H st k/\k<=900000/\
 ∀(z:Int) (k':Nat) (H':Hp),0<=z->z<2 ^ 64->j9 K H' st k'->k'<=k+4->gc st H H'->Q (.int z) H'
def mF:List Str:=["+","-","*","<","="]
def zi(ys:List Str)(cs:List Nat)(n:Nat):bU->Prop
 |.num x z=>x∈ys/\0<=z/\z<2 ^ 64
 |.op x s a b=>x∈ys/\s∈mF/\a=""/\b=""
 |.call x k as=>x∈ys/\∃c,cs[k]?=some c/\as=bB c ("":Str)
 |.say a=>a=""
 |.jump to=>to<n
 |.test a to=>a=""/\to<n
 |.give a=>a=""
def cZ(ns:List Nat):List V:=ns.map λn=>V.int (n:Nat)
def pW(K:Fg):Sp:=λvs H Q _=>∃(st nm cn:ar) (n k:Nat) (ys:List Str) (cs:List Nat),vs=[.ref st,.ref nm,.int (n:Nat),.ref cn]/\j9 K H st k/\k<=800000/\H nm=some (.lst (ys.map V.str))/\ys≠[]/\ys.length<=100/\
 1<=n/\n<=1000/\H cn=some (.lst (cZ cs))/\cs≠[]/\cs.length<=100/\(∀c∈cs,c<=4)/\nm≠st/\cn≠st/\
 ∀(v:V) (r:bU) (k':Nat) (H':Hp),e7 H' v r->zi ys cs n r->j9 K H' st k'->k'<=k+8->gc st H H'->Q v H'
def eL(n:Nat):bU->List Nat
 |.jump to=>[to]
 |.test _ to=>[n+1,to]
 |.give _=>[]
 |_=>[n+1]
def Am(K:Fg):Sp:=λvs H Q _=>∃(rl:ar) (n:Nat) (rvs:List V) (v:V) (r:bU),vs=[.ref rl,.int (n:Nat)]/\(H rl=some (.lst rvs)\/H rl=some (.tup rvs))/\rvs[n]?=some v/\e7 H v r/\∀l,H l=none->Q (.ref l) (upd H l (.lst (cZ (eL n r))))
def mE:bU->V
 |.num x _=>.str x
 |.op x _ _ _=>.str x
 |.call x _ _=>.str x
 |_=>.non
def jS:bU->Bool
 |.jump _=>true
 |.give _=>true
 |_=>false
def zE:bU->Bool
 |.num _ _=>true
 |_=>false
structure zj(ys:List Str)(cs:List Nat)(rs:List bU):Prop where
 pos:rs≠[]
 few:rs.length<=100
 rough:∀r∈rs,zi ys cs rs.length r
def stp(rs:List bU)(n:Nat):Nat:=match rs[n]? with
 |some (.jump t)=>t
 |_=>n
def runJ(rs:List bU):Nat->Nat->Nat
 |0,n=>n
 |k+1,n=>runJ rs k (stp rs n)
def ig:bU->Bool
 |.jump _=>true
 |_=>false
def vR(rs:List bU):Prop:=∀n,n<rs.length->∀r,rs[runJ rs rs.length n]?=some r->ig r=false
def wL(K:Fg):Sp:=λvs H Q _=>∃(rl nm:ar) (bare:Bool) (rvs:List V) (rs:List bU) (ys:List Str) (R:bU->Prop),vs=[.ref rl,.ref nm,.bl bare]/\H rl=some (.lst rvs)/\b3 (e7 H) rvs rs/\rs≠[]/\rs.length<=100/\(∀r∈rs,R r)/\R (.say "")/\R (.give "")/\(∀t,R (.jump t)->t<rs.length)/\H nm=some (.lst (ys.map V.str))/\ys≠[]/\(∀y∈ys,bare=true->R (.num y 3))/\nm≠rl/\
 (bare=true->2<=rs.length)/\∀(rvs':List V) (rs':List bU) (H':Hp),H' rl=some (.lst rvs')->b3 (e7 H') rvs' rs'->rs'.length=rs.length->(∀r∈rs',R r)->(rs'.getLast?.map jS=some true)->(bare=true->rs'.head?.map zE=some true)->vR rs'->gc rl H H'->Q (.ref rl) H'
def DB(H:Hp)(v:V)(ks:List Str):Prop:=∃a,v=.ref a/\H a=some (.lst (ks.map V.str))
structure Rp(ps:List Str)(rs:List bU)(kss:List (List Str)):Prop where
 zero:∀ks,kss[0]?=some ks->∀y∈ks,y∈ps
 on:∀(n m:Nat) r ks km,rs[n]?=some r->m∈eL n r->kss[n]?=some ks->kss[m]?=some km->∀y∈km,y∈ks\/mE r=.str y
def pX(K:Fg):Sp:=λvs H Q _=>∃(rl nm pr:ar) (rvs:List V) (rs:List bU) (ys ps:List Str) (cs:List Nat),vs=[.ref rl,.ref nm,.ref pr]/\H rl=some (.lst rvs)/\b3 (e7 H) rvs rs/\zj ys cs rs/\(rs.getLast?.map jS=some true)/\
 H nm=some (.lst (ys.map V.str))/\ys.length<=100/\H pr=some (.lst (ps.map V.str))/\ps.length<=100/\(∀y∈ps,y∈ys)/\(ps=[]->rs.head?.map zE=some true)/\
 ∀(kl:ar) (refs:List V) (kss:List (List Str)) (H':Hp),H kl=none->H' kl=some (.lst refs)->b3 (DB H') refs kss->kss.length=rs.length->(∀(i:Nat) ks,kss[i]?=some ks->ks.length<=100/\(∀y∈ks,y∈ys)/\(ks≠[]\/(i=0/\ps=[])))->Rp ps rs kss->aK H H'->Q (.ref kl) H'
def lb(ks:List Str):bU->bU->Prop
 |.num x z,r=>r=.num x z
 |.op x s _ _,r=>∃a b,r=.op x s a b/\a∈ks/\b∈ks
 |.call x k as,r=>∃bs:List Str,r=.call x k bs/\bs.length=as.length/\∀b∈bs,b∈ks
 |.say _,r=>∃a,r=.say a/\a∈ks
 |.jump to,r=>r=.jump to
 |.test _ to,r=>∃a,r=.test a to/\a∈ks
 |.give _,r=>∃a,r=.give a/\a∈ks
def wK(K:Fg):Sp:=λvs H Q _=>∃(st rl kl:ar) (k:Nat) (rvs refs:List V) (rs:List bU) (kss:List (List Str)) (ys:List Str) (cs:List Nat),vs=[.ref st,.ref rl,.ref kl]/\j9 K H st k/\k<=700000/\H rl=some (.lst rvs)/\b3 (e7 H) rvs rs/\zj ys cs rs/\(∀y∈ys,y≠"")/\(∀c∈cs,c<=4)/\
 H kl=some (.lst refs)/\b3 (DB H) refs kss/\kss.length=rs.length/\(∀(i:Nat) ks,kss[i]?=some ks->ks.length<=100)/\(∀(i:Nat) ks r,kss[i]?=some ks->rs[i]?=some r->ks≠[]\/zE r=true)/\(∀a∈refs,a≠.ref st)/\rl≠st/\kl≠st/\
 ∀(p:ar) (rvs':List V) (rs':List bU) (k':Nat) (H':Hp),H' p=some (.tup rvs')->b3 (e7 H') rvs' rs'->rs'.length=rs.length->(∀(i:Nat) ks r r',kss[i]?=some ks->rs[i]?=some r->rs'[i]?=some r'->lb ks r r')->j9 K H' st k'->k'<=k+5*rs.length->gc st H H'->Q (.ref p) H'
def gq:bU->List Str
 |.op _ _ a b=>[a,b]
 |.call _ _ as=>as
 |.say a=>[a]
 |.test a _=>[a]
 |.give a=>[a]
 |_=>[]
def Mi(ys:List Str)(cs:List Nat)(n:Nat):bU->Prop
 |.num x z=>x∈ys/\0<=z/\z<2 ^ 64
 |.op x s a b=>x∈ys/\s∈mF/\a∈ys/\b∈ys
 |.call x k as=>x∈ys/\cs[k]?=some as.length/\∀a∈as,a∈ys
 |.say a=>a∈ys
 |.jump to=>to<n
 |.test a to=>a∈ys/\to<n
 |.give a=>a∈ys
structure qT(ys:List Str)(cs:List Nat)(b:dr):Prop where
 pnd:b.params.Nodup
 pin:∀y∈b.params,y∈ys
 pos:b.rows≠[]
 few:b.rows.length<=60
 rows:∀r∈b.rows,Mi ys cs b.rows.length r
 last:b.rows.getLast?.map jS=some true
 ring:vR b.rows
 known:∃kss,kss.length=b.rows.length/\Rp b.params b.rows kss/\∀(n:Nat) r ks,b.rows[n]?=some r->kss[n]?=some ks->∀y∈gq r,y∈ks
structure tY(ys:List Str)(cs:List Nat)(bs:List dr):Prop where
 ynd:ys.Nodup
 ynm:∀y∈ys,Nm y
 y2:2<=ys.length
 y6:ys.length<=6
 pos:1<=bs.length
 few:bs.length<=5
 nnd:(bs.map (·.name)).Nodup
 nnm:∀b∈bs,Nm b.name
 cnt:bs.map (·.params.length)=cs
 c4:∀c∈cs,c<=4
 part:∀b∈bs,qT ys cs b
def En(K:Fg):Sp:=λvs H Q _=>∃(st nm pr cn:ar) (wd:Str) (m k:Nat) (ys ps:List Str) (cs:List Nat),vs=[.ref st,.str wd,.ref nm,.ref pr,.ref cn,.int (m:Nat)]/\j9 K H st k/\k<=600000/\H nm=some (.lst (ys.map V.str))/\ys≠[]/\ys.length<=100/\(∀y∈ys,y≠"")/\
 H pr=some (.lst (ps.map V.str))/\ps.length<=100/\ps.Nodup/\(∀y∈ps,y∈ys)/\H cn=some (.lst (cZ cs))/\cs≠[]/\cs.length<=100/\(∀c∈cs,c<=4)/\1<=m/\m<=50/\nm≠st/\pr≠st/\cn≠st/\
 ∀(v:V) (b:dr) (k':Nat) (H':Hp),lh H' v b->b.name=wd->b.params=ps->qT ys cs b->b.rows.length<=m+1->j9 K H' st k'->k'<=k+1000->gc st H H'->Q v H'
def uw(K:Fg):Sp:=λvs H Q _=>∃(st:ar) (m k:Nat),vs=[.ref st,.int (m:Nat)]/\j9 K H st k/\k<=500000/\1<=m/\m<=50/\
 ∀(p:ar) (pvs:List V) (bs:List dr) (ys:List Str) (cs:List Nat) (k':Nat) (H':Hp),H' p=some (.tup pvs)->b3 (lh H') pvs bs->tY ys cs bs->(∀b∈bs,b.rows.length<=m+1)->j9 K H' st k'->k'<=k+10000->gc st H H'->Q (.ref p) H'
def nR:bU->V
 |.jump to=>.int (to:Nat)
 |.test _ to=>.int (to:Nat)
 |_=>.non
def Rf:Sp:=λvs H Q _=>∃v r,vs=[v]/\e7 H v r/\∀(p:ar) (H':Hp),H' p=some (.tup ((gq r).map V.str))->aK H H'->Q (.ref p) H'
abbrev pU(_:Fg):Sp:=Rf
def wM(_:Fg):Sp:=λvs H Q _=>∃v r,vs=[v]/\e7 H v r/\∀(H':Hp),aK H H'->Q (mE r) H'
def oX(_:Fg):Sp:=λvs H Q _=>∃v r,vs=[v]/\e7 H v r/\Q (nR r) H
def Ua:Sp:=λvs H Q _=>∃(rt:ar) (n:Nat) (rvs:List V) (v:V) (r:bU),vs=[.ref rt,.int (n:Nat)]/\H rt=some (.tup rvs)/\rvs[n]?=some v/\e7 H v r/\∀(p:ar) (H':Hp),H' p=some (.tup (cZ (eL n r)))->aK H H'->Q (.ref p) H'
abbrev pS(_:Fg):Sp:=Ua
def Em(K:Fg):Sp:=λvs H Q _=>∃(scr:ar) (ns:List Int),vs=[.ref scr]/\mZ K H scr ns/\ns.length<=63/\∀H',Q (.bl true) H'
abbrev Sx:Nat:=0
abbrev RV:Nat:=1
abbrev PR:Nat:=1
abbrev O9:Nat:=2
abbrev PV:Nat:=1
abbrev Pb:Nat:=2
abbrev FE:Nat:=2
abbrev EU:Nat:=3
abbrev PP:Nat:=0
abbrev O7:Nat:=1
abbrev M3:Nat:=0
abbrev L3:Nat:=1
abbrev FF:Nat:=1
abbrev EV:Nat:=2
abbrev MZ:Nat:=1
abbrev LY:Nat:=2
abbrev Sy:Nat:=3
abbrev RW:Nat:=4
abbrev KI:Nat:=4
abbrev J3:Nat:=5
abbrev KG:Nat:=0
abbrev J1:Nat:=1
abbrev M6:Nat:=0
abbrev L5:Nat:=1
abbrev M4:Nat:=0
abbrev EO:Nat:=1
abbrev KF:Nat:=1
abbrev J0:Nat:=2
def bL{c:Prop}[Decidable c]{A B:Prop}(h1:c->A)(h2:¬c->B):if decide c=true then A else B:=by
 by_cases h:c
 ·rw[decide_eq_true h];exact lu (h1 h)
 ·rw[decide_eq_false h];exact ff (h2 h)
def nU{c:Prop}[Decidable c]{A B:Prop}(h1:¬c->A)(h2:c->B):if(!decide c)=true then A else B:=by
 by_cases h:c
 ·rw[decide_eq_true h];exact ff (h2 h)
 ·rw[decide_eq_false h];exact lu (h1 h)
def ka{b:Bool}{A B:Prop}(h1:b=true->A)(h2:b=false->B):if b=true then A else B:=by
 cases b with
 |true=>exact lu (h1 rfl)
 |false=>exact ff (h2 rfl)
def DG{α:Type}{xs:List α}{i:Int}{v:α}(h0:0<=i)(e:xs[i.toNat]?=some v):OY xs i=some v:=by
 have h1:=(aj.mp e).1;unfold OY PM;rw[if_pos h0,if_pos (by lia)];exact e
def sf{K:Fg}{p:ar}{xs:List V}{i:Int}{v:V}{H:Hp}{Q:VK}(h:cN K H p xs)(h0:0<=i)(e:xs[i.toNat]?=some v)(q:Q v H):cV K (.ref p) (.int i) H Q:=
 .inl ⟨p,xs,i,v,rfl,rfl,h,DG h0 e,q⟩
def cJ{K:Fg}{p:ar}{xs:List V}{i:Int}{v:V}{H:Hp}{Q:VK}(h:H p=some (.tup xs))(h0:0<=i)(e:xs[i.toNat]?=some v)(q:Q v H):cV K (.ref p) (.int i) H Q:=
 .inr (.inl ⟨p,xs,i,v,rfl,rfl,dA.of h,DG h0 e,q⟩)
def Zb{K:Fg}{p:ar}{xs:List V}{i:Int}{v:V}{H:Hp}{Q:VK}(h:H p=some (.tup xs))(e:xs[i.toNat]?=some v)(q:Q v H)(h0:0<=i:=by decide):cV K (.ref p) (.int i) H Q:=cJ h h0 e q
def Vq{K:Fg}{z:Str}{i:Int}{c:Nat}{H:Hp}{Q:VK}(hz:z.length<=av)(h0:0<=i)(e:z.cps.toList[i.toNat]?=some c)(q:Q (.str ⟨#[c]⟩) H):cV K (.str z) (.int i) H Q:=
 .inr (.inr ⟨z,i,c,rfl,rfl,hz,DG h0 e,q⟩)
def Gg{p:ar}{xs:List V}{i:Int}{v:V}{H:Hp}{Q:Hp->Prop}(h:H p=some (.lst xs))(h0:0<=i)(h1:i.toNat<xs.length)(q:Q (upd H p (.lst (xs.set i.toNat v)))):rA (.ref p) (.int i) v H Q:=by
 refine⟨p,xs,i,i.toNat,rfl,rfl,h,?_,q⟩;unfold PM;rw[if_pos h0,if_pos (by lia)]
def cg{n:Nat}(h:n<=100000):n<av:=mf h (by decide)
def KB{ns:List Nat}{i:Nat}{n:Nat}(h:ns[i]?=some n):(cZ ns)[i]?=some (.int (n:Nat)):=by
 unfold cZ;rw[aQ,h];rfl
def fq(ns:List Nat):(cZ ns).length=ns.length:=by unfold cZ;rw[af]
def Ap{ys:List Str}{i:Nat}{y:Str}(h:ys[i]?=some y):(ys.map V.str)[i]?=some (.str y):=by rw[aQ,h];rfl
def pP{H:Hp}{a b:ar}{xs ys:List V}(h:H a=some (.lst xs))(h':H b=some (.tup ys)):a≠b:=RF h h' (by intro z;cases z)
def iq{D:ar}{te:TE}{E:oE}{σ:St}{H:Hp}(h:te σ H λy H2=>∃ys,H2 D=some (.lst ys)/\ys.length<av/\E.nx σ (upd H2 D (.lst (ys++[y])))):uq D oj te E σ H:=by
 unfold uq oj;dsimp only;rw[if_pos rfl];exact h
def no{x y:V}{A B:Prop}(h:¬x=y)(q:B):if decide (x=y)=true then A else B:=bL (λz=>absurd z h) λ_=>q
def Za{x y:V}{A B:Prop}(q:B)(h:¬x=y:=by decide +kernel):if decide (x=y)=true then A else B:=no h q
def ED{x:V}{A B:Prop}(q:A):if decide (x=x)=true then A else B:=bL (λ_=>q) λz=>absurd rfl z
def KA{b:Bool}{A B:Prop}(e:b=true)(q:A):if b=true then A else B:=by rw[e];exact lu q
def Kz{b:Bool}{A B:Prop}(e:b=false)(q:B):if b=true then A else B:=by rw[e];exact ff q
def mq(xs:List V)(c:Nat):kQ xs none (some (c:Int))=xs.take c:=by
 unfold kQ;rw[HT.sIx_none,HT.sIx_nat,qL,Nat.sub_zero,<-List.take_eq_take_min]
def zq(xs:List V)(c:Nat):kQ xs (some (c:Int)) none=xs.drop c:=by
 unfold kQ;rw[HT.sIx_none,HT.sIx_nat];by_cases h:c<=xs.length
 ·rw[Nat.min_eq_left h];exact bA (by rw[eY];lia)
 ·rw[Nat.min_eq_right (by lia),List.drop_length,List.drop_of_length_le (by lia),List.take_nil]
def sd(ys:List Str):(ys.map V.str).all mr=true:=by
 rw[fQ];intro v hv;obtain⟨y,_,rfl⟩:=bF.mp hv;rfl
def jb(y:Str)(ls:List Str):m7 (.str y) (ls.map V.str)=decide (y∈ls):=by
 unfold m7;rw[List.any_map,Bool.eq_iff_iff,List.any_eq_true,decide_eq_true_eq];constructor
 ·rintro⟨z,hz,e⟩;have e':(z==y)=true:=e;have:z=y:=by simpa using e'
  rw[<-this];exact hz
 ·intro h;exact⟨y,h,by show(y==y)=true;simp⟩
def gc.past{a l:ar}{H H1 H2:Hp}(x:gc a H H1)(hl:H l=none)(y:gc l H1 H2):gc a H H2:=λc u n h=>y c u (aC h hl) (x c u n h)
end Bg
end
section
namespace Bg
open PySem PySem.Spec PyProof.Rows L2
abbrev Pd:List Str:=["_law_state","_law_many"]
abbrev L8:List Str:=["_law_state","_law_many","_law_script","_law_k","_law_digit","_law_cell"]
def OC(K:Fg):TS:=(cK (bq (mB) (bq (mB) (bq (lE K) (au 5) (au 5)) (tC (.int 1999999973))) (au 1)))
def OD(K:Fg):TS:=(bC (cu (bq (mB) (bq (lE K) (au 5) (au 5)) (tC (.int 2147483587))) (aW 5)) (OC K))
def Gm(K:Fg):TS:=(bC (cu (bq (mB) (bq (lE K) (bq (mB) (au 5) (tC (.int 2147483629))) (bq (d9 K) (au 3) (tC (.int 3)))) (tC (.int 2147483629))) (aW 5)) (OD K))
def OE(K:Fg):TS:=(bC (de (bH (bq (FV) (fS (gA K) (ai (au 2) aJ)) (tC (.int 0)))) (cu (bq (d9 K) (au 5) (bq (lE K) (bq (cV K) (au 2) (bq (mB) (bq (lE K) (au 3) (tC (.int 7))) (fS (gA K) (ai (au 2) aJ)))) (bq (d9 K) (tC (.int 48271)) (au 3)))) (aW 5)) bY) (Gm K))
def vp(K:Fg):TS:=(bC (cu (bq (d9 K) (bq (lE K) (au 3) (tC (.int 7919))) (tC (.int 5))) (aW 5)) (OE K))
def OF(K:Fg):TS:=(cK (au 4))
def Gn(K:Fg):TS:=(de (bH (bq ((EG K true)) (bq (cV K) (au 0) (tC (.int 2))) (e6 (ai (tC (.int 0)) (ai (Ue N5 (tC (.int 1))) aJ))))) (bC (cu (fS (QZ) (ai (bq (cV K) (au 0) (tC (.int 2))) (ai (au 1) aJ))) (wc K 2 (gD (t9 (au 0) (tC (.int 2)) rA) (gD (aW 4) uV)))) (OF K)) bY)
def Gp(K:Fg):TS:=(bC (de (jv (bH (bq (sH) (bq (d9 K) (bq (HY) (au 3) (tC (.int 12))) (tC (.int 1))) (fS (gA K) (ai (au 2) aJ)))) (bH (bq (fb K) (bq (mB) (bq (cV K) (au 2) (tC (.int 0))) (tC (.int 2))) (tC (.int 1))))) (bC (de (bH (bq (fb K) (bq (mB) (au 3) (tC (.int 12))) (tC (.int 0)))) (cu (bq (cV K) (au 2) (bq (d9 K) (bq (HY) (au 3) (tC (.int 12))) (tC (.int 1)))) (t9 (au 0) (tC (.int 2)) rA)) bY) (Gn K)) (de (bH (bq (sH) (au 3) (fS (gA K) (ai (au 2) aJ)))) (cK (bq (mB) (bq (cV K) (au 2) (au 3)) (au 1))) bY)) (vp K))
def OG(K:Fg):TS:=(bC (cu (bq (d9 K) (au 3) (tC (.int 1))) (t9 (au 0) (tC (.int 1)) rA)) (Gp K))
def OB(K:Fg):TS:=(bC (cu (As (F1 K) (au 0) eU (iP (tC (.int 2)))) (MT K 2 (gD (aW 2) (gD (aW 3) uV)))) (OG K))
abbrev Me:List Str:=["_law_state","_law_many"]
abbrev Ds:List Str:=["_law_state","_law_many","_law_letters","_law_size","_law_at","_law_first","_law_base","_law_found","_law_k","_law_some","_law_name"]
def CV(K:Fg):TS:=(cK (au 7))
def CW(K:Fg):TS:=(gM (qt K "list" f9 (au 7) (ai (au 10) aJ)))
def CY(K:Fg):TS:=(bC (de (Lr (bH (bq ((EG K false)) (au 10) (e6 (ai (tC (.str "part")) (ai (tC (.str "call")) (ai (tC (.str "say")) (ai (tC (.str "jump")) (ai (tC (.str "test")) (ai (tC (.str "give")) aJ))))))))) (jv (bH (bq (sH) (au 3) (tC (.int 8)))) (bH (bq (fb K) (bq (mB) (bq (d9 K) (au 3) (au 8)) (tC (.int 3))) (tC (.int 1)))))) (cu (bq (d9 K) (au 10) (tC (.str "x"))) (aW 10)) bY) (CW K))
def Lz(K:Fg):TS:=(bC (cu (qt K "str" (ke K) (tC (.str "")) (ai (au 9) aJ)) (aW 10)) (CY K))
def LA(K:Fg):TS:=(bC (cu (bq (d9 K) (bq (d9 K) (As (F1 K) (au 6) eU (iP (au 4))) (iO (ai (bq (cV K) (au 2) (bq (mB) (bq (d9 K) (au 5) (bq (lE K) (tC (.int 5)) (au 8))) (tC (.int 26)))) aJ))) (As (F1 K) (au 6) (iP (bq (d9 K) (au 4) (tC (.int 1)))) eU)) (aW 9)) (Lz K))
def CZ(K:Fg):TS:=(bC (kC (xr (ai (au 1) aJ)) (aW 8) (LA K)) (CV K))
def LB(K:Fg):TS:=(bC (cu (iO aJ) (aW 7)) (CZ K))
def LC(K:Fg):TS:=(bC (cu (hW [] 1 (xr (ai (au 3) aJ)) (aW 11) oj (bq (cV K) (au 2) (bq (mB) (bq (d9 K) (au 5) (bq (lE K) (bq (lE K) (tC (.int 7)) (au 11)) (bE (dm K) [] E0 (ai (au 0) (ai (tC (.int 4)) aJ))))) (tC (.int 26))))) (aW 6)) (LB K))
def LD(K:Fg):TS:=(bC (cu (bE (dm K) [] E0 (ai (au 0) (ai (tC (.int 26)) aJ))) (aW 5)) (LC K))
def AD(K:Fg):TS:=(bC (cu (bE (dm K) [] E0 (ai (au 0) (ai (au 3) aJ))) (aW 4)) (LD K))
def Iy(K:Fg):TS:=(bC (cu (bq (d9 K) (tC (.int 1)) (bE (dm K) [] E0 (ai (au 0) (ai (tC (.int 8)) aJ)))) (aW 3)) (AD K))
def JU(K:Fg):TS:=(bC (cu (tC (.str "abcdefghijklmnopqrstuvwxyz")) (aW 2)) (Iy K))
abbrev Mg:List Str:=["_law_state"]
abbrev Ja:List Str:=["_law_state"]
def LF(K:Fg):TS:=(cK (bq (cV K) (iO (ai (tC (.int 0)) (ai (tC (.int 1)) (ai (bq (Ac) (bq (Ac) (bq (sS) (tC (.int 2)) (tC (.int 64))) (tC (.int 1))) (bE (dm K) [] E0 (ai (au 0) (ai (tC (.int 3)) aJ)))) (ai (bE (dm K) [] E0 (ai (au 0) (ai (tC (.int 12)) aJ))) aJ))))) (bE (dm K) [] E0 (ai (au 0) (ai (tC (.int 4)) aJ)))))
def JW(K:Fg):TS:=(bC (de (bH (bq (fb K) (bE (dm K) [] E0 (ai (au 0) (ai (tC (.int 2)) aJ))) (tC (.int 0)))) (cK (bq (d9 K) (bq (lE K) (bE (dm K) [] E0 (ai (au 0) (ai (bq (sS) (tC (.int 2)) (tC (.int 31))) aJ))) (bq (sS) (tC (.int 2)) (tC (.int 33)))) (bE (dm K) [] E0 (ai (au 0) (ai (bq (sS) (tC (.int 2)) (tC (.int 31))) aJ))))) bY) (LF K))
abbrev Dy:List Str:=["_law_state","_law_names_here","_law_many","_law_counts"]
abbrev xh:List Str:=["_law_state","_law_names_here","_law_many","_law_counts","_law_x","_law_sort","_law_k"]
def BG(K:Fg):TS:=(cK (bq (cV K) (iO (ai (e6 (ai (tC (.str "jump")) (ai (bE (dm K) [] E0 (ai (au 0) (ai (au 2) aJ))) aJ))) (ai (e6 (ai (tC (.str "give")) (ai (tC (.str "")) aJ))) aJ))) (bq (Ac) (au 5) (tC (.int 10)))))
def BI(K:Fg):TS:=(bC (de (bH (bq (sH) (au 5) (tC (.int 10)))) (cK (e6 (ai (tC (.str "test")) (ai (tC (.str "")) (ai (bE (dm K) [] E0 (ai (au 0) (ai (au 2) aJ))) aJ))))) bY) (BG K))
def BJ(K:Fg):TS:=(bC (de (bH (bq (sH) (au 5) (tC (.int 8)))) (cK (e6 (ai (tC (.str "say")) (ai (tC (.str "")) aJ)))) bY) (BI K))
def BK(K:Fg):TS:=(cK (e6 (ai (tC (.str "call")) (ai (au 4) (ai (au 6) (ai (bq (lE K) (e6 (ai (tC (.str "")) aJ)) (bq (cV K) (au 3) (au 6))) aJ))))))
def BL(K:Fg):TS:=(bC (de (bH (bq (fb K) (au 5) (tC (.int 6)))) (bC (cu (bE (dm K) [] E0 (ai (au 0) (ai (fS (gA K) (ai (au 3) aJ)) aJ))) (aW 6)) (BK K)) bY) (BJ K))
def BM(K:Fg):TS:=(bC (de (bH (bq (sH) (au 5) (tC (.int 6)))) (cK (e6 (ai (tC (.str "op")) (ai (au 4) (ai (bq (cV K) (tC (.str "+-*<=")) (bE (dm K) [] E0 (ai (au 0) (ai (tC (.int 5)) aJ)))) (ai (tC (.str "")) (ai (tC (.str "")) aJ))))))) bY) (BL K))
def BN(K:Fg):TS:=(bC (de (bH (bq (sH) (au 5) (tC (.int 2)))) (cK (e6 (ai (tC (.str "num")) (ai (au 4) (ai (bE (Ao K) [] E0 (ai (au 0) aJ)) aJ))))) bY) (BM K))
def BO(K:Fg):TS:=(bC (cu (bE (dm K) [] E0 (ai (au 0) (ai (tC (.int 12)) aJ))) (aW 5)) (BN K))
def ya(K:Fg):TS:=(bC (cu (bq (cV K) (au 1) (bE (dm K) [] E0 (ai (au 0) (ai (fS (gA K) (ai (au 1) aJ)) aJ)))) (aW 4)) (BO K))
abbrev Mc:List Str:=["_law_rows","_law_n"]
abbrev IW:List Str:=["_law_rows","_law_n"]
def Lv(K:Fg):TS:=(cK (iO (ai (bq (d9 K) (au 1) (tC (.int 1))) aJ)))
def Lw(K:Fg):TS:=(bC (de (bH (bq (fb K) (bq (cV K) (bq (cV K) (au 0) (au 1)) (tC (.int 0))) (tC (.str "give")))) (cK (iO aJ)) bY) (Lv K))
def Lx(K:Fg):TS:=(bC (de (bH (bq (fb K) (bq (cV K) (bq (cV K) (au 0) (au 1)) (tC (.int 0))) (tC (.str "test")))) (cK (iO (ai (bq (d9 K) (au 1) (tC (.int 1))) (ai (bq (cV K) (bq (cV K) (au 0) (au 1)) (tC (.int 2))) aJ)))) bY) (Lw K))
def JS(K:Fg):TS:=(bC (de (bH (bq (fb K) (bq (cV K) (bq (cV K) (au 0) (au 1)) (tC (.int 0))) (tC (.str "jump")))) (cK (iO (ai (bq (cV K) (bq (cV K) (au 0) (au 1)) (tC (.int 1))) aJ))) bY) (Lx K))
abbrev J7:List Str:=["_law_rows","_law_names_here","_law_bare"]
abbrev EW:List Str:=["_law_rows","_law_names_here","_law_bare","_law_last","_law_n","_law_to","_law_turn"]
def Iu(K:Fg):TS:=(cK (au 0))
def Iv(K:Fg):TS:=(de (bH (bq (fb K) (bq (cV K) (bq (cV K) (au 0) (au 5)) (tC (.int 0))) (tC (.str "jump")))) (cu (bq (cV K) (iO (ai (e6 (ai (tC (.str "say")) (ai (tC (.str "")) aJ))) (ai (e6 (ai (tC (.str "give")) (ai (tC (.str "")) aJ))) aJ))) (fS (N2) (ai (bq (fb K) (au 4) (au 3)) aJ))) (t9 (au 0) (au 4) rA)) bY)
def Iw(K:Fg):TS:=(de (bH (bq (fb K) (bq (cV K) (bq (cV K) (au 0) (au 5)) (tC (.int 0))) (tC (.str "jump")))) (cu (bq (cV K) (bq (cV K) (au 0) (au 5)) (tC (.int 1))) (aW 5)) bY)
def Ay(K:Fg):TS:=(bC (kC (jR K (au 0)) (aW 6) (Iw K)) (Iv K))
def Az(K:Fg):TS:=(bC (cu (au 4) (aW 5)) (Ay K))
def AA(K:Fg):TS:=(bC (kC (xr (ai (fS (gA K) (ai (au 0) aJ)) aJ)) (aW 4) (Az K)) (Iu K))
def AB(K:Fg):TS:=(bC (de (jv (tB (au 2)) (jv (bH (bq (FY K) (bq (cV K) (bq (cV K) (au 0) (tC (.int 0))) (tC (.int 0))) (tC (.str "num")))) (bH (bq (FV) (au 3) (tC (.int 0)))))) (cu (e6 (ai (tC (.str "num")) (ai (bq (cV K) (au 1) (tC (.int 0))) (ai (tC (.int 3)) aJ)))) (t9 (au 0) (tC (.int 0)) rA)) bY) (AA K))
def AC(K:Fg):TS:=(bC (de (bH (bq ((EG K true)) (bq (cV K) (bq (cV K) (au 0) (au 3)) (tC (.int 0))) (e6 (ai (tC (.str "jump")) (ai (tC (.str "give")) aJ))))) (cu (e6 (ai (tC (.str "give")) (ai (tC (.str "")) aJ))) (t9 (au 0) (au 3) rA)) bY) (AB K))
def Gr(K:Fg):TS:=(bC (cu (bq (Ac) (fS (gA K) (ai (au 0) aJ)) (tC (.int 1))) (aW 3)) (AC K))
abbrev Dz:List Str:=["_law_rows","_law_names_here","_law_params"]
abbrev mY:List Str:=["_law_rows","_law_names_here","_law_params","_law_known","_law_more","_law_n","_law_left","_law_m","_law_kept"]
def BP(K:Fg):TS:=(cK (au 3))
def BQ(K:Fg):TS:=(cu (tC (.bl true)) (aW 4))
def tL(K:Fg):TS:=(de (bH (bq (sH) (fS (gA K) (ai (au 8) aJ)) (fS (gA K) (ai (bq (cV K) (au 3) (au 7)) aJ)))) (bC (cu (au 8) (t9 (au 3) (au 7) rA)) (BQ K)) bY)
def tM(K:Fg):TS:=(bC (cu (hW [] 1 (jR K (bq (cV K) (au 3) (au 7))) (aW 9) (bH (bq ((EG K false)) (au 9) (au 6))) (au 9)) (aW 8)) (tL K))
def tN(K:Fg):TS:=(kC (jR K (bE (Am K) [] E0 (ai (au 0) (ai (au 5) aJ)))) (aW 7) (tM K))
def tO(K:Fg):TS:=(bC (de (bH (bq ((EG K false)) (bq (cV K) (bq (cV K) (au 0) (au 5)) (tC (.int 0))) (e6 (ai (tC (.str "num")) (ai (tC (.str "op")) (ai (tC (.str "call")) aJ)))))) (cu (bq (d9 K) (au 6) (iO (ai (bq (cV K) (bq (cV K) (au 0) (au 5)) (tC (.int 1))) aJ))) (aW 6)) bY) (tN K))
def om(K:Fg):TS:=(bC (cu (bq (cV K) (au 3) (au 5)) (aW 6)) (tO K))
def tP(K:Fg):TS:=(kC (xr (ai (fS (gA K) (ai (au 0) aJ)) aJ)) (aW 5) (om K))
def BR(K:Fg):TS:=(bC (cu (tC (.bl false)) (aW 4)) (tP K))
def rN(K:Fg):TS:=(bC (wQ (tB (au 4)) (BR K)) (BP K))
def rO(K:Fg):TS:=(bC (cu (tC (.bl true)) (aW 4)) (rN K))
def rP(K:Fg):TS:=(bC (cu (fS (so K) (ai (au 2) aJ)) (t9 (au 3) (tC (.int 0)) rA)) (rO K))
def yb(K:Fg):TS:=(bC (cu (hW [] 1 (jR K (au 0)) (aW 9) oj (fS (so K) (ai (au 1) aJ))) (aW 3)) (rP K))
abbrev J6:List Str:=["_law_state","_law_rows","_law_known"]
abbrev y9:List Str:=["_law_state","_law_rows","_law_known","_law_found","_law_n","_law_row","_law_some","_law_thing"]
def Iq(K:Fg):TS:=(cK (fS (hV K) (ai (au 3) aJ)))
def Ir(K:Fg):TS:=(gM (qt K "list" f9 (au 3) (ai (bq (d9 K) (e6 (ai (bq (cV K) (au 5) (tC (.int 0))) aJ)) (fS (hV K) (ai (au 6) aJ))) aJ)))
def Au(K:Fg):TS:=(gM (qt K "list" f9 (au 6) (ai (au 7) aJ)))
def Av(K:Fg):TS:=(bC (de (bH (bq (fb K) (au 7) (tC (.str "")))) (cu (bq (cV K) (bq (cV K) (au 2) (au 4)) (bE (dm K) [] E0 (ai (au 0) (ai (fS (gA K) (ai (bq (cV K) (au 2) (au 4)) aJ)) aJ)))) (aW 7)) (de (tB (fS (N3 K) (ai (au 7) (ai (tC (.ty "tuple")) aJ)))) (cu (fS (hV K) (ai (hW [] 1 (jR K (au 7)) (aW 8) oj (bq (cV K) (bq (cV K) (au 2) (au 4)) (bE (dm K) [] E0 (ai (au 0) (ai (fS (gA K) (ai (bq (cV K) (au 2) (au 4)) aJ)) aJ))))) aJ)) (aW 7)) bY)) (Au K))
def Aw(K:Fg):TS:=(bC (kC (jR K (As (F1 K) (au 5) (iP (tC (.int 1))) eU)) (aW 7) (Av K)) (Ir K))
def uB(K:Fg):TS:=(bC (cu (iO aJ) (aW 6)) (Aw K))
def Ax(K:Fg):TS:=(bC (kC (Cv K (ai (au 1) aJ)) (wc K 2 (gD (aW 4) (gD (aW 5) uV))) (uB K)) (Iq K))
def Gq(K:Fg):TS:=(bC (cu (iO aJ) (aW 3)) (Ax K))
abbrev Pe:List Str:=["_law_state","_law_word","_law_names_here","_law_params","_law_counts","_law_most"]
abbrev G4:List Str:=["_law_state","_law_word","_law_names_here","_law_params","_law_counts","_law_most","_law_many","_law_rows","_law_known"]
def GH(K:Fg):TS:=(cK (e6 (ai (au 1) (ai (fS (hV K) (ai (au 3) aJ)) (ai (bE (wK K) [] E0 (ai (au 0) (ai (au 7) (ai (au 8) aJ)))) aJ)))))
def GI(K:Fg):TS:=(bC (cu (bE (pX K) [] E0 (ai (au 7) (ai (au 2) (ai (au 3) aJ)))) (aW 8)) (GH K))
def GJ(K:Fg):TS:=(bC (cu (bE (wL K) [] E0 (ai (au 7) (ai (au 2) (ai (bq (fb K) (fS (gA K) (ai (au 3) aJ)) (tC (.int 0))) aJ)))) (aW 7)) (GI K))
def GK(K:Fg):TS:=(bC (cu (hW [] 1 (xr (ai (au 6) aJ)) (aW 9) oj (bE (pW K) [] E0 (ai (au 0) (ai (au 2) (ai (au 6) (ai (au 4) aJ)))))) (aW 7)) (GJ K))
def OH(K:Fg):TS:=(bC (cu (fS (U7) (ai (bq (d9 K) (tC (.int 1)) (fS (N2) (ai (bq (fb K) (fS (gA K) (ai (au 3) aJ)) (tC (.int 0))) aJ))) (ai (bq (d9 K) (tC (.int 1)) (bE (dm K) [] E0 (ai (au 0) (ai (au 5) aJ)))) aJ))) (aW 6)) (GK K))
abbrev Hd:List Str:=["_law_state","_law_most"]
abbrev vP:List Str:=["_law_state","_law_most","_law_five","_law_words","_law_names_here","_law_counts","_law_found","_law_word","_law_many","_law_turn","_law_params"]
def GL(K:Fg):TS:=(cK (fS (hV K) (ai (au 6) aJ)))
def xV(K:Fg):TS:=(gM (qt K "list" f9 (au 6) (ai (bE (En K) [] E0 (ai (au 0) (ai (au 7) (ai (au 4) (ai (au 10) (ai (au 5) (ai (au 1) aJ))))))) aJ)))
def xW(K:Fg):TS:=(bC (cu (As (F1 K) (bq (d9 K) (As (F1 K) (au 4) (iP (au 9)) eU) (As (F1 K) (au 4) eU (iP (au 9)))) eU (iP (au 8))) (aW 10)) (xV K))
def xX(K:Fg):TS:=(bC (cu (bE (dm K) [] E0 (ai (au 0) (ai (fS (gA K) (ai (au 4) aJ)) aJ))) (aW 9)) (xW K))
def xY(K:Fg):TS:=(bC (kC (Sm K (ai (au 3) (ai (au 5) aJ))) (wc K 2 (gD (aW 7) (gD (aW 8) uV))) (xX K)) (GL K))
def xZ(K:Fg):TS:=(bC (cu (iO aJ) (aW 6)) (xY K))
def x6(K:Fg):TS:=(bC (cu (hW [7] 0 (jR K (au 3)) (aW 7) oj (bE (dm K) [] E0 (ai (au 0) (ai (bq (d9 K) (fS (U8) (ai (tC (.int 4)) (ai (fS (gA K) (ai (au 4) aJ)) aJ))) (tC (.int 1))) aJ)))) (aW 5)) (xZ K))
def x8(K:Fg):TS:=(bC (cu (bE (vj K) [] E0 (ai (au 0) (ai (bq (d9 K) (tC (.int 2)) (bE (dm K) [] E0 (ai (au 0) (ai (tC (.int 5)) aJ)))) aJ))) (aW 4)) (x6 K))
def x9(K:Fg):TS:=(bC (cu (As (F1 K) (bE (vj K) [] E0 (ai (au 0) (ai (tC (.int 5)) aJ))) eU (iP (bq (cV K) (iO (ai (bq (d9 K) (tC (.int 1)) (bE (dm K) [] E0 (ai (au 0) (ai (tC (.int 3)) aJ)))) (ai (tC (.int 5)) aJ))) (au 2)))) (aW 3)) (x8 K))
def C5(K:Fg):TS:=(bC (cu (fS (N2) (ai (bq (fb K) (bq (mB) (bq (HY) (fS (VL K) (ai (As (F1 K) (bq (cV K) (au 0) (tC (.int 0))) eU (iP (tC (.int 1)))) aJ)) (tC (.int 4))) (tC (.int 16))) (tC (.int 5))) aJ)) (aW 2)) (x9 K))
end Bg
end
section
namespace Bg
open PySem L2
abbrev abc:Str:="abcdefghijklmnopqrstuvwxyz"
def Je:abc.length<=av:=by decide +kernel
def one(c:Nat):Str:=⟨#[c]⟩
def Fb:∀cs:List Nat,(Txt.join "" (cs.map one)).cps.toList=cs
 |[]=>by decide +kernel
 |c::r=>by
  unfold Txt.join;rw[StrLaws.glued_eq_join]
  induction r generalizing c with
  |nil=>rfl
  |cons d r ih=>
   show(one c++("":Str)++Str.join "" ((d::r).map one)).cps.toList=_;have e:(one c++("":Str)++Str.join "" ((d::r).map one)).cps.toList=(one c).cps.toList++("":Str).cps.toList++(Str.join "" ((d::r).map one)).cps.toList:=by
    show((one c).cps++("":Str).cps++(Str.join "" ((d::r).map one)).cps).toList=_;rw[fB,fB]
   rw[e,ih d];rfl
def oP(y:Str):y.length=y.cps.toList.length:=by
 show y.cps.size=_;rw[bh]
def E2:∀j:Nat,j<26->abc.cps.toList[j]?=some (97+j):=by decide +kernel
def Oi:∀y∈Ag,y.length<=4:=by decide +kernel
def Lm:∀y∈Ag,y.cps.toList.getLast?≠some 120:=by decide +kernel
def Ji(y:Str):(y++"x").cps.toList=y.cps.toList++[120]:=by
 show(y.cps++("x":Str).cps).toList=_;rw[fB];rfl
def FN{y:Str}{cs:List Nat}(h:y.cps.toList=cs)(l1:1<=cs.length)(l8:cs.length<=8)(a:∀c∈cs,97<=c/\c<=122)(n:y∉Ag):Nm y:=
 ⟨by rw[oP,h];exact l1,by rw[oP,h];exact l8,by rw[h];exact a,n⟩
def UK{y:Str}{cs:List Nat}(h:y.cps.toList=cs)(l8:cs.length<=7)(a:∀c∈cs,97<=c/\c<=122):Nm (y++"x"):=by
 have e:=Ji y;rw[h] at e;refine⟨by rw[oP,e,aN];simp,by rw[oP,e,aN];simp;lia,λc hc=>?_,λhm=>?_⟩
 ·rw[e] at hc;rcases aV.mp hc with z|z
  ·exact a c z
  ·rw[ax.mp z];decide
 ·have:=Lm _ hm;rw[e,List.getLast?_append] at this;exact this rfl
def Vx(st b l:ar)(n sz at':Nat)(f:Int)(H4:Hp)(i:Nat):St->Hp->Prop:=λσ' H'=>∃(ys:List Str) (o1 o2 o3:Option V),σ'=[some (.ref st),some (.int (n:Nat)),some (.str abc),some (.int (sz:Nat)),some (.int (at':Nat)),some (.int f),some (.ref b),some (.ref l),o1,o2,o3]/\H' l=some (.lst (ys.map V.str))/\ys.length=i/\(∀y∈ys,Nm y)/\(∀(j:Nat) y,ys[j]?=some y->y.cps.toList[at']?=some (97+((f+5*(j:Int)) % 26).toNat))/\gc l (upd H4 l (.lst [])) H'
def Q4{K:Fg}{vs:List V}{H:Hp}{Q:VK}{E:XK}(h:vj K vs H Q E):JU K {nx:=λ_ H'=>Q .non H',rt:=Q} (cQ Ds vs) H:=by
 obtain⟨st,n,k,rfl,S,hk,hn,q⟩:=h;refine⟨_,rfl,st,8,k,rfl,S,by lia,by decide,by decide,λd H1 d0 d1 S1 B1=>.inl ⟨_,_,rfl,rfl,?_⟩⟩;obtain⟨sz,hsz,z1,z8⟩:∃sz:Nat,(1:Int)+d=(sz:Int)/\1<=sz/\sz<=8:=⟨(1+d).toNat,by lia,by lia,by lia⟩;show AD K _ [some (.ref st),some (.int (n:Nat)),some (.str abc),some (.int ((1:Int)+d)),none,none,none,none,none,none,none] H1;rw[hsz];refine⟨_,rfl,_,rfl,st,_,k+1,rfl,S1,by lia,by lia,by lia,λa H2 a0 a1 S2 B2'=>?_⟩;obtain⟨at',rfl⟩:∃j:Nat,a=(j:Int):=⟨a.toNat,by lia⟩;have B2:=B1.trans B2';refine⟨_,rfl,st,26,k+2,rfl,S2,by lia,by decide,by decide,λf H3 f0 f1 S3 B3'=>?_⟩;have B3:=B2.trans B3';refine⟨_,rfl,_,rfl,by lia,by lia,λb hb=>?_⟩;obtain⟨ys3,hs3⟩:=S3.lst;have nb:b≠st:=λz=>by rw[z,hs3] at hb;cases hb
 refine zp (λi σ' H'=>∃(bc:List Nat) (kk:Nat) (o:Option V),σ'=[some (.ref st),some (.int (n:Nat)),some (.str abc),some (.int (sz:Nat)),some (.int (at':Nat)),some (.int f),none,none,none,none,none,o]/\
  H' b=some (.lst ((bc.map one).map V.str))/\bc.length=i/\(∀c∈bc,97<=c/\c<=122)/\j9 K H' st kk/\kk<=k+3+i/\gc st H H') ?_ ?_ ?_
 ·exact⟨[],k+3,none,rfl,ag,rfl,by simp,S3.new hb,by lia,B3.new hb⟩
 ·rintro i σ' H' hi ⟨bs,kk,o,rfl,hbl,hlen,hone,S4,hkk,B4⟩;have hi:i<sz:=by simpa using hi
  refine iq ?_;refine⟨_,rfl,_,rfl,_,rfl,.inl ⟨_,_,rfl,rfl,.inl ⟨by decide,by decide⟩,_,rfl,st,4,kk,rfl,S4,by lia,by decide,by decide,λe H5 e0 e1 S5 B5=>.inl ⟨_,_,rfl,rfl,.inr ⟨by lia,by lia⟩,.inl ⟨_,_,rfl,rfl,_,_,rfl,rfl,(by show(0:Int)<26;decide),?_⟩⟩⟩⟩;have x0:0<=(f+7*(0+(i:Int))*e) % 26:=dW _ (by decide);have x1:(f+7*(0+(i:Int))*e) % 26<26:=dS _ (by decide);refine Vq Je x0 (E2 _ (by lia)) ?_;have x2:((f+7*(0+(i:Int))*e) % 26).toNat<26:=by lia
  generalize ((f+7*(0+(i:Int))*e) % 26).toNat=x at x2;have h5:=B5 b _ nb hbl;refine⟨_,h5,cg (by rw[af,af];lia),bs++[97+x],kk+1,_,rfl,?_,by simp[hlen],?_,?_,by lia,?_⟩
  ·rw[ag,aG,aG];rfl
  ·intro y hy;rcases aV.mp hy with z|z
   ·exact hone y z
   ·rw[ax.mp z];lia
  ·exact S5.mono .upd_at h5 (Ne.symm nb)
  ·exact λc' u n' h'=>by
    have w:=(B4.trans B5) c' u n' h';have ncb:c'≠b:=λz=>by
     have:H c'=none:=(B3.free (λz'=>n' z') (by rw[z];exact hb));rw[this] at h';cases h'
    rw[aL ncb];exact w
 ·rintro σ' H4 ⟨bs,kk,o,rfl,hbl,hlen,hone,S4,hkk,B4⟩;have hlen:bs.length=sz:=by simpa using hlen
  have hkk:kk<=k+3+sz:=by simpa using hkk
  refine⟨Zc,λl hl=>?_⟩;have nlb:b≠l:=aC hbl hl;obtain⟨ys4,hs4⟩:=S4.lst;have nls:st≠l:=aC hs4 hl;have Hl:H l=none:=B4.free (Ne.symm nls) hl;show CZ K _ [some (.ref st),some (.int (n:Nat)),some (.str abc),some (.int (sz:Nat)),some (.int (at':Nat)),some (.int f),some (.ref b),some (.ref l),none,none,none] (upd H4 l (.lst []));refine⟨_,rfl,_,rfl,by lia,by lia,oN (Vx st b l n sz at' f H4) ⟨[],none,none,none,rfl,ag,rfl,by simp,by simp,.refl _ _⟩ ?_ ?_⟩
  ·rintro i σ' H5 hi ⟨ys,o1,o2,o3,rfl,hyl,ylen,yok,ycd,B5⟩;have hi:i<n:=by simpa using hi
   have hb5:H5 b=some (.lst ((bs.map one).map V.str)):=B5 b _ nlb (by rw[aL nlb];exact hbl);refine⟨_,rfl,_,rfl,_,rfl,.inl ⟨b,_,rfl,cN.of hb5,λp1 hp1=>?_⟩⟩;rw[mq,<-fO,<-fO];have np1b:b≠p1:=aC hb5 hp1;have np1l:l≠p1:=aC hyl hp1;refine⟨_,rfl,_,rfl,_,rfl,.inl ⟨_,_,rfl,rfl,.inl ⟨by decide,by decide⟩,.inl ⟨_,_,rfl,rfl,_,_,rfl,rfl,(by show(0:Int)<26;decide),?_⟩⟩⟩;have e00:(0:Int)+(i:Int)=(i:Int):=by lia
   rw[e00];have x0:0<=(f+5*(i:Int)) % 26:=dW _ (by decide);have x1:(f+5*(i:Int)) % 26<26:=dS _ (by decide);obtain⟨c,hc⟩:∃c,c=97+((f+5*(i:Int)) % 26).toNat:=⟨_,rfl⟩;refine Vq Je x0 (by rw[E2 _ (by lia),<-hc]) ⟨Zd,λp2 hp2=>?_⟩;have np12:p1≠p2:=aC ag hp2;have np2b:b≠p2:=aC (by rw[aL np1b];exact hb5) hp2;have np2l:l≠p2:=aC (by rw[aL np1l];exact hyl) hp2;refine .inr (.inr (.inl ⟨p1,p2,_,_,rfl,rfl,by rw[aL np12,ag],ag,?_,λp3 hp3=>?_⟩))
   ·have:=cg (n:=9) (by decide);rw[af,af,aX];show min at' bs.length+1<=av;lia
   have np13:p1≠p3:=aC (by rw[aL np12];exact ag) hp3;have np3b:b≠p3:=aC (by rw[aL np2b,aL np1b];exact hb5) hp3;have np3l:l≠p3:=aC (by rw[aL np2l,aL np1l];exact hyl) hp3;refine⟨_,rfl,_,rfl,.inl ⟨_,_,rfl,rfl,_,rfl,.inl ⟨b,_,rfl,cN.of (by rw[aL np3b,aL np2b,aL np1b];exact hb5),λp4 hp4=>?_⟩⟩⟩;rw[show((at':Int)+1)=((at'+1:Nat):Int) by lia,zq,<-nC,<-nC];have np34:p3≠p4:=aC ag hp4;have np4l:l≠p4:=aC (by rw[aL np3l,aL np2l,aL np1l];exact hyl) hp4;refine .inr (.inr (.inl ⟨p3,p4,_,_,rfl,rfl,by rw[aL np34,ag],ag,?_,λp5 hp5=>?_⟩))
   ·have:=cg (n:=100) (by decide);rw[aN,af,af,af,af,aX,eY];show min at' bs.length+1+(bs.length-(at'+1))<=av;lia
   have np5l:l≠p5:=aC (by rw[aL np4l,aL np3l,aL np2l,aL np1l];exact hyl) hp5;have ew:((bs.take at').map one).map V.str++[V.str ⟨#[c]⟩]++((bs.drop (at'+1)).map one).map V.str=((bs.take at'++[c]++bs.drop (at'+1)).map one).map V.str:=by rw[aG,aG,aG,aG];rfl
   rw[ew];have wl:(bs.take at'++[c]++bs.drop (at'+1)).length=sz:=by rw[aN,aN,aX,eY,cD];lia
   have wone:∀y∈bs.take at'++[c]++bs.drop (at'+1),97<=y/\y<=122:=λy hy=>by
    rcases aV.mp hy with z|z
    ·rcases aV.mp z with z|z
     ·exact hone y (dU z)
     ·rw[ax.mp z];lia
    ·exact hone y (List.mem_of_mem_drop z)
   have wat:(bs.take at'++[c]++bs.drop (at'+1))[at']?=some c:=by
    have tl:(bs.take at').length=at':=by rw[aX];lia
    rw[dM,bV (by lia),tl,jM];rfl
   generalize bs.take at'++[c]++bs.drop (at'+1)=w at wl wone wat ⊢;have B6:=((((B5.new (o:=.lst (((bs.take at').map one).map V.str)) hp1).new (o:=.lst [V.str ⟨#[c]⟩]) hp2).new (o:=.lst (((bs.take at').map one).map V.str++[V.str ⟨#[c]⟩])) hp3).new (o:=.lst (((bs.drop (at'+1)).map one).map V.str)) hp4).new (o:=.lst ((w.map one).map V.str)) hp5;have h6:(upd (upd (upd (upd (upd H5 p1 (.lst (((bs.take at').map one).map V.str))) p2 (.lst [V.str ⟨#[c]⟩])) p3 (.lst (((bs.take at').map one).map V.str++[V.str ⟨#[c]⟩]))) p4 (.lst (((bs.drop (at'+1)).map one).map V.str))) p5 (.lst ((w.map one).map V.str))) l=some (.lst (ys.map V.str)):=by
    rw[aL np5l,aL np4l,aL np3l,aL np2l,aL np1l];exact hyl
   have g6:(upd (upd (upd (upd (upd H5 p1 (.lst (((bs.take at').map one).map V.str))) p2 (.lst [V.str ⟨#[c]⟩])) p3 (.lst (((bs.take at').map one).map V.str++[V.str ⟨#[c]⟩]))) p4 (.lst (((bs.drop (at'+1)).map one).map V.str))) p5 (.lst ((w.map one).map V.str))) p5=some (.lst ((w.map one).map V.str)):=ag;generalize (upd (upd (upd (upd (upd H5 p1 (.lst (((bs.take at').map one).map V.str))) p2 (.lst [V.str ⟨#[c]⟩])) p3 (.lst (((bs.take at').map one).map V.str++[V.str ⟨#[c]⟩]))) p4 (.lst (((bs.drop (at'+1)).map one).map V.str))) p5 (.lst ((w.map one).map V.str)))=H6 at B6 h6 g6 ⊢;have wsum:((w.map one).map (·.length)).sum=w.length:=by
    rw[dN,show((λx:Str=>x.length) ∘ one)=λ_=>1 from rfl,List.map_const',List.sum_replicate_nat,Nat.mul_one]
   refine⟨rfl,_,rfl,"",p5,w.map one,rfl,rfl,cN.of g6,?_,?_⟩
   ·have e:("":Str).length=0:=by decide +kernel
    rw[wsum,e,Nat.mul_zero];lia
   have jl:=Fb w;generalize Txt.join "" (w.map one)=nmw at jl ⊢;show CY K _ [some (.ref st),some (.int (n:Nat)),some (.str abc),some (.int (sz:Nat)),some (.int (at':Nat)),some (.int f),some (.ref b),some (.ref l),some (.int (i:Int)),some (.ref p5),some (.str nmw)] H6;have nl:nmw.length=sz:=by rw[oP,jl,wl]
   have app:∀(nw:Str) (H7:Hp),Nm nw->nw.cps.toList[at']?=some c->gc l (upd H4 l (.lst [])) H7->H7 l=some (.lst (ys.map V.str))->CW K {nx:=Vx st b l n sz at' f H4 (i+1),rt:=Q,ct:=Vx st b l n sz at' f H4 (i+1),bk:=CV K {nx:=λ_ H'=>Q .non H',rt:=Q}} [some (.ref st),some (.int (n:Nat)),some (.str abc),some (.int (sz:Nat)),some (.int (at':Nat)),some (.int f),some (.ref b),some (.ref l),some (.int (i:Int)),some (.ref p5),some (.str nw)] H7:=λnw H7 w1 w2 B7 h7=>by
    refine⟨_,rfl,.inl ⟨rfl,_,cN.of h7⟩,_,rfl,l,_,_,rfl,rfl,h7,cg (by rw[af];lia),?_⟩;refine⟨ys++[nw],_,_,_,rfl,?_,by simp[ylen],?_,?_,B7.trans .upd_at⟩
    ·rw[ag,aG];rfl
    ·intro y hy;rcases aV.mp hy with z|z
     ·exact yok y z
     ·rw[ax.mp z];exact w1
    ·intro j y hy;by_cases cj:j<ys.length
     ·rw[cF cj] at hy;exact ycd j y hy
     ·have cj2:j=i:=by
       have:=(aj.mp hy).1;rw[aN,cD] at this;lia
      subst cj2;rw[bV (by lia),ylen,jM] at hy;cases hy;rw[<-hc];exact w2
   refine⟨_,rfl,(by show 6<=av;decide),λt ht=>⟨t,_,rfl,.inr (dA.of ag),rfl,rfl,_,rfl,?_⟩⟩;have ntl:l≠t:=aC h6 ht;have B7:=B6.new (o:=.tup [V.str "part",V.str "call",V.str "say",V.str "jump",V.str "test",V.str "give"]) ht;have h7:(upd H6 t (.tup [V.str "part",V.str "call",V.str "say",V.str "jump",V.str "test",V.str "give"])) l=some (.lst (ys.map V.str)):=by rw[aL ntl];exact h6
   have xl:("x":Str).length=1:=by decide +kernel
   have xat:(nmw++"x").cps.toList[at']?=some c:=by
    rw[Ji,jl,cF (by rw[wl];lia)];exact wat
   show if m7 (.str nmw) (Ag.map V.str)=true then _ else _;rw[jb];refine bL (λhin=>?_) (λhin=>?_)
   ·refine⟨_,rfl,.inr (.inl ⟨_,_,rfl,rfl,by rw[xl];have:=cg (n:=100) (by decide);lia,?_⟩)⟩;have z4:=Oi _ hin;exact app _ _ (UK jl (by rw[wl];lia) wone) xat B7 h7
   ·refine⟨_,rfl,_,_,rfl,rfl,_,rfl,bL (λh8=>?_) (λ_=>?_)⟩
    ·refine⟨_,rfl,_,rfl,.inl ⟨_,_,rfl,rfl,_,_,rfl,rfl,(by show(0:Int)<3;decide),.inl ⟨rfl,_,rfl,bL (λ_=>?_) (λ_=>?_)⟩⟩⟩
     ·refine⟨_,rfl,.inr (.inl ⟨_,_,rfl,rfl,by rw[xl];have:=cg (n:=100) (by decide);lia,?_⟩)⟩;exact app _ _ (UK jl (by rw[wl];lia) wone) xat B7 h7
     ·exact app _ _ (FN jl (by lia) (by lia) wone hin) (by rw[jl];exact wat) B7 h7
    ·exact ff (app _ _ (FN jl (by lia) (by lia) wone hin) (by rw[jl];exact wat) B7 h7)
  ·rintro σ' H5 ⟨ys,o1,o2,o3,rfl,hyl,ylen,yok,ycd,B5⟩;have ylen:ys.length=n:=by simpa using ylen
   have nd:ys.Nodup:=by
    rw[List.Nodup,List.pairwise_iff_getElem];intro i j hi hj lt e;have e1:=ycd i _ (ao hi);have e2:=ycd j _ (ao hj);rw[e,e2] at e1;have e3:=Option.some.inj e1;have a1:0<=(f+5*(i:Int)) % 26:=dW _ (by decide);have a2:0<=(f+5*(j:Int)) % 26:=dW _ (by decide);lia
   refine⟨_,rfl,q l ys kk H5 Hl ylen nd yok hyl ((S4.new hl).mono B5 ag nls) (by lia) (B4.through hl B5)⟩
structure MJ(rl:ar)(H:Hp)(R:bU->Prop)(n:Nat)(H':Hp)(rvs:List V)(rs:List bU):Prop where
 at_:H' rl=some (.lst rvs)
 all:b3 (e7 H') rvs rs
 len:rs.length=n
 rough:∀r∈rs,R r
 but:gc rl H H'
def MJ.vlen{rl:ar}{H H':Hp}{R:bU->Prop}{n:Nat}{rvs:List V}{rs:List bU}(m:MJ rl H R n H' rvs rs):rvs.length=n:=m.all.len.trans m.len
def MJ.grown{rl:ar}{H H' H2:Hp}{R:bU->Prop}{n:Nat}{rvs:List V}{rs:List bU}(m:MJ rl H R n H' rvs rs)(s:aK H' H2):MJ rl H R n H2 rvs rs:=
 ⟨s _ _ m.at_,m.all.imp λ_ _ z=>z.mono (.of_same s),m.len,m.rough,λb o nb h=>s _ _ (m.but b o nb h)⟩
def MJ.set{rl:ar}{H H':Hp}{R:bU->Prop}{n:Nat}{rvs:List V}{rs:List bU}{v:V}{r:bU}(j:Nat)(m:MJ rl H R n H' rvs rs)(q:e7 H' v r)(ro:R r) :
  MJ rl H R n (upd H' rl (.lst (rvs.set j v))) (rvs.set j v) (rs.set j r):=by
 have t:Tp H' (upd H' rl (.lst (rvs.set j v))):=(Tp.refl H').lst m.at_;refine⟨ag,(m.all.set q).imp λ_ _ z=>z.mono t,by rw[gj];exact m.len,λr' hr'=>?_,m.but.trans .upd_at⟩;rcases List.mem_or_eq_of_mem_set hr' with z|z
 ·exact m.rough r' z
 ·rw[z];exact ro
def MJ.get{rl:ar}{H H':Hp}{R:bU->Prop}{n:Nat}{rvs:List V}{rs:List bU}(m:MJ rl H R n H' rvs rs){j:Nat}(hj:j<n):∃p xs r,rvs[j]?=some (.ref p)/\rs[j]?=some r/\H' p=some (.tup (.str (yB r)::xs))/\e7 H' (.ref p) r/\R r:=by
 obtain⟨v,r,e1,e2,q⟩:=m.all.get (i:=j) (by rw[m.len];exact hj);obtain⟨p,xs,rfl,hp⟩:=q.ref;exact⟨p,xs,r,e1,e2,hp,q,m.rough r (aD e2)⟩
def Rm(n:Nat)(rs:List bU):Prop:=∃r,rs[n-1]?=some r/\jS r=true
def Uy(bare:Bool)(rs:List bU):Prop:=bare=true->∃r,rs[0]?=some r/\zE r=true
def wY{r:bU}(h:yB r="jump"):∃to,r=.jump to:=by
 cases r with
 |jump to=>exact⟨to,rfl⟩
 |num x z=>exact absurd h (by show ¬("num":Str)="jump";decide +kernel)
 |op x s a b=>exact absurd h (by show ¬("op":Str)="jump";decide +kernel)
 |call x k as=>exact absurd h (by show ¬("call":Str)="jump";decide +kernel)
 |say a=>exact absurd h (by show ¬("say":Str)="jump";decide +kernel)
 |test a to=>exact absurd h (by show ¬("test":Str)="jump";decide +kernel)
 |give a=>exact absurd h (by show ¬("give":Str)="jump";decide +kernel)
def Sr{r:bU}(h:yB r="num"):zE r=true:=by
 cases r with
 |num x z=>rfl
 |jump to=>exact absurd h (by show ¬("jump":Str)="num";decide +kernel)
 |op x s a b=>exact absurd h (by show ¬("op":Str)="num";decide +kernel)
 |call x k as=>exact absurd h (by show ¬("call":Str)="num";decide +kernel)
 |say a=>exact absurd h (by show ¬("say":Str)="num";decide +kernel)
 |test a to=>exact absurd h (by show ¬("test":Str)="num";decide +kernel)
 |give a=>exact absurd h (by show ¬("give":Str)="num";decide +kernel)
def Sn{r:bU}(h:m7 (.str (yB r)) [V.str "jump",V.str "give"]=true):jS r=true:=by
 cases r with
 |jump to=>rfl
 |give a=>rfl
 |num x z=>exact absurd h (by show ¬m7 (.str "num") [V.str "jump",V.str "give"]=true;decide +kernel)
 |op x s a b=>exact absurd h (by show ¬m7 (.str "op") [V.str "jump",V.str "give"]=true;decide +kernel)
 |call x k as=>exact absurd h (by show ¬m7 (.str "call") [V.str "jump",V.str "give"]=true;decide +kernel)
 |say a=>exact absurd h (by show ¬m7 (.str "say") [V.str "jump",V.str "give"]=true;decide +kernel)
 |test a to=>exact absurd h (by show ¬m7 (.str "test") [V.str "jump",V.str "give"]=true;decide +kernel)
def yM{a b:Str}(h:V.str a=V.str b):a=b:=by cases h;rfl
def Gj{rs:List bU}{n:Nat}(h:∀r,rs[n]?=some r->ig r=false):stp rs n=n:=by
 unfold stp;cases e:rs[n]? with
 |none=>rfl
 |some r=>cases r with
  |jump t=>exact absurd (h _ e) (by show ¬true=false;decide)
  |_=>rfl
def su{rs:List bU}{n:Nat}(h:∀r,rs[n]?=some r->ig r=false):∀k,runJ rs k n=n
 |0=>rfl
 |k+1=>by
  show runJ rs k (stp rs n)=n;rw[Gj h];exact su h k
def sv(rs:List bU):∀(k n:Nat),runJ rs (k+1) n=stp rs (runJ rs k n)
 |0,n=>rfl
 |k+1,n=>by
  show runJ rs (k+1) (stp rs n)=stp rs (runJ rs k (stp rs n));exact sv rs k (stp rs n)
def Om{rs:List bU}{j:Nat}{r':bU}(hr:ig r'=false)(hj:j<rs.length):∀(k m:Nat),(∀r,rs[runJ rs k m]?=some r->ig r=false)->∀r,(rs.set j r')[runJ (rs.set j r') k m]?=some r->ig r=false:=by
 have at_j:∀r,(rs.set j r')[j]?=some r->ig r=false:=λr e=>by
  rw[bJ hj] at e;cases e;exact hr
 intro k
 induction k with
 |zero=>
  intro m h r e;by_cases c:j=m
  ·subst c;exact at_j r e
  ·have e':(rs.set j r')[m]?=some r:=e;rw[b6 c] at e';exact h r e'
 |succ k ih=>
  intro m h r e;by_cases c:j=m
  ·subst c;rw[su at_j] at e;exact at_j r e
  ·have es:stp (rs.set j r') m=stp rs m:=by unfold stp;rw[b6 c]
   have e':(rs.set j r')[runJ (rs.set j r') k (stp (rs.set j r') m)]?=some r:=e;rw[es] at e';exact ih (stp rs m) h r e'
def zR{r:bU}(h:¬yB r="jump"):ig r=false:=by
 cases r<;>first|rfl|exact absurd rfl h
def Vv(rl nm:ar)(bare:Bool)(H:Hp)(R:bU->Prop)(n i:Nat):St->Hp->Prop:=λσ' H'=>∃(rvs:List V) (rs:List bU) (o4 o5 o6:Option V),σ'=[some (.ref rl),some (.ref nm),some (.bl bare),some (.int ((n-1:Nat):Nat)),o4,o5,o6]/\MJ rl H R n H' rvs rs/\Rm n rs/\Uy bare rs/\∀m,m<i->∀r,rs[runJ rs n m]?=some r->ig r=false
def Oa{K:Fg}{vs:List V}{H:Hp}{Q:VK}{E:XK}(h:wL K vs H Q E):Gr K {nx:=λ_ H'=>Q .non H',rt:=Q} (cQ EW vs) H:=by
 obtain⟨rl,nm,bare,rvs,rs,ys,R,rfl,hrl,hA,hpos,hfew,hR,rSay,rGive,rJump,hnm,ysne,rNum,nnr,hbare,q⟩:=h;obtain⟨n,hn⟩:∃n,n=rs.length:=⟨_,rfl⟩;have n1:1<=n:=by rw[hn];exact dF.mpr hpos
 have n100:n<=100:=by rw[hn];exact hfew
 have M0:MJ rl H R n H rvs rs:=⟨hrl,hA,hn.symm,hR,.refl _ _⟩;refine⟨_,rfl,_,_,rfl,.inl ⟨_,cN.of hrl,rfl⟩,_,_,rfl,rfl,?_⟩;show AC K _ [some (.ref rl),some (.ref nm),some (.bl bare),some (.int (((rvs.length:Nat):Int)-1)),none,none,none] H;rw[show((rvs.length:Nat):Int)-1=((n-1:Nat):Nat) by rw[M0.vlen];lia];have loop:∀H',Vv rl nm bare H R n 0 [some (.ref rl),some (.ref nm),some (.bl bare),some (.int ((n-1:Nat):Nat)),none,none,none] H'->AA K {nx:=λ_ H'=>Q .non H',rt:=Q} [some (.ref rl),some (.ref nm),some (.bl bare),some (.int ((n-1:Nat):Nat)),none,none,none] H':=λH' P0=>by
  obtain⟨rvs0,rs0,_,_,_,_,MM,_,_,_⟩:=id P0;refine⟨_,rfl,_,_,rfl,.inl ⟨_,cN.of MM.at_,rfl⟩,_,rfl,by lia,by rw[MM.vlen];lia,oN (λi=>Vv rl nm bare H R n i) P0 ?_ ?_⟩
  ·rintro i σ' H1 hi ⟨rvs,rs,o4,o5,o6,rfl,M,hE,hN,hJ⟩;have hi:i<n:=by rw[MM.vlen] at hi;simpa using hi
   have e0:(0:Int)+(i:Int)=((i:Nat):Int):=by lia
   show Az K _ [some (.ref rl),some (.ref nm),some (.bl bare),some (.int ((n-1:Nat):Nat)),some (.int ((0:Int)+(i:Int))),o5,o6] H1;rw[e0];refine⟨_,rfl,?_⟩;show Ay K _ [some (.ref rl),some (.ref nm),some (.bl bare),some (.int ((n-1:Nat):Nat)),some (.int (i:Nat)),some (.int (i:Nat)),o6] H1;refine .inl ⟨_,rfl,rl,rfl,⟨_,cN.of M.at_⟩,qY (xs:=rvs) (λj σ H'=>∃(to:Nat) (o:Option V),σ=[some (.ref rl),some (.ref nm),some (.bl bare),some (.int ((n-1:Nat):Nat)),some (.int (i:Nat)),some (.int (to:Nat)),o]/\H'=H1/\to<n/\(∀r,rs[i]?=some r->zE r=true->to=i)/\to=runJ rs j i)
    ⟨i,o6,rfl,rfl,hi,λ_ _ _=>rfl,rfl⟩ (λ_ _ _ _ ⟨_,_,_,e,_⟩=>by rw[e];exact cN.of M.at_) ?_ ?_⟩
   ·rintro j x σ' H2 hx ⟨to,o,rfl,rfl,hto,hk,hrun⟩;obtain⟨p,xs,r,e1,e2,hp,hra,hro⟩:=M.get hto;have e1':rvs[((to:Nat):Int).toNat]?=some (.ref p):=by simpa using e1
    refine⟨_,rfl,_,rfl,sf (cN.of M.at_) (by lia) e1' (Zb hp rfl (.inl ⟨rfl,_,rfl,bL (λhw=>?_) (λhw=>?_)⟩))⟩
    ·obtain⟨t',rfl⟩:=wY (yM hw);obtain⟨p',e3,hp'⟩:=hra;cases e3;refine⟨_,rfl,_,rfl,sf (cN.of M.at_) (by lia) e1' (Zb hp' rfl ?_)⟩;refine⟨t',_,rfl,rfl,by rw[hn];exact rJump _ hro,λr hr hnum=>?_,?_⟩
     ·have:=hk r hr hnum;rw[this] at e2;rw[e2] at hr;cases hr;cases hnum
     ·rw[sv,<-hrun];unfold stp;rw[e2]
    ·refine⟨to,_,rfl,rfl,hto,hk,?_⟩;rw[sv,<-hrun,Gj];intro r' hr';rw[e2] at hr';cases hr';exact zR λz=>hw (by rw[z])
   ·rintro σ' H2 ⟨to,o,rfl,rfl,hto,hk,hrun⟩;rw[M.vlen] at hrun;obtain⟨p,xs,r,e1,e2,hp,hra,hro⟩:=M.get hto;have e1':rvs[((to:Nat):Int).toNat]?=some (.ref p):=by simpa using e1
    refine⟨_,rfl,_,rfl,sf (cN.of M.at_) (by lia) e1' (Zb hp rfl (.inl ⟨rfl,_,rfl,bL (λhw=>?_) (λhw=>⟨rvs,rs,_,_,_,rfl,M,hE,hN,λm hm=>?_⟩)⟩))⟩;rotate_left
    ·by_cases cm:m<i
     ·exact hJ m cm
     ·have:m=i:=by lia
      subst this;intro r' hr';rw[<-hrun,e2] at hr';cases hr';exact zR λz=>hw (by rw[z])
    obtain⟨t',rfl⟩:=wY (yM hw);refine⟨Ze,λp1 hp1=>⟨Ze,λp2 hp2=>⟨Ze,λl hl=>?_⟩⟩⟩;have n12:p1≠p2:=aC ag hp2;have n1l:p1≠l:=aC (by rw[aL n12];exact ag) hl;have n2l:p2≠l:=aC ag hl;have sm:aK H2 (upd (upd (upd H2 p1 (.tup [V.str "say",V.str ""])) p2 (.tup [V.str "give",V.str ""])) l (.lst [V.ref p1,V.ref p2])):=(((aK.refl H2).new hp1).new hp2).new hl;have M2:=M.grown sm;have hl2:(upd (upd (upd H2 p1 (.tup [V.str "say",V.str ""])) p2 (.tup [V.str "give",V.str ""])) l (.lst [V.ref p1,V.ref p2])) l=some (.lst [V.ref p1,V.ref p2]):=ag;have h1:(upd (upd (upd H2 p1 (.tup [V.str "say",V.str ""])) p2 (.tup [V.str "give",V.str ""])) l (.lst [V.ref p1,V.ref p2])) p1=some (.tup [V.str "say",V.str ""]):=by rw[aL n1l,aL n12,ag]
    have h2:(upd (upd (upd H2 p1 (.tup [V.str "say",V.str ""])) p2 (.tup [V.str "give",V.str ""])) l (.lst [V.ref p1,V.ref p2])) p2=some (.tup [V.str "give",V.str ""]):=by rw[aL n2l,ag]
    generalize (upd (upd (upd H2 p1 (.tup [V.str "say",V.str ""])) p2 (.tup [V.str "give",V.str ""])) l (.lst [V.ref p1,V.ref p2]))=H3 at M2 hl2 h1 h2 ⊢;have fin:∀(v:V) (r:bU),e7 H3 v r->R r->ig r=false->(i=n-1->jS r=true)->t9 (au 0) (au 4) rA v [some (.ref rl),some (.ref nm),some (.bl bare),some (.int ((n-1:Nat):Nat)),some (.int (i:Nat)),some (.int (to:Nat)),o] H3 (Vv rl nm bare H R n (i+1)):=λv r hv hr hj he=>by
     refine⟨_,rfl,_,rfl,Gg M2.at_ (by lia) (by rw[M2.vlen];simpa using hi) ?_⟩;have ei:((i:Nat):Int).toNat=i:=by simp
     rw[ei];refine⟨_,rs.set i r,_,_,_,rfl,M2.set i hv hr,?_,λhb=>?_,λm hm=>?_⟩
     ·obtain⟨r1,a1,a2⟩:=hE;by_cases c:i=n-1
      ·exact⟨r,by rw[<-c,bJ (by rw[M2.len];exact hi)],he c⟩
      ·exact⟨r1,by rw[b6 c];exact a1,a2⟩
     ·obtain⟨r0,a1,a2⟩:=hN hb;have c:i≠0:=λc=>by
       subst c;have:=hk r0 a1 a2;subst this;rw[e2] at a1;cases a1;cases a2
      exact⟨r0,by rw[b6 c];exact a1,a2⟩
     ·have il:i<rs.length:=by rw[M2.len];exact hi
      by_cases cm:m<i
      ·exact Om hj il n m (hJ m cm)
      ·have:m=i:=by lia
       subst this;have atm:∀r',(rs.set m r)[m]?=some r'->ig r'=false:=λr' e=>by rw[bJ il] at e;cases e;exact hj
       intro r' hr';rw[su atm] at hr';exact atm r' hr'
    refine⟨_,rfl,_,rfl,.inl ⟨rfl,?_⟩⟩;refine .inr ⟨_,rfl,?_⟩;by_cases c:i=n-1
    ·have ec:decide (V.int (i:Nat)=V.int ((n-1:Nat):Nat))=true:=by rw[c];exact decide_eq_true rfl
     rw[ec];exact sf (cN.of hl2) (by decide) rfl (fin _ (.give "") ⟨p2,rfl,h2⟩ rGive rfl λ_=>rfl)
    ·have ec:decide (V.int (i:Nat)=V.int ((n-1:Nat):Nat))=false:=decide_eq_false (λz=>c (by injection z with z;lia));rw[ec];exact sf (cN.of hl2) (by decide) rfl (fin _ (.say "") ⟨p1,rfl,h1⟩ rSay rfl λz=>absurd z c)
  ·rintro σ' H1 ⟨rvs,rs',o4,o5,o6,rfl,M,hE,hN,hJ⟩;rw[MM.vlen,dJ] at hJ;refine⟨_,rfl,q rvs rs' H1 M.at_ M.all (M.len.trans hn) M.rough ?_ ?_ (by intro m hm;rw[M.len] at hm ⊢;exact hJ m hm) M.but⟩
   ·obtain⟨r,a1,a2⟩:=hE;rw[cG,M.len,a1,cq,a2]
   ·intro hb;obtain⟨r,a1,a2⟩:=hN hb;rw[jI,a1,cq,a2]
 have second:∀(H':Hp) (rvs:List V) (rs:List bU),MJ rl H R n H' rvs rs->Rm n rs->AB K {nx:=λ_ H'=>Q .non H',rt:=Q} [some (.ref rl),some (.ref nm),some (.bl bare),some (.int ((n-1:Nat):Nat)),none,none,none] H':=λH' rvs rs M hE=>by
  refine⟨_,rfl,bare,rfl,ka (λhb=>?_) (λhb=>?_)⟩
  ·have n2:2<=n:=by rw[hn];exact hbare hb
   obtain⟨p,xs,r,e1,e2,hp,hra,hro⟩:=M.get (j:=0) (by lia);refine⟨_,rfl,sf (cN.of M.at_) (by decide) e1 (Zb hp rfl (.inl ⟨rfl,_,rfl,nU (λhw=>?_) (λhw=>?_)⟩))⟩
   ·refine⟨_,rfl,_,_,rfl,rfl,_,rfl,bL (λ_=>?_) (λhz=>absurd (show(0:Int)<((n-1:Nat):Nat) by lia) hz)⟩;have hnm':=M.but nm _ nnr hnm;obtain⟨y,yr,rfl⟩:∃y yr,ys=y::yr:=List.exists_cons_of_ne_nil ysne;refine⟨_,rfl,sf (cN.of hnm') (by decide) rfl ⟨Zf,λp2 hp2=>?_⟩⟩;have M2:=M.grown ((aK.refl H').new (o:=.tup [V.str "num",V.str y,V.int 3]) hp2);refine⟨_,rfl,Gg M2.at_ (by decide) (by rw[M2.vlen];exact n1) (loop _ ⟨_,rs.set 0 (.num y 3),_,_,_,rfl,M2.set 0 ⟨p2,rfl,ag⟩ (rNum y bT hb),?_,λ_=>⟨.num y 3,bJ (by rw[M.len];exact n1),rfl⟩,λ_ z=>absurd z (cE _)⟩)⟩;obtain⟨r1,a1,a2⟩:=hE;exact⟨r1,by rw[b6 (by lia)];exact a1,a2⟩
   ·exact ff (loop _ ⟨rvs,rs,_,_,_,rfl,M,hE,λ_=>⟨r,e2,Sr (yM hw)⟩,λ_ z=>absurd z (cE _)⟩)
  ·exact ff (loop _ ⟨rvs,rs,_,_,_,rfl,M,hE,λhb'=>(by rw[hb] at hb';cases hb'),λ_ z=>absurd z (cE _)⟩)
 obtain⟨p,xs,r,e1,e2,hp,hra,hro⟩:=M0.get (j:=n-1) (by lia);have e1':rvs[((n-1:Nat):Int).toNat]?=some (.ref p):=by simpa using e1
 refine⟨_,rfl,_,rfl,sf (cN.of hrl) (by lia) e1' (Zb hp rfl ⟨Ze,λt ht=>⟨t,_,rfl,.inr (dA.of ag),rfl,rfl,_,rfl,?_⟩⟩)⟩;have M1:=M0.grown ((aK.refl H).new (o:=.tup [V.str "jump",V.str "give"]) ht);refine ka (λhb=>?_) (λhb=>?_)
 ·refine⟨Ze,λp2 hp2=>?_⟩;have M2:=M1.grown ((aK.refl _).new (o:=.tup [V.str "give",V.str ""]) hp2);refine⟨_,rfl,_,rfl,Gg M2.at_ (by lia) (by rw[M2.vlen];lia) ?_⟩;have ei:((n-1:Nat):Int).toNat=n-1:=by simp
  rw[ei];exact second _ _ _ (M2.set (n-1) (r:=.give "") ⟨p2,rfl,ag⟩ rGive) ⟨.give "",bJ (by rw[M0.len];lia),rfl⟩
 ·refine second _ _ _ M1 ⟨r,e2,Sn ?_⟩;have hb':(!m7 (.str (yB r)) [V.str "jump",V.str "give"])=false:=hb;simpa using hb'
def Rt(kl:ar)(H:Hp)(v:V)(ks:List Str):Prop:=∃a,v=.ref a/\a≠kl/\H a=some (.lst (ks.map V.str))
def Rt.same{kl:ar}{H H':Hp}{v:V}{ks:List Str}(h:Rt kl H v ks)(s:aK H H'):Rt kl H' v ks:=by
 obtain⟨a,e,n,h⟩:=h;exact⟨a,e,n,s _ _ h⟩
def Rt.upd{kl:ar}{H:Hp}{v:V}{ks:List Str}{o:HO}(h:Rt kl H v ks):Rt kl (upd H kl o) v ks:=by
 obtain⟨a,e,n,h⟩:=h;exact⟨a,e,n,by rw[aL n];exact h⟩
def wO(kss:List (List Str)):Nat:=(kss.map gk).sum
def Gk:∀{kss:List (List Str)} {m:Nat} {ks kp:List Str},kss[m]?=some ks->wO (kss.set m kp)+ks.length=wO kss+kp.length
 |[],m,ks,kp,h=>by simp at h
 |a::r,0,ks,kp,h=>by
  simp at h;subst h;show kp.length+wO r+a.length=a.length+wO r+kp.length;lia
 |a::r,m+1,ks,kp,h=>by
  have ih:=Gk (kss:=r) (m:=m) (ks:=ks) (kp:=kp) (by simpa using h);show a.length+wO (r.set m kp)+ks.length=a.length+wO r+kp.length;lia
structure KJ(kl:ar)(H:Hp)(ys ps:List Str)(w:Str)(n:Nat)(H':Hp)(refs:List V)(kss:List (List Str)):Prop where
 at_:H' kl=some (.lst refs)
 all:b3 (Rt kl H') refs kss
 len:kss.length=n
 wit:∀(i:Nat) ks,kss[i]?=some ks->ks.length<=100/\(∀y∈ks,y∈ys)/\(w∈ks\/(i=0/\ps=[]))
 same:aK H H'
def KJ.grown{kl:ar}{H H' H2:Hp}{ys ps:List Str}{w:Str}{n:Nat}{refs:List V}{kss:List (List Str)}(k:KJ kl H ys ps w n H' refs kss)(s:aK H' H2):KJ kl H ys ps w n H2 refs kss:=
 ⟨s _ _ k.at_,k.all.imp λ_ _ z=>z.same s,k.len,k.wit,k.same.trans s⟩
def KJ.vlen{kl:ar}{H H':Hp}{ys ps:List Str}{w:Str}{n:Nat}{refs:List V}{kss:List (List Str)}(k:KJ kl H ys ps w n H' refs kss):refs.length=n:=k.all.len.trans k.len
def KJ.get{kl:ar}{H H':Hp}{ys ps:List Str}{w:Str}{n:Nat}{refs:List V}{kss:List (List Str)}(k:KJ kl H ys ps w n H' refs kss){j:Nat}(hj:j<n):∃a ks,refs[j]?=some (.ref a)/\kss[j]?=some ks/\a≠kl/\H' a=some (.lst (ks.map V.str)):=by
 obtain⟨v,ks,e1,e2,a,rfl,n1,h1⟩:=k.all.get (i:=j) (by rw[k.len];exact hj);exact⟨a,ks,e1,e2,n1,h1⟩
def KJ.set{kl a:ar}{H H':Hp}{ys ps:List Str}{w:Str}{n m:Nat}{refs:List V}{kss:List (List Str)}{kp:List Str}(k:KJ kl H ys ps w n H' refs kss)(hkl:H kl=none)(na:a≠kl)(ha:H' a=some (.lst (kp.map V.str)))
  (hw:kp.length<=100/\(∀y∈kp,y∈ys)/\(w∈kp\/(m=0/\ps=[]))):KJ kl H ys ps w n (upd H' kl (.lst (refs.set m (.ref a)))) (refs.set m (.ref a)) (kss.set m kp):=by
 refine⟨ag,b3.set (k.all.imp λ_ _ z=>z.upd) ⟨a,rfl,na,by rw[aL na];exact ha⟩,by rw[gj];exact k.len,λi ks e=>?_,λb o h=>?_⟩
 ·by_cases c:m=i
  ·subst c;have hi:m<kss.length:=by have:=(aj.mp e).1;rw[gj] at this;exact this
   rw[bJ hi] at e;cases e;exact hw
  ·rw[b6 c] at e;exact k.wit i ks e
 ·rw[aL (aC h hkl)];exact k.same _ _ h
def xp{α:Type}(p:α->Bool)(l:List α)(i:Nat)(v:α)(h:l[i]?=some v):(l.take (i+1)).filter p=(l.take i).filter p++(if p v=true then[v] else[]):=by
 rw[bN,h,List.filter_append];cases hp:p v<;>simp[hp]
def PJ{r:bU}(h:m7 (.str (yB r)) [V.str "num",V.str "op",V.str "call"]=true):∃x,mE r=.str x:=by
 cases r with
 |num x z=>exact⟨x,rfl⟩
 |op x s a b=>exact⟨x,rfl⟩
 |call x k as=>exact⟨x,rfl⟩
 |jump to=>exact absurd h (by show ¬m7 (.str "jump") [V.str "num",V.str "op",V.str "call"]=true;decide +kernel)
 |say a=>exact absurd h (by show ¬m7 (.str "say") [V.str "num",V.str "op",V.str "call"]=true;decide +kernel)
 |test a to=>exact absurd h (by show ¬m7 (.str "test") [V.str "num",V.str "op",V.str "call"]=true;decide +kernel)
 |give a=>exact absurd h (by show ¬m7 (.str "give") [V.str "num",V.str "op",V.str "call"]=true;decide +kernel)
def Ra{H:Hp}{p:ar}{r:bU}{x:Str}(h:e7 H (.ref p) r)(e:mE r=.str x):∃xs,H p=some (.tup (.str (yB r)::.str x::xs)):=by
 cases r with
 |num y z=>cases e;obtain⟨p',e',h⟩:=h;cases e';exact⟨_,h⟩
 |op y s a b=>cases e;obtain⟨p',e',h⟩:=h;cases e';exact⟨_,h⟩
 |call y k as=>cases e;obtain⟨p',q,e',h,_⟩:=h;cases e';exact⟨_,h⟩
 |jump to=>cases e
 |say a=>cases e
 |test a to=>cases e
 |give a=>cases e
def Na{ys:List Str}{cs:List Nat}{rs:List bU}{i m j:Nat}{r:bU}(hr:rs[i]?=some r)(ro:zi ys cs rs.length r)(hE:rs.getLast?.map jS=some true)(hm:(eL i r)[j]?=some m):m<rs.length:=by
 have hi:i<rs.length:=(aj.mp hr).1;have nx:jS r=false->i+1<rs.length:=λhe=>by
  by_cases c:i+1<rs.length
  ·exact c
  ·have ei:i=rs.length-1:=by lia
   rw[cG,<-ei,hr,cq,he] at hE;cases hE
 have mem:=aD hm;cases r with
 |jump to=>rw[ax.mp mem];exact ro
 |test a to=>
  rcases aE.mp mem with e|e
  ·rw[e];exact nx rfl
  ·rw[ax.mp e];exact ro.2
 |give a=>cases mem
 |num x z=>rw[ax.mp mem];exact nx rfl
 |op x s a b=>rw[ax.mp mem];exact nx rfl
 |call x k as=>rw[ax.mp mem];exact nx rfl
 |say a=>rw[ax.mp mem];exact nx rfl
def zh(rs:List bU)(i:Nat)(kss:List (List Str)):Prop:=∀(n m:Nat) r ks km,n<i->rs[n]?=some r->m∈eL n r->kss[n]?=some ks->kss[m]?=some km->∀y∈km,y∈ks\/mE r=.str y
def DE(ps:List Str)(kss:List (List Str)):Prop:=∀ks,kss[0]?=some ks->∀y∈ks,y∈ps
def DE.set{ps:List Str}{kss:List (List Str)}{m:Nat}{km kp:List Str}(h:DE ps kss)(e:kss[m]?=some km)(s:∀y∈kp,y∈km):DE ps (kss.set m kp):=by
 intro ks e0 y hy;by_cases c:m=0
 ·subst c;have hl:0<kss.length:=(aj.mp e).1;rw[bJ hl] at e0;cases e0;exact h km e y (s y hy)
 ·rw[b6 c] at e0;exact h ks e0 y hy
def Up(rl nm pr kl:ar)(H:Hp)(ys ps:List Str)(w:Str)(rs:List bU)(B i:Nat):St->Hp->Prop:=λσ' H'=>∃(refs:List V) (kss:List (List Str)) (more:Bool) (o5 o6 o7 o8:Option V),σ'=[some (.ref rl),some (.ref nm),some (.ref pr),some (.ref kl),some (.bl more),o5,o6,o7,o8]/\KJ kl H ys ps w rs.length H' refs kss/\2*wO kss+more.toNat<=B/\DE ps kss/\(more=false->zh rs i kss)
def VA(rl nm pr kl:ar)(H:Hp)(ys ps:List Str)(w:Str)(rs:List bU)(B i:Nat)(la l:ar)(ls:List Str)(ms:List Nat)(kss0:List (List Str))(j:Nat):St->Hp->Prop:=λσ' H'=>∃(refs:List V) (kss:List (List Str)) (more:Bool) (o7 o8:Option V),σ'=[some (.ref rl),some (.ref nm),some (.ref pr),some (.ref kl),some (.bl more),some (.int (i:Nat)),some (.ref la),o7,o8]/\KJ kl H ys ps w rs.length H' refs kss/\2*wO kss+more.toNat<=B/\H' la=some (.lst (ls.map V.str))/\H' l=some (.lst (cZ ms))/\DE ps kss/\
 (more=false->kss=kss0/\zh rs i kss0/\∀j',j'<j->∀m km,ms[j']?=some m->kss0[m]?=some km->∀y∈km,y∈ls)
def A2(a b:ar)(H H':Hp):Prop:=∀c o,c≠a->c≠b->H c=some o->H' c=some o
def A2.refl(a b:ar)(H:Hp):A2 a b H H:=λ_ _ _ _ h=>h
def A2.trans{a b:ar}{H H1 H2:Hp}(x:A2 a b H H1)(y:A2 a b H1 H2):A2 a b H H2:=λc o n m h=>y c o n m (x c o n m h)
def A2.of_l{a b:ar}{H H':Hp}(x:gc a H H'):A2 a b H H':=λc o n _ h=>x c o n h
def A2.of_r{a b:ar}{H H':Hp}(x:gc b H H'):A2 a b H H':=λc o _ m h=>x c o m h
def A2.upd_r{a b:ar}{H:Hp}{o:HO}:A2 a b H (upd H b o):=.of_r .upd_at
def A2.tp{a b:ar}{H H':Hp}{xs ys:List V}(x:A2 a b H H')(ha:H a=some (.lst xs))(hb:H b=some (.lst ys)):Tp H H':=λp zs h=>
 x p _ (by rintro rfl;rw[h] at ha;cases ha) (by rintro rfl;rw[h] at hb;cases hb) h
def A2.but{a b:ar}{H H1 H2:Hp}(x:gc a H H1)(hb:H b=none)(y:A2 a b H1 H2):gc a H H2:=λc o n h=>y c o n (aC h hb) (x c o n h)
def DO:V->Nat
 |.str s=>if s="" then 1 else 0
 |.ref _=>4
 |_=>0
def Kd(ks:List Str)(H:Hp):V->Prop
 |.str s=>s=""->ks≠[]
 |.int _=>True
 |.ref q=>∃as:List Str,H q=some (.tup (as.map V.str))/\as.length<=4/\ks≠[]
 |_=>False
def Kd.mono{ks:List Str}{H H':Hp}{x:V}(h:Kd ks H x)(t:Tp H H'):Kd ks H' x:=by
 cases x with
 |str s=>exact h
 |int i=>exact h
 |ref q=>obtain⟨as,h1,h2⟩:=h;exact⟨as,t _ _ h1,h2⟩
 |_=>exact h.elim
def LW(ks:List Str)(H:Hp)(y x:V):Prop:=match x with
 |.str s=>(s=""->∃z∈ks,y=.str z)/\(s≠""->y=.str s)
 |.int i=>y=.int i
 |.ref q=>∃(as bs:List Str) (q':ar),H q=some (.tup (as.map V.str))/\y=.ref q'/\H q'=some (.tup (bs.map V.str))/\bs.length=as.length/\∀b∈bs,b∈ks
 |_=>False
def LW.mono{ks:List Str}{H H':Hp}{x y:V}(h:LW ks H y x)(t:Tp H H'):LW ks H' y x:=by
 cases x with
 |str s=>exact h
 |int i=>exact h
 |ref q=>obtain⟨as,bs,q',h1,h2,h3,h4⟩:=h;exact⟨as,bs,q',t _ _ h1,h2,t _ _ h3,h4⟩
 |_=>exact h.elim
def Jq{K:Fg}{σ:St}{st kl a:ar}{i k:Nat}{refs:List V}{ks:List Str}{H:Hp}{Q:VK}(h0:σ[0]?=some (some (.ref st)))(h2:σ[2]?=some (some (.ref kl)))(h4:σ[4]?=some (some (.int (i:Nat))))
  (hkl:H kl=some (.lst refs)) (hr:refs[i]?=some (.ref a)) (ha:H a=some (.lst (ks.map V.str))) (ne:ks≠[]) (len:ks.length<=100) (S:j9 K H st k) (hk:k<=900000) (na:a≠st)
  (q:∀(y:Str) (H':Hp),y∈ks->j9 K H' st (k+1)->gc st H H'->Q (.str y) H') :
  bq (cV K) (bq (cV K) (au 2) (au 4)) (bE (dm K) [] E0 (ai (au 0) (ai (fS (gA K) (ai (bq (cV K) (au 2) (au 4)) aJ)) aJ))) σ H Q:=by
 have hl:0<ks.length:=dF.mpr ne;have hr':refs[((i:Nat):Int).toNat]?=some (.ref a):=by simpa using hr
 refine⟨_,h2,_,h4,sf (cN.of hkl) (by lia) hr' ⟨_,h0,_,h2,_,h4,sf (cN.of hkl) (by lia) hr' ⟨_,_,rfl,.inl ⟨_,cN.of ha,rfl⟩,st,_,k,rfl,S,by lia,by rw[af];lia,by rw[af];lia,λd H1 d0 d1 S1 B1=>?_⟩⟩⟩;rw[af] at d1;have dl:d.toNat<ks.length:=by lia
 exact sf (cN.of (B1 a _ na ha)) d0 (Ap (ao dl)) (q _ H1 (dZ dl) S1 B1)
def MO{K:Fg}{st rl kl fd p sm a:ar}{i k:Nat}{refs vs:List V}{ks:List Str}{x:V}{H:Hp}{D:oE}(hkl:H kl=some (.lst refs))(hr:refs[i]?=some (.ref a))(ha:H a=some (.lst (ks.map V.str)))(len:ks.length<=100)(S:j9 K H st k)(hk:k<=800000)(na:a≠st)(nk:kl≠st)
  (hsm:H sm=some (.lst vs)) (vl:vs.length<=100) (ns:sm≠st) (ok:Kd ks H x)
  (q:∀(y:V) (k':Nat) (H':Hp),LW ks H' y x->H' sm=some (.lst (vs++[y]))->j9 K H' st k'->k'<=k+DO x->A2 st sm H H'->D.nx [some (.ref st),some (.ref rl),some (.ref kl),some (.ref fd),some (.int (i:Nat)),some (.ref p),some (.ref sm),some y] H') :
  Av K D [some (.ref st),some (.ref rl),some (.ref kl),some (.ref fd),some (.int (i:Nat)),some (.ref p),some (.ref sm),some x] H:=by
 have app:∀(y:V) (k':Nat) (H1:Hp),LW ks H1 y x->j9 K H1 st k'->k'<=k+DO x->gc st H H1->Au K D [some (.ref st),some (.ref rl),some (.ref kl),some (.ref fd),some (.int (i:Nat)),some (.ref p),some (.ref sm),some y] H1:=λy k' H1 f S1 l1 B1=>by
  have h1:=B1 sm _ ns hsm;refine⟨_,rfl,.inl ⟨rfl,_,cN.of h1⟩,_,rfl,sm,_,_,rfl,rfl,h1,cg (by lia),?_⟩;exact q y k' _ (f.mono ((Tp.refl H1).lst h1)) ag (S1.mono .upd_at h1 (Ne.symm ns)) l1 ((A2.of_l B1).trans .upd_r)
 cases x with
 |str s=>
  refine⟨_,rfl,.inl ⟨rfl,_,rfl,bL (λe=>?_) (λe=>?_)⟩⟩
  ·have e':s="":=by cases e;rfl
   refine Jq rfl rfl rfl hkl hr ha (ok e') len S (by lia) na λy H' hy S' B'=>?_;refine app (.str y) _ H' ⟨λ_=>⟨y,hy,rfl⟩,λz=>absurd e' z⟩ S' ?_ B';show k+1<=k+(if s="" then 1 else 0);rw[if_pos e'];exact aB _
  ·refine⟨_,rfl,_,_,_,rfl,.str_tuple _,_,rfl,ff ?_⟩;exact app (.str s) k H ⟨λz=>absurd (by rw[z]) e,λ_=>rfl⟩ S (by lia) (.refl _ _)
 |int j=>
  refine⟨_,rfl,.inl ⟨rfl,_,rfl,no (λz=>by cases z) ?_⟩⟩;refine⟨_,rfl,_,_,_,rfl,.int_tuple _,_,rfl,ff ?_⟩;exact app (.int j) k H rfl S (by lia) (.refl _ _)
 |ref t=>
  obtain⟨as,ht,l4,ne⟩:=ok;obtain⟨ys0,hst⟩:=S.lst;have nt:t≠st:=Ne.symm (pP hst ht);refine⟨_,rfl,.inr (.inr (.inl ⟨t,_,_,rfl,rfl,dA.of ht,_,rfl,ff ?_⟩))⟩;refine⟨_,rfl,_,_,_,rfl,.tup_tuple (dA.of ht),_,rfl,lu ?_⟩;refine .inr ⟨_,rfl,t,rfl,⟨_,dA.of ht⟩,λL hL=>?_⟩;have nL:L≠st:=λz=>by rw[z,hst] at hL;cases hL
  refine uS (xs:=as.map V.str) (λj σ' H'=>∃(bs:List Str) (k':Nat) (o:Option V),σ'=[some (.ref st),some (.ref rl),some (.ref kl),some (.ref fd),some (.int (i:Nat)),some (.ref p),some (.ref sm),some (.ref t),o]/\H' L=some (.lst (bs.map V.str))/\bs.length=j/\(∀b∈bs,b∈ks)/\j9 K H' st k'/\k'<=k+j/\gc st H H') ?_ ?_ ?_ ?_
  ·exact⟨[],k,none,rfl,ag,rfl,by simp,S.new hL,by lia,(gc.refl st H).new hL⟩
  ·rintro j σ' H' _ ⟨_,_,_,_,_,_,_,_,_,B⟩;exact dA.of (B t _ nt ht)
  ·rintro j x σ' H' hx ⟨bs,k',o,rfl,hb,bl,bm,S',hk',B'⟩;have jl:j<as.length:=by have:=(aj.mp hx).1;rw[af] at this;exact this
   refine iq (Jq rfl rfl rfl (B' kl _ nk hkl) hr (B' a _ na ha) ne len S' (by lia) na λy H2 hy S2 B2=>?_);have h2:=B2 L _ nL hb;refine⟨_,h2,cg (by rw[af];lia),bs++[y],k'+1,_,rfl,by rw[ag,aG];rfl,by simp[bl],λb hb'=>?_,S2.mono .upd_at h2 (Ne.symm nL),by lia,?_⟩
   ·rcases aV.mp hb' with z|z
    ·exact bm b z
    ·rw[ax.mp z];exact hy
   ·exact λc u n h=>by rw[aL (aC h hL)];exact(B'.trans B2) c u n h
  ·rintro σ' H2 ⟨bs,k',o,_,hb,bl,bm,S',hk',B'⟩;rw[af] at bl hk';refine⟨L,_,rfl,.inl ⟨cN.of hb,λl hl=>?_⟩⟩;have nl:L≠l:=aC hb hl;have h2:=B' t _ nt ht;refine app (.ref l) k' _ ⟨as,bs,l,by rw[aL (aC h2 hl)];exact h2,rfl,ag,bl,bm⟩ (S'.new hl) ?_ (B'.new hl);show k'<=k+4;lia
 |_=>exact ok.elim
def Mw(w:V)(rest:List V):kQ (w::rest) (some 1) none=rest:=by
 unfold kQ;have e1:HT.sIx (w::rest).length 0 (some 1)=1:=by
  rw[show(1:Int)=((1:Nat):Int) from rfl,HT.sIx_nat,aP];lia
 rw[e1,HT.sIx_none,List.drop_succ_cons,qL,aP];exact bA (by lia)
def Mv(w:V){rest:List V}(h:rest≠[]):¬(HT.sIx (w::rest).length 0 (some 1)=0/\HT.sIx (w::rest).length (w::rest).length none=(w::rest).length):=by
 rintro⟨h1,_⟩;rw[show(1:Int)=((1:Nat):Int) from rfl,HT.sIx_nat,aP] at h1;lia
def Sl{K:Fg}{st rl kl fd p a:ar}{i k:Nat}{refs fs rest:List V}{w:Str}{ks:List Str}{H:Hp}{D:oE}{o6 o7:Option V}(hkl:H kl=some (.lst refs))(hr:refs[i]?=some (.ref a))(ha:H a=some (.lst (ks.map V.str)))(len:ks.length<=100)(S:j9 K H st k)(hk:k<=750000)(na:a≠st)(nk:kl≠st)
  (hp:H p=some (.tup (.str w::rest))) (rne:rest≠[]) (rl4:rest.length<=4) (ok:∀x∈rest,Kd ks H x) (cs5:(rest.map DO).sum<=5) (hfd:H fd=some (.lst fs)) (fl:fs.length<=100) (nf:fd≠st)
  (q:∀(o6 o7:Option V) (p':ar) (vs:List V) (k':Nat) (H':Hp),H' fd=some (.lst (fs++[.ref p']))->H' p'=some (.tup (.str w::vs))->b3 (LW ks H') vs rest->j9 K H' st k'->k'<=k+5->A2 st fd H H'->D.nx [some (.ref st),some (.ref rl),some (.ref kl),some (.ref fd),some (.int (i:Nat)),some (.ref p),o6,o7] H') :
  uB K D [some (.ref st),some (.ref rl),some (.ref kl),some (.ref fd),some (.int (i:Nat)),some (.ref p),o6,o7] H:=by
 obtain⟨ys0,hst⟩:=S.lst;refine⟨Zc,λsm hsm=>?_⟩;have nsm:sm≠st:=λz=>by rw[z,hst] at hsm;cases hsm
 have s1:aK H (upd H sm (.lst [])):=(aK.refl H).new hsm;have g1:(upd H sm (.lst [])) sm=some (.lst []):=ag;show Aw K D [some (.ref st),some (.ref rl),some (.ref kl),some (.ref fd),some (.int (i:Nat)),some (.ref p),some (.ref sm),o7] (upd H sm (.lst []));generalize upd H sm (.lst [])=H1 at s1 g1 ⊢;refine .inr ⟨_,rfl,_,rfl,.inr ⟨p,_,rfl,dA.of (s1 _ _ hp),Mv _ rne,λtp htp=>?_⟩⟩;rw[Mw];have s2:aK H (upd H1 tp (.tup rest)):=s1.new htp;have g2:(upd H1 tp (.tup rest)) sm=some (.lst []):=by rw[aL (aC g1 htp)];exact g1
 have t2:(upd H1 tp (.tup rest)) tp=some (.tup rest):=ag;generalize upd H1 tp (.tup rest)=H2 at s2 g2 t2 ⊢;have nts:tp≠st:=Ne.symm (pP (s2 _ _ hst) t2);have ntm:tp≠sm:=Ne.symm (pP g2 t2);have nfm:fd≠sm:=aC hfd hsm;have nkm:kl≠sm:=aC hkl hsm;have nam:a≠sm:=aC ha hsm;have nps:p≠st:=Ne.symm (pP hst hp);have npm:p≠sm:=aC hp hsm;refine⟨tp,rfl,⟨_,dA.of t2⟩,kJ (xs:=rest) (λj σ' H'=>∃(vs:List V) (k':Nat) (o:Option V),σ'=[some (.ref st),some (.ref rl),some (.ref kl),some (.ref fd),some (.int (i:Nat)),some (.ref p),some (.ref sm),o]/\H' sm=some (.lst vs)/\b3 (LW ks H') vs (rest.take j)/\j9 K H' st k'/\k'<=k+((rest.take j).map DO).sum/\A2 st sm H2 H') ?_ ?_ ?_ ?_⟩
 ·exact⟨[],k,o7,rfl,g2,.nil,S.same s2,by simp,.refl _ _ _⟩
 ·rintro j σ' H' _ ⟨_,_,_,_,_,_,_,_,B⟩;exact dA.of (B tp _ nts ntm t2)
 ·rintro j x σ' H' hx ⟨vs,k',o,rfl,hvs,hA,S',hk',B'⟩;have jl:j<rest.length:=(aj.mp hx).1;have et:rest.take (j+1)=rest.take j++[x]:=by rw[bN,hx];rfl
  have c5:((rest.take j).map DO).sum<=5:=by
   have e:=congrArg (λl=>(l.map DO).sum) (List.take_append_drop j rest);simp only[aG,List.sum_append] at e;lia
  have vl:vs.length<=4:=by rw[hA.len,aX];lia
  refine MO (B' kl _ nk nkm (s2 _ _ hkl)) hr (B' a _ na nam (s2 _ _ ha)) len S' (by lia) na nk hvs (by lia) nsm (((ok x (aD hx)).mono (.of_same s2)).mono (B'.tp (s2 _ _ hst) g2)) λy k2 H3 f h3 S3 l3 B3=>?_;obtain⟨ys1,hst'⟩:=S'.lst;refine⟨vs++[y],k2,_,rfl,h3,?_,S3,?_,B'.trans B3⟩
  ·rw[et];exact(hA.imp λ_ _ z=>z.mono (B3.tp hst' hvs)).snoc f
  ·rw[et,aG,List.sum_append];show k2<=k+(((rest.take j).map DO).sum+(DO x+0));lia
 ·rintro σ' H3 ⟨vs,k',o,rfl,hvs,hA,S',hk',B'⟩;rw[List.take_length] at hA hk';have h3p:=B' p _ nps npm (s2 _ _ hp);have h3f:=B' fd _ nf nfm (s2 _ _ hfd);obtain⟨ys1,hst'⟩:=S'.lst;have vl:vs.length=rest.length:=hA.len;have vne:vs≠[]:=λz=>rne (dO.mp (by rw[<-vl,z];rfl));have BH:gc st H H3:=(A2.but (s2.but) hsm B');refine⟨_,rfl,.inl ⟨rfl,_,cN.of h3f⟩,_,rfl,Zb h3p rfl ⟨Zd,λt1 ht1=>⟨_,rfl,sm,_,rfl,.inl ⟨cN.of (by rw[aL (aC hvs ht1)];exact hvs),λt4 ht4=>?_⟩⟩⟩⟩;have n14:t1≠t4:=aC ag ht4;refine .inr (.inr (.inr ⟨t1,t4,[.str w],vs,rfl,rfl,dA.of (by rw[aL n14];exact ag),dA.of ag,by simp,?_,λz=>absurd z vne,λ_ t5 ht5=>?_⟩))
  ·have:=cg (n:=100) (by decide);show 1+vs.length<=av;lia
  have s5:aK H3 (upd (upd (upd H3 t1 (.tup [.str w])) t4 (.tup vs)) t5 (.tup (.str w::vs))):=(((aK.refl H3).new ht1).new ht4).new ht5;have g5:(upd (upd (upd H3 t1 (.tup [.str w])) t4 (.tup vs)) t5 (.tup (.str w::vs))) t5=some (.tup (.str w::vs)):=ag;show f9 (.ref fd) [.ref t5] (upd (upd (upd H3 t1 (.tup [.str w])) t4 (.tup vs)) t5 (.tup (.str w::vs))) λx H1=>D.nx [some (.ref st),some (.ref rl),some (.ref kl),some (.ref fd),some (.int (i:Nat)),some (.ref p),some (.ref sm),o] H1;generalize upd (upd (upd H3 t1 (.tup [.str w])) t4 (.tup vs)) t5 (.tup (.str w::vs))=H5 at s5 g5 ⊢;have h5f:=s5 _ _ h3f;refine⟨fd,_,_,rfl,rfl,h5f,cg (by lia),?_⟩;have tp6:Tp H5 (upd H5 fd (.lst (fs++[.ref t5]))):=(Tp.refl H5).lst h5f;refine q _ _ t5 vs k' _ ag (tp6 _ _ g5) ((hA.imp λ_ _ z=>z.mono (.of_same s5)).imp λ_ _ z=>z.mono tp6) ((S'.same s5).mono .upd_at h5f (Ne.symm nf)) (by lia) ?_;exact λc u n m h=>by rw[aL m];exact s5 _ _ (BH c u n h)
def Ot{s:Str}(h:s∈mF):s≠"":=by
 intro e;subst e;exact absurd h (by decide +kernel)
def FI{as bs:List Str}(h:as.map V.str=bs.map V.str):as.length=bs.length:=by
 have:=congrArg gk h;simpa using this
def yF{ks:List Str}{H:Hp}{y:V}{s:Str}(h:LW ks H y (.str s))(n:s≠""):y=.str s:=h.2 n
def uT{ks:List Str}{H:Hp}{y:V}(h:LW ks H y (.str "")):∃z∈ks,y=.str z:=h.1 rfl
def yD{s:Str}(n:s≠""):DO (.str s)=0:=by
 show(if s="" then 1 else 0)=0;rw[if_neg n]
def V3{vs:List V}(h:vs.length=2):∃a b,vs=[a,b]:=by
 match vs,h with
 |[a,b],_=>exact⟨a,b,rfl⟩
def VQ{vs:List V}(h:vs.length=1):∃a,vs=[a]:=by
 match vs,h with
 |[a],_=>exact⟨a,rfl⟩
def Wd{vs:List V}(h:vs.length=3):∃a b c,vs=[a,b,c]:=by
 match vs,h with
 |[a,b,c],_=>exact⟨a,b,c,rfl⟩
def We{vs:List V}(h:vs.length=4):∃a b c d,vs=[a,b,c,d]:=by
 match vs,h with
 |[a,b,c,d],_=>exact⟨a,b,c,d,rfl⟩
def Py{H:Hp}{p:ar}{r:bU}{ys ks:List Str}{cs:List Nat}{n:Nat}(hra:e7 H (.ref p) r)(ro:zi ys cs n r)(yne:∀y∈ys,y≠"")(cs4:∀c∈cs,c<=4)(hks:ks≠[]\/zE r=true) :
  ∃rest,H p=some (.tup (.str (yB r)::rest))/\rest≠[]/\rest.length<=4/\(∀x∈rest,Kd ks H x)/\(rest.map DO).sum<=5/\∀(H':Hp) (p':ar) (vs:List V),b3 (LW ks H') vs rest->H' p'=some (.tup (.str (yB r)::vs))->Tp H H'->∃r',e7 H' (.ref p') r'/\lb ks r r':=by
 cases r with
 |num x z=>
  obtain⟨p',e,h⟩:=hra;cases e;have xn:=yne x ro.1;refine⟨_,h,by simp,by simp,λv hv=>?_,?_,λH' p' vs hA hp' t=>?_⟩
  ·rcases aE.mp hv with rfl|hv
   ·exact λz=>absurd z xn
   ·rw[ax.mp hv];exact trivial
  ·show DO (.str x)+(0+0)<=5;rw[yD xn];decide
  ·obtain⟨a,b,rfl⟩:=V3 hA.len;have e1:=yF (hA.at_ 0 _ _ rfl rfl) xn;have e2:b=.int z:=hA.at_ 1 _ _ rfl rfl;subst e1 e2;exact⟨.num x z,⟨p',rfl,hp'⟩,rfl⟩
 |op x s a b=>
  obtain⟨p',e,h⟩:=hra;cases e;obtain⟨xy,ss,rfl,rfl⟩:=ro;have xn:=yne x xy;have sn:=Ot ss;have kn:ks≠[]:=hks.resolve_right (by intro z;cases z);refine⟨_,h,by simp,by simp,λv hv=>?_,?_,λH' p' vs hA hp' t=>?_⟩
  ·rcases aE.mp hv with rfl|hv
   ·exact λz=>absurd z xn
   ·rcases aE.mp hv with rfl|hv
    ·exact λz=>absurd z sn
    ·rcases aE.mp hv with rfl|hv
     ·exact λ_=>kn
     ·rw[ax.mp hv];exact λ_=>kn
  ·show DO (.str x)+(DO (.str s)+(DO (.str "")+(DO (.str "")+0)))<=5;rw[yD xn,yD sn];decide +kernel
  ·obtain⟨v1,v2,v3,v4,rfl⟩:=We hA.len;have e1:=yF (hA.at_ 0 _ _ rfl rfl) xn;have e2:=yF (hA.at_ 1 _ _ rfl rfl) sn;obtain⟨z3,m3,e3⟩:=uT (hA.at_ 2 _ _ rfl rfl);obtain⟨z4,m4,e4⟩:=uT (hA.at_ 3 _ _ rfl rfl);subst e1 e2 e3 e4;exact⟨.op x s z3 z4,⟨p',rfl,hp'⟩,z3,z4,rfl,m3,m4⟩
 |call x k as=>
  obtain⟨p',q,e,h,hq⟩:=hra;cases e;obtain⟨xy,c,hc,rfl⟩:=ro;have xn:=yne x xy;have kn:ks≠[]:=hks.resolve_right (by intro z;cases z);have c4:=cs4 c (aD hc);refine⟨_,h,by simp,by simp,λv hv=>?_,?_,λH' p' vs hA hp' t=>?_⟩
  ·rcases aE.mp hv with rfl|hv
   ·exact λz=>absurd z xn
   ·rcases aE.mp hv with rfl|hv
    ·exact trivial
    ·rw[ax.mp hv];exact⟨_,hq,by rw[cB];exact c4,kn⟩
  ·show DO (.str x)+(0+(4+0))<=5;rw[yD xn];decide
  ·obtain⟨v1,v2,v3,rfl⟩:=Wd hA.len;have e1:=yF (hA.at_ 0 _ _ rfl rfl) xn;have e2:v2=.int (k:Nat):=hA.at_ 1 _ _ rfl rfl;obtain⟨as',bs,q',hq',e3,h3,hl,hm⟩:=(show LW ks H' v3 (.ref q) from hA.at_ 2 _ _ rfl rfl);subst e1 e2 e3;have:=t _ _ hq;rw[hq'] at this;have e:=FI (HO.tup.inj (Option.some.inj this));exact⟨.call x k bs,⟨p',q',rfl,hp',h3⟩,bs,rfl,hl.trans e,hm⟩
 |say a=>
  obtain⟨p',e,h⟩:=hra;cases e;have ro:a="":=ro;subst ro;have kn:ks≠[]:=hks.resolve_right (by intro z;cases z);refine⟨_,h,by simp,by simp,λv hv=>?_,?_,λH' p' vs hA hp' t=>?_⟩
  ·rw[ax.mp hv];exact λ_=>kn
  ·show DO (.str "")+0<=5
   decide +kernel
  ·obtain⟨v1,rfl⟩:=VQ hA.len;obtain⟨z,m,e⟩:=uT (hA.at_ 0 _ _ rfl rfl);subst e;exact⟨.say z,⟨p',rfl,hp'⟩,z,rfl,m⟩
 |jump to=>
  obtain⟨p',e,h⟩:=hra;cases e;refine⟨_,h,by simp,by simp,λv hv=>?_,?_,λH' p' vs hA hp' t=>?_⟩
  ·rw[ax.mp hv];exact trivial
  ·show 0+0<=5
   decide
  ·obtain⟨v1,rfl⟩:=VQ hA.len;have e:v1=.int (to:Nat):=hA.at_ 0 _ _ rfl rfl;subst e;exact⟨.jump to,⟨p',rfl,hp'⟩,rfl⟩
 |test a to=>
  obtain⟨p',e,h⟩:=hra;cases e;obtain⟨ro,_⟩:a=""/\_:=ro;subst ro;have kn:ks≠[]:=hks.resolve_right (by intro z;cases z);refine⟨_,h,by simp,by simp,λv hv=>?_,?_,λH' p' vs hA hp' t=>?_⟩
  ·rcases aE.mp hv with rfl|hv
   ·exact λ_=>kn
   ·rw[ax.mp hv];exact trivial
  ·show DO (.str "")+(0+0)<=5
   decide +kernel
  ·obtain⟨v1,v2,rfl⟩:=V3 hA.len;obtain⟨z,m,e⟩:=uT (hA.at_ 0 _ _ rfl rfl);have e2:v2=.int (to:Nat):=hA.at_ 1 _ _ rfl rfl;subst e e2;exact⟨.test z to,⟨p',rfl,hp'⟩,z,rfl,m⟩
 |give a=>
  obtain⟨p',e,h⟩:=hra;cases e;have ro:a="":=ro;subst ro;have kn:ks≠[]:=hks.resolve_right (by intro z;cases z);refine⟨_,h,by simp,by simp,λv hv=>?_,?_,λH' p' vs hA hp' t=>?_⟩
  ·rw[ax.mp hv];exact λ_=>kn
  ·show DO (.str "")+0<=5
   decide +kernel
  ·obtain⟨v1,rfl⟩:=VQ hA.len;obtain⟨z,m,e⟩:=uT (hA.at_ 0 _ _ rfl rfl);subst e;exact⟨.give z,⟨p',rfl,hp'⟩,z,rfl,m⟩
def N9{K:Fg}{vs:List V}{H:Hp}{Q:VK}{E:XK}(h:wK K vs H Q E):Gq K {nx:=λ_ H'=>Q .non H',rt:=Q} (cQ y9 vs) H:=by
 obtain⟨st,rl,kl,k,rvs,refs,rs,kss,ys,cs,rfl,S,hk,hrl,hA,hOk,yne,cs4,hkl,hT,klen,k100,kne,rst,nrl,nkl,q⟩:=h;obtain⟨ys0,hst⟩:=S.lst;refine⟨Zc,λfd hfd=>?_⟩;have nf:fd≠st:=λz=>by rw[z,hst] at hfd;cases hfd
 have s1:aK H (upd H fd (.lst [])):=(aK.refl H).new hfd;have g1:(upd H fd (.lst [])) fd=some (.lst []):=ag;show Ax K _ [some (.ref st),some (.ref rl),some (.ref kl),some (.ref fd),none,none,none,none] (upd H fd (.lst []));generalize upd H fd (.lst [])=H1 at s1 g1 ⊢;refine⟨_,rfl,rl,rfl,⟨_,cN.of (s1 _ _ hrl)⟩,uU (xs:=rvs) (λi σ' H'=>∃(fs:List V) (rs':List bU) (k':Nat) (o4 o5 o6 o7:Option V),σ'=[some (.ref st),some (.ref rl),some (.ref kl),some (.ref fd),o4,o5,o6,o7]/\H' fd=some (.lst fs)/\b3 (e7 H') fs rs'/\rs'.length=i/\
  (∀(j:Nat) ks r r',kss[j]?=some ks->rs[j]?=some r->rs'[j]?=some r'->lb ks r r')/\j9 K H' st k'/\k'<=k+5*i/\gc st H H') ?_ ?_ ?_ ?_⟩
 ·exact⟨[],[],k,none,none,none,none,rfl,g1,.nil,rfl,λj ks r r' _ _ z=>by simp at z,S.same s1,by lia,s1.but⟩
 ·rintro i σ' H' _ ⟨_,_,_,_,_,_,_,_,_,_,_,_,_,_,B⟩;exact cN.of (B rl _ nrl hrl)
 ·rintro i x σ' H' tp hx htp ⟨fs,rs',k',o4,o5,o6,o7,rfl,hfs,hR,rlen,hF,S',hk',B'⟩;obtain⟨r,hr,hra⟩:=hA.of_v hx;obtain⟨p,xs,rfl,_⟩:=hra.ref;have il:i<rs.length:=(aj.mp hr).1;have few:=hOk.few;obtain⟨v,ks,e1,e2,a,rfl,ha⟩:=hT.get (i:=i) (by rw[klen];exact il);have na:a≠st:=λz=>rst (.ref a) (aD e1) (by rw[z]);have B2:gc st H (upd H' tp (.tup [.int (i:Nat),.ref p])):=B'.new htp;have s2:aK H' (upd H' tp (.tup [.int (i:Nat),.ref p])):=(aK.refl H').new htp;have g2:(upd H' tp (.tup [.int (i:Nat),.ref p])) tp=some (.tup [.int (i:Nat),.ref p]):=ag;generalize upd H' tp (.tup [.int (i:Nat),.ref p])=H2 at B2 s2 g2 ⊢;refine⟨tp,_,rfl,dA.of g2,rfl,_,_,rfl,_,_,rfl,rfl,?_⟩;show uB K _ [some (.ref st),some (.ref rl),some (.ref kl),some (.ref fd),some (.int (i:Nat)),some (.ref p),o6,o7] H2;have T2:Tp H H2:=.of_but B2 hst;obtain⟨rest,h1,h2,h3,h4,h5,h6⟩:=Py (ks:=ks) (hra.mono T2) (hOk.rough r (aD hr)) yne cs4 (kne i ks r e2 hr);have f2:=s2 _ _ hfs;have S2:=S'.same s2;obtain⟨ys2,hst2⟩:=S2.lst;refine Sl (B2 kl _ nkl hkl) e1 (B2 a _ na ha) (k100 i ks e2) S2 (by lia) na nkl h1 h2 h3 h4 h5 f2 (by rw[hR.len,rlen];lia) nf λp6 p7 p' vs k3 H3 f3 g3 hA3 S3 l3 B3=>?_;have T3:Tp H2 H3:=B3.tp hst2 f2;obtain⟨r',hr',hf'⟩:=h6 H3 p' vs hA3 g3 T3;refine⟨fs++[.ref p'],rs'++[r'],k3,_,_,_,_,rfl,f3,((hR.imp λ_ _ z=>(z.mono (.of_same s2)).mono T3)).snoc hr',by simp[rlen],λj ks' r1 r2 a1 a2 a3=>?_,S3,by lia,?_⟩
  ·by_cases c:j<rs'.length
   ·rw[cF c] at a3;exact hF j ks' r1 r2 a1 a2 a3
   ·have c2:j=i:=by
     have:=(aj.mp a3).1;rw[aN,cD] at this;lia
    subst c2;rw[bV (by lia),rlen,jM] at a3;cases a3;rw[e2] at a1;cases a1;rw[hr] at a2;cases a2;exact hf'
  ·exact λc u n h=>by
    have hc:=B2 c u n h;exact B3 c u n (aC h hfd) hc
 ·rintro σ' H' ⟨fs,rs',k',o4,o5,o6,o7,rfl,hfs,hR,rlen,hF,S',hk',B'⟩;rw[hA.len] at rlen hk';refine⟨_,rfl,fd,_,rfl,.inl ⟨cN.of hfs,λl hl=>?_⟩⟩;exact q l fs rs' k' _ ag (hR.imp λ_ _ z=>z.mono ((Tp.refl H').new hl)) rlen hF (S'.new hl) hk' (B'.new hl)
def JX{K:Fg}{H:Hp}{st:ar}{k:Nat}{v:V}{ks:List Str}(S:j9 K H st k)(h:DB H v ks):v≠.ref st:=by
 rintro rfl;obtain⟨a,e,h⟩:=h;cases e;obtain⟨scr,ns,c,hs,_⟩:=S;rw[h] at hs;cases ks with
 |nil=>cases hs
 |cons y r=>cases hs
def Hu{ks:List Str}{r r':bU}(h:lb ks r r')(n:Nat):eL n r'=eL n r:=by
 cases r with
 |num x z=>have h:r'=.num x z:=h;subst h;rfl
 |op x s a b=>obtain⟨_,_,rfl,_⟩:=h;rfl
 |call x k as=>obtain⟨_,rfl,_⟩:=h;rfl
 |say a=>obtain⟨_,rfl,_⟩:=h;rfl
 |jump t=>have h:r'=.jump t:=h;subst h;rfl
 |test a t=>obtain⟨_,rfl,_⟩:=h;rfl
 |give a=>obtain⟨_,rfl,_⟩:=h;rfl
def Ku{ks:List Str}{r r':bU}(h:lb ks r r'):mE r'=mE r:=by
 cases r with
 |num x z=>have h:r'=.num x z:=h;subst h;rfl
 |op x s a b=>obtain⟨_,_,rfl,_⟩:=h;rfl
 |call x k as=>obtain⟨_,rfl,_⟩:=h;rfl
 |say a=>obtain⟨_,rfl,_⟩:=h;rfl
 |jump t=>have h:r'=.jump t:=h;subst h;rfl
 |test a t=>obtain⟨_,rfl,_⟩:=h;rfl
 |give a=>obtain⟨_,rfl,_⟩:=h;rfl
def MN{ks:List Str}{r r':bU}(h:lb ks r r'):jS r'=jS r:=by
 cases r with
 |num x z=>have h:r'=.num x z:=h;subst h;rfl
 |op x s a b=>obtain⟨_,_,rfl,_⟩:=h;rfl
 |call x k as=>obtain⟨_,rfl,_⟩:=h;rfl
 |say a=>obtain⟨_,rfl,_⟩:=h;rfl
 |jump t=>have h:r'=.jump t:=h;subst h;rfl
 |test a t=>obtain⟨_,rfl,_⟩:=h;rfl
 |give a=>obtain⟨_,rfl,_⟩:=h;rfl
def Kt{ks:List Str}{r r':bU}(h:lb ks r r'):ig r'=ig r:=by
 cases r with
 |num x z=>have h:r'=.num x z:=h;subst h;rfl
 |op x s a b=>obtain⟨_,_,rfl,_⟩:=h;rfl
 |call x k as=>obtain⟨_,rfl,_⟩:=h;rfl
 |say a=>obtain⟨_,rfl,_⟩:=h;rfl
 |jump t=>have h:r'=.jump t:=h;subst h;rfl
 |test a t=>obtain⟨_,rfl,_⟩:=h;rfl
 |give a=>obtain⟨_,rfl,_⟩:=h;rfl
def Hv{ks:List Str}{r r':bU}(h:lb ks r r'):∀y∈gq r',y∈ks:=by
 cases r with
 |num x z=>have h:r'=.num x z:=h;subst h;intro y hy;cases hy
 |op x s a b=>
  obtain⟨c,d,rfl,h1,h2⟩:=h;intro y hy;rcases aE.mp hy with rfl|hy
  ·exact h1
  ·rw[ax.mp hy];exact h2
 |call x k as=>obtain⟨_,rfl,_,h⟩:=h;exact h
 |say a=>obtain⟨_,rfl,h⟩:=h;intro y hy;rw[ax.mp hy];exact h
 |jump t=>have h:r'=.jump t:=h;subst h;intro y hy;cases hy
 |test a t=>obtain⟨_,rfl,h⟩:=h;intro y hy;rw[ax.mp hy];exact h
 |give a=>obtain⟨_,rfl,h⟩:=h;intro y hy;rw[ax.mp hy];exact h
def Pz{ys ks:List Str}{cs:List Nat}{n:Nat}{r r':bU}(ro:zi ys cs n r)(hk:∀y∈ks,y∈ys)(h:lb ks r r'):Mi ys cs n r':=by
 cases r with
 |num x z=>have h:r'=.num x z:=h;subst h;exact ro
 |op x s a b=>obtain⟨c,d,rfl,h1,h2⟩:=h;exact⟨ro.1,ro.2.1,hk _ h1,hk _ h2⟩
 |call x k as=>
  obtain⟨bs,rfl,hl,h⟩:=h;obtain⟨r1,c,r2,r3⟩:=ro;refine⟨r1,?_,λa ha=>hk _ (h a ha)⟩;rw[hl,r3,cB];exact r2
 |say a=>obtain⟨_,rfl,h⟩:=h;exact hk _ h
 |jump t=>have h:r'=.jump t:=h;subst h;exact ro
 |test a t=>obtain⟨_,rfl,h⟩:=h;exact⟨hk _ h,ro.2⟩
 |give a=>obtain⟨_,rfl,h⟩:=h;exact hk _ h
structure sL(rs rs':List bU):Prop where
 len:rs'.length=rs.length
 fill:∀(i:Nat) r r',rs[i]?=some r->rs'[i]?=some r'->∃ks,lb ks r r'
def sL.get{rs rs':List bU}(h:sL rs rs'){i:Nat}{r':bU}(e:rs'[i]?=some r'):∃r ks,rs[i]?=some r/\lb ks r r':=by
 have hi:i<rs.length:=by rw[<-h.len];exact(aj.mp e).1
 obtain⟨ks,f⟩:=h.fill i _ _ (ao hi) e;exact⟨_,ks,ao hi,f⟩
def sL.stp{rs rs':List bU}(h:sL rs rs')(n:Nat):stp rs' n=stp rs n:=by
 unfold Bg.stp;cases e:rs'[n]? with
 |none=>
  have:rs[n]?=none:=by rw[List.getElem?_eq_none_iff] at e ⊢;rw[<-h.len];exact e
  rw[this]
 |some r'=>
  obtain⟨r,ks,e1,f⟩:=h.get e;rw[e1];cases r with
  |num x z=>have f:r'=.num x z:=f;subst f;rfl
  |op x s a b=>obtain⟨_,_,rfl,_⟩:=f;rfl
  |call x k as=>obtain⟨_,rfl,_⟩:=f;rfl
  |say a=>obtain⟨_,rfl,_⟩:=f;rfl
  |jump t=>have f:r'=.jump t:=f;subst f;rfl
  |test a t=>obtain⟨_,rfl,_⟩:=f;rfl
  |give a=>obtain⟨_,rfl,_⟩:=f;rfl
def sL.runJ{rs rs':List bU}(h:sL rs rs'):∀(k n:Nat),runJ rs' k n=runJ rs k n
 |0,_=>rfl
 |k+1,n=>by
  show Bg.runJ rs' k (Bg.stp rs' n)=Bg.runJ rs k (Bg.stp rs n);rw[h.stp];exact sL.runJ h k _
def sL.ring{rs rs':List bU}(h:sL rs rs')(q:vR rs):vR rs':=by
 intro n hn r' e;rw[h.len] at hn;rw[h.len,h.runJ] at e;obtain⟨r,ks,e1,f⟩:=h.get e;rw[Kt f];exact q n hn r e1
def TQ{K:Fg}{vs:List V}{H:Hp}{Q:VK}{E:XK}(h:En K vs H Q E):OH K {nx:=λ_ H'=>Q .non H',rt:=Q} (cQ G4 vs) H:=by
 obtain⟨st,nm,pr,cn,wd,m,k,ys,ps,cs,rfl,S,hk,hnm,ysne,ysl,yne,hpr,psl,pnd,pin,hcn,csne,csl,cs4,m1,m50,nnm,npr,ncn,q⟩:=h;refine⟨_,rfl,_,_,rfl,.inl ⟨_,cN.of hpr,rfl⟩,.inl ⟨rfl,.inr ⟨_,rfl,.inl ⟨_,_,rfl,rfl,_,rfl,_,rfl,st,_,k,rfl,S,by lia,by lia,by lia,λd H1 d0 d1 S1 B1=>.inl ⟨_,_,rfl,rfl,_,_,rfl,?_⟩⟩⟩⟩⟩;rw[af];obtain⟨n,hn,n1,n51,nm1,n2⟩:∃n:Nat,(if 1+d>1+(if decide (V.int ((ps.length:Nat):Int)=V.int 0)=true then 1 else 0) then 1+d else 1+(if decide (V.int ((ps.length:Nat):Int)=V.int 0)=true then 1 else 0))=(n:Int)/\1<=n/\n<=52/\n<=m+1/\(ps=[]->2<=n):=by
  by_cases c:ps=[]
  ·have e:decide (V.int ((ps.length:Nat):Int)=V.int 0)=true:=by rw[c];rfl
   rw[e,if_pos rfl];by_cases c2:1+d>1+1
   ·rw[if_pos c2];exact⟨(1+d).toNat,by lia,by lia,by lia,by lia,λ_=>by lia⟩
   ·rw[if_neg c2];exact⟨2,rfl,by lia,by lia,by lia,λ_=>by lia⟩
  ·have e:decide (V.int ((ps.length:Nat):Int)=V.int 0)=false:=decide_eq_false λz=>c (dO.mp (by injection z with z;lia));rw[e,if_neg Bool.false_ne_true];by_cases c2:1+d>1+0
   ·rw[if_pos c2];exact⟨(1+d).toNat,by lia,by lia,by lia,by lia,λz=>absurd z c⟩
   ·rw[if_neg c2];exact⟨1,rfl,by lia,by lia,by lia,λz=>absurd z c⟩
 rw[hn];show GK K _ [some (.ref st),some (.str wd),some (.ref nm),some (.ref pr),some (.ref cn),some (.int (m:Nat)),some (.int (n:Nat)),none,none] H1;refine⟨_,rfl,_,rfl,by lia,by lia,λL hL=>?_⟩;obtain⟨ys1,hs1⟩:=S1.lst;have nL:L≠st:=λz=>by rw[z,hs1] at hL;cases hL
 have HL:H L=none:=B1.free nL hL;refine zp (λi σ' H'=>∃(rvs:List V) (rs:List bU) (k':Nat) (o:Option V),σ'=[some (.ref st),some (.str wd),some (.ref nm),some (.ref pr),some (.ref cn),some (.int (m:Nat)),some (.int (n:Nat)),none,none,o]/\
  H' L=some (.lst rvs)/\b3 (e7 H') rvs rs/\rs.length=i/\(∀r∈rs,zi ys cs n r)/\j9 K H' st k'/\k'<=k+1+8*i/\gc st H H') ?_ ?_ ?_
 ·exact⟨[],[],k+1,none,rfl,ag,.nil,rfl,by simp,S1.new hL,by lia,B1.new hL⟩
 ·rintro i σ' H' hi ⟨rvs,rs,k',o,rfl,hrl,hA,rlen,ro,S',hk',B'⟩;have hi:i<n:=by simpa using hi
  refine iq ⟨_,rfl,_,rfl,_,rfl,_,rfl,st,nm,cn,n,k',ys,cs,rfl,S',by lia,B' nm _ nnm hnm,ysne,ysl,n1,by lia,B' cn _ ncn hcn,csne,csl,cs4,nnm,ncn,λv r k2 H2 hv hr S2 l2 B2=>?_⟩;have h2:=B2 L _ nL hrl;have t2:Tp H' H2:=by obtain⟨_,e⟩:=S'.lst;exact .of_but B2 e
  have t3:Tp H2 (upd H2 L (.lst (rvs++[v]))):=(Tp.refl H2).lst h2;refine⟨_,h2,cg (by rw[hA.len];lia),rvs++[v],rs++[r],k2,_,rfl,ag,(hA.imp λ_ _ z=>(z.mono t2).mono t3).snoc (hv.mono t3),by simp[rlen],λr' hr'=>?_,S2.mono .upd_at h2 (Ne.symm nL),by lia,?_⟩
  ·rcases aV.mp hr' with z|z
   ·exact ro r' z
   ·rw[ax.mp z];exact hr
  ·exact gc.past (B'.trans B2) HL .upd_at
 ·rintro σ' H2 ⟨rvs,rs,k2,o,_,hrl,hA,rlen,ro,S2,hk2,B2⟩;have rlen:rs.length=n:=by simpa using rlen
  have hk2:k2<=k+1+8*n:=by simpa using hk2
  have nnL:nm≠L:=aC hnm HL;have npL:pr≠L:=aC hpr HL;have Ok:zj ys cs rs:=⟨λz=>by rw[z] at rlen;simp at rlen;lia,by lia,by rw[rlen];exact ro⟩;show GJ K _ [some (.ref st),some (.str wd),some (.ref nm),some (.ref pr),some (.ref cn),some (.int (m:Nat)),some (.int (n:Nat)),some (.ref L),none] H2;have hpr2:=B2 pr _ npr hpr;have ebare:decide (V.int (((ps.map V.str).length:Nat):Int)=V.int 0)=true->ps=[]:=λz=>by
   have z':=of_decide_eq_true z;rw[af] at z';injection z' with z';exact dO.mp (by lia)
  have ebare':ps=[]->decide (V.int (((ps.map V.str).length:Nat):Int)=V.int 0)=true:=λz=>by rw[z];rfl
  refine⟨_,rfl,_,rfl,_,rfl,_,_,rfl,.inl ⟨_,cN.of hpr2,rfl⟩,.inl ⟨rfl,L,nm,_,rvs,rs,ys,zi ys cs n,rfl,hrl,hA,Ok.pos,Ok.few,ro,rfl,rfl,λt ht=>by rw[rlen];exact ht,B2 nm _ nnm hnm,ysne,λy hy _=>⟨hy,by decide,by decide⟩,nnL,λz=>by rw[rlen];exact n2 (ebare z),λrvs' rs' H3 h3 hA3 SG hR3 hE3 hN3 hJ3 B3=>?_⟩⟩;have n3:rs'.length=n:=SG.trans rlen;have Ok3:zj ys cs rs':=⟨λz=>by rw[z] at n3;simp at n3;lia,by lia,by rw[n3];exact hR3⟩;have S3:j9 K H3 st k2:=S2.mono B3 hrl (Ne.symm nL);have BH3:gc st H H3:=gc.past B2 HL B3;show GI K _ [some (.ref st),some (.str wd),some (.ref nm),some (.ref pr),some (.ref cn),some (.int (m:Nat)),some (.int (n:Nat)),some (.ref L),none] H3;refine⟨_,rfl,_,rfl,_,rfl,L,nm,pr,rvs',rs',ys,ps,cs,rfl,h3,hA3,Ok3,hE3,BH3 nm _ nnm hnm,ysl,BH3 pr _ npr hpr,psl,pin,λz=>hN3 (ebare' z),λkl refs kss H4 hkl h4 hT lk hK hKn s4=>?_⟩;have S4:=S3.same s4;have BH4:gc st H H4:=BH3.trans s4.but;have nkl:kl≠st:=λz=>by obtain⟨_,e⟩:=S3.lst;rw[z,e] at hkl;cases hkl
  show GH K _ [some (.ref st),some (.str wd),some (.ref nm),some (.ref pr),some (.ref cn),some (.int (m:Nat)),some (.int (n:Nat)),some (.ref L),some (.ref kl)] H4;refine⟨_,rfl,_,rfl,pr,_,rfl,.inl ⟨cN.of (BH4 pr _ npr hpr),λt ht=>?_⟩⟩;have s5:aK H4 (upd H4 t (.tup (ps.map V.str))):=(aK.refl H4).new ht;have g5:(upd H4 t (.tup (ps.map V.str))) t=some (.tup (ps.map V.str)):=ag;generalize upd H4 t (.tup (ps.map V.str))=H5 at s5 g5 ⊢;have S5:=S4.same s5;have hT5:b3 (DB H5) refs kss:=hT.imp λ_ _ ⟨a,e,h⟩=>⟨a,e,s5 _ _ h⟩;refine⟨_,rfl,_,rfl,_,rfl,st,L,kl,k2,rvs',refs,rs',kss,ys,cs,rfl,S5,by lia,s5 _ _ (s4 _ _ h3),(hA3.imp λ_ _ z=>(z.mono (.of_same s4)).mono (.of_same s5)),Ok3,yne,cs4,s5 _ _ h4,hT5,lk,λi ks e=>(hK i ks e).1,λi ks r e1 e2=>?_,λa ha=>?_,nL,nkl,λp rvs6 rs6 k6 H6 h6 hA6 len6 hF S6 l6 B6=>?_⟩
  ·rcases(hK i ks e1).2.2 with z|⟨z1,z2⟩
   ·exact .inl z
   ·subst z1;have:=hN3 (ebare' z2);rw[jI,e2] at this;exact .inr (Option.some.inj this)
  ·obtain⟨i,hi,e⟩:=b7.mp ha;obtain⟨ks,_,z⟩:=hT5.of_v (i:=i) (v:=a) (by rw[ao hi,e]);exact JX S5 z
  refine⟨Zf,λf hf=>?_⟩;obtain⟨_,e5⟩:=S5.lst;have t6:Tp H5 H6:=.of_but B6 e5;have t7:Tp H6 (upd H6 f (.tup [.str wd,.ref t,.ref p])):=(Tp.refl H6).new hf;have ksAt:∀(i:Nat) r,rs'[i]?=some r->∃ks,kss[i]?=some ks:=λi r e=>⟨_,ao (by rw[lk];exact(aj.mp e).1)⟩;have al:sL rs' rs6:=⟨len6,λi r r' e1 e2=>by
   obtain⟨ks,ek⟩:=ksAt i r e1;exact⟨ks,hF i ks r r' ek e1 e2⟩⟩
  have both:∀(i:Nat) r',rs6[i]?=some r'->∃r ks,rs'[i]?=some r/\kss[i]?=some ks/\lb ks r r':=λi r' e=>by
   obtain⟨r,_,e1,_⟩:=al.get e;obtain⟨ks,ek⟩:=ksAt i r e1;exact⟨r,ks,e1,ek,hF i ks r r' ek e1 e⟩
  have ok:qT ys cs ⟨wd,ps,rs6⟩:=by
   refine⟨pnd,pin,λz=>?_,?_,λr' hr'=>?_,?_,al.ring hJ3,kss,?_,⟨hKn.zero,λi m r' ks km e hm ek em y hy=>?_⟩,λi r' ks e ek=>?_⟩
   ·have z':rs6=[]:=z;rw[z',n3] at len6;simp at len6;lia
   ·show rs6.length<=60;lia
   ·show Mi ys cs rs6.length r';obtain⟨i,hi,e⟩:=b7.mp hr';obtain⟨r,ks,e1,e2,f⟩:=both i r' (by rw[<-e];exact ao hi);rw[len6,n3];exact Pz (hR3 r (aD e1)) (hK i ks e2).2.1 f
   ·show rs6.getLast?.map jS=some true;have hl:rs6.length-1<rs6.length:=by lia
    obtain⟨r,ks,e1,e2,f⟩:=both (rs6.length-1) _ (ao hl);rw[cG,ao hl,cq,MN f];rw[cG,<-len6,e1,cq] at hE3;exact hE3
   ·show kss.length=rs6.length;rw[lk,len6]
   ·obtain⟨r,ks',e1,e2,f⟩:=both i r' e;rw[Hu f] at hm;rw[Ku f];exact hKn.on i m r ks km e1 hm ek em y hy
   ·obtain⟨r,ks',e1,e2,f⟩:=both i r' e;rw[ek] at e2;cases e2;exact Hv f
  refine q _ ⟨wd,ps,rs6⟩ k6 _ ⟨f,t,p,rvs6,rfl,ag,t7 _ _ (t6 _ _ g5),t7 _ _ h6,hA6.imp λ_ _ z=>z.mono t7⟩ rfl rfl ok (by show rs6.length<=m+1;lia) (S6.new hf) (by lia) ?_;exact((BH4.trans s5.but).trans B6).new hf
inductive Jd(rs:List bU)(un:Option Str):Nat->Prop where
 |zero:Jd rs un 0
 |step {n m:Nat} {r:bU}:Jd rs un n->rs[n]?=some r->(∀y,un=some y->mE r≠.str y)->m∈eL n r->Jd rs un m
structure oM(rs:List bU):Prop where
 pos:0<rs.length
 few:rs.length<64
 inr:∀(n m:Nat) r,rs[n]?=some r->m∈eL n r->m<rs.length
 ring:vR rs
def Jd.lt{rs:List bU}{un:Option Str}(g:oM rs){m:Nat}(h:Jd rs un m):m<rs.length:=by
 cases h with
 |zero=>exact g.pos
 |step _ e _ hm=>exact g.inr _ _ _ e hm
def FH{rs:List bU}(hg:∀r∈rs,∀t:Nat,nR r=.int (t:Nat)->t<rs.length)(hE:rs.getLast?.map jS=some true):∀(n m:Nat) r,rs[n]?=some r->m∈eL n r->m<rs.length:=by
 intro i m r hr mem;have hi:i<rs.length:=(aj.mp hr).1;have nx:jS r=false->i+1<rs.length:=λhe=>by
  by_cases c:i+1<rs.length
  ·exact c
  ·have ei:i=rs.length-1:=by lia
   rw[cG,<-ei,hr,cq,he] at hE;cases hE
 have hm:=hg r (aD hr);cases r with
 |jump to=>rw[ax.mp mem];exact hm to rfl
 |test a to=>
  rcases aE.mp mem with e|e
  ·rw[e];exact nx rfl
  ·rw[ax.mp e];exact hm to rfl
 |give a=>cases mem
 |num x z=>rw[ax.mp mem];exact nx rfl
 |op x s a b=>rw[ax.mp mem];exact nx rfl
 |call x k as=>rw[ax.mp mem];exact nx rfl
 |say a=>rw[ax.mp mem];exact nx rfl
def qT.good{ys:List Str}{cs:List Nat}{b:dr}(h:qT ys cs b):oM b.rows:=by
 have:=h.few;refine⟨dF.mpr h.pos,by lia,FH (λr hr t e=>?_) h.last,h.ring⟩;have ro:=h.rows r hr;cases r with
 |jump to=>
  injection e with e;have:to=t:=by lia
  subst this;exact ro
 |test a to=>
  injection e with e;have:to=t:=by lia
  subst this;exact ro.2
 |_=>cases e
def mx:∀{n:Nat} {l:List Nat},l.Nodup->(∀x∈l,x<n)->l.length<=n
 |0,l,_,h=>by
  cases l with
  |nil=>exact aB _
  |cons a r=>exact absurd (h a bT) (cE _)
 |n+1,l,nd,h=>by
  by_cases c:n∈l
  ·have h1:=mx (n:=n) (l:=l.erase n) (nd.erase n) λx hx=>by
    have:=(nd.mem_erase_iff).mp hx;have:=h x this.2;lia
   rw[List.length_erase_of_mem c] at h1;lia
  ·have h1:=mx (n:=n) nd λx hx=>by
    have:=h x hx;have:x≠n:=λz=>c (z ▸ hx);lia
   lia
def rf:∀{l:List Nat},l.Pairwise (·<=·)->l.Nodup->l.Pairwise (·<·)
 |[],_,_=>.nil
 |a::r,h,nd=>by
  rw[List.pairwise_cons] at h ⊢;rw[dC] at nd;refine⟨λx hx=>?_,rf h.2 nd.2⟩;have:=h.1 x hx;have:a≠x:=λz=>nd.1 (z ▸ hx);lia
def La{ms:List Int}{ns:List Nat}(p:ms.Perm (ns.map λn=>((n:Nat):Int)))(s:ms.Pairwise (·<=·))(nd:ns.Nodup):∃ks:List Nat,ms=ks.map (λn=>((n:Nat):Int))/\(∀x,x∈ks↔x∈ns)/\ks.Pairwise (·<·):=by
 have hm:ms.map (λi=>((i.toNat:Nat):Int))=ms:=by
  have:∀i∈ms,((i.toNat:Nat):Int)=i:=λi hi=>by
   obtain⟨n,_,e⟩:=bF.mp (p.mem_iff.mp hi);lia
  exact(i4 this).trans (wZ _)
 have pk:(ms.map dz).Perm ns:=by
  have:=p.map dz;rw[dN] at this;have e:ns.map (dz ∘ λn=>((n:Nat):Int))=ns:=by
   have:∀n∈ns,(dz ∘ λn=>((n:Nat):Int)) n=n:=λn _=>by simp
   exact(i4 this).trans (wZ _)
  rw[e] at this;exact this
 refine⟨ms.map dz,?_,λx=>pk.mem_iff,rf ?_ (pk.nodup_iff.mpr nd)⟩
 ·rw[dN];exact hm.symm
 ·rw[List.pairwise_map];exact s.imp λ{a b} h=>by lia
end Bg
end
section
namespace L2
open PySem PySem.Spec PyProof.Rows
def Nd{α:Type}[DecidableEq α]{l:List α}:∀{zs:List α},l.Nodup->(∀y∈l,y∈zs)->l.length<=zs.length:=by
 induction l with
 |nil=>intro zs _ _;exact b9 _
 |cons a r ih=>
  intro zs nd h;obtain⟨na,nr⟩:=dC.mp nd;have ha:a∈zs:=h a bT;have:=ih (zs:=zs.erase a) nr λy hy=>(List.mem_erase_of_ne (λz=>na (by rw[<-z];exact hy))).mpr (h y (bx _ hy));rw[List.length_erase_of_mem ha] at this;have:0<zs.length:=List.length_pos_of_mem ha;simp only[aP];lia
section
variable{X:Cx}
end
section
variable{prog:aZ}{w:bK}{A:bu}{R:Result->aq->Prop}{I:ar}{fp wr:List ar}{n:Nat}{P:Nat->ae->Prop}{St:Nat->Heap->Prop}
abbrev Ks:List (Str×ae):=[(("default":Str),ae.none)]
def yG:(toString "min"++toString ".loop":String)="min.loop":=by decide
def KS(W:sI prog w A.in1 I fp wr n P St)(bt:Nat->Nat->Bool)(cm:CmpOf prog w A.in1 .Lt P bt)(S:ar)(nS:S∉fp) :
  ∀(k j:Nat) (s:aq) (vb:ae) (c:Nat),n-(j+1)=k->j+1<=n->St (j+1) s.heap->P (pD bt j) vb->s.heap.get? S=some {cls:=.type "list",dict:=none,data:=.seq #[vb,vb] c,slots:=#[]}->
  (∀v h' tk,P (pD bt (n-1)) v->(∀b o,b∉wr->b≠S->s.heap.get? b=some o->h'.get? b=some o)->R (.ok (.ret v)) {s with heap:=h',toks:=tk})->
  gE (model prog w) A (.builtin "min.loop" ⟨[.ref I,.none,.ref S],Ks⟩) R s:=by
 have nw:S∉wr:=λz=>nS (W.sub _ z);intro k
 induction k with
 |zero=>
  intro j s vb c hk hj st pb gS fin;have jn:j+1=n:=by lia
  refine eD F.entry_min_loop ?_;rw[bu.under_plainId F.plain_min_loop _];show aM _ A.in1 (lU (.ref S) >>= _) _ _ s;refine aa (dB gS rfl ?_);show aM _ A.in1 (tryCatch (kh (.ref I)) _ >>= _) _ _ s;refine aa (iF (W.done s _ _ (jn ▸ st) λh1 tk k1=>?_));have gS1:=k1 S _ nw gS;show aM _ A.in1 (updateSeq S (λ_=>#[]) >>= _) _ _ _;refine aa ?_;refine je gS1 rfl (aa (kK (az ?_)));exact fin vb _ tk (by rw[<-jn];exact pb) λb o nb ns q=>(bM _ _ (Ne.symm ns)).trans (k1 b o nb q)
 |succ k ih=>
  intro j s vb c hk hj st pb gS fin;have jn:j+1<n:=by lia
  refine eD F.entry_min_loop ?_;rw[bu.under_plainId F.plain_min_loop _];show aM _ A.in1 (lU (.ref S) >>= _) _ _ s;refine aa (dB gS rfl ?_);show aM _ A.in1 (tryCatch (kh (.ref I)) _ >>= _) _ _ s;refine aa (iF (W.item (j+1) s _ _ jn st λv h1 tk pv st1 k1=>?_));have gS1:=k1 S _ nw gS;show aM _ A.in1 (tryCatch (holding [v,v] (richCompare .Lt v vb >>= _)) _ >>= _) _ _ _;refine aa (iF (bW (aa (cm (j+1) (pD bt j) v vb _ _ _ pv pb ?_))));refine aa (bW (fg ?_));refine aa (kK (az ?_));cases hb:bt (j+1) (pD bt j) with
  |true=>
   simp only[if_true];refine aa ?_;refine je gS1 rfl (aa (kK ?_));rw[yG];refine az ⟨fN F.plain_min_loop _,ih (j+1) _ v _ (by lia) jn (W.frame _ _ _ st1 λb bf o q=>?_) (by simp only[pD,hb,if_true];exact pv) (cA _ gS1 rfl)
    λv2 h2 t2 p2 k2=>fin v2 h2 t2 p2 λb o nb ns q=>k2 b o nb ns ((bM _ _ (Ne.symm ns)).trans (k1 b o nb q))⟩
   exact(bM _ _ (λz:S=b=>nS (by rw[z];exact bf))).trans q
  |false=>
   simp only[Bool.false_eq_true,if_false];refine aa (kK ?_);rw[yG];exact az ⟨fN F.plain_min_loop _,ih (j+1) _ vb c (by lia) jn st1 (by simp only[pD,hb,Bool.false_eq_true,if_false];exact pb) gS1 λv2 h2 t2 p2 k2=>fin v2 h2 t2 p2 λb o nb ns q=>k2 b o nb ns (k1 b o nb q)⟩
def HI(W:sI prog w A.in1 I fp wr n P St)(bt:Nat->Nat->Bool)(cm:CmpOf prog w A.in1 .Lt P bt)(S:ar)(nS:S∉fp){s:aq}{c:Nat}(st:St 0 s.heap)
  (gS:s.heap.get? S=some {cls:=.type "list",dict:=none,data:=.seq #[] c,slots:=#[]})
  (fin0:n=0->∀h' tk,(∀b o,b∉wr->s.heap.get? b=some o->h'.get? b=some o)->R (.ok (.ret .none)) {s with heap:=h',toks:=tk})
  (fin:0<n->∀v h' tk,P (pD bt (n-1)) v->(∀b o,b∉wr->b≠S->s.heap.get? b=some o->h'.get? b=some o)->R (.ok (.ret v)) {s with heap:=h',toks:=tk}) :
  gE (model prog w) A (.builtin "min.loop" ⟨[.ref I,.none,.ref S],Ks⟩) R s:=by
 have nw:S∉wr:=λz=>nS (W.sub _ z);refine eD F.entry_min_loop ?_;rw[bu.under_plainId F.plain_min_loop _];show aM _ A.in1 (lU (.ref S) >>= _) _ _ s;refine aa (dB gS rfl ?_);show aM _ A.in1 (tryCatch (kh (.ref I)) _ >>= _) _ _ s;by_cases hn:0<n
 ·refine aa (iF (W.item 0 s _ _ hn st λv h1 tk pv st1 k1=>?_));have gS1:=k1 S _ nw gS;show aM _ A.in1 (updateSeq S (λ_=>#[v,v]) >>= _) _ _ _;refine aa ?_;refine je gS1 rfl ?_;rw[yG];refine az ⟨fN F.plain_min_loop _,KS W bt cm S nS _ 0 _ v _ rfl hn (W.frame _ _ _ st1 λb bf o q=>?_) pv (cA _ gS1 rfl) λv2 h2 t2 p2 k2=>
   fin hn v2 h2 t2 p2 λb o nb ns q=>k2 b o nb ns ((bM _ _ (Ne.symm ns)).trans (k1 b o nb q))⟩
  exact(bM _ _ (λz:S=b=>nS (by rw[z];exact bf))).trans q
 ·have n0:n=0:=by lia
  refine aa (iF (W.done s _ _ (n0 ▸ st) λh1 tk k1=>?_));exact aa (iD (az (fin0 n0 h1 tk k1)))
end
section
variable{prog:aZ}{w:bK}{A:bu}{E:Zi}{s:aq}{l:ar}{xs:Array (Int×Tok)}
def Kf(a:ae):argsOk "min" ⟨[a],Ks⟩:=by unfold argsOk;kernel_rfl
def PY{id:String}{b:aS}{us:List ae}{kw:List (Str×ae)}{Q:Zi}(hk:builtinKind id=none)(hp:plainId id=true)(hb:entryFor table id=some b)(ha:argsOk id ⟨us,kw⟩)
  (hc:aM (model prog w) A.in1 (b ⟨us,kw⟩) (λfin s'=>match fin with
   |.done f=>(match(Except.ok f:Result) with|.ok (.ret v)=>Q v s'|.ok _=>False|.error e=>E e s')
   |.again c'=>c'.quiet=true/\gE (model prog w) A c' (λr s'=>match r with|.ok (.ret v)=>Q v s'|.ok _=>False|.error e=>E e s') s') E s):aM (model prog w) A (call (.builtin id) us kw) Q E s:=by
 refine jq (fc hp hb ?_);simp only[gH,hk];cases sg:Manifest.signature? id with
 |none=>exact az hc
 |some sig=>
  have ok:Bind.checkArgs id sig ⟨us,kw⟩=pure ():=by simpa only[argsOk,sg] using ha
  simp only[ok];exact az hc
def KR{Q:Zi}(hh:A.handled=none)(hl:s.heap.IsList l (ou xs))
  (h0:xs.size=0->∀h' tk,(∀b o,s.heap.get? b=some o->h'.get? b=some o)->Q .none {s with heap:=h',toks:=tk})
  (h:0<xs.size->∀v h' tk,(ou xs)[pD (λi j=>decide (numAt xs i<numAt xs j)) (xs.size-1)]?=some v->(∀b o,s.heap.get? b=some o->h'.get? b=some o)->Q v {s with heap:=h',toks:=tk}) :
  aM (model prog w) A (call (.builtin "min") [.ref l] Ks) Q E s:=by
 refine PY F.kind_min F.plain_min F.entry_min (Kf _) ?_;show aM _ A.in1 (aS.Builtins.bindParams "min" ["key","default"] 0 ⟨[],Ks⟩ >>= _) _ _ s;refine aa (kL (show aS.Builtins.bindParams "min" ["key","default"] 0 ⟨[],Ks⟩=pure [none,some .none] by kernel_rfl) ?_);refine aa (az ?_);refine aa (iter_intList hl λs2 e st hfp nl=>?_);subst e;refine aa (b4 ?_);rw[yG];have W:=sI.list (prog:=prog) (w:=w) (A:=A.in1) hh s.heap.objs.size l nl (ou xs);have zz:(ou xs).size=xs.size:=by simp[ou]
 have kk:∀{h':Heap},(∀b o,b∉[s.heap.objs.size]->b≠(s.heap.push {cls:=.type "list_iterator",data:=.fields #[.ref l,.int 0 0]}).objs.size->(((s.heap.push {cls:=.type "list_iterator",data:=.fields #[.ref l,.int 0 0]}).push {cls:=.type "list",data:=.seq #[]}).get? b=some o->h'.get? b=some o))->∀b o,s.heap.get? b=some o->h'.get? b=some o:=λ{h'} k b o q=>by
  have lt:=aI q;refine k b o (λz=>?_) (λz=>?_) (ak _ (ak _ q))
  ·have:=ax.mp z;lia
  ·rw[cY] at z;lia
 refine az ⟨fN F.plain_min_loop _,HI W _ (CmpOf.ints_lt (numAt xs) λ_ _=>intItems_at) _ (λz=>cW _ (hfp _ z)) (W.frame _ _ _ st λb _ o q=>ak _ q) (aO _ rfl) (λn0 h' tk k=>?_) λn1 v h' tk p k=>?_⟩
 ·exact h0 (by rw[<-zz];exact n0) h' tk (kk λb o nb _ q=>k b o nb q)
 ·exact h (by rw[<-zz];exact n1) v h' tk (by simpa[zz] using p) (kk λb o nb ns q=>k b o nb ns q)
end
section
variable{X:Cx}
def Nf{pins:List (ar×Obj)}{s:aq}{σ:St}{H:Hp}{a:ar}{ss:List Str}{m:Nat}{Q:VK}(I:bZ X pins σ H s)
  (T:BgSet.SetTb (kF X.prog X.w) s.heap a (λk=>decide (k∈ss)) m (!BgSet.byText X.w) true)
  (q:∀ss':List Str,ss'.Nodup->(∀x,x∈ss'↔x∈ss)->Q (.int (ss'.length:Nat)) H) :
  aM (model X.prog X.w) X.A (call (.builtin "len") [.ref a]) (EP X pins σ Q) X.xe s:=by
 obtain⟨o,es,ep,t,ho,hex,hdt,hel,hmem,hb,hf,hn,htb,hoff,hap⟩:=T;have hz:es.size<=av:=fits_of_scanBound hb;have hall:∀e∈es.toList,∃x t,e.2=.str x t:=λe he=>by
  obtain⟨⟨k,hk,_⟩,_⟩:=hel e he;obtain⟨t,ht⟩:=ae.isStrOf_shape hk;exact⟨k,t,ht⟩
 have hmm:∀x,x∈es.toList.map (λe=>strOf e.2)↔x∈ss:=λx=>by
  rw[bF];have:=hmem x;rw[decide_eq_true_eq] at this;rw[this];constructor
  ·rintro⟨e,he,rfl⟩;obtain⟨y,t,hy⟩:=hall e he;refine⟨e,he,?_⟩;show ae.isStrOf (strOf e.2) e.2=true;rw[hy];simp[strOf,ae.isStrOf]
  ·rintro⟨e,he,hk⟩;obtain⟨t,ht⟩:=ae.isStrOf_shape hk;exact⟨e,he,by show strOf e.2=x;rw[ht];rfl⟩
 have hnd:(es.toList.map (λe=>strOf e.2)).Nodup:=by
  unfold List.Nodup;rw[List.pairwise_map];refine List.Pairwise.imp_of_mem (λ{e e'} he he' r heq=>?_) hap;obtain⟨y,t,hy⟩:=hall e he;obtain⟨y',t',hy'⟩:=hall e' he';have e1:y=y':=by have:strOf e.2=strOf e'.2:=heq;rw[hy,hy'] at this;exact this
  have h1:ae.isStrOf y e.2=true:=by rw[hy];simp[ae.isStrOf]
  have h2:ae.isStrOf y e'.2=false:=r y h1;rw[hy',e1] at h2;simp[ae.isStrOf] at h2
 have q1:=q _ hnd hmm;rw[af,bh] at q1;have hl:=wx;have hs:av=16777216:=iB;exact call_len_set ho hex hdt hf (by lia) ⟨.int (es.size:Nat),H,I.tok _,⟨_,rfl⟩,q1⟩
def Eo(K:Fg)(t:TA):TE:=λσ H Q=>t σ H λvs H1=>∃(p:ar) (tp:Bool) (ss:List Str),vs=[.ref p]/\GV K tp H1 p (ss.map V.str)/\ss.length<=4000/\
 ∀ss':List Str,ss'.Nodup->(∀x,x∈ss'↔x∈ss)->Q (.int (ss'.length:Nat)) H1
def K9{a:Expr}{ta:TA}{p1 p2 pos pos2:Pos}(hg:Gl X "len")(hg2:Gl X "set")(hm:X.mg "len"=none)(hm2:X.mg "set"=none)(hc:X.calm=true)(ha:PA X [a] ta)
  (hs2:aT [a] X.env=[(false,eval a X.env)]:=by rfl) (hs:aT [.Call (.Name "set" p2) [a] [] pos2] X.env=[(false,eval (.Call (.Name "set" p2) [a] [] pos2) X.env)]:=by rfl) :
  PE X (.Call (.Name "len" p1) [.Call (.Name "set" p2) [a] [] pos2] [] pos) (Eo X.K ta):=by
 intro pins s σ H Q I h;refine eG (lA I hg hm boot_len ?_);refine PyProof.Rows.callWith_builtin1 ?_ hs rfl;rw[hs];show aM _ _ (spliced ((false,eval (.Call (.Name "set" p2) [a] [] pos2) X.env)::eW pos [])) _ _ s;refine Calls.spliced_cons ?_;refine eG (lA I hg2 hm2 (show fE "set"=some (.type "set") by kernel_rfl) ?_);refine cL (gs (ha pos2 pins s σ H _ I h) λus s1 ⟨vs,H1,I1,r1,q1⟩=>?_) hs2 rfl;obtain⟨l,tp,ss,rfl,hq,hlen,q⟩:=q1;obtain⟨u,rfl,rx⟩:=kU r1;cases rx;obtain⟨its,rv,at_⟩:=I1.seqB hq;have rl:=rv.length;rw[af] at rl;have hS:=vn rv;have hv:∀(i:Nat) k v,ss[i]?=some k->its.toArray[i]?=some v->(kF X.prog X.w).is k v=true/\v.scannable=true/\(true=true->lT v=false):=λi k v h1 h2=>by
  rw[List.getElem?_toArray] at h2;have:=hS.strs;rw[<-this,aQ,h2] at h1;obtain⟨x,t,rfl⟩:=hS.all v (aD h2);have e:x=k:=by simpa[strOf] using h1
  subst e;exact⟨by show ae.isStrOf x (.str x t)=true;simp[ae.isStrOf],rfl,λ_=>rfl⟩
 have hb:its.toArray.size+1<scanBound:=by rw[aF,<-rl];unfold scanBound;lia
 have go:∀(h':Heap) (tk m:Nat),m<=its.toArray.size->BgSet.SetTb (kF X.prog X.w) h' s1.heap.objs.size (λk=>decide (k∈ss)) m (!BgSet.byText X.w) true->
   (∀b o,b<s1.heap.objs.size->s1.heap.get? b=some o->h'.get? b=some o)->
   aM (model X.prog X.w) X.A (spliced (eW pos [])) (λvs s'=>aM (model X.prog X.w) X.A (call (.builtin "len") (.ref s1.heap.objs.size::vs)) (EP X pins σ Q) X.xe s') X.xe {s1 with heap:=h',toks:=tk}:=λh' tk m hm T kp=>by
  have I2:bZ X pins σ H1 {s1 with heap:=h',toks:=tk}:=I1.kept λb u e=>kp b u (aI e) e;exact Calls.spliced_nil (Nf I2 T q)
 cases tp with
 |true=>exact BgSet.set_of_tuple (kd:=kF X.prog X.w) ss true (I1.ok.hd hc) at_ (by rw[aF];exact rl) hv hb go
 |false=>exact BgSet.set_of_list (kd:=kF X.prog X.w) ss true (I1.ok.hd hc) at_ (by rw[aF];exact rl) hv hb go
def Le{a:Expr}{ta:TA}{p1 p2 pos pos2:Pos}(hg:Gl X "len")(hg2:Gl X "set")(hm:X.mg "len"=none)(hm2:X.mg "set"=none)(hc:X.calm=true)(ha:QA X [a] ta)
  (hs2:aT [a] X.env=[(false,eval a X.env)]:=by rfl) (hs:aT [.Call (.Name "set" p2) [a] [] pos2] X.env=[(false,eval (.Call (.Name "set" p2) [a] [] pos2) X.env)]:=by rfl) :
  QE X (.Call (.Name "len" p1) [.Call (.Name "set" p2) [a] [] pos2] [] pos) (Eo X.K ta):=⟨K9 hg hg2 hm hm2 hc ha.up hs2 hs⟩
def Cw:∀{ns:List Int} {us:List ae},c9 (ns.map V.int) us->lN us ns
 |[],_,.nil=>.nil
 |n::r,_,.cons (b:=u) h t=>by
  obtain⟨k,rfl⟩:=h;exact .cons _ _ (Cw t)
def Oz(K:Fg)(t:TA):TE:=λσ H Q=>t σ H λvs H1=>∃(p:ar) (ns:List Int),vs=[.ref p]/\cN K H1 p (ns.map V.int)/\(ns=[]->Q .non H1)/\∀z,z∈ns->(∀y∈ns,z<=y)->Q (.int z) H1
def Qm{a:Expr}{ta:TA}{p1 pos kp kp2:Pos}{j:Nat}(hg:Gl X "min")(hc:X.calm=true)(hm:X.mg "min"=none)(ha:PA X [a] ta)(hs:aT [a] X.env=[(false,eval a X.env)]:=by rfl) :
  PE X (.Call (.Name "min" p1) [a] [⟨some "default",.Constant .none j kp,kp2⟩] pos) (Oz X.K ta):=by
 intro pins s σ H Q I h;refine eG (lA I hg hm boot_min ?_);refine PyProof.Rows.callWith_kw ?_ (by rw[hs];rfl) (by rw[hs];rfl) rfl rfl;refine gs (ha pos pins s σ H _ I h) λus s1 ⟨vs,H1,I1,r1,l,ns,ev,hq,q0,q⟩=>?_;subst ev;obtain⟨u,rfl,rx⟩:=kU r1;cases rx;refine gs ((Qv (nm:=some "default") (kpos:=kp2) (NF (X:=X) (j:=j) (pos:=kp)) To) pos pins s1 σ H1 (λvs H2=>vs=[.non]/\H2=H1) I1 ⟨rfl,rfl⟩) λks s2 ⟨zs,H2,I2,r2,e1,e2⟩=>?_;subst e1 e2;obtain⟨k1,rfl,rk⟩:=kU r2;obtain rfl:k1=ae.none:=rk;obtain⟨its,rv,pl,hz⟩:=I2.list hq;have hI:lN its ns:=Cw rv;obtain⟨xs,e⟩:=hI.allInts.items;have hns:ns=xs.toList.map (·.1):=by rw[<-hI.numsOf,<-nums_intItems,<-e]
 have hl:s2.heap.IsList l (ou xs):=by rw[<-e];exact pl.isList
 refine KR (I2.ok.hd hc) hl (λx0 h' tk k=>?_) λx1 v h' tk hv k=>?_
 ·refine⟨.non,H2,I2.kept k,rfl,q0 ?_⟩;rw[hns];simp[Array.eq_empty_of_size_eq_zero x0]
 ·obtain⟨t,rfl⟩:=intItems_at hv;obtain⟨h1,h2⟩:=argBest_lt (numAt xs) (xs.size-1);refine⟨.int _,H2,I2.kept k,⟨t,rfl⟩,q _ ?_ λy hy=>?_⟩
  ·rw[hns,numAt_eq];exact getD_mem (by rw[af,bh];lia)
  ·rw[hns] at hy;obtain⟨i,hi,rfl⟩:=mem_getD hy;rw[af,bh] at hi;rw[<-numAt_eq];exact h2 i (by lia)
def QP{a:Expr}{ta:TA}{p1 pos kp kp2:Pos}{j:Nat}(hg:Gl X "min")(hc:X.calm=true)(hm:X.mg "min"=none)(ha:QA X [a] ta)(hs:aT [a] X.env=[(false,eval a X.env)]:=by rfl) :
  QE X (.Call (.Name "min" p1) [a] [⟨some "default",.Constant .none j kp,kp2⟩] pos) (Oz X.K ta):=⟨Qm hg hc hm ha.up hs⟩
end
section
variable{prog:aZ}{w:bK}{A:bu}{E:Zi}{s:aq}
end
section
variable{X:Cx}
end
structure mX(P:aZ)(w:bK)(K:Fg)(mg:Str->Option ae)(base:Heap)(x:Str)(ps:List Str)(k:Nat)(sp:Sp):Prop where
 ex:∃(f:ar) (fd:dR),mg x=some (.ref f)/\cI K (.ref f)=true/\qf K fd ps []/\oF P w K mg base (GT P w) k f fd ps sp
structure BX(P:aZ)(w:bK)(K:Fg)(mg:Str->Option ae)(base:Heap)(x:Str)(C:ar)(ps:List Str)(k:Nat)(sp:Sp):Prop where
 ex:∃(f:ar) (fd:dR),mg x=some (.ref C)/\Vw K C f/\qf K fd ps []/\oF P w K mg base Dl k f fd ps sp
section
variable{X:Cx}{k:Nat}{C:ar}{ps:List Str}{sp:Sp}{x:Str}{p pos:Pos}{e o value:Expr}{es:List Expr}{ta tv te:TE}{t:TA}{E:XK}
def TF(c:mX X.prog X.w X.K X.mg X.base x ps k sp)(hr:gW k X.A)(hg:Gl X x)(hx:nO (GT X.prog X.w) X E)(ha:QA X (e::es) t)
  (hdb:(x==("__debug__":Str))=false:=by decide) (he:aT (e::es) X.env=(false,eval e X.env)::aT es X.env:=by rfl) (hpl:(eW pos (aT es X.env)).any (·.1)=false:=by rfl) :
  QE X (.Call (.Name x p) (e::es) [] pos) (bE sp [] E t):=by
 obtain⟨f,fd,hm,hk,hb,F⟩:=c.ex;exact⟨JB F hr hg hm hk hb .nil hx ha.up hdb he hpl⟩
def Aa(M:BX X.prog X.w X.K X.mg X.base x C ps k sp)(hr:gW (k+1) X.A)(hg:Gl X x)(hz:ps.length<=1000)(ha:QA X (e::es) t)
  (hdb:(x==("__debug__":Str))=false:=by decide) (he:aT (e::es) X.env=(false,eval e X.env)::aT es X.env:=by rfl) (hpl:(eW pos (aT es X.env)).any (·.1)=false:=by rfl) :
  QE X (.Call (.Name x p) (e::es) [] pos) (ux C sp t):=by
 obtain⟨f,fd,hm,mk,hb,F⟩:=M.ex;exact⟨ND mk F hr hg hm hb hz ha.up hdb he hpl⟩
def yJ{fl:Str}{pos':Pos}(ha:QE X o ta)(hv:QE X value tv)(hs:iT value (some (.Attribute o fl pos')) pos.line X.env=pure false):QS X (.Assign [.Attribute o fl pos'] value pos) (CI X.K ta tv fl):=⟨QC ha.up hv.up hs⟩
def QN{fl:Str}(he:QE X e ta)(hb:eM e fl X.env (eval e X.env)=eval e X.env):QE X (.Attribute e fl pos) (Oy X.K ta fl):=⟨Ql he.up hb⟩
def Ab(hl:G1 X E)(hh:X.A.handled=none)(he:QE X e te):QS X (.Raise (some e) none pos) (uy X.K E te):=⟨NN hl hh he.up⟩
def TL{body suite:List Stmt}{b0:Stmt}{cn n:Str}{np hpos pos:Pos}{C0:ar}{i:Nat}{tb:XK->TS}{th:TS}(hc:X.calm=true)(hst:X.stack=X.env::X.outer)(hfm:X.env.frame=some X.env.locals)(hg:Gl X cn)(hm:X.mg cn=some (.ref C0))
  (hN:X.N.Nodup) (hi:X.N[i]?=some n) (hk:X.env.kindOf n=some .local) (hb:∀pl E' Ein,nO (GT X.prog X.w) (X.tryIn pl E') Ein->LQ (X.tryIn pl E') body (tb Ein)) (hs:∀x,LQ (X.inSuite x) (b0::suite) th)
  (hdb:(cn==("__debug__":Str))=false:=by decide):QS X (.Try body [.ExceptHandler (some (.Name cn np)) (some n) (b0::suite) hpos] [] [] pos) (Ud X.K C0 X.N.length i tb th):=
 ⟨Tu hc hst hfm hg hm hN hi hk (λpl E' Ein h=>(hb pl E' Ein h).up) (λx=>(hs x).up) hdb⟩
end
section
variable{P:aZ}{w:bK}{K:Fg}{mg:Str->Option ae}{base:Heap}{N:List Str}{qual:Str}{scope:Scope}{f:ar}{cd:ae}{A:bu}{outer:List Env}{s:aq}{H:Hp}{E:XK}
def pJ:G1 (sF (GT P w) P w K mg base N qual scope f cd A outer s H E) E:=λ_ _ _ _ _ _ _ I hx n q=>HB I hx n q
def PH{x qual:Str}{st:Stmt}{f:ar}{fd:dR}{N ps:List Str}{k:Nat}{sp:Sp}(F:O4 K x qual st f fd)(S:kH N ps (bS st))(len:∀vs H Q E,sp vs H Q E->vs.length=ps.length)
  (hbody:∀(cdv:ae) (A:bu) (outer:List Env) (s:aq) (H:Hp) (vs:List V) (Q:VK) (E:XK),gW k (A.deeper (h9 qual (bS st) s.heap.objs.size f cdv))->sp vs H Q E->
   ∃t,Cb (sF (GT P w) P w K mg base N qual (bS st) f cdv A outer s H E) (eX st) t/\t {nx:=λ_ H'=>Q .non H',rt:=Q} (cQ N vs) H):oF P w K mg base (GT P w) (k+1) f fd ps sp:=by
 obtain⟨oc,od,kV,doc,pm,an,cdv,ct,osl,rfl,lk,hcd⟩:=F.ex;exact MQ lk hcd S len λA outer s H vs Q E hr hsp=>hbody cdv A outer s H vs Q E hr hsp
end
end L2
end
section
namespace Bg
open PySem L2
def RT:Option Str->V
 |none=>.non
 |some y=>.str y
def kS(_:Fg):Sp:=λvs H Q _=>∃(rt:ar) (un:Option Str) (rvs:List V) (rs:List bU),vs=[.ref rt,RT un]/\H rt=some (.tup rvs)/\b3 (e7 H) rvs rs/\oM rs/\
 ∀(l:ar) (ns:List Nat) (H':Hp),(∀m,m∈ns↔Jd rs un m)->ns.Pairwise (·<·)->H' l=some (.lst (cZ ns))->H l=none->aK H H'->Q (.ref l) H'
abbrev Hz:Nat:=2
abbrev y7:Nat:=3
def R7(b:dr)(n:Nat):Prop:=∃r y,b.rows[n]?=some r/\y∈gq r/\y∉b.params/\Jd b.rows (some y) n
structure Hf(cs:List Nat)(b:dr):Prop where
 pnd:b.params.Nodup
 p9:b.params.length<=100
 good:oM b.rows
 gl:∀r∈b.rows,∀t:Nat,nR r=.int (t:Nat)->t<b.rows.length
 calls:∀x k as,bU.call x k as∈b.rows->cs[k]?=some as.length
 last:b.rows.getLast?.map jS=some true
 rd:∀r∈b.rows,(gq r).length<=100
structure R5(bs:List dr):Prop where
 few:bs.length<=100
 nnd:(bs.map (·.name)).Nodup
 part:∀b∈bs,Hf (bs.map (·.params.length)) b
def UG{p:Nat->Prop}:∀n,p n->∃m,p m/\∀j,j<m->¬p j:=λn=>by
 induction n using Nat.strongRecOn with
 |ind n ih=>
  intro h;by_cases c:∃m,m<n/\p m
  ·obtain⟨m,lt,q⟩:=c;exact ih m lt q
  ·exact⟨n,h,λj lt q=>c ⟨j,lt,q⟩⟩
def qT.clean{ys:List Str}{cs:List Nat}{b:dr}(h:qT ys cs b)(n:Nat):¬R7 b n:=by
 rintro⟨r,y,er,yr,yp,wy⟩;obtain⟨kss,hl,kn,rd⟩:=h.known;have g:=h.good;have go:∀{m:Nat},Jd b.rows (some y) m->∀ks,kss[m]?=some ks->y∉ks:=λ{m} wm=>by
  induction wm with
  |zero=>exact λks e z=>yp (kn.zero ks e y z)
  |step w1 e1 s1 m1 ih=>
   rename_i n0 m0 r0;intro ks e z;have lt:=w1.lt g;have e0:kss[n0]?=some kss[n0]:=ao (by rw[hl];exact lt);rcases kn.on n0 m0 r0 _ ks e1 m1 e0 e y z with q|q
   ·exact ih _ e0 q
   ·exact s1 y rfl q
 have lt:=wy.lt g;have e0:kss[n]?=some kss[n]:=ao (by rw[hl];exact lt);exact go wy _ e0 (rd n r _ er e0 y yr)
def tY.sh{ys:List Str}{cs:List Nat}{bs:List dr}(h:tY ys cs bs):R5 bs:=by
 refine⟨by have:=h.few;lia,h.nnd,λb hb=>?_⟩;have p:=h.part b hb;have pl:b.params.length<=4:=h.c4 _ (by rw[<-h.cnt];exact bF.mpr ⟨b,hb,rfl⟩);refine⟨p.pnd,by lia,p.good,λr hr t e=>?_,λx k as hm=>?_,p.last,λr hr=>?_⟩
 ·have ro:=p.rows r hr;cases r with
  |jump to=>
   have:to=t:=by injection e with e;lia
   subst this;exact ro
  |test a to=>
   have:to=t:=by injection e with e;lia
   subst this;exact ro.2
  |_=>cases e
 ·rw[h.cnt];exact(p.rows _ hm).2.1
 ·have ro:=p.rows r hr;cases r with
  |call x k as=>
   have:as.length<=4:=h.c4 _ (aD ro.2.1);show as.length<=100;lia
  |op x s a b=>show 2<=100;decide
  |num x z=>show 0<=100;decide
  |say a=>show 1<=100;decide
  |jump t=>show 0<=100;decide
  |test a t=>show 1<=100;decide
  |give a=>show 1<=100;decide
structure Mj(K:Fg):Prop where
 clN:DD K (eK K "NoProgram")
 nNp:nM K (eK K "NoProgram") "part"
 nNr:nM K (eK K "NoProgram") "row"
 nNw:nM K (eK K "NoProgram") "word"
 mNN:Pj K (eK K "NoProgram") (eK K "NoProgram")
structure Ke(K:Fg):Prop where
 clL:DD K (eK K "NoLine")
 nLl:nM K (eK K "NoLine") "line"
def y0(k n:Int)(w:Str):List (Str×V):=[("part",.int k),("row",.int n),("word",.str w)]
def fu(K:Fg):Sp:=λvs H Q _=>∃(x:ar) (a b c:V),vs=[.ref x,a,b,c]/\H x=some (XF x (eK K "NoProgram") none)/\
 ∀(dx:ar) (H':Hp),H dx=none->dx≠x->H' x=some (XF x (eK K "NoProgram") (some dx))->H' dx=some (XD dx [("part",a),("row",b),("word",c)])->gc x H H'->Q .non H'
def jD(K:Fg):Sp:=λvs H Q E=>∃(k:Int) (r:V) (wd:Str),vs=[.int k,r,.str wd]/\((r=.non/\Q .non H)\/
 ∃n:Int,r=.int n/\∀(dx:ar) (H':Hp),aK H H'->H' dx=some (XD dx (y0 k n wd))->E (.ref (eK K "NoProgram")) (some dx) H')
def R3(H:Hp)(p:ar)(bs:List dr):Prop:=∃pvs,H p=some (.tup pvs)/\b3 (lh H) pvs bs
def mH(_:Fg):Sp:=λvs H Q _=>∃(v:V) (b:dr) (cs:List Nat),vs=[v]/\lh H v b/\Hf cs b/\((∀n,¬R7 b n)->∀(H':Hp),aK H H'->Q .non H')/\
 ∀n:Nat,R7 b n->(∀m,m<n->¬R7 b m)->∀(H':Hp),aK H H'->Q (.int (n:Nat)) H'
def lF(_:Fg):Sp:=λvs H Q _=>∃(rt:ar) (rvs:List V) (rs:List bU),vs=[.ref rt]/\H rt=some (.tup rvs)/\b3 (e7 H) rvs rs/\rs.length<64/\(∀r∈rs,(gq r).length<=100)/\
 ∀(l:ar) (ss:List Str) (H':Hp),(∀y,y∈ss↔∃r∈rs,y∈gq r)->ss.length<=7000->H l=none->H' l=some (.lst (ss.map V.str))->aK H H'->Q (.ref l) H'
abbrev wk:Nat:=0
abbrev ku:Nat:=1
abbrev Hy:Nat:=2
abbrev GY:Nat:=3
abbrev zH:Nat:=1
abbrev y3:Nat:=2
abbrev Bo:Nat:=3
abbrev A8:Nat:=4
inductive dQ where
 |num (x:Str) (z:Int)
 |op (x s a b:Str)
 |call (x:Str) (k:Int) (as:List Str)
 |say (a:Str)
 |jump (to:Int)
 |test (a:Str) (to:Int)
 |give (a:Str)
structure bp where
 name:Str
 params:List Str
 rows:List dQ
def qH:dQ->Str
 |.num _ _=>"num"|.op _ _ _ _=>"op"|.call _ _ _=>"call"|.say _=>"say"|.jump _=>"jump"|.test _ _=>"test"|.give _=>"give"
def eI(H:Hp)(v:V):dQ->Prop
 |.num x z=>∃p,v=.ref p/\H p=some (.tup [.str "num",.str x,.int z])
 |.op x s a b=>∃p,v=.ref p/\H p=some (.tup [.str "op",.str x,.str s,.str a,.str b])
 |.call x k as=>∃p q,v=.ref p/\H p=some (.tup [.str "call",.str x,.int k,.ref q])/\H q=some (.tup (as.map V.str))
 |.say a=>∃p,v=.ref p/\H p=some (.tup [.str "say",.str a])
 |.jump to=>∃p,v=.ref p/\H p=some (.tup [.str "jump",.int to])
 |.test a to=>∃p,v=.ref p/\H p=some (.tup [.str "test",.str a,.int to])
 |.give a=>∃p,v=.ref p/\H p=some (.tup [.str "give",.str a])
def eI.mono{H H':Hp}{v:V}{r:dQ}(h:eI H v r)(t:Tp H H'):eI H' v r:=by
 cases r with
 |num x z=>obtain⟨p,e,h⟩:=h;exact⟨p,e,t _ _ h⟩
 |op x s a b=>obtain⟨p,e,h⟩:=h;exact⟨p,e,t _ _ h⟩
 |call x k as=>obtain⟨p,q,e,h,h'⟩:=h;exact⟨p,q,e,t _ _ h,t _ _ h'⟩
 |say a=>obtain⟨p,e,h⟩:=h;exact⟨p,e,t _ _ h⟩
 |jump to=>obtain⟨p,e,h⟩:=h;exact⟨p,e,t _ _ h⟩
 |test a to=>obtain⟨p,e,h⟩:=h;exact⟨p,e,t _ _ h⟩
 |give a=>obtain⟨p,e,h⟩:=h;exact⟨p,e,t _ _ h⟩
def eI.ref{H:Hp}{v:V}{r:dQ}(h:eI H v r):∃p xs,v=.ref p/\H p=some (.tup (.str (qH r)::xs)):=by
 cases r with
 |num x z=>obtain⟨p,e,h⟩:=h;exact⟨p,_,e,h⟩
 |op x s a b=>obtain⟨p,e,h⟩:=h;exact⟨p,_,e,h⟩
 |call x k as=>obtain⟨p,q,e,h,h'⟩:=h;exact⟨p,_,e,h⟩
 |say a=>obtain⟨p,e,h⟩:=h;exact⟨p,_,e,h⟩
 |jump to=>obtain⟨p,e,h⟩:=h;exact⟨p,_,e,h⟩
 |test a to=>obtain⟨p,e,h⟩:=h;exact⟨p,_,e,h⟩
 |give a=>obtain⟨p,e,h⟩:=h;exact⟨p,_,e,h⟩
def dQ.low:dQ->bU
 |.num x z=>.num x z
 |.op x s a b=>.op x s a b
 |.call x k as=>.call x k.toNat as
 |.say a=>.say a
 |.jump to=>.jump to.toNat
 |.test a to=>.test a to.toNat
 |.give a=>.give a
def bU.up:bU->dQ
 |.num x z=>.num x z
 |.op x s a b=>.op x s a b
 |.call x k as=>.call x (k:Nat) as
 |.say a=>.say a
 |.jump to=>.jump (to:Nat)
 |.test a to=>.test a (to:Nat)
 |.give a=>.give a
def bU.up_low(r:bU):r.up.low=r:=by cases r<;>simp[bU.up,dQ.low]
def e7.up{H:Hp}{v:V}{r:bU}(h:e7 H v r):eI H v r.up:=by cases r<;>exact h
def dQ.ok0:dQ->Prop
 |.call _ k _=>0<=k
 |.jump to=>0<=to
 |.test _ to=>0<=to
 |_=>True
def eI.low{H:Hp}{v:V}{r:dQ}(h:eI H v r)(k:r.ok0):e7 H v r.low:=by
 cases r with
 |call x n as=>obtain⟨p,q,e,h,h'⟩:=h;exact⟨p,q,e,by rw[show((n.toNat:Nat):Int)=n from by have:0<=n:=k;lia];exact h,h'⟩
 |jump to=>obtain⟨p,e,h⟩:=h;exact⟨p,e,by rw[show((to.toNat:Nat):Int)=to from by have:0<=to:=k;lia];exact h⟩
 |test a to=>obtain⟨p,e,h⟩:=h;exact⟨p,e,by rw[show((to.toNat:Nat):Int)=to from by have:0<=to:=k;lia];exact h⟩
 |num x z=>exact h
 |op x s a b=>exact h
 |say a=>exact h
 |give a=>exact h
def Cu:dQ->V
 |.jump to=>.int to
 |.test _ to=>.int to
 |_=>.non
def we:dQ->Bool
 |.jump _=>true
 |.give _=>true
 |_=>false
def P6(r:dQ):jS r.low=we r:=by cases r<;>rfl
def O0(cs:List Nat)(n:Nat):dQ->Prop
 |.call _ k as=>k<0\/cs[k.toNat]?≠some as.length
 |.jump to=>to<0\/(n:Int)<=to
 |.test _ to=>to<0\/(n:Int)<=to
 |_=>False
def O0.ok0{cs:List Nat}{n:Nat}{r:dQ}(h:¬O0 cs n r):r.ok0:=by
 cases r with
 |call x k as=>exact yP.mp λz=>h (.inl z)
 |jump to=>exact yP.mp λz=>h (.inl z)
 |test a to=>exact yP.mp λz=>h (.inl z)
 |_=>trivial
def Vy(cs:List Nat)(ws:List dQ)(n:Nat):Prop:=∃r,ws[n]?=some r/\(O0 cs ws.length r\/(n+1=ws.length/\we r=false))
def uQ(rs:List bU)(n:Nat):Prop:=(∃r,rs[n]?=some r/\ig r=true)/\∃k,runJ rs (k+1) n=n
section
variable(f:Nat->Nat)(p:Nat->Bool)
variable{f p}
def HU:∀(L:Nat) (g:Nat->Nat),(∀k,k<=L->g k<L)->∃i j,i<j/\j<=L/\g i=g j
 |0,g,h=>absurd (h 0 (aB _)) (by omega)
 |L+1,g,h=>by
  by_cases hx:∃i,i<L+1/\g i=g (L+1)
  ·obtain⟨i,hi,e⟩:=hx;exact⟨i,L+1,hi,aB _,e⟩
  ·have hne:∀i,i<L+1->g i≠g (L+1):=λi hi e=>hx ⟨i,hi,e⟩;have hb:=h (L+1) (aB _);have key:∀k,k<=L->(if g k=L then g (L+1) else g k)<L:=λk hk=>by
    have h1:=h k (by omega);have h2:=hne k (by omega);by_cases e:g k=L
    ·rw[if_pos e];have h3:g (L+1)≠L:=λz=>h2 (by rw[e,z]);omega
    ·rw[if_neg e];omega
   obtain⟨i,j,hij,hj,e⟩:=HU L (λk=>if g k=L then g (L+1) else g k) key;refine⟨i,j,hij,by omega,?_⟩;by_cases e1:g i=L
   ·by_cases e2:g j=L
    ·rw[e1,e2]
    ·simp only[if_pos e1,if_neg e2] at e;exact absurd e.symm (hne j (by omega))
   ·by_cases e2:g j=L
    ·simp only[if_neg e1,if_pos e2] at e;exact absurd e (hne i (by omega))
    ·simp only[if_neg e1,if_neg e2] at e;exact e
end
def jC(rs:List bU):∀(a b n:Nat),runJ rs (a+b) n=runJ rs b (runJ rs a n)
 |0,b,n=>by rw[Nat.zero_add];rfl
 |a+1,b,n=>by
  rw[Nat.add_right_comm];show runJ rs (a+b) (stp rs n)=runJ rs b (runJ rs a (stp rs n));exact jC rs a b _
def Ub{rs:List bU}(hg:∀r∈rs,∀t:Nat,nR r=.int (t:Nat)->t<rs.length){n:Nat}(hn:n<rs.length):stp rs n<rs.length:=by
 unfold stp;cases e:rs[n]? with
 |none=>exact hn
 |some r=>
  cases r with
  |jump t=>exact hg _ (aD e) t rfl
  |_=>exact hn
def sr{rs:List bU}(hg:∀r∈rs,∀t:Nat,nR r=.int (t:Nat)->t<rs.length):∀(k:Nat) {n:Nat},n<rs.length->runJ rs k n<rs.length
 |0,_,hn=>hn
 |k+1,n,hn=>sr hg k (Ub hg hn)
def nG(rs:List bU)(n:Nat):Prop:=∃r,rs[n]?=some r/\ig r=true
def FO{rs:List bU}{n:Nat}(h:¬nG rs n):∀r,rs[n]?=some r->ig r=false:=λr e=>by
 cases c:ig r with
 |false=>rfl
 |true=>exact absurd ⟨r,e,c⟩ h
def stay{rs:List bU}{n:Nat}(h:¬nG rs n)(k:Nat):runJ rs k n=n:=su (FO h) k
def xt{rs:List bU}{n a b:Nat}(h:nG rs (runJ rs b n))(le:a<=b):nG rs (runJ rs a n):=by
 apply Classical.byContradiction;intro c;have e:runJ rs b n=runJ rs a n:=by
  rw[show b=a+(b-a) from by lia,jC];exact stay c _
 rw[e] at h;exact c h
def KW{rs:List bU}(hg:∀r∈rs,∀t:Nat,nR r=.int (t:Nat)->t<rs.length)(h:∀n,¬uQ rs n):vR rs:=by
 intro n hn r e;cases c:ig r with
 |false=>rfl
 |true=>
  exfalso;obtain⟨i,j,lt,le,q⟩:=HU rs.length (λk=>runJ rs k n) λk _=>sr hg k hn;have ji:nG rs (runJ rs i n):=xt (b:=rs.length) ⟨r,e,c⟩ (by lia);refine h (runJ rs i n) ⟨ji,j-i-1,?_⟩;rw[<-jC,show i+(j-i-1+1)=j from by lia];exact q.symm
def uQ.first{rs:List bU}(hg:∀r∈rs,∀t:Nat,nR r=.int (t:Nat)->t<rs.length){n:Nat}(hn:n<rs.length)(h:uQ rs n):∃p,1<=p/\p<=rs.length/\runJ rs p n=n/\∀q,1<=q->q<p->runJ rs q n≠n:=by
 obtain⟨_,k,e⟩:=h;obtain⟨p,⟨p1,ep⟩,mn⟩:=UG (p:=λp=>1<=p/\runJ rs p n=n) (k+1) ⟨by lia,e⟩;refine⟨p,p1,?_,ep,λq q1 lt z=>mn q lt ⟨q1,z⟩⟩;apply Classical.byContradiction;intro big;obtain⟨i,j,lt,le,q⟩:=HU rs.length (λk=>runJ rs k n) λk _=>sr hg k hn;have q':runJ rs i n=runJ rs j n:=q;refine mn (i+(p-j)) (by lia) ⟨by lia,?_⟩;rw[jC,q',<-jC,show j+(p-j)=p from by lia];exact ep
def uQ.jumps{rs:List bU}{n:Nat}(h:uQ rs n)(a:Nat):nG rs (runJ rs a n):=by
 obtain⟨j,k,e⟩:=h;have all:∀m,runJ rs (m*(k+1)) n=n:=λm=>by
  induction m with
  |zero=>rw[Nat.zero_mul];rfl
  |succ m ih=>rw[Nat.succ_mul,jC,ih,e]
 refine xt (b:=a*(k+1)) (by rw[all];exact j) ?_;exact Nat.le_mul_of_pos_right a (by lia)
def Oj{rs:List bU}(hg:∀r∈rs,∀t:Nat,nR r=.int (t:Nat)->t<rs.length){n i:Nat}(hn:n<rs.length)(df:∀a b,a<b->b<i->runJ rs a n≠runJ rs b n)(jp:∀a,a<i->nG rs (runJ rs a n))
  (en:¬nG rs (runJ rs i n)\/∃j,j<i/\runJ rs i n=runJ rs j n):(runJ rs i n=n/\0<i)↔uQ rs n:=by
 constructor
 ·rintro⟨e,pos⟩;exact⟨jp 0 pos,i-1,by rw[show i-1+1=i from by lia];exact e⟩
 ·intro rg;obtain⟨p,p1,_,ep,mn⟩:=rg.first hg hn;rcases en with c|⟨j,lt,ej⟩
  ·exact absurd (rg.jumps i) c
  ·have pi:i<=p:=by
    apply Classical.byContradiction;intro z;exact df 0 p (by lia) (by lia) ep.symm
   refine⟨?_,by lia⟩;by_cases c:p=i
   ·rw[<-c];exact ep
   ·by_cases j0:j=0
    ·subst j0;exact ej
    ·exfalso;refine mn (j+(p-i)) (by lia) (by lia) ?_;rw[jC,<-ej,<-jC,show i+(p-i)=p from by lia];exact ep
def bp.low(b:bp):dr:=⟨b.name,b.params,b.rows.map dQ.low⟩
def Og(r:dQ):List Str:=gq r.low
structure Mh(b:bp):Prop where
 p9:b.params.length<=100
 few:b.rows.length<64
 rd:∀r∈b.rows,(Og r).length<=100
structure qU(ps:List bp):Prop where
 few:ps.length<=100
 part:∀b∈ps,Mh b
def sE(ps:List bp):List Nat:=ps.map (·.params.length)
def xi(ps:List bp)(k:Nat)(b:bp):Prop:=b.name∈(ps.take k).map (·.name)\/¬b.params.Nodup
def yi(cs:List Nat)(b:bp)(n:Nat):Prop:=(b.rows=[]/\n=0)\/Vy cs b.rows n
def qQ(p:Nat->Prop)(n:Nat):Prop:=p n/\∀m,m<n->¬p m
inductive xj(ps:List bp)(k:Nat)(b:bp):Nat->Str->Prop where
 |name:xi ps k b->xj ps k b 0 "name"
 |row {n:Nat}:¬xi ps k b->qQ (yi (sE ps) b) n->xj ps k b n "row"
 |ring {n:Nat}:¬xi ps k b->(∀m,¬yi (sE ps) b m)->qQ (uQ b.low.rows) n->xj ps k b n "ring"
 |unset {n:Nat}:¬xi ps k b->(∀m,¬yi (sE ps) b m)->(∀m,¬uQ b.low.rows m)->qQ (R7 b.low) n->xj ps k b n "unset"
structure Jb(ps:List bp)(k:Nat)(b:bp):Prop where
 name:¬xi ps k b
 row:∀m,¬yi (sE ps) b m
 ring:∀m,¬uQ b.low.rows m
 unset:∀m,¬R7 b.low m
def xj.not{ps:List bp}{k:Nat}{b:bp}{n:Nat}{w:Str}(h:xj ps k b n w)(c:Jb ps k b):False:=by
 cases h with
 |name z=>exact c.name z
 |row _ z=>exact c.row _ z.1
 |ring _ _ z=>exact c.ring _ z.1
 |unset _ _ _ z=>exact c.unset _ z.1
def vK(ps:List bp):Prop:=∀(k:Nat) b,ps[k]?=some b->Jb ps k b
structure Dn(ps:List bp)(k n:Nat)(w:Str):Prop where
 at_:∃b,ps[k]?=some b/\xj ps k b n w
 ahead:∀(j:Nat) b,j<k->ps[j]?=some b->Jb ps j b
def Dn.clean{ps:List bp}{k n:Nat}{w:Str}(f:Dn ps k n w):¬vK ps:=λc=>by
 obtain⟨b,e,h⟩:=f.at_;exact h.not (c k b e)
def yK{cs:List Nat}{b:bp}(h:∀m,¬yi cs b m):∀r∈b.rows,¬O0 cs b.rows.length r:=λr hr z=>by
 obtain⟨i,hi,e⟩:=b7.mp hr;exact h i (.inr ⟨r,by rw[ao hi,e],.inl z⟩)
def Fq{cs:List Nat}{b:bp}(h:∀m,¬yi cs b m):∀r∈b.low.rows,∀t:Nat,nR r=.int (t:Nat)->t<b.low.rows.length:=λr hr t e=>by
 obtain⟨r0,hr0,rfl⟩:=bF.mp hr;have nb:=yK h r0 hr0;show t<(b.rows.map dQ.low).length;rw[af];cases r0 with
 |jump to=>
  have hn:¬(to<0\/(b.rows.length:Int)<=to):=nb;have:to.toNat=t:=by injection e with e;lia
  lia
 |test a to=>
  have hn:¬(to<0\/(b.rows.length:Int)<=to):=nb;have:to.toNat=t:=by injection e with e;lia
  lia
 |_=>cases e
def Oq{ps:List bp}{k:Nat}{b:bp}(wd:Mh b)(hn:¬xi ps k b)(h:∀m,¬yi (sE ps) b m)(hr:∀m,¬uQ b.low.rows m):Hf (sE ps) b.low:=by
 have gl:=Fq h;have ne:b.rows≠[]:=λz=>h 0 (.inl ⟨z,rfl⟩);have pos:0<b.rows.length:=dF.mpr ne;have ll:b.low.rows.length=b.rows.length:=af ..;have la:b.low.rows.getLast?.map jS=some true:=by
  show((b.rows.map dQ.low).getLast?).map jS=some true;rw[cG,af,aQ];have lt:b.rows.length-1<b.rows.length:=by lia
  rw[ao lt,cq,cq,P6];cases c:we b.rows[b.rows.length-1] with
  |true=>rfl
  |false=>exact absurd (.inr ⟨_,ao lt,.inr ⟨by lia,c⟩⟩) (h (b.rows.length-1))
 refine⟨Classical.not_not.mp λz=>hn (.inr z),wd.p9,⟨by lia,by rw[ll];exact wd.few,FH gl la,KW gl hr⟩,gl,λx k as hm=>?_,la,λr hm=>?_⟩
 ·obtain⟨r0,hr0,e⟩:=bF.mp hm;have nb:=yK h r0 hr0;cases r0 with
  |call x' k' as'=>
   injection e with e1 e2 e3;rw[<-e2,<-e3];have hn:¬(k'<0\/(sE ps)[k'.toNat]?≠some as'.length):=nb;exact Classical.not_not.mp λz=>hn (.inr z)
  |_=>cases e
 ·obtain⟨r0,hr0,rfl⟩:=bF.mp hm;exact wd.rd r0 hr0
def jh(H:Hp)(v:V)(b:bp):Prop:=∃p q r rs,v=.ref p/\H p=some (.tup [.str b.name,.ref q,.ref r])/\H q=some (.tup (b.params.map V.str))/\H r=some (.tup rs)/\b3 (eI H) rs b.rows
def eQ(H:Hp)(p:ar)(ps:List bp):Prop:=∃pvs,H p=some (.tup pvs)/\b3 (jh H) pvs ps
def jh.mono{H H':Hp}{v:V}{b:bp}(h:jh H v b)(t:Tp H H'):jh H' v b:=by
 obtain⟨p,q,r,rs,e,h1,h2,h3,h4⟩:=h;exact⟨p,q,r,rs,e,t _ _ h1,t _ _ h2,t _ _ h3,h4.imp λ_ _ z=>z.mono t⟩
def eQ.mono{H H':Hp}{p:ar}{ps:List bp}(h:eQ H p ps)(t:Tp H H'):eQ H' p ps:=by
 obtain⟨pvs,e,a⟩:=h;exact⟨pvs,t _ _ e,a.imp λ_ _ z=>z.mono t⟩
def jh.low{cs:List Nat}{H:Hp}{v:V}{b:bp}(h:jh H v b)(ok:∀m,¬yi cs b m):lh H v b.low:=by
 obtain⟨p,q,r,rs,e,h1,h2,h3,h4⟩:=h;refine⟨p,q,r,rs,e,h1,h2,h3,by rw[h4.len];exact(af ..).symm,λi v r' ev er=>?_⟩;have er:(b.rows.map dQ.low)[i]?=some r':=er;rw[aQ] at er;obtain⟨r0,e0,rfl⟩:=b5.mp er;exact(h4.at_ i v r0 ev e0).low (O0.ok0 (yK ok r0 (aD e0)))
def Dk(n:Nat):dQ->Prop
 |.jump to=>to<0\/(n:Int)<=to
 |.test _ to=>to<0\/(n:Int)<=to
 |_=>False
def LS(cs:List Nat):dQ->Prop
 |.call _ k as=>k<0\/cs[k.toNat]?≠some as.length
 |_=>False
def DH{cs:List Nat}{n:Nat}{r:dQ}:O0 cs n r↔Dk n r\/LS cs r:=by
 cases r with
 |call x k as=>exact⟨λz=>.inr z,λz=>z.elim (λq=>q.elim) id⟩
 |jump to=>exact⟨λz=>.inl z,λz=>z.elim id (λq=>q.elim)⟩
 |test a to=>exact⟨λz=>.inl z,λz=>z.elim id (λq=>q.elim)⟩
 |num x z=>exact⟨λz=>z.elim,λz=>z.elim id id⟩
 |op x s a b=>exact⟨λz=>z.elim,λz=>z.elim id id⟩
 |say a=>exact⟨λz=>z.elim,λz=>z.elim id id⟩
 |give a=>exact⟨λz=>z.elim,λz=>z.elim id id⟩
def wN(_:Fg):Sp:=λvs H Q _=>∃(v:V) (r:dQ),vs=[v]/\eI H v r/\Q (Cu r) H
def eC(K:Fg):Sp:=λvs H Q _=>∃(x:ar) (a:V),vs=[.ref x,a]/\H x=some (XF x (eK K "NoLine") none)/\
 ∀(dx:ar) (H':Hp),H dx=none->dx≠x->H' x=some (XF x (eK K "NoLine") (some dx))->H' dx=some (XD dx [("line",a)])->gc x H H'->Q .non H'
def uv(K:Fg):Sp:=λvs H Q E=>∃(p:ar) (ps:List bp),vs=[.ref p]/\eQ H p ps/\qU ps/\(vK ps->∀(H':Hp),aK H H'->Q .non H')/\
 ∀(k n:Nat) (w:Str),Dn ps k n w->∀(dx:ar) (H':Hp),aK H H'->H' dx=some (XD dx (y0 k n w))->E (.ref (eK K "NoProgram")) (some dx) H'
def og(_:Fg):Sp:=λvs H Q _=>∃(p:ar) (k:Nat) (ps:List bp) (b:bp),vs=[.ref p,.int (k:Nat)]/\eQ H p ps/\qU ps/\ps[k]?=some b/\(xi ps k b->∀(H':Hp),aK H H'->Q (.int 0) H')/\(¬xi ps k b->∀(H':Hp),aK H H'->Q .non H')
def pV(_:Fg):Sp:=λvs H Q _=>∃(p:ar) (k:Nat) (ps:List bp) (b:bp),vs=[.ref p,.int (k:Nat)]/\eQ H p ps/\qU ps/\ps[k]?=some b/\
 (∀n:Nat,qQ (yi (sE ps) b) n->∀(H':Hp),aK H H'->Q (.int (n:Nat)) H')/\((∀m,¬yi (sE ps) b m)->∀(H':Hp),aK H H'->Q .non H')
def kB(_:Fg):Sp:=λvs H Q _=>∃(rt:ar) (v:V) (rvs:List V) (r:dQ),vs=[.ref rt,v]/\H rt=some (.tup rvs)/\eI H v r/\∀(b:Bool),(b=true↔Dk rvs.length r)->Q (.bl b) H
def kz(_:Fg):Sp:=λvs H Q _=>∃(p:ar) (v:V) (ps:List bp) (r:dQ),vs=[.ref p,v]/\eQ H p ps/\eI H v r/\∀(b:Bool),(b=true↔LS (sE ps) r)->Q (.bl b) H
def IU(rs:List bU):Prop:=∀r∈rs,∀t:Nat,nR r=.int (t:Nat)->t<rs.length
def oi(_:Fg):Sp:=λvs H Q _=>∃(rt:ar) (rvs:List V) (rs:List bU),vs=[.ref rt]/\H rt=some (.tup rvs)/\b3 (e7 H) rvs rs/\rs.length<64/\IU rs/\
 (∀n:Nat,qQ (uQ rs) n->∀(H':Hp),aK H H'->Q (.int (n:Nat)) H')/\((∀m,¬uQ rs m)->∀(H':Hp),aK H H'->Q .non H')
def kA(_:Fg):Sp:=λvs H Q _=>∃(rt:ar) (n:Nat) (rvs:List V) (rs:List bU),vs=[.ref rt,.int (n:Nat)]/\H rt=some (.tup rvs)/\b3 (e7 H) rvs rs/\rs.length<64/\IU rs/\n<rs.length/\
 ∀(b:Bool) (H':Hp),(b=true↔uQ rs n)->aK H H'->Q (.bl b) H'
abbrev Bk:Nat:=0
abbrev kI:Nat:=1
abbrev KD:Nat:=4
abbrev JZ:Nat:=5
abbrev DZ:Nat:=0
abbrev Dp:Nat:=1
abbrev FD:Nat:=2
abbrev ET:Nat:=3
abbrev yt:Nat:=1
abbrev yf:Nat:=2
abbrev yo:Nat:=0
abbrev yd:Nat:=1
abbrev D1:Nat:=2
abbrev Dr:Nat:=3
abbrev yq:Nat:=1
abbrev ye:Nat:=2
end Bg
end
section
namespace PySem.W
open PySem PySem.Calls PyProof.Rows PyProof.V PySem.Spec Builtin Builtin.Str Builtin.Int
section
variable{prog:aZ}{w:bK}{A:bu}{E:Zi}{s:aq}{r l:ar}
def Fc{items:Array ae}{Q:List ae->aq->Prop}(hh:A.handled=none)(hl:s.heap.IsList l items)(hit:s.heap.IsRevIter r l ((items.size:Int)-1))(hne:l≠r)(hn:items.size<=av)
  (hQ:∀h' tk (acc':Array ae),(∀b o,b≠r->s.heap.get? b=some o->h'.get? b=some o)->ItemsOf (λi v=>items[items.size-1-i]?=some v) acc' items.size->Q acc'.toList {s with heap:=h',toks:=tk}) :
  aM (model prog w) A (collect (.ref r)) Q E s:=by
 unfold collect;refine aa (wpAny_runValue (eD PySem.F.entry_proto_collect ?_));rw[bu.under_plainId PySem.F.plain_proto_collect _];show aM _ A.in1 (newList [] >>= λl=>again (.builtin "list.__iadd__" ⟨[l,.ref r],[]⟩)) _ _ s;refine aa (b4 (az ⟨fN PySem.F.plain_list_iadd _,eD PySem.F.entry_list_iadd ?_⟩));rw[bu.under_plainId PySem.F.plain_list_iadd _];have lr:r<s.heap.objs.size:=let⟨_,ho,_⟩:=hit;aI ho;have ll:l<s.heap.objs.size:=let⟨_,ho,_⟩:=hl;aI ho;have hS:(s.heap.push {cls:=.type "list",data:=.seq ([]:List ae).toArray}).get? s.heap.objs.size=some {cls:=.type "list",data:=.seq #[]}:=aO _ rfl;show aM _ A.in1 (aS.List.listExtendWith (.ref s.heap.objs.size) (.ref r) (.ref s.heap.objs.size)) _ _ {s with heap:=s.heap.push {cls:=.type "list",data:=.seq ([]:List ae).toArray}};refine Ih (prog:=prog) (w:=w) (A:=A) (R:=wants _ E) (s:={s with heap:=s.heap.push {cls:=.type "list",data:=.seq ([]:List ae).toArray}}) (items:=items) hh (hl.at λo e=>ak _ e) (hit.at λo e=>ak _ e) hne _ (gU lr) (gU ll) _ 0 hS (λh' tk acc' c' hk hS' hacc=>?_) hn;show aM _ A (load s.heap.objs.size >>= _) _ _ _;refine aa (wpAny_load hS' (az ?_));exact hQ h' tk acc' (λb o hb e=>hk b o (a9 (aI e)) hb (ak _ e)) hacc
def Ov:∀{us:List ae} {ys:List Str},rS us ys->rS us.reverse ys.reverse:=by
 intro us ys h;have app:∀{a b:List ae} {c d:List Str},rS a c->rS b d->rS (a++b) (c++d):=by
  intro a b c d h1 h2
  induction h1 with
  |nil=>exact h2
  |cons y t _ ih=>exact .cons y t ih
 induction h with
 |nil=>exact .nil
 |cons y t _ ih=>rw[jK,jK];exact app ih (.cons y t .nil)
def join_rev{sep:Str}{t:Tok}{items:Array ae}{ys:List Str}{Q:Zi}(hh:A.handled=none)(hl:s.heap.IsList l items)(hit:s.heap.IsRevIter r l ((items.size:Int)-1))(hne:l≠r)(hn:items.size<=av)(hi:rS items.toList ys)
  (hok:(ys.reverse.map (·.length)).sum+ys.reverse.length*sep.length<=16777216) (h:∀h' t' k,(∀b o,b≠r->s.heap.get? b=some o->h'.get? b=some o)->Q (.str (Txt.join sep ys.reverse) t') {s with heap:=h',toks:=k}) :
  aM (model prog w) A (call (.builtin "str.join") [.str sep t,.ref r]) Q E s:=by
 refine jq (fc PySem.F.slot_str_join.plain PySem.F.entry_str_join (PySem.F.slot_str_join.check _ _ _ _ _ _ _ _ (typeIs_str _ _ _) (PySem.F.args_str_join_2 _ _) ?_));rw[join_tree_other];refine aa (iU (T:="list_reverseiterator") hit.typeIs ?_);show aM _ A.in1 ((tU (.ref r)).tryCatch _ >>= λit=>collect it >>= λitems=>joinTail sep items) _ _ s;refine aa (iF (wpAny_pyIter_revIter hit ?_));refine aa (Fc (A:=A.in1) hh hl hit hne hn λh' tk acc hk hacc=>?_);have ea:acc.toList=items.toList.reverse:=by
  apply jH;intro i;have hs:acc.size=items.size:=hacc.1;by_cases hi:i<items.size
  ·have h1:acc[i]?=some acc[i]:=Array.getElem?_eq_getElem (by lia);have h2:=hacc.2 i _ h1;rw[cR,h1,fY (by simpa using hi)];simpa using h2.symm
  ·rw[cS (by rw[bh];lia),cS (by rw[dG,bh];lia)]
 obtain⟨l2,hv,ht⟩:=strsAre_values (Ov hi);rw[ea,hv];have hok':=joinOk_of (sep:=sep) hok;rw[<-ht] at hok' h;unfold JoinOk at hok';rw[Bool.not_eq_true'] at hok';have g:Gives (joinTail sep (strValues l2)) (joinMade sep l2):=by
  have g0:=gives_joinTail sep l2 hok';rcases l2 with _|⟨p,_|⟨q,r⟩⟩<;>exact g0
 exact g prog w A (wants Q E) _ (post_join l2 ⟨joinFit_length hok',λt' k=>h h' t' k hk⟩)
end
end PySem.W
namespace L2
open PySem PySem.Spec PyProof.Rows
def Ar(K:Fg)(to:TE)(t:TA):TE:=λσ H Q=>to σ H λx H1=>∃sep:Str,x=.str sep/\t σ H1 λvs H2=>∃(p:ar) (ys:List Str),vs=[.ref p]/\cN K H2 p (ys.map V.str)/\(ys.reverse.map (·.length)).sum+ys.reverse.length*sep.length<=16777216/\Q (.str (Txt.join sep ys.reverse)) H2
section
variable{X:Cx}
def HS{o a:Expr}{to:TE}{ta:TA}{p2 pos2 apos cpos:Pos}(hg2:Gl X "reversed")(hm2:X.mg "reversed"=none)(hc:X.calm=true)(ho:PE X o to)(ha:PA X [a] ta)
  (hbase:eM o "join" X.env (eval o X.env)=eval o X.env:=by rfl)
  (hfew:((eW cpos (aT [.Call (.Name "reversed" p2) [a] [] pos2] X.env)).all (λx=>!x.1)&&(lZ cpos (iA [] X.env)).all (λx=>x.1.isSome)
   && decide (([.Call (.Name "reversed" p2) [a] [] pos2]:List Expr).length+([]:List iS).length+(if([]:List iS).isEmpty then 0 else 1)<30))=true:=by rfl)
  (hline:(apos.endLine==cpos.line)=true:=by rfl) (hs2:aT [a] X.env=[(false,eval a X.env)]:=by rfl) (hs:aT [.Call (.Name "reversed" p2) [a] [] pos2] X.env=[(false,eval (.Call (.Name "reversed" p2) [a] [] pos2) X.env)]:=by rfl) :
  PE X (.Call (.Attribute o "join" apos) [.Call (.Name "reversed" p2) [a] [] pos2] [] cpos) (Ar X.K to ta):=by
 intro pins s σ H Q I h;refine wpAny_Call_method_late hbase hfew hline rfl (gs (ho pins s σ H _ I h) λv s1 ⟨x,H1,I1,r1,q1⟩=>?_);obtain⟨sep,rfl,q1⟩:=q1;obtain⟨tk,rfl⟩:=id r1;obtain⟨h1,h2⟩:=IG (T:="str") I1 r1 rfl;refine⟨"str","str.join",fF,PySem.F.slot_str_join,PySem.F.type_str_join,h1,h2,?_⟩;rw[hs];refine Calls.callWith_builtin rfl (Calls.evalArgs_plain ?_);show aM _ _ (spliced ((false,eval (.Call (.Name "reversed" p2) [a] [] pos2) X.env)::eW cpos [])) _ _ s1;refine Calls.spliced_cons (eG (lA I1 hg2 hm2 boot_reversed ?_));refine cL (gs (ha pos2 pins s1 σ H1 _ I1 q1) λus s2 ⟨vs,H2,I2,r2,q2⟩=>?_) hs2 rfl;obtain⟨l,ys,rfl,hq,hok,q⟩:=q2;obtain⟨u,rfl,rx⟩:=kU r2;cases rx;obtain⟨its,rv,pl,hz⟩:=I2.list hq;have ll:l<s2.heap.objs.size:=let⟨_,ho,_⟩:=pl.isList;aI ho;refine call_reversed_list pl.isList (Calls.spliced_nil ?_);have hlen:=rv.length;refine PySem.W.join_rev (items:=its.toArray) (I2.ok.hd hc) (pl.isList.push _) ⟨_,aO _ rfl,rfl,rfl⟩ (a9 ll) (by rw[aF,<-hlen];exact hz) (by simpa using vn rv) hok λh' t' k hk=>?_;have kp:∀b o,s2.heap.get? b=some o->h'.get? b=some o:=λb o e=>hk b o (a9 (aI e)) (ak _ e);exact⟨.str _,H2,I2.kept (t':=k) kp,⟨t',rfl⟩,q⟩
def HX{o a:Expr}{to:TE}{ta:TA}{p2 pos2 apos cpos:Pos}(hg2:Gl X "reversed")(hm2:X.mg "reversed"=none)(hc:X.calm=true)(ho:QE X o to)(ha:QA X [a] ta)
  (hbase:eM o "join" X.env (eval o X.env)=eval o X.env:=by rfl)
  (hfew:((eW cpos (aT [.Call (.Name "reversed" p2) [a] [] pos2] X.env)).all (λx=>!x.1)&&(lZ cpos (iA [] X.env)).all (λx=>x.1.isSome)
   && decide (([.Call (.Name "reversed" p2) [a] [] pos2]:List Expr).length+([]:List iS).length+(if([]:List iS).isEmpty then 0 else 1)<30))=true:=by rfl)
  (hline:(apos.endLine==cpos.line)=true:=by rfl) (hs2:aT [a] X.env=[(false,eval a X.env)]:=by rfl) (hs:aT [.Call (.Name "reversed" p2) [a] [] pos2] X.env=[(false,eval (.Call (.Name "reversed" p2) [a] [] pos2) X.env)]:=by rfl) :
  QE X (.Call (.Attribute o "join" apos) [.Call (.Name "reversed" p2) [a] [] pos2] [] cpos) (Ar X.K to ta):=⟨HS hg2 hm2 hc ho.up ha.up hbase hfew hline hs2 hs⟩
def N8:V->List V->Hp->VK->Prop:=λx vs H Q=>∃(z:Str) (i:Int),x=.str z/\vs=[.int i]/\PadOk i=true/\Q (.str (Txt.zfill z i)) H
def Nn:R0 X "str.zfill" N8:=by
 intro pins s σ H x vs v us Q I rx rv h;obtain⟨z,i,rfl,rfl,hp,q⟩:=h;obtain⟨t,rfl⟩:=rx;obtain⟨u,rfl,ru⟩:=rv.one;obtain⟨tu,rfl⟩:=ru;exact PySem.SC.zfill hp λt' k=>⟨.str _,H,I.tok k,⟨t',rfl⟩,q⟩
def JE:List V->Hp->VK->Prop:=λxs H Q=>∃i:Int,xs=[.int i]/\i.natAbs.log2<1920/\Q (.str (Str.ofString (toString i))) H
def E7:iJ X (.type "str") JE:=DK
def wC:List V->Hp->VK->Prop:=λxs H Q=>JE xs H Q\/∃z:Str,xs=[.str z]/\Q (.str z) H
def pI:iJ X (.type "str") wC:=by
 intro pins s σ H xs us Q I r h;rcases h with h|⟨z,rfl,q⟩
 ·exact E7 pins s σ H xs us Q I r h
 ·obtain⟨u,rfl,rx⟩:=kU r;obtain⟨t,rfl⟩:=rx;exact PySem.P.str_of_str ⟨.str z,H,I,⟨t,rfl⟩,q⟩
def U1:List V->Hp->VK->Prop:=λxs H Q=>∃i:Int,xs=[.int i]/\Q (.int (if i<0 then -i else i)) H
def Kg:iJ X (.builtin "abs") U1:=Mq
end
section
variable{X:Cx}
def N1:R2:=rI (λ_ j=>0<j/\j<2 ^ 64) λi j=>.int (i / j)
def Nu:lK X (eO .FloorDiv) N1:=UL λi j _ _ _ _ _ hc q=>by
 have h1:(0:Int)<j:=hc.1;have h2:j<2 ^ 64:=hc.2;have hb:j.natAbs.log2<9000:=by
  have h3:j.natAbs.log2<64:=(w4 (by lia)).mpr (by lia);lia
 exact floordiv_int (by lia) (by rw[iG i (by lia)];exact q) (.inl (PyProof.noPylong_of_log2 hb))
end
end L2
end
section
namespace Bg
open PySem L2
def sN(z:Int):Str:=Str.ofString (toString z)
def IR(z:Int):Prop:=0<=z/\z<2 ^ 64
def jW(_:Fg):Sp:=λvs H Q _=>∃z:Int,vs=[.int z]/\IR z/\∀H',aK H H'->Q (.str (sN z)) H'
abbrev FA:Nat:=0
abbrev EN:Nat:=1
end Bg
end
section
namespace L2
open PySem PySem.Spec PyProof.Rows
def Dj:∀l:List (Str×Tok),c9 ((l.map (·.1)).map V.str) (strValues l)
 |[]=>.nil
 |p::r=>.cons ⟨p.2,rfl⟩ (Dj r)
def Im{z y:Str}(hz:z.length+2<=av):(Txt.split z y).length<=av:=by
 unfold Txt.split;split
 ·show 1<=av;lia
 ·split
  ·show 1<=av;lia
  ·have e1:=StrLaws.occ_length_le z y 0 z.length (z.length+1);rw[length_partsBetween];lia
def Ib:V->List V->Hp->VK->Prop:=λx vs H Q=>∃(z y:Str),x=.str z/\vs=[.str y]/\(y.length==0)=false/\z.length+2<=av/\∀l,H l=none->Q (.ref l) (upd H l (.lst ((Txt.split z y).map V.str)))
section
variable{X:Cx}
def FM:R0 X "str.split" Ib:=by
 intro pins s σ H x vs v us Q I rx rv h;obtain⟨z,y,rfl,rfl,hy,hz,q⟩:=h;obtain⟨t,rfl⟩:=rx;obtain⟨u,rfl,ru⟩:=rv.one;obtain⟨tu,rfl⟩:=ru;have many:=Im (y:=y) hz;have fin:∀(l:List (Str×Tok)) (k:Nat),l.map (·.1)=Txt.split z y->EP X pins σ Q (.ref s.heap.objs.size) {s with heap:=s.heap.push {cls:=.type "list",data:=.seq (strValues l).toArray},toks:=k}:=λl k e=>by
  refine⟨.ref s.heap.objs.size,_,I.lnew (ys:=(l.map (·.1)).map V.str) (t':=k) (Dj l) (by rw[af,e];exact many),rfl,?_⟩;rw[e];exact q _ I.fresh
 cases c1:(decide (z.length<y.length) || decide (aS.Str.strKind z<aS.Str.strKind y)) with
 |true=>
  have e0:Txt.split z y=[z]:=by unfold Txt.split;rw[if_pos c1]
  exact gu fG (typeIs_str s z t) jy (i9 _ _) (meets_str_split_cannot_occur z y t tu c1) (fin [(z,t)] s.toks e0.symm)
 |false=>
  cases c2:(aS.Str.occurrences z y 0 z.length (z.length+1)).isEmpty with
  |true=>
   have e0:Txt.split z y=[z]:=by unfold Txt.split;rw[if_neg (by rw[c1];decide),if_pos c2]
   exact gu fG (typeIs_str s z t) jy (i9 _ _) (meets_str_split_not_found z y t tu c1 hy c2) (fin [(z,t)] s.toks e0.symm)
  |false=>
   have e0:Txt.split z y=aS.Str.partsBetween z (aS.Str.occurrences z y 0 z.length (z.length+1)) y.length:=by unfold Txt.split;rw[if_neg (by rw[c1];decide),if_neg (by rw[c2];decide)]
   refine gu fG (typeIs_str s z t) jy (i9 _ _) (meets_str_split_sep z y t tu c1 hy c2 (by lia) (by rw[<-e0];exact many)) ?_;have g:=fin (numbered s.toks (Txt.split z y)) (s.toks+(Txt.split z y).length) (numbered_texts _ _);rw[<-strsFrom_eq] at g;rw[<-e0];exact g
def FX:List V->Hp->VK->Prop:=λxs H Q=>∃(x:Str) (n:Int),xs=[.str x]/\PySem.intText? x=some n/\x.length<=640/\Q (.int n) H
def rZ:iJ X (.type "int") FX:=by
 intro pins s σ H xs us Q I r h;obtain⟨x,n,rfl,e,hl,q⟩:=h;obtain⟨u,rfl,rx⟩:=kU r;obtain⟨t,rfl⟩:=rx;exact PySem.W.KIN.call_text e hl ⟨.int n,H,I.tok _,⟨_,rfl⟩,q⟩
def FW(K:Fg):R2:=λx y H Q=>EG K false x y H Q\/∃(c:Nat) (j:Str),x=.str ⟨#[c]⟩/\y=.str j/\Q (.bl (decide (c∈j.cps.toList))) H
def zT:lK X (cM .In) (FW X.K):=by
 refine gL.or ?_;intro pins s σ H x y v u Q I rx ry h;obtain⟨c,j,rfl,rfl,q⟩:=h;exact K7 pins s σ H _ _ v u Q I rx ry ⟨⟨#[c]⟩,j,rfl,rfl,by rw[StrLaws.found_one];exact q⟩
def Uv(x:Str):It:=⟨λi _=>i<x.cps.size,λi H v H'=>H'=H/\∃c,x.cps[i]?=some c/\v=.str ⟨#[c]⟩,λi _=>x.cps.size<=i⟩
def GO{P:aZ}{w:bK}{K:Fg}{tg:Expr}{T:String}(it:ar)(x:Str)(t:Tok)(hT:["enumerate","zip","dict_itemiterator","dict_reverseitemiterator","odict_iterator","itertools.zip_longest","itertools.pairwise"].contains T=false)
  (W:∀A:bu,A.handled=none->sI P w A it [it] [it] x.cps.size (SignAt x) (λi h=>h.IsStrIter it T x t i))
  (hself:∀(A:bu) (i:Nat) (s:aq) (Q:Zi) (E:Zi),s.heap.IsStrIter it T x t i->Q (.ref it) s->aM (model P w) A (tU (.ref it)) Q E s):Bd P w K tg (Uv x) [it] it (λi h=>h.IsStrIter it T x t i/\i<=x.cps.size) where
 mem:=by simp
 obj:=λi h st b hb=>by
  have e:b=it:=by simpa using hb
  subst e;obtain⟨⟨o,e,c,d⟩,_⟩:=st;exact⟨o,e,λv z=>by rw[d] at z;cases z⟩
 keep:=λi h h' st k=>by
  obtain⟨⟨o,e,r⟩,l⟩:=st;exact⟨⟨o,k it (by simp) o e,r⟩,l⟩
 item:=by
  intro X hP hw hK hc i pins s σ H E I hf st hg;subst hP hw hK;obtain⟨f0,f1,f2,f3,f4,f5⟩:=hf it (by simp);refine(W X.A (I.ok.hd hc)).item i s _ _ hg st.1 λv h' tk hv st' kk=>?_;obtain⟨c,u,hx,rfl⟩:=hv;have I1:bZ X pins σ H {s with heap:=h',toks:=tk}:=I.turned (λb o hb e=>kk b o (by simpa using hb) e) f0 f1 f3 f4 f5;obtain⟨o,e,cc,d⟩:=id st';exact⟨_,rfl,Jr (s:={s with heap:=h',toks:=tk}) e cc d hT ⟨.str ⟨#[c]⟩,H,I1,⟨u,rfl⟩,⟨rfl,c,hx,rfl⟩,⟨st',hg⟩,λb hb=>(hf b hb).1⟩⟩
 done:=by
  intro X hP hw hK hc i pins s σ H E I hf st hg;subst hP hw hK;obtain⟨f0,f1,f2,f3,f4,f5⟩:=hf it (by simp);have ei:i=x.cps.size:=qe st.2 hg;refine(W X.A (I.ok.hd hc)).done s _ _ (by rw[<-ei];exact st.1) λh' tk kk=>⟨rfl,I.turned (λb o hb e=>kk b o (by simpa using hb) e) f0 f1 f3 f4 f5⟩
 self:=λA i s Q E st h=>hself A i s Q E st.1 h
def MW(tl:TE):TI:=λσ H R=>tl σ H λv H1=>∃x:Str,v=.str x/\R (Uv x) H1
def Ti{tg l:Expr}{tl:TE}(hl:PE X l tl):PI X tg l (MW tl):=by
 intro pins s σ H R I h;refine gs (hl pins s σ H _ I h) λv s1 ⟨x,H1,I1,r1,q1⟩=>?_;obtain⟨x,rfl,q⟩:=q1;obtain⟨t,rfl⟩:=r1;have fp:∀b∈[s1.heap.objs.size],sC X pins H1 b:=λb hb=>by
  have e:b=s1.heap.objs.size:=by simpa using hb
  subst e;exact I1.fpOk (aB _) (I1.hok.fresh (aB _))
 cases ha:x.cps.all (·<128) with
 |true=>
  exact wpAny_pyIter_ascii ha ⟨s1.heap.objs.size,[s1.heap.objs.size],_,_,H1,rfl,I1.kept (t':=s1.toks) λb o e=>ak _ e,
   GO (T:="str_ascii_iterator") _ x t (by decide) (λA hA=>sI.strAscii hA _ x t) (λ_ _ _ _ _ st h=>wpAny_pyIter_striter_ascii st h),⟨⟨_,aO _ rfl,rfl,rfl⟩,b9 _⟩,fp,q⟩
 |false=>
  exact wpAny_pyIter_wide ha ⟨s1.heap.objs.size,[s1.heap.objs.size],_,_,H1,rfl,I1.kept (t':=s1.toks) λb o e=>ak _ e,
   GO (T:="str_iterator") _ x t (by decide) (λA hA=>sI.strWide hA _ x t) (λ_ _ _ _ _ st h=>wpAny_pyIter_striter_wide st h),⟨⟨_,aO _ rfl,rfl,rfl⟩,b9 _⟩,fp,q⟩
def NV{tg l:Expr}{tl:TE}(hl:QE X l tl):QI X tg l (MW tl):=⟨Ti hl.up⟩
def Vb:V->Option Int->Option Int->Hp->VK->Prop:=λx lo hi H Q=>∃z:Str,x=.str z/\z.length<=av/\Q (.str (Txt.slice z lo hi)) H
def T7:Kb X Vb:=by
 intro pins s σ H x v vl vu lo hi sl Q I rx hs pl pu h;obtain⟨z,rfl,hz,q⟩:=h;obtain⟨t,rfl⟩:=rx;refine⟨"str",_,PySem.F.slot_str_getitem.lookup,typeIs_str _ _ _,?_⟩;have fin:(if((1:Int)==1&&(aS.Str.strSliceIndices lo hi 1 z.length).length==z.length)=true then Made.val (.str z t) else Made.str ⟨((aS.Str.strSliceIndices lo hi 1 z.length).filterMap (z.cps[·]?)).toArray⟩).post (EP X pins σ Q) s:=
  post_val_or_str ⟨cT (Txt.slice_le z lo hi) hz,λt' k=>⟨.str _,H,I.tok k,⟨t',rfl⟩,q⟩⟩
 cases pl with
 |none=>
  cases pu with
  |none=>exact gJ (l:=none) (u:=none) (st:=none) hs rfl fin
  |int j uj=>exact gJ (l:=none) (u:=some (j,uj)) (st:=none) hs rfl fin
 |int i ui=>
  cases pu with
  |none=>exact gJ (l:=some (i,ui)) (u:=none) (st:=none) hs rfl fin
  |int j uj=>exact gJ (l:=some (i,ui)) (u:=some (j,uj)) (st:=none) hs rfl fin
def Ia(K:Fg):V->Option Int->Option Int->Hp->VK->Prop:=λx lo hi H Q=>N6 K x lo hi H Q\/Vb x lo hi H Q
def vg:Kb X (Ia X.K):=Ek.or T7
structure Ul(mg:Str->Option ae)(x z:Str):Prop where
 ex:∃t,mg x=some (.str z t)
structure Um(K:Fg)(mg:Str->Option ae)(x:Str)(xs:List V):Prop where
 ex:∃(p:ar) (o:Obj) (its:Array ae) (n:Nat),mg x=some (.ref p)/\K.lookup p=some o/\o.cls=.type "tuple"/\o.data=.seq its n/\its.size<=av/\c9 xs its.toList
def SY{x z:Str}{p:Pos}(hg:Gl X x)(hm:Ul X.mg x z)(hdb:(x==("__debug__":Str))=false:=by decide):PE X (.Name x p) (tC (.str z)):=by
 intro pins s σ H Q I h;obtain⟨t,e⟩:=hm.ex;exact uY I hg e ⟨.str z,H,I,⟨t,rfl⟩,h⟩ hdb
def Ri(K:Fg)(xs:List V):TE:=λ_ H Q=>∀p:ar,(∀H',dA K H' p xs)->Q (.ref p) H
def SZ{x:Str}{xs:List V}{p:Pos}(hg:Gl X x)(hm:Um X.K X.mg x xs)(hdb:(x==("__debug__":Str))=false:=by decide):PE X (.Name x p) (Ri X.K xs):=by
 intro pins s σ H Q I h;obtain⟨a,o,its,n,e,k1,k2,k3,k4,k5⟩:=hm.ex;exact uY I hg e ⟨.ref a,H,I,rfl,h a λH'=>.inr ⟨o,its,n,k1,k2,k3,k4,k5⟩⟩ hdb
def NR{x z:Str}{p:Pos}(hg:Gl X x)(hm:Ul X.mg x z)(hdb:(x==("__debug__":Str))=false:=by decide):QE X (.Name x p) (tC (.str z)):=⟨SY hg hm hdb⟩
def NS{x:Str}{xs:List V}{p:Pos}(hg:Gl X x)(hm:Um X.K X.mg x xs)(hdb:(x==("__debug__":Str))=false:=by decide):QE X (.Name x p) (Ri X.K xs):=⟨SZ hg hm hdb⟩
end
def Mu{js:List Nat}{k:Nat}{x:Str}{g:TG}{tc:TT}{te:TE}{R:Hp->Prop}{σ:St}{H:Hp}{D:ar}(Pv:Nat->St->Hp->Prop)(h0:Pv 0 (EE js k σ) (upd H D (.lst [])))
  (hs:∀i c σ H,x.cps[i]?=some c->Pv i σ H->g (.str ⟨#[c]⟩) σ H λσ2 H2=>uq D tc te {nx:=Pv (i+1),rt:=λ_ _=>False,ct:=Pv (i+1),bk:=λ_ H'=>R H'} σ2 H2) (hd:∀σ H,Pv x.cps.size σ H->R H) :
  ∃W:Nat->Nat->St->Hp->Prop,(∃m,W 0 m (EE js k σ) (upd H D (.lst [])))/\∀i m σ H,W i m σ H->
   ((Uv x).stop i H/\R H)\/((Uv x).go i H/\∃N:St->Hp->Prop,(∀σ' H',N σ' H'->∃m',m'<m/\W (i+1) m' σ' H')/\∀v H',(Uv x).yld i H v H'->g v σ H' λσ2 H2=>uq D tc te {nx:=N,rt:=λ_ _=>False,ct:=N,bk:=λ_ H'=>R H'} σ2 H2):=by
 refine⟨λi m σ H=>m=x.cps.size-i/\i<=x.cps.size/\Pv i σ H,⟨x.cps.size,by simp,b9 _,h0⟩,?_⟩;rintro i m σ H ⟨rfl,hi,p⟩;by_cases hlt:i<x.cps.size
 ·refine .inr ⟨hlt,Pv (i+1),λσ' H' p'=>⟨x.cps.size-(i+1),by lia,rfl,hlt,p'⟩,λv H' y=>?_⟩;obtain⟨rfl,c,e,rfl⟩:=y;exact hs i c σ H' e p
 ·have ei:i=x.cps.size:=by lia
  subst ei;exact .inl ⟨aB _,hd σ H p⟩
end L2
end
section
namespace HT
open PySem PySem.Spec PyProof.Rows
section
variable{prog:aZ}{w:bK}{A:bu}{E:Zi}{s:aq}
def Fp{α β:Type}{f g:α->Option β}:∀(l:List α),(∀x∈l,f x=g x)->l.filterMap f=l.filterMap g
 |[],_=>rfl
 |x::r,h=>by rw[dE,dE,h x bT,Fp r λy hy=>h y (bx _ hy)]
def NL(xs:Array ae):((cX xs.size).filterMap λ(k:Nat)=>xs[(((xs.size:Nat):Int)-1+(k:Int)*(-1)).toNat]?)=xs.toList.reverse:=by
 have e:((cX xs.size).filterMap λ(k:Nat)=>xs[(((xs.size:Nat):Int)-1+(k:Int)*(-1)).toNat]?)=(cX xs.size).filterMap λk=>xs.toList.reverse[k]?:=by
  refine Fp _ λk hk=>?_;have hk:=ef.mp hk;rw[show(((xs.size:Nat):Int)-1+(k:Int)*(-1)).toNat=xs.size-1-k from by lia,fY (by simpa using hk),bh,cR]
 rw[e];have g:∀(l:List ae),(cX l.length).filterMap (λk=>l[k]?)=l:=λl=>by
  induction l with
  |nil=>rfl
  |cons a r ih=>
   rw[aP,List.range_succ_eq_map,dE,List.getElem?_cons_zero];show a::_=_;rw[List.filterMap_map];congr 1
 have h:=g xs.toList.reverse;rw[dG,bh] at h;exact h
def getItem_tuple_rev{t sl:ar}{items:Array ae}{u:Tok}{Q:Zi}(ht:IsTup s.heap t items)(hs:s.heap.IsSliceOf sl .none .none (.int (-1) u))
  (h:Q (.ref s.heap.objs.size) {s with heap:=s.heap.push {cls:=.type "tuple",data:=.seq items.toList.reverse.toArray}})
  (hsz:items.size<=av):aM (model prog w) A (jE (.ref t) (.ref sl)) Q E s:=by
 have htake:sizeOk (.seq items.toList.reverse.toArray):=by
  show items.toList.reverse.toArray.size<=av;rw[aF,dG,bh];exact hsz
 obtain⟨os,hos,hcs,hds⟩:=id hs;have hTs:s.TypeIs (.ref sl) "slice":=⟨os,hos,hcs⟩;unfold jE
 try with_reducible refine bW ?_
 first|refine aa (az ?_)|skip
 refine aa (wpAny_sequenceKey ht.typeIs (by decide) ?_);refine aa (b8 (name:=Str.ofString "__getitem__") ht.typeIs dc
  (dq dc ht.typeIs entry_tuple_getitem ?_ (args_tuple_getitem _ _)))
 show aM _ _ (aS.Tuple.tupleItemsOf (.ref t) >>= _) _ _ s;refine aa (tupleItemsOf_ ht ?_);refine aa (iU hTs ?_);rw[if_pos (by decide)];have ap:aM (model prog w) A.in1 (aS.Slice.sliceApplied (.ref sl) (pure (items.size:Int))) (λr s'=>r=(((items.size:Nat):Int)-1,-1,items.size)/\s'=s) (λ_ _=>False) s:=by
  unfold aS.Slice.sliceApplied aS.Slice.sliceFields;refine aa (aa (bQ hos hds (x:=.none) rfl (aa (bQ hos hds (x:=.none) rfl (aa (bQ hos hds (x:=.int (-1) u) rfl (az ?_)))))));refine aa (slicePart_int ?_);show aM _ _ (if((-1:Int)==0)=true then _ else _) _ _ s;rw[if_neg (by decide)];refine aa (lY (aa (lY (aa (az (az ⟨?_,rfl⟩))))));show(((items.size:Nat):Int)-1,(-1:Int),aS.Slice.slicePlaces (((items.size:Nat):Int)-1) (-1) (-1))=_;have:aS.Slice.slicePlaces (((items.size:Nat):Int)-1) (-1) (-1)=items.size:=by
   unfold aS.Slice.slicePlaces;rw[if_neg (by decide)];split<;>lia
  rw[this]
 refine aa (c7 ap (λr s' hr=>?_) λ_ _ z=>z.elim);obtain⟨rfl,rfl⟩:=hr;show aM _ _ (if((((items.size:Nat):Int)-1==0&&(-1:Int)==1&&items.size==items.size)=true) then _ else _) _ _ _;rw[if_neg (by rw[show((-1:Int)==1)=false from rfl,Bool.and_false,Bool.false_and];decide),NL]
 first
  |exact aa (m:=aS.Tuple.tupleExact _) (b4 (az ⟨_,rfl,az h⟩) htake)
  |exact aa (m:=aS.Tuple.tupleExact _) (b4 (aa (az (az ⟨_,rfl,az h⟩))) htake)
  |exact aa (aa (m:=aS.Tuple.tupleExact _) (b4 (az (az ⟨_,rfl,az h⟩)) htake))
  |exact aa (aa (m:=aS.Tuple.tupleExact _) (b4 (az ⟨_,rfl,az h⟩) htake))
end
end HT
namespace L2
open PySem PySem.Spec PyProof.Rows
def Ip(K:Fg)(te ts:TE):TE:=λσ H Q=>te σ H λx H1=>ts σ H1 λy H2=>∃a xs,y=.int (-1)/\x=.ref a/\dA K H2 a xs/\∀p,H2 p=none->Q (.ref p) (upd H2 p (.tup xs.reverse))
section
variable{X:Cx}{e st:Expr}{te ts:TE}{pos p2:Pos}
def NG(he:PE X e te)(hs:PE X st ts):PE X (.Subscript e (.Slice none none (some st) p2) pos) (Ip X.K te ts):=by
 intro pins s σ H Q I h;refine tQ (gs (he pins s σ H _ I h) λv s1 ⟨x,H1,I1,r1,q1⟩=>?_);refine wpAny_Slice ?_;rw[evalPart_none];refine az (az ?_);rw[evalPart_some];refine gs (hs pins s1 σ H1 _ I1 q1) λv2 s3 ⟨y,H3,I3,r3,q3⟩=>?_;obtain⟨a,xs,rfl,rfl,hx,q⟩:=q3;cases r1;obtain⟨tk,rfl⟩:=r3;have I4:bZ X pins σ H3 {s3 with heap:=s3.heap.push {cls:=.type "slice",data:=.fields #[.none,.none,.int (-1) tk]}}:=I3.kept (t':=s3.toks) λb ob q=>ak _ q;obtain⟨its,r,ht,hz⟩:=I4.tuple hx;have hlen:its.toArray.size=xs.length:=by rw[aF];exact r.length.symm
 show aM (model X.prog X.w) X.A (ny e (.Slice none none (some st) p2) (.ref a) (.ref s3.heap.objs.size)) (EP X pins σ Q) X.xe {s3 with heap:=s3.heap.push {cls:=.type "slice",data:=.fields #[.none,.none,.int (-1) tk]}};refine tail_any (ops:=[.ref a,.ref s3.heap.objs.size]) ht.typeIs dc.lookup ?_ (by with_unfolding_all rfl);refine HT.getItem_tuple_rev (u:=tk) ht (Heap.IsSliceOf.new ..) ?_ (by rw[hlen];exact hz);refine⟨.ref _,_,I4.laid (t':=s3.toks) (o:=.tup xs.reverse) (λb ob q=>ak _ q) (aB _) ?_,rfl,q _ (I4.hok.fresh (aB _))⟩;exact⟨by rw[dG];exact hz,_,by simpa using r.reverse,mh.new _ _⟩
def NU(he:QE X e te)(hs:QE X st ts):QE X (.Subscript e (.Slice none none (some st) p2) pos) (Ip X.K te ts):=⟨NG he.up hs.up⟩
def SV{P:aZ}{w:bK}{X:Cx}:nO (GT P w) X E0:=λ_ _ _ _ _ _ _ h=>by
 obtain⟨_,_,_,_,_,_,_,_,_,_,_,_,_,_,_,z⟩:=h;exact z.elim
end
end L2
end
section
namespace Bg
open PySem L2
structure Nb(y:Str):Prop where
 l1:1<=y.length
 l20:y.length<=20
 dig:∀c∈y.cps.toList,48<=c/\c<=57
 lead:y.cps.toList.head?=some 48->y="0"
def vF(y:Str):Nat:=NumText.digitsVal y.cps.toList
inductive dw where
 |part (x:Str) (ps:List Str)
 |num (x:Str) (z:Nat)
 |op (x s a b:Str)
 |call (x f:Str) (as:List Str)
 |say (a:Str)
 |jump (to:Nat)
 |test (a:Str) (to:Nat)
 |give (a:Str)
def fW(ws:List Str):dw->Prop
 |.part x ps=>ws=(("part":Str)::x::ps)/\Nm x/\∀y∈ps,Nm y
 |.num x z=>∃y,ws=([x,"=",y]:List Str)/\Nm x/\Nb y/\z=vF y/\vF y<2 ^ 64
 |.op x s a b=>ws=([x,"=",a,s,b]:List Str)/\Nm x/\s∈mF/\Nm a/\Nm b
 |.call x f as=>ws=(x::("=":Str)::("call":Str)::f::as)/\Nm x/\Nm f/\∀y∈as,Nm y
 |.say a=>ws=(["say",a]:List Str)/\Nm a
 |.jump to=>∃y,ws=(["jump",y]:List Str)/\Nb y/\to=vF y
 |.test a to=>∃y,ws=(["test",a,y]:List Str)/\Nm a/\Nb y/\to=vF y
 |.give a=>ws=(["give",a]:List Str)/\Nm a
def gK(H:Hp)(v:V):dw->Prop
 |.part x ps=>∃p q,v=.ref p/\H p=some (.tup [.str "part",.str x,.ref q])/\H q=some (.tup (ps.map V.str))
 |.num x z=>∃p,v=.ref p/\H p=some (.tup [.str "num",.str x,.int (z:Nat)])
 |.op x s a b=>∃p,v=.ref p/\H p=some (.tup [.str "op",.str x,.str s,.str a,.str b])
 |.call x f as=>∃p q,v=.ref p/\H p=some (.tup [.str "call",.str x,.str f,.ref q])/\H q=some (.tup (as.map V.str))
 |.say a=>∃p,v=.ref p/\H p=some (.tup [.str "say",.str a])
 |.jump to=>∃p,v=.ref p/\H p=some (.tup [.str "jump",.int (to:Nat)])
 |.test a to=>∃p,v=.ref p/\H p=some (.tup [.str "test",.str a,.int (to:Nat)])
 |.give a=>∃p,v=.ref p/\H p=some (.tup [.str "give",.str a])
def A1:dw->Str
 |.part _ _=>"part"|.num _ _=>"num"|.op _ _ _ _=>"op"|.call _ _ _=>"call"|.say _=>"say"|.jump _=>"jump"|.test _ _=>"test"|.give _=>"give"
def gK.mono{H H':Hp}{v:V}{r:dw}(h:gK H v r)(t:Tp H H'):gK H' v r:=by
 cases r with
 |part x ps=>obtain⟨p,q,e,h,h'⟩:=h;exact⟨p,q,e,t _ _ h,t _ _ h'⟩
 |num x z=>obtain⟨p,e,h⟩:=h;exact⟨p,e,t _ _ h⟩
 |op x s a b=>obtain⟨p,e,h⟩:=h;exact⟨p,e,t _ _ h⟩
 |call x k as=>obtain⟨p,q,e,h,h'⟩:=h;exact⟨p,q,e,t _ _ h,t _ _ h'⟩
 |say a=>obtain⟨p,e,h⟩:=h;exact⟨p,e,t _ _ h⟩
 |jump to=>obtain⟨p,e,h⟩:=h;exact⟨p,e,t _ _ h⟩
 |test a to=>obtain⟨p,e,h⟩:=h;exact⟨p,e,t _ _ h⟩
 |give a=>obtain⟨p,e,h⟩:=h;exact⟨p,e,t _ _ h⟩
def gK.ref{H:Hp}{v:V}{r:dw}(h:gK H v r):∃p xs,v=.ref p/\H p=some (.tup (.str (A1 r)::xs)):=by
 cases r with
 |part x ps=>obtain⟨p,q,e,h,h'⟩:=h;exact⟨p,_,e,h⟩
 |num x z=>obtain⟨p,e,h⟩:=h;exact⟨p,_,e,h⟩
 |op x s a b=>obtain⟨p,e,h⟩:=h;exact⟨p,_,e,h⟩
 |call x k as=>obtain⟨p,q,e,h,h'⟩:=h;exact⟨p,_,e,h⟩
 |say a=>obtain⟨p,e,h⟩:=h;exact⟨p,_,e,h⟩
 |jump to=>obtain⟨p,e,h⟩:=h;exact⟨p,_,e,h⟩
 |test a to=>obtain⟨p,e,h⟩:=h;exact⟨p,_,e,h⟩
 |give a=>obtain⟨p,e,h⟩:=h;exact⟨p,_,e,h⟩
def uK(H:Hp)(v:V):Option dw->Prop
 |none=>v=.non
 |some r=>gK H v r
def uK.mono{H H':Hp}{v:V}{r:Option dw}(h:uK H v r)(t:Tp H H'):uK H' v r:=by
 cases r with
 |none=>exact h
 |some r=>exact gK.mono h t
open Classical in
noncomputable def lineOf? (ws:List Str):Option dw:=if h:∃r,fW ws r then some (choose h) else none
def D7{w:Str}(h:w∈Ag):¬Nm w:=λn=>n.no h
def Jz:¬Nm "=":=λn=>by
 have:=(n.abc 61 (by decide +kernel)).1;exact absurd this (by decide)
def UI:¬Nb "=":=λn=>by
 have:=(n.dig 61 (by decide +kernel)).2;exact absurd this (by decide)
def nV:dw->Str
 |.part _ _=>"part"|.say _=>"say"|.jump _=>"jump"|.test _ _=>"test"|.give _=>"give"|_=>"="
def fW.key{ws:List Str}{r:dw}(h:fW ws r):(∃t,ws=nV r::t/\nV r∈Ag)\/(nV r="="/\∃x t,ws=(x::("=":Str)::t)/\Nm x):=by
 cases r with
 |part x ps=>exact .inl ⟨_,h.1,by simp only[nV];decide +kernel⟩
 |num x z=>obtain⟨y,e,nx,_⟩:=h;exact .inr ⟨rfl,x,_,e,nx⟩
 |op x s a b=>exact .inr ⟨rfl,x,_,h.1,h.2.1⟩
 |call x f as=>exact .inr ⟨rfl,x,_,h.1,h.2.1⟩
 |say a=>exact .inl ⟨_,h.1,by simp only[nV];decide +kernel⟩
 |jump to=>obtain⟨y,e,_⟩:=h;exact .inl ⟨_,e,by simp only[nV];decide +kernel⟩
 |test a to=>obtain⟨y,e,_⟩:=h;exact .inl ⟨_,e,by simp only[nV];decide +kernel⟩
 |give a=>exact .inl ⟨_,h.1,by simp only[nV];decide +kernel⟩
def fW.key_one{ws:List Str}{r r':dw}(h:fW ws r)(h':fW ws r'):nV r=nV r':=by
 rcases h.key with⟨t,e,m⟩|⟨e,x,t,ex,nx⟩<;>rcases h'.key with⟨t',e',m'⟩|⟨e',x',t',ex',nx'⟩
 ·rw[e] at e';injection e'
 ·rw[e] at ex';injection ex' with z _;exact absurd nx' (by rw[<-z];exact D7 m)
 ·rw[e'] at ex;injection ex with z _;exact absurd nx (by rw[<-z];exact D7 m')
 ·rw[e,e']
def xm:¬Nm "call":=D7 (by decide +kernel)
def fW.one{ws:List Str}{r r':dw}(h:fW ws r)(h':fW ws r'):r=r':=by
 have hk:=h.key_one h';cases r with
 |part x ps=>
  cases r' with
  |part x' ps'=>have e:=h.1.symm.trans h'.1;injection e with _ e;injection e with e1 e2;rw[e1,e2]
  |_=>exact absurd hk (by simp only[nV];decide +kernel)
 |say a=>
  cases r' with
  |say a'=>have e:=h.1.symm.trans h'.1;injection e with _ e;injection e with e _;rw[e]
  |_=>exact absurd hk (by simp only[nV];decide +kernel)
 |jump to=>
  cases r' with
  |jump to'=>
   obtain⟨y,e1,_,e2⟩:=h;obtain⟨y',e1',_,e2'⟩:=h';have e:=e1.symm.trans e1';injection e with _ e;injection e with e _;rw[e2,e2',e]
  |_=>exact absurd hk (by simp only[nV];decide +kernel)
 |test a to=>
  cases r' with
  |test a' to'=>
   obtain⟨y,e1,_,_,e2⟩:=h;obtain⟨y',e1',_,_,e2'⟩:=h';have e:=e1.symm.trans e1';injection e with _ e;injection e with e0 e;injection e with e _;rw[e2,e2',e,e0]
  |_=>exact absurd hk (by simp only[nV];decide +kernel)
 |give a=>
  cases r' with
  |give a'=>have e:=h.1.symm.trans h'.1;injection e with _ e;injection e with e _;rw[e]
  |_=>exact absurd hk (by simp only[nV];decide +kernel)
 |num x z=>
  obtain⟨y,e1,_,nb,e2,_⟩:=h;cases r' with
  |num x' z'=>
   obtain⟨y',e1',_,_,e2',_⟩:=h';have e:=e1.symm.trans e1';injection e with e0 e;injection e with _ e;injection e with e _;rw[e2,e2',e,e0]
  |op x' s a b=>have e:=congrArg gk (e1.symm.trans h'.1);simp at e
  |call x' f as=>have e:=congrArg gk (e1.symm.trans h'.1);simp at e
  |_=>exact absurd hk (by simp only[nV];decide +kernel)
 |op x s a b=>
  cases r' with
  |num x' z'=>obtain⟨y',e1',_⟩:=h';have e:=congrArg gk (h.1.symm.trans e1');simp at e
  |op x' s' a' b'=>have e:=h.1.symm.trans h'.1;injection e with e0 e;injection e with _ e;injection e with e1 e;injection e with e2 e;injection e with e3 _;rw[e0,e1,e2,e3]
  |call x' f as=>
   have e:=h.1.symm.trans h'.1;injection e with e0 e;injection e with _ e;injection e with e1 e;exact absurd h.2.2.2.1 (by rw[e1];exact xm)
  |_=>exact absurd hk (by simp only[nV];decide +kernel)
 |call x f as=>
  cases r' with
  |num x' z'=>obtain⟨y',e1',_⟩:=h';have e:=congrArg gk (h.1.symm.trans e1');simp at e
  |op x' s' a' b'=>
   have e:=h.1.symm.trans h'.1;injection e with e0 e;injection e with _ e;injection e with e1 e;exact absurd h'.2.2.2.1 (by rw[<-e1];exact xm)
  |call x' f' as'=>have e:=h.1.symm.trans h'.1;injection e with e0 e;injection e with _ e;injection e with _ e;injection e with e2 e3;rw[e0,e2,e3]
  |_=>exact absurd hk (by simp only[nV];decide +kernel)
def rb{ws:List Str}{r:dw}(h:fW ws r):lineOf? ws=some r:=by
 unfold lineOf?;have e:∃r,fW ws r:=⟨r,h⟩;rw[dif_pos e,fW.one (Classical.choose_spec e) h]
def xx{ws:List Str}(h:∀r,¬fW ws r):lineOf? ws=none:=by
 unfold lineOf?;rw[dif_neg λ⟨r,z⟩=>h r z]
noncomputable def parse (x:Str):List (Option dw):=(Txt.split x "\n").map λl=>lineOf? (Txt.split l " ")
def lq:dw->Bool
 |.part _ _=>true
 |_=>false
def oG(ls:List (Option dw))(n:Nat):Prop:=ls[n]?=some none\/(n=0/\∃r,ls[0]?=some (some r)/\lq r=false)
def ud:dw->Option Str
 |.part x _=>some x
 |_=>none
def gf(ls:List dw):List Str:=ls.filterMap ud
def sP(ls:List dw)(n:Nat):Prop:=∃x f as,ls[n]?=some (.call x f as)/\f∉gf ls
def jQ:List Str->Str->Nat
 |[],_=>0
 |x::r,y=>if x=y then 0 else jQ r y+1
def sU(nm:List Str):dw->dQ
 |.num x z=>.num x (z:Nat)
 |.op x s a b=>.op x s a b
 |.call x f as=>.call x ((jQ nm f:Nat):Int) as
 |.say a=>.say a
 |.jump to=>.jump (to:Nat)
 |.test a to=>.test a (to:Nat)
 |.give a=>.give a
 |.part x _=>.say x
def vW(acc:List bp)(w:dQ):List bp:=acc.dropLast++(acc.getLast?.map λb=>(⟨b.name,b.params,b.rows++[w]⟩:bp)).toList
def Mp(nm:List Str)(acc:List bp)(r:dw):List bp:=match r with
 |.part x ps=>acc++[⟨x,ps,[]⟩]
 |r=>vW acc (sU nm r)
def u7(ls:List dw):List bp:=ls.foldl (Mp (gf ls)) []
def y8(n:Int):List (Str×V):=[("line",.int n)]
def gr(_:Fg):Sp:=λvs H Q _=>∃y:Str,vs=[.str y]/\y.length<=99000/\∀(b:Bool) (H':Hp),(b=true↔Nm y)->aK H H'->Q (.bl b) H'
def iN(_:Fg):Sp:=λvs H Q _=>∃y:Str,vs=[.str y]/\y.length<=99000/\∀(b:Bool) (H':Hp),(b=true↔Nb y)->aK H H'->Q (.bl b) H'
def jV(K:Fg):Sp:=λvs H Q _=>∃(l:ar) (ys:List Str),vs=[.ref l]/\H l=some (.lst (ys.map V.str))/\ys.length<=99000/\(∀y∈ys,y.length<=99000)/\∀(b:Bool) (H':Hp),(b=true↔∀y∈ys,Nm y)->aK H H'->Q (.bl b) H'
def jZ(K:Fg):Sp:=λvs H Q _=>∃(l:ar) (ws:List Str),vs=[.ref l]/\H l=some (.lst (ws.map V.str))/\2<=ws.length/\ws[1]?=some ("=":Str)/\ws.length<=99000/\(∀y∈ws,y.length<=99000)/\
 ∀(v:V) (H':Hp),uK H' v (lineOf? ws)->aK H H'->Q v H'
def mG(K:Fg):Sp:=λvs H Q _=>∃(x:Str),vs=[.str x]/\x.length<=90000/\
 ∀(v:V) (H':Hp),uK H' v (lineOf? (Txt.split x " "))->aK H H'->Q v H'
def lP(H:Hp)(l:ar)(ls:List (Option dw)):Prop:=∃vs,H l=some (.lst vs)/\b3 (uK H) vs ls
def jY(K:Fg):Sp:=λvs H Q E=>∃(l:ar) (ls:List (Option dw)),vs=[.ref l]/\lP H l ls/\((∀n,¬oG ls n)->∀(H':Hp),aK H H'->Q .non H')/\
 ∀n:Nat,qQ (oG ls) n->∀(dx:ar) (H':Hp),aK H H'->H' dx=some (XD dx (y8 (n:Nat)))->E (.ref (eK K "NoLine")) (some dx) H'
def G5(H:Hp)(d:ar)(nm:List Str):Prop:=∃kvs,H d=some (.dK kvs)/\∀y,jd kvs (Sum.inr y)=if y∈nm then some (V.int ((jQ nm y:Nat):Int)) else none
def ij(K:Fg):Sp:=λvs H Q _=>∃(l:ar) (ls:List dw),vs=[.ref l]/\lP H l (ls.map some)/\ls.length<=99000/\∀(d:ar) (H':Hp),G5 H' d (gf ls)->aK H H'->Q (.ref d) H'
def jX(K:Fg):Sp:=λvs H Q E=>∃(l d:ar) (ls:List dw),vs=[.ref l,.ref d]/\lP H l (ls.map some)/\G5 H d (gf ls)/\((∀n,¬sP ls n)->∀(H':Hp),aK H H'->Q .non H')/\
 ∀n:Nat,qQ (sP ls) n->∀(dx:ar) (H':Hp),aK H H'->H' dx=some (XD dx (y8 (n:Nat)))->E (.ref (eK K "NoLine")) (some dx) H'
def oh(K:Fg):Sp:=λvs H Q _=>∃(v:V) (d:ar) (r:dw) (nm:List Str),vs=[v,.ref d]/\gK H v r/\lq r=false/\G5 H d nm/\(∀x f as,r=.call x f as->f∈nm)/\∀(w:V) (H':Hp),eI H' w (sU nm r)->aK H H'->Q w H'
def lG(K:Fg):Sp:=λvs H Q _=>∃(l d:ar) (ls:List dw),vs=[.ref l,.ref d]/\lP H l (ls.map some)/\ls.length<=99000/\G5 H d (gf ls)/\(∀n,¬oG (ls.map some) n)/\(∀n,¬sP ls n)/\
 ∀(p:ar) (H':Hp),eQ H' p (u7 ls)->aK H H'->Q (.ref p) H'
def sx(K:Fg):Sp:=λvs H Q E=>∃(x:Str),vs=[.str x]/\x.length<=90000/\
 (∀n:Nat,qQ (oG (parse x)) n->∀(dx:ar) (H':Hp),aK H H'->H' dx=some (XD dx (y8 (n:Nat)))->E (.ref (eK K "NoLine")) (some dx) H')/\
 ∀ls:List dw,parse x=ls.map some->(∀n,¬oG (parse x) n)->
  (∀n:Nat,qQ (sP ls) n->∀(dx:ar) (H':Hp),aK H H'->H' dx=some (XD dx (y8 (n:Nat)))->E (.ref (eK K "NoLine")) (some dx) H')/\
  ((∀n,¬sP ls n)->qU (u7 ls)/\(vK (u7 ls)->∀(p:ar) (H':Hp),eQ H' p (u7 ls)->aK H H'->Q (.ref p) H')/\
   ∀(k n:Nat) (w:Str),Dn (u7 ls) k n w->∀(dx:ar) (H':Hp),aK H H'->H' dx=some (XD dx (y0 k n w))->E (.ref (eK K "NoProgram")) (some dx) H')
def pO(ps:List bp)(k:Int):Str:=((ps[k.toNat]?).map (·.name)).getD ""
def lI(ps:List bp):dQ->List Str
 |.num x z=>[x,"=",sN z]
 |.op x s a b=>[x,"=",a,s,b]
 |.call x k as=>x::"="::"call"::pO ps k::as
 |.say a=>["say",a]
 |.jump to=>["jump",sN to]
 |.test a to=>["test",a,sN to]
 |.give a=>["give",a]
def uZ(ps:List bp)(r:dQ):Str:=Txt.join " " (lI ps r)
def mw(b:bp):Str:=Txt.join " " ("part"::b.name::b.params)
def eA(ps:List bp)(b:bp):List Str:=mw b::b.rows.map (uZ ps)
def lB(ps:List bp):List Str:=(ps.map (eA ps)).flatten
def rQ(ps:List bp):Str:=Txt.join "\n" (lB ps)
def xk(ps:List bp):dQ->Prop
 |.num x z=>x.length<=8/\IR z
 |.op x s a b=>x.length<=8/\s.length<=8/\a.length<=8/\b.length<=8
 |.call x k as=>x.length<=8/\0<=k/\k<ps.length/\as.length<=8/\∀a∈as,a.length<=8
 |.say a=>a.length<=8
 |.jump to=>IR to
 |.test a to=>a.length<=8/\IR to
 |.give a=>a.length<=8
structure DC(ps:List bp)(b:bp):Prop where
 nm:b.name.length<=8
 p8:b.params.length<=8
 pl:∀y∈b.params,y.length<=8
 few:b.rows.length<=64
 rows:∀r∈b.rows,xk ps r
structure mj(ps:List bp):Prop where
 few:ps.length<=8
 part:∀b∈ps,DC ps b
def pT(_:Fg):Sp:=λvs H Q _=>∃(p:ar) (v:V) (ps:List bp) (r:dQ),vs=[.ref p,v]/\eQ H p ps/\(∀b∈ps,b.name.length<=8)/\eI H v r/\xk ps r/\∀H',aK H H'->Q (.str (uZ ps r)) H'
def mI(_:Fg):Sp:=λvs H Q _=>∃(p:ar) (ps:List bp),vs=[.ref p]/\eQ H p ps/\mj ps/\∀H',aK H H'->Q (.str (rQ ps)) H'
def rF(_:Fg):Sp:=λvs H Q _=>∃(p:ar) (v:V) (ps:List bp) (r:dQ),vs=[.ref p,v]/\eQ H p ps/\(∀b∈ps,b.name.length<=8)/\eI H v r/\xk ps r/\∀H',aK H H'->Q (.str (uZ ps r)) H'
def vi(_:Fg):Sp:=λvs H Q _=>∃(p:ar) (ps:List bp),vs=[.ref p]/\eQ H p ps/\mj ps/\∀(l:ar) (H':Hp),H l=none->H' l=some (.lst ((lB ps).map V.str))->aK H H'->Q (.ref l) H'
abbrev FB:Nat:=0
abbrev ER:Nat:=1
abbrev Bm:Nat:=0
abbrev A5:Nat:=1
abbrev Bl:Nat:=1
abbrev A4:Nat:=2
abbrev wt:Nat:=2
abbrev vN:Nat:=3
abbrev Bn:Nat:=3
abbrev A6:Nat:=4
abbrev wq:Nat:=2
abbrev vM:Nat:=3
abbrev qZ:Nat:=0
abbrev qP:Nat:=1
abbrev wo:Nat:=2
abbrev vL:Nat:=3
abbrev D0:Nat:=0
abbrev Dq:Nat:=1
abbrev zI:Nat:=1
abbrev y4:Nat:=2
abbrev M5:Nat:=5
abbrev L4:Nat:=6
abbrev FC:Nat:=1
abbrev ES:Nat:=2
abbrev KH:Nat:=2
abbrev J2:Nat:=3
abbrev HA:Nat:=0
abbrev GZ:Nat:=1
abbrev PQ:Nat:=1
abbrev O8:Nat:=2
end Bg
end
section
namespace Bg
open PySem PySem.Spec PyProof.Rows L2
abbrev Dt:List Str:=["number"]
abbrev xc:List Str:=["number","sign","left","lots"]
def sY(K:Fg):TS:=(cK (bq (d9 K) (au 1) (Ar K (tC (.str "")) (ai (au 3) aJ))))
def sZ(K:Fg):TS:=(bC (gM (qt K "list" f9 (au 3) (ai (fS (wC) (ai (au 2) aJ)) aJ))) (sY K))
def tf(K:Fg):TS:=(cu (bq (N1) (au 2) (bq (sS) (tC (.int 10)) (tC (.int 18)))) (aW 2))
def tj(K:Fg):TS:=(bC (gM (qt K "list" f9 (au 3) (ai (qt K "str" N8 (fS (wC) (ai (bq (mB) (au 2) (bq (sS) (tC (.int 10)) (tC (.int 18)))) aJ)) (ai (tC (.int 18)) aJ)) aJ))) (tf K))
def tm(K:Fg):TS:=(bC (wQ (bH (bq (TM) (au 2) (bq (sS) (tC (.int 10)) (tC (.int 18))))) (tj K)) (sZ K))
def tw(K:Fg):TS:=(bC (cu (iO aJ) (aW 3)) (tm K))
def tD(K:Fg):TS:=(bC (cu (fS (U1) (ai (au 0) aJ)) (aW 2)) (tw K))
def xO(K:Fg):TS:=(bC (cu (VO (bH (bq (sH) (au 0) (tC (.int 0)))) (tC (.str "-")) (tC (.str ""))) (aW 1)) (tD K))
end Bg
end
section
namespace Bg
open PySem L2
def dg:Nat->Nat->List Char
 |0,_=>[]
 |k+1,r=>dg k (r / 10)++[i8 (r % 10)]
def DT{n d:Nat}(hn:0<n)(hd:d<10):cU 10 (10*n+d)=cU 10 n++[i8 d]:=by
 rw[<-Nat.toDigits_append_toDigits (by decide) hn hd,Nat.toDigits_of_lt_base hd]
def Jo:∀(k m r:Nat),0<m->r<10 ^ k->cU 10 (m*10 ^ k+r)=cU 10 m++dg k r
 |0,m,r,_,hr=>by
  have:r=0:=by simpa using hr
  subst this;simp[dg]
 |k+1,m,r,hm,hr=>by
  have h1:r / 10<10 ^ k:=by rw[Nat.div_lt_iff_lt_mul (by decide)];rw[uD] at hr;lia
  have e:m*10 ^ (k+1)+r=10*(m*10 ^ k+r / 10)+r % 10:=by
   have:=qd r 10;rw[uD,Nat.mul_add,show m*(10 ^ k*10)=10*(m*10 ^ k) by rw[lO (10 ^ k) 10,<-Nat.mul_assoc,lO m 10,Nat.mul_assoc]];lia
  have pos:0<m*10 ^ k+r / 10:=bo (Nat.mul_pos hm (Nat.pow_pos (by decide))) (Nat.le_add_right _ _);rw[e,DT pos (pG _ (by decide)),Jo k m (r / 10) hm h1,dM];rfl
def Jn:∀k,dg k 0=bB k '0'
 |0=>rfl
 |k+1=>by
  show dg k (0 / 10)++[i8 (0 % 10)]=_;rw[Nat.zero_div,Jn k,kM];rfl
def MC:∀(k r:Nat),0<k->r<10 ^ k->dg k r=bB (k-(cU 10 r).length) '0'++cU 10 r
 |0,_,h,_=>absurd h (by decide)
 |k+1,r,_,hr=>by
  show dg k (r / 10)++[i8 (r % 10)]=_;by_cases c:r<10
  ·rw[Nat.div_eq_of_lt c,Nat.mod_eq_of_lt c,Jn,Nat.toDigits_of_lt_base c];rfl
  ·have h1:r / 10<10 ^ k:=by rw[Nat.div_lt_iff_lt_mul (by decide)];rw[uD] at hr;lia
   have pos:0<r / 10:=Nat.div_pos (by lia) (by decide);have kp:0<k:=by
    cases k with
    |zero=>rw[Nat.pow_zero] at h1;lia
    |succ k=>exact Nat.succ_pos _
   have e:r=10*(r / 10)+r % 10:=(qd r 10).symm;have e2:cU 10 r=cU 10 (r / 10)++[i8 (r % 10)]:=by
    conv=>lhs;rw[e]
    exact DT pos (pG _ (by decide))
   rw[MC k (r / 10) kp h1,e2,aN,cD,Nat.add_sub_add_right,dM]
def Str.ext'{a b:Str}(h:a.cps.toList=b.cps.toList):a=b:=by
 cases a;cases b;congr 1;exact Array.toList_inj.mp h
def mC(m:Nat):(sN (m:Nat)).cps.toList=(cU 10 m).map Char.toNat:=PySem.W.KIN.signs_num m
def jP(a b:Str):(a++b).cps.toList=a.cps.toList++b.cps.toList:=by
 show(a.cps++b.cps).toList=_;rw[fB]
def TY(m:Nat)(h:m<2 ^ 64):(sN (m:Nat)).length<=20:=by
 have e:(sN (m:Nat)).length=(cU 10 m).length:=by
  show(sN (m:Nat)).cps.size=_;rw[<-bh,mC,af]
 rw[e,Nat.length_toDigits_le_iff (by decide) (by decide)];exact pF h (by decide)
def Cp(m:Nat):∃c r,(cU 10 m)=c::r/\48<=c.toNat:=by
 cases h:cU 10 m with
 |nil=>have:=Nat.length_toDigits_pos (b:=10) (n:=m);rw[h] at this;exact absurd this (by decide)
 |cons c r=>
  refine⟨c,r,rfl,?_⟩;have hc:c∈cU 10 m:=by rw[h];exact bT
  have:=Nat.isDigit_of_mem_toDigits (by decide) (by decide) hc;unfold Char.isDigit at this;rw[Bool.and_eq_true,decide_eq_true_iff] at this;exact this.1
def GS(k r:Nat)(hk:0<k)(hr:r<10 ^ k):(Txt.zfill (sN (r:Nat)) (k:Nat)).cps.toList=(dg k r).map Char.toNat:=by
 have el:(sN (r:Nat)).length=(cU 10 r).length:=by
  show(sN (r:Nat)).cps.size=_;rw[<-bh,mC,af]
 have le:(cU 10 r).length<=k:=(Nat.length_toDigits_le_iff (by decide) hk).mpr hr;rw[MC k r hk hr];unfold Txt.zfill;by_cases c:((k:Nat):Int)<=((sN (r:Nat)).length:Int)
 ·rw[if_pos c,mC];have:(cU 10 r).length=k:=by rw[el] at c;lia
  rw[this,jM];rfl
 ·rw[if_neg c];unfold zfilled;obtain⟨ch,rs,e1,e2⟩:=Cp r;have e0:(sN (r:Nat)).cps[0]?=some ch.toNat:=by
   rw[<-cR,mC,e1];rfl
  rw[e0];have pad:(aS.Str.padded (sN (r:Nat)) (((k:Nat):Int).toNat-(sN (r:Nat)).length) 0 48).cps.toList=(bB (k-(cU 10 r).length) '0'++cU 10 r).map Char.toNat:=by
   unfold aS.Str.padded;show(Array.replicate _ 48++(sN (r:Nat)).cps++Array.replicate 0 48).toList=_;rw[fB,fB,Array.toList_replicate,Array.toList_replicate,mC,List.replicate_zero,dn,el,dJ,aG,List.map_replicate];rfl
  split
  ·rename_i h;have h:=Option.some.inj h;lia
  ·rename_i h;have h:=Option.some.inj h;lia
  ·exact pad
def TX(n:Nat)(h:10 ^ 18<=n):sN (n:Nat)=sN ((n / 10 ^ 18:Nat):Int)++Txt.zfill (sN ((n % 10 ^ 18:Nat):Int)) ((18:Nat):Int):=by
 apply Str.ext';rw[jP,mC,mC,GS 18 _ (by decide) (pG _ (by decide)),<-aG];congr 1;have pos:0<n / 10 ^ 18:=Nat.div_pos h (by decide);have e:=Jo 18 (n / 10 ^ 18) (n % 10 ^ 18) pos (pG _ (by decide));rw[<-e];congr 1;rw[lO];exact(qd n _).symm
def MP(c:Nat):(bB c [V.str ""]).flatten=(bB c ("":Str)).map V.str:=by
 induction c with
 |zero=>rfl
 |succ c ih=>rw[eV,cO,ih,eV,aY];rfl
def Rb:∀i:Nat,i<5->∃c,("+-*<=":Str).cps.toList[i]?=some c/\(⟨#[c]⟩:Str)∈mF
 |0,_=>⟨43,by decide +kernel,by decide +kernel⟩
 |1,_=>⟨45,by decide +kernel,by decide +kernel⟩
 |2,_=>⟨42,by decide +kernel,by decide +kernel⟩
 |3,_=>⟨60,by decide +kernel,by decide +kernel⟩
 |4,_=>⟨61,by decide +kernel,by decide +kernel⟩
 |n+5,h=>by lia
def F6{K:Fg}{vs:List V}{H:Hp}{Q:VK}{E:XK}(h:pW K vs H Q E):ya K {nx:=λ_ H'=>Q .non H',rt:=Q} (cQ xh vs) H:=by
 obtain⟨st,nm,cn,n,k,ys,cs,rfl,S,hk,hnm,ysne,ysl,n1,n2,hcn,csne,csl,cs4,nnm,ncn,q⟩:=h;have yl:0<ys.length:=dF.mpr ysne;have cl:0<cs.length:=dF.mpr csne;refine⟨_,rfl,_,rfl,_,rfl,_,_,rfl,.inl ⟨_,cN.of hnm,rfl⟩,st,_,k,rfl,S,by lia,by rw[af];lia,by rw[af];lia,λd H1 d0 d1 S1 B1=>?_⟩;rw[af] at d1;have dl:d.toNat<ys.length:=by lia
 refine sf (cN.of (B1 nm _ nnm hnm)) d0 (Ap (ao dl)) ?_;have hx:ys[d.toNat]∈ys:=dZ dl;generalize ys[d.toNat]=x at hx ⊢;refine⟨_,rfl,st,12,k+1,rfl,S1,by lia,by decide,by decide,λs H2 s0 s1 S2 B2'=>?_⟩;have B2:gc st H H2:=B1.trans B2';have hcn2:=B2 cn _ ncn hcn;refine⟨_,rfl,_,_,rfl,rfl,_,rfl,bL (λ_=>?_) (λhs2=>?_)⟩
 ·refine⟨_,rfl,_,rfl,st,k+2,rfl,S2,by lia,λz k3 H3 z0 z1 S3 l3 B3=>⟨Zf,λp hp=>?_⟩⟩;exact q _ (.num x z) _ _ ⟨p,rfl,ag⟩ ⟨hx,z0,z1⟩ (S3.new hp) (by lia) ((B2.trans B3).new hp)
 refine⟨_,rfl,_,_,rfl,rfl,_,rfl,bL (λ_=>?_) (λhs6=>?_)⟩
 ·refine⟨_,rfl,_,rfl,st,5,k+2,rfl,S2,by lia,by decide,by decide,λe H3 e0 e1 S3 B3=>?_⟩;obtain⟨c,c1,c2⟩:=Rb e.toNat (by lia);refine Vq (by decide +kernel) e0 c1 ⟨Zh,λp hp=>?_⟩;exact q _ (.op x ⟨#[c]⟩ "" "") _ _ ⟨p,rfl,ag⟩ ⟨hx,c2,rfl,rfl⟩ (S3.new hp) (by lia) ((B2.trans B3).new hp)
 refine⟨_,rfl,.inl ⟨rfl,_,rfl,bL (λ_=>?_) (λ_=>?_)⟩⟩
 ·refine⟨_,rfl,_,rfl,_,_,rfl,.inl ⟨_,cN.of hcn2,rfl⟩,st,_,k+2,rfl,S2,by lia,by rw[fq];lia,by rw[fq];lia,λe H3 e0 e1 S3 B3=>?_⟩;rw[fq] at e1;obtain⟨j,rfl⟩:∃j:Nat,e=(j:Int):=⟨e.toNat,by lia⟩;have jl:j<cs.length:=by lia
  have hcn3:=B3 cn _ ncn hcn2;have cj:cs[j]?=some cs[j]:=ao jl;have c4:cs[j]<=4:=cs4 _ (dZ jl);generalize cs[j]=c at cj c4;refine⟨_,rfl,_,rfl,Zd,λp1 hp1=>?_⟩;have nc1:cn≠p1:=aC hcn3 hp1;refine⟨_,rfl,_,rfl,sf (cN.of (by rw[aL nc1];exact hcn3)) (by lia) (v:=.int (c:Nat)) (by simpa using KB cj) ?_⟩;have S4:=S3.new (o:=.tup [V.str ""]) hp1;have B4:=(B2.trans B3).new (o:=.tup [V.str ""]) hp1;have c5:1*c<=av:=cT (by lia) (show 100<=av by decide);refine .inr ⟨p1,c,[V.str ""],rfl,rfl,dA.of ag,by simp,c5,λh1=>⟨Zg,λp hp=>?_⟩,λhne p2 hp2=>⟨Zg,λp hp=>?_⟩⟩
  ·have n1p:p1≠p:=aC ag hp;subst h1;refine q _ (.call x j [""]) _ _ ⟨p,p1,rfl,ag,by rw[aL n1p,ag];rfl⟩ ⟨hx,1,cj,rfl⟩ (S4.new hp) (by lia) (B4.new hp)
  ·have n2p:p2≠p:=aC ag hp;refine q _ (.call x j (bB c "")) _ _ ⟨p,p2,rfl,ag,by rw[aL n2p,ag,MP]⟩ ⟨hx,c,cj,rfl⟩ ((S4.new hp2).new hp) (by lia) ((B4.new hp2).new hp)
 refine⟨_,rfl,_,_,rfl,rfl,_,rfl,bL (λ_=>?_) (λhs8=>?_)⟩
 ·exact⟨Ze,λp hp=>q _ (.say "") _ _ ⟨p,rfl,ag⟩ rfl (S2.new hp) (by lia) (B2.new hp)⟩
 refine⟨_,rfl,_,_,rfl,rfl,_,rfl,bL (λ_=>?_) (λhs10=>?_)⟩
 ·refine⟨_,rfl,_,rfl,st,_,k+2,rfl,S2,by lia,by lia,by lia,λe H3 e0 e1 S3 B3=>⟨Zf,λp hp=>?_⟩⟩;obtain⟨j,rfl⟩:∃j:Nat,e=(j:Int):=⟨e.toNat,by lia⟩;exact q _ (.test "" j) _ _ ⟨p,rfl,ag⟩ ⟨rfl,by lia⟩ (S3.new hp) (by lia) ((B2.trans B3).new hp)
 refine⟨_,rfl,_,rfl,st,_,k+2,rfl,S2,by lia,by lia,by lia,λe H3 e0 e1 S3 B3=>⟨Ze,λp hp=>?_⟩⟩;obtain⟨j,rfl⟩:∃j:Nat,e=(j:Int):=⟨e.toNat,by lia⟩;refine⟨Ze,λp2 hp2=>⟨Ze,λl hl=>?_⟩⟩;have n12:p≠p2:=aC ag hp2;have n2l:p2≠l:=aC ag hl;have n1l:p≠l:=aC (by rw[aL n12];exact ag) hl;have S4:=((S3.new (o:=.tup [V.str "jump",V.int (j:Nat)]) hp).new (o:=.tup [V.str "give",V.str ""]) hp2).new (o:=.lst [V.ref p,V.ref p2]) hl;have B4:=(((B2.trans B3).new (o:=.tup [V.str "jump",V.int (j:Nat)]) hp).new (o:=.tup [V.str "give",V.str ""]) hp2).new (o:=.lst [V.ref p,V.ref p2]) hl;refine⟨_,rfl,_,_,rfl,rfl,?_⟩;rcases(by lia:s=10\/s=11) with rfl|rfl
 ·exact sf (cN.of ag) (by decide) rfl (q _ (.jump j) _ _ ⟨p,rfl,by rw[aL n1l,aL n12,ag]⟩ (by show j<n;lia) S4 (by lia) B4)
 ·exact sf (cN.of ag) (by decide) rfl (q _ (.give "") _ _ ⟨p2,rfl,by rw[aL n2l,ag]⟩ rfl S4 (by lia) B4)
def D4{z:Int}(h:IR z):z.natAbs.log2<1920:=by
 obtain⟨h0,h1⟩:=h;by_cases c:z.natAbs=0
 ·rw[c];decide
 ·have:z.natAbs.log2<64:=(w4 c).mpr (by lia);lia
def ur{z:Int}(h:IR z):(sN z).length<=20:=by
 obtain⟨h0,h1⟩:=h;have e:z=((z.toNat:Nat):Int):=by lia
 rw[e];exact TY _ (by lia)
def gF(a b:Str):(a++b).length=a.length+b.length:=by
 show(a.cps++b.cps).size=a.cps.size+b.cps.size;rw[Array.size_append]
def P9(a:Str):("":Str)++a=a:=Str.ext' (by rw[jP];rfl)
def Pk(a:Str):a++("":Str)=a:=Str.ext' (by rw[jP];show _++[]=_;rw[dn])
def Ce(a b c:Str):a++b++c=a++(b++c):=Str.ext' (by rw[jP,jP,jP,jP,dM])
def zG(sep a b:Str):Txt.join sep [a,b]=a++sep++b:=by
 show aS.Str.glued sep [a,b]=_;rw[StrLaws.glued_eq_join];rfl
def MY(sep a:Str):Txt.join sep [a]=a:=by
 show aS.Str.glued sep [a]=_;rw[StrLaws.glued_eq_join];rfl
def Sk:(10:Int) ^ dz 18=1000000000000000000:=by decide
def F2{K:Fg}{vs:List V}{H:Hp}{Q:VK}{E:XK}(h:jW K vs H Q E):xO K {nx:=λ_ H'=>Q .non H',rt:=Q} (cQ xc vs) H:=by
 obtain⟨z,rfl,ir,q⟩:=h;obtain⟨z0,z1⟩:=id ir;refine⟨_,rfl,_,_,rfl,rfl,_,rfl,bL (λc=>absurd c (by lia)) (λ_=>?_)⟩;show tD K _ [some (.int z),some (.str ""),none,none] H;refine⟨_,rfl,_,rfl,?_⟩;rw[if_neg (by lia)];show tw K _ [some (.int z),some (.str ""),some (.int z),none] H;refine⟨Zc,λL nL=>?_⟩;have s1:aK H (upd H L (.lst [])):=(aK.refl H).new nL;have h1:upd H L (.lst []) L=some (.lst []):=ag;show tm K _ [some (.int z),some (.str ""),some (.int z),some (.ref L)] _;generalize upd H L (.lst [])=H1 at s1 h1 ⊢;have last:∀(cur:Int) (ls:List Str) (H2:Hp),IR cur->H2 L=some (.lst (ls.map V.str))->aK H H2->ls.length<=1->(∀x∈ls,x.length<=100)->Txt.join "" ((ls++[sN cur]).reverse)=sN z->sZ K {nx:=λ_ H'=>Q .non H',rt:=Q} [some (.int z),some (.str ""),some (.int cur),some (.ref L)] H2:=λcur ls H2 ic hL s2 ll lx ej=>by
  refine⟨_,rfl,.inl ⟨rfl,_,cN.of hL⟩,_,rfl,.inl ⟨_,rfl,D4 ic,L,_,_,rfl,rfl,hL,cg (by rw[af];lia),?_⟩⟩;have h3:upd H2 L (.lst (ls.map V.str++[V.str (sN cur)])) L=some (.lst ((ls++[sN cur]).map V.str)):=by rw[ag,aG];rfl
  have s3:aK H (upd H2 L (.lst (ls.map V.str++[V.str (sN cur)]))):=λb u e=>by rw[aL (aC e nL)];exact s2 b u e
  show sY K _ [some (.int z),some (.str ""),some (.int cur),some (.ref L)] (upd H2 L (.lst (ls.map V.str++[V.str (sN cur)])));generalize upd H2 L (.lst (ls.map V.str++[V.str (sN cur)]))=H3 at s3 h3 ⊢;have lc:=ur ic;have lz:=ur ir;refine⟨_,rfl,"",rfl,_,rfl,L,ls++[sN cur],rfl,cN.of h3,?_,.inr (.inl ⟨_,_,rfl,rfl,?_,?_⟩)⟩
  ·have:((ls++[sN cur]).reverse.map (·.length)).sum<=1000:=by
    rcases ls with _|⟨a,_|⟨b,r⟩⟩
    ·show(sN cur).length+0<=1000;lia
    ·have:=lx a bT;show(sN cur).length+(a.length+0)<=1000;lia
    ·simp at ll
   have e0:("":Str).length=0:=by decide +kernel
   rw[e0,Nat.mul_zero];lia
  ·rw[ej];exact di (cg (by have e0:("":Str).length=0:=(by decide +kernel);rw[e0];lia))
  ·show Q (.str (("":Str)++Txt.join "" ((ls++[sN cur]).reverse))) H3;rw[ej,P9];exact q H3 s3
 refine⟨λm σ' H'=>(m=1/\σ'=[some (.int z),some (.str ""),some (.int z),some (.ref L)]/\H' L=some (.lst [])/\aK H H')\/
   (m=0/\10 ^ 18<=z/\σ'=[some (.int z),some (.str ""),some (.int (z / 1000000000000000000)),some (.ref L)]/\H' L=some (.lst [.str (Txt.zfill (sN (z % 1000000000000000000)) 18)])/\aK H H'),⟨1,.inl ⟨rfl,rfl,h1,s1⟩⟩,?_⟩
 rintro m σ' H2 (⟨rfl,rfl,hL,s2⟩|⟨rfl,big,rfl,hL,s2⟩)
 ·refine⟨_,rfl,_,_,rfl,rfl,⟨by decide,by decide,by decide⟩,_,_,rfl,rfl,_,rfl,?_⟩;rw[Sk];refine bL (λc=>?_) (λc=>?_)
  ·refine⟨λσ' H'=>10 ^ 18<=z/\σ'=[some (.int z),some (.str ""),some (.int (z / 1000000000000000000)),some (.ref L)]/\H' L=some (.lst [.str (Txt.zfill (sN (z % 1000000000000000000)) 18)])/\aK H H',λσ' H' h=>⟨0,by decide,.inr ⟨rfl,h⟩⟩,?_⟩;show tj K _ [some (.int z),some (.str ""),some (.int z),some (.ref L)] H2;refine⟨_,rfl,.inl ⟨rfl,_,cN.of hL⟩,_,rfl,_,_,rfl,rfl,⟨by decide,by decide,by decide⟩,_,_,rfl,rfl,?_,.inl ⟨_,rfl,?_,rfl,_,_,rfl,rfl,by decide,L,_,_,rfl,rfl,hL,by decide,?_⟩⟩
   ·show 0<(10:Int) ^ dz 18;rw[Sk];decide
   ·rw[Sk];exact D4 ⟨by lia,by lia⟩
   rw[Sk];show tf K _ [some (.int z),some (.str ""),some (.int z),some (.ref L)] _;refine⟨_,rfl,_,_,rfl,rfl,⟨by decide,by decide,by decide⟩,_,_,rfl,rfl,?_,?_⟩
   ·rw[Sk];exact⟨by decide,by decide⟩
   rw[Sk];refine⟨by lia,rfl,ag,λb u e=>by rw[aL (aC e nL)];exact s2 b u e⟩
  ·refine last z [] H2 ir hL s2 (by decide) (λx hx=>by cases hx) ?_;exact MY _ _
 ·have sm:z / 1000000000000000000<1000000000000000000:=by lia
  refine⟨_,rfl,_,_,rfl,rfl,⟨by decide,by decide,by decide⟩,_,_,rfl,rfl,_,rfl,?_⟩;rw[Sk];refine bL (λc=>absurd c (by lia)) (λc=>?_);have ez:z=((z.toNat:Nat):Int):=by lia
  have ed:z / 1000000000000000000=((z.toNat / 10 ^ 18:Nat):Int):=by lia
  have em:z % 1000000000000000000=((z.toNat % 10 ^ 18:Nat):Int):=by lia
  have eb:=TX z.toNat (by lia);refine last _ [Txt.zfill (sN (z % 1000000000000000000)) 18] H2 ⟨by lia,by lia⟩ hL s2 (aB _) (λx hx=>?_) ?_
  ·rw[ax.mp hx,em];have:=GS 18 (z.toNat % 10 ^ 18) (by decide) (pG _ (by decide));have e2:(Txt.zfill (sN ((z.toNat % 10 ^ 18:Nat):Int)) ((18:Nat):Int)).length=18:=by
    show(Txt.zfill (sN ((z.toNat % 10 ^ 18:Nat):Int)) ((18:Nat):Int)).cps.size=18;rw[<-bh,this,af];rfl
   show(Txt.zfill (sN ((z.toNat % 10 ^ 18:Nat):Int)) ((18:Nat):Int)).length<=100;rw[e2];decide
  ·show Txt.join "" [sN (z / 1000000000000000000),Txt.zfill (sN (z % 1000000000000000000)) 18]=sN z;rw[zG,Pk,ed,em]
   conv=>rhs;rw[ez,eb]
   rfl
def Jf{c:Nat}:∀{a b A B:List Nat},a++c::A=b++c::B->c∉a->c∉b->a=b/\A=B
 |[],[],_,_,h,_,_=>⟨rfl,by injection h⟩
 |[],y::b,_,_,h,_,hb=>by
  injection h with h1 h2;exact absurd (by rw[h1];exact bT) hb
 |x::a,[],_,_,h,ha,_=>by
  injection h with h1 h2;exact absurd (by rw[<-h1];exact bT) ha
 |x::a,y::b,A,B,h,ha,hb=>by
  injection h with h1 h2;obtain⟨e1,e2⟩:=Jf h2 (λz=>ha (bx _ z)) (λz=>hb (bx _ z));exact⟨by rw[h1,e1],e2⟩
def jc(c:Nat)(x y:Str)(r:List Str):(Str.join ⟨#[c]⟩ (x::y::r)).cps.toList=x.cps.toList++c::(Str.join ⟨#[c]⟩ (y::r)).cps.toList:=by
 show(x++⟨#[c]⟩++Str.join ⟨#[c]⟩ (y::r)).cps.toList=_;rw[jP,jP];show(x.cps.toList++[c])++_=_;rw[dM];rfl
def Fx{c:Nat}:∀{xs ys:List Str},xs≠[]->ys≠[]->(∀x∈xs,c∉x.cps.toList)->(∀y∈ys,c∉y.cps.toList)->Str.join ⟨#[c]⟩ xs=Str.join ⟨#[c]⟩ ys->xs=ys
 |[],_,h,_,_,_,_=>absurd rfl h
 |_,[],_,h,_,_,_=>absurd rfl h
 |[x],[y],_,_,_,_,h=>by rw[show x=y from h]
 |[x],y::y'::r,_,_,hx,_,h=>by
  have e:=jc c y y' r;rw[<-h] at e;exact absurd (show c∈x.cps.toList from by rw[show x.cps.toList=_ from e];simp) (hx x (by simp))
 |x::x'::r,[y],_,_,_,hy,h=>by
  have e:=jc c x x' r;rw[h] at e;exact absurd (show c∈y.cps.toList from by rw[show y.cps.toList=_ from e];simp) (hy y (by simp))
 |x::x'::r,y::y'::r',_,_,hx,hy,h=>by
  have e:=jc c x x' r;rw[h,jc c y y' r'] at e;obtain⟨e1,e2⟩:=Jf e (hy y (by simp)) (hx x (by simp));rw[Str.ext' e1.symm,Fx (by simp) (by simp) (λz hz=>hx z (bx _ hz)) (λz hz=>hy z (bx _ hz)) (Str.ext' e2.symm)]
def Gi(x y:Str):Txt.split x y≠[]:=by
 unfold Txt.split;split
 ·simp
 ·split
  ·simp
  ·rw[StrLaws.partsBetween_eq];obtain⟨p,r,e⟩:=StrLaws.partsFrom_ne x y.length 0 (aS.Str.occurrences x y 0 x.length (x.length+1));rw[e];simp
def vk{c:Nat}{xs:List Str}(ne:xs≠[])(hx:∀x∈xs,c∉x.cps.toList):Txt.split (Txt.join ⟨#[c]⟩ xs) ⟨#[c]⟩=xs:=by
 refine Fx (Gi _ _) ne (StrLaws.split_free _ c) hx ?_;rw[StrLaws.join_split];exact StrLaws.glued_eq_join _ _
def UJ:("\n":Str)=⟨#[10]⟩:=by decide +kernel
def Vh:(" ":Str)=⟨#[32]⟩:=by decide +kernel
def Fy{c d:Nat}(ne:c≠d):∀{xs:List Str},(∀x∈xs,c∉x.cps.toList)->c∉(Txt.join ⟨#[d]⟩ xs).cps.toList:=λ{xs} h=>by
 show c∉(aS.Str.glued ⟨#[d]⟩ xs).cps.toList;rw[StrLaws.glued_eq_join]
 induction xs with
 |nil=>exact λz=>by cases z
 |cons x r ih=>
  cases r with
  |nil=>exact h x (by simp)
  |cons y r=>
   rw[jc];intro z;rcases aV.mp z with z|z
   ·exact h x (by simp) z
   ·rcases aE.mp z with z|z
    ·exact ne z
    ·exact ih (λw hw=>h w (bx _ hw)) z
def wj{sep:Str}{b:Nat}{xs:List Str}(h:∀x∈xs,x.length<=b):(Txt.join sep xs).length<=xs.length*(b+sep.length):=by
 show(aS.Str.glued sep xs).length<=_;rw[StrLaws.glued_eq_join];have h1:=StrLaws.join_length_le sep xs;have h2:(xs.map (·.length)).sum<=xs.length*b:=StrLaws.sumLen_le xs h;have:xs.length*(b+sep.length)=xs.length*b+xs.length*sep.length:=Nat.mul_add ..;lia
def MD:∀(m:Nat),0<m->∃c r,cU 10 m=c::r/\c≠'0':=λm=>by
 induction m using Nat.strongRecOn with
 |ind m ih=>
  intro pos;by_cases h:m<10
  ·have:m=1\/m=2\/m=3\/m=4\/m=5\/m=6\/m=7\/m=8\/m=9:=by lia
   rcases this with rfl|rfl|rfl|rfl|rfl|rfl|rfl|rfl|rfl<;>exact⟨_,_,rfl,by decide⟩
  ·obtain⟨c,r,e,n⟩:=ih (m / 10) (by lia) (by lia);refine⟨c,r++[i8 (m % 10)],?_,n⟩;have:=DT (n:=m / 10) (d:=m % 10) (by lia) (by lia);rw[show 10*(m / 10)+m % 10=m from by lia] at this;rw[this,e];rfl
def Pu(m:Nat):∀c∈(sN (m:Nat)).cps.toList,48<=c/\c<=57:=λc hc=>by
 rw[mC] at hc;obtain⟨ch,hch,e⟩:=bF.mp hc;rw[<-e];exact PyProof.Rows.digit_range (Nat.isDigit_of_mem_toDigits (by decide) (by decide) hch)
def Mt{a b:Char}(h:a.toNat=b.toNat):a=b:=Char.ext (UInt32.toNat.inj h)
def Nq{z:Int}(h:IR z):Nb (sN z)/\((vF (sN z):Nat):Int)=z:=by
 obtain⟨m,rfl⟩:=Int.eq_ofNat_of_zero_le h.1;have val:vF (sN (m:Nat))=m:=by unfold vF;rw[mC];exact PySem.W.KIN.val_back m
 refine⟨⟨?_,ur h,Pu m,λhd=>?_⟩,by rw[val]⟩
 ·show 1<=(sN (m:Nat)).cps.size;rw[<-bh,mC,af];obtain⟨c,r,e,_⟩:=Cp m;rw[e];exact Nat.le_add_left ..
 ·by_cases c:m=0
  ·subst c;decide +kernel
  ·obtain⟨ch,r,e,n⟩:=MD m (Nat.pos_of_ne_zero c);rw[mC,e] at hd;have hd:some ch.toNat=some 48:=hd;exact absurd (Mt (Option.some.inj hd:ch.toNat='0'.toNat)) n
def jj{y:Str}(h:Nm y):32∉y.cps.toList/\10∉y.cps.toList:=
 ⟨λz=>absurd (h.abc _ z).1 (by decide),λz=>absurd (h.abc _ z).1 (by decide)⟩
def D5{y:Str}(h:Nb y):32∉y.cps.toList/\10∉y.cps.toList:=
 ⟨λz=>absurd (h.dig _ z).1 (by decide),λz=>absurd (h.dig _ z).1 (by decide)⟩
def iY{w:Str}(h:w∈(["part","=","call","say","jump","test","give","+","-","*","<"]:List Str)):32∉w.cps.toList/\10∉w.cps.toList:=by
 have:∀w∈(["part","=","call","say","jump","test","give","+","-","*","<"]:List Str),32∉w.cps.toList/\10∉w.cps.toList:=by decide +kernel
 exact this w h
def Lp{w:Str}(h:w∈mF):32∉w.cps.toList/\10∉w.cps.toList:=by
 have:∀w∈mF,32∉w.cps.toList/\10∉w.cps.toList:=by decide +kernel
 exact this w h
def fW.free{ws:List Str}{r:dw}(h:fW ws r):ws≠[]/\∀w∈ws,32∉w.cps.toList/\10∉w.cps.toList:=by
 cases r with
 |part x ps=>
  obtain⟨rfl,nx,np⟩:=h;refine⟨by simp,λw hw=>?_⟩;rcases aE.mp hw with rfl|hw
  ·exact iY (by decide +kernel)
  ·rcases aE.mp hw with rfl|hw
   ·exact jj nx
   ·exact jj (np w hw)
 |num x z=>
  obtain⟨y,rfl,nx,nb,_⟩:=h;refine⟨by simp,λw hw=>?_⟩;simp only[aE,bj,or_false] at hw;rcases hw with rfl|rfl|rfl
  ·exact jj nx
  ·exact iY (by decide +kernel)
  ·exact D5 nb
 |op x s a b=>
  obtain⟨rfl,nx,ns,na,nb⟩:=h;refine⟨by simp,λw hw=>?_⟩;simp only[aE,bj,or_false] at hw;rcases hw with rfl|rfl|rfl|rfl|rfl
  ·exact jj nx
  ·exact iY (by decide +kernel)
  ·exact jj na
  ·exact Lp ns
  ·exact jj nb
 |call x f as=>
  obtain⟨rfl,nx,nf,na⟩:=h;refine⟨by simp,λw hw=>?_⟩;simp only[aE] at hw;rcases hw with rfl|rfl|rfl|rfl|hw
  ·exact jj nx
  ·exact iY (by decide +kernel)
  ·exact iY (by decide +kernel)
  ·exact jj nf
  ·exact jj (na w hw)
 |say a=>
  obtain⟨rfl,n⟩:=h;refine⟨by simp,λw hw=>?_⟩;simp only[aE,bj,or_false] at hw;rcases hw with rfl|rfl
  ·exact iY (by decide +kernel)
  ·exact jj n
 |jump to=>
  obtain⟨y,rfl,n,_⟩:=h;refine⟨by simp,λw hw=>?_⟩;simp only[aE,bj,or_false] at hw;rcases hw with rfl|rfl
  ·exact iY (by decide +kernel)
  ·exact D5 n
 |test a to=>
  obtain⟨y,rfl,n,m,_⟩:=h;refine⟨by simp,λw hw=>?_⟩;simp only[aE,bj,or_false] at hw;rcases hw with rfl|rfl|rfl
  ·exact iY (by decide +kernel)
  ·exact jj n
  ·exact D5 m
 |give a=>
  obtain⟨rfl,n⟩:=h;refine⟨by simp,λw hw=>?_⟩;simp only[aE,bj,or_false] at hw;rcases hw with rfl|rfl
  ·exact iY (by decide +kernel)
  ·exact jj n
def Eb{wss:List (List Str)}{ls:List dw}(ne:wss≠[])(hl:wss.length=ls.length)(h:∀(i:Nat) ws r,wss[i]?=some ws->ls[i]?=some r->fW ws r):parse (Txt.join "\n" (wss.map (Txt.join " ")))=ls.map some:=by
 have at_:∀ws∈wss,∃r,fW ws r:=λws hw=>by
  obtain⟨i,hi,e⟩:=b7.mp hw;exact⟨_,h i ws ls[i] (by rw[ao hi,e]) (ao (by lia))⟩
 unfold parse;rw[UJ,Vh,vk (by simpa using ne) (λx hx=>by
  obtain⟨ws,hw,rfl⟩:=bF.mp hx;obtain⟨r,hr⟩:=at_ ws hw;exact Fy (by decide) λw h'=>(hr.free.2 w h').2)]
 rw[dN];apply jH;intro i;rw[aQ,aQ];by_cases hi:i<wss.length
 ·rw[ao hi,ao (show i<ls.length by lia)];have lr:=h i wss[i] ls[i] (ao hi) (ao (by lia));show some (lineOf? (Txt.split (Txt.join ⟨#[32]⟩ wss[i]) ⟨#[32]⟩))=some (some ls[i]);rw[vk lr.free.1 (λw hw=>(lr.free.2 w hw).1),rb lr]
 ·rw[cS (by lia),cS (by lia)];rfl
def jA(ps:List bp):dQ->Prop
 |.num x z=>Nm x/\IR z
 |.op x s a b=>Nm x/\s∈mF/\Nm a/\Nm b
 |.call x k as=>Nm x/\0<=k/\k<ps.length/\as.length<=8/\∀a∈as,Nm a
 |.say a=>Nm a
 |.jump to=>IR to
 |.test a to=>Nm a/\IR to
 |.give a=>Nm a
structure vQ(ps:List bp)(b:bp):Prop where
 nm:Nm b.name
 p8:b.params.length<=8
 pn:∀y∈b.params,Nm y
 few:b.rows.length<64
 rows:∀r∈b.rows,jA ps r
structure jO(ps:List bp):Prop where
 pos:ps≠[]
 few:ps.length<=8
 part:∀b∈ps,vQ ps b
def Os{w:Str}(h:w∈mF):w.length<=8:=by
 have:∀w∈mF,w.length<=8:=by decide +kernel
 exact this w h
def jA.wr{ps:List bp}{r:dQ}(h:jA ps r):xk ps r:=by
 cases r with
 |num x z=>exact⟨h.1.l8,h.2⟩
 |op x s a b=>exact⟨h.1.l8,Os h.2.1,h.2.2.1.l8,h.2.2.2.l8⟩
 |call x k as=>exact⟨h.1.l8,h.2.1,h.2.2.1,h.2.2.2.1,λa ha=>(h.2.2.2.2 a ha).l8⟩
 |say a=>exact Nm.l8 h
 |jump to=>exact h
 |test a to=>exact⟨h.1.l8,h.2⟩
 |give a=>exact Nm.l8 h
def jO.wr{ps:List bp}(h:jO ps):mj ps:=⟨h.few,λb hb=>by
 have p:=h.part b hb;exact⟨p.nm.l8,p.p8,λy hy=>(p.pn y hy).l8,by have:=p.few;lia,λr hr=>(p.rows r hr).wr⟩⟩
def jO.wd{ps:List bp}(h:jO ps):qU ps:=⟨by have:=h.few;lia,λb hb=>by
 have p:=h.part b hb;refine⟨by have:=p.p8;lia,p.few,λr hr=>?_⟩;have q:=p.rows r hr;cases r with
 |call x k as=>have:=q.2.2.2.1;show as.length<=100;lia
 |op x s a b=>show 2<=100;decide
 |num x z=>show 0<=100;decide
 |say a=>show 1<=100;decide
 |jump t=>show 0<=100;decide
 |test a t=>show 1<=100;decide
 |give a=>show 1<=100;decide⟩
def qm(ps:List bp):dQ->dw
 |.num x z=>.num x z.toNat
 |.op x s a b=>.op x s a b
 |.call x k as=>.call x (pO ps k) as
 |.say a=>.say a
 |.jump to=>.jump to.toNat
 |.test a to=>.test a to.toNat
 |.give a=>.give a
def zL(ps:List bp)(r:dQ):lq (qm ps r)=false/\ud (qm ps r)=none:=by cases r<;>exact⟨rfl,rfl⟩
def pK(ps:List bp)(b:bp):List dw:=.part b.name b.params::b.rows.map (qm ps)
def ub(ps:List bp):List dw:=(ps.map (pK ps)).flatten
def EC(ps:List bp)(b:bp):List (List Str):=(("part":Str)::b.name::b.params)::b.rows.map (lI ps)
def rY{ps:List bp}{k:Int}(h0:0<=k)(h1:k<ps.length):∃b,ps[k.toNat]?=some b/\b∈ps/\pO ps k=b.name:=by
 have hk:k.toNat<ps.length:=by lia
 refine⟨ps[k.toNat],ao hk,dZ hk,?_⟩;unfold pO;rw[ao hk];rfl
def OO{ps:List bp}(hp:jO ps){r:dQ}(h:jA ps r):fW (lI ps r) (qm ps r):=by
 cases r with
 |num x z=>
  obtain⟨nb,v⟩:=Nq h.2;exact⟨_,rfl,h.1,nb,by lia,by have:=h.2.2;lia⟩
 |op x s a b=>exact⟨rfl,h.1,h.2.1,h.2.2.1,h.2.2.2⟩
 |call x k as=>
  obtain⟨b,_,hb,e⟩:=rY h.2.1 h.2.2.1;exact⟨rfl,h.1,by rw[e];exact(hp.part b hb).nm,h.2.2.2.2⟩
 |say a=>exact⟨rfl,h⟩
 |jump to=>
  obtain⟨nb,v⟩:=Nq (z:=to) h;exact⟨_,rfl,nb,by lia⟩
 |test a to=>
  obtain⟨nb,v⟩:=Nq h.2;exact⟨_,rfl,h.1,nb,by lia⟩
 |give a=>exact⟨rfl,h⟩
def xA(ps:List bp):∀(bs:List bp),(bs.map (eA ps)).flatten=((bs.map (EC ps)).flatten).map (Txt.join " ")
 |[]=>rfl
 |b::bs=>by
  rw[aY,cO,aY,cO,aG,<-xA ps bs];congr 1;unfold eA EC;rw[aY,dN];rfl
inductive uF{α β:Type}(R:α->β->Prop):List α->List β->Prop where
 |nil:uF R [] []
 |cons {a:α} {b:β} {as:List α} {bs:List β}:R a b->uF R as bs->uF R (a::as) (b::bs)
def uF.app{α β:Type}{R:α->β->Prop}{as as':List α}{bs bs':List β}(h:uF R as bs)(h':uF R as' bs'):uF R (as++as') (bs++bs'):=by
 induction h with
 |nil=>exact h'
 |cons r _ ih=>exact .cons r ih
def uF.len{α β:Type}{R:α->β->Prop}{as:List α}{bs:List β}(h:uF R as bs):as.length=bs.length:=by
 induction h with
 |nil=>rfl
 |cons r _ ih=>rw[aP,aP,ih]
def uF.get{α β:Type}{R:α->β->Prop}{as:List α}{bs:List β}(h:uF R as bs):∀(i:Nat) a b,as[i]?=some a->bs[i]?=some b->R a b:=by
 induction h with
 |nil=>intro i a b h;simp at h
 |cons r _ ih=>
  intro i a b h1 h2;cases i with
  |zero=>simp at h1 h2;rw[<-h1,<-h2];exact r
  |succ i=>exact ih i a b (by simpa using h1) (by simpa using h2)
def Cc{ps:List bp}(hp:jO ps):∀(bs:List bp),(∀b∈bs,b∈ps)->uF fW ((bs.map (EC ps)).flatten) ((bs.map (pK ps)).flatten)
 |[],_=>.nil
 |b::bs,h=>by
  have p:=hp.part b (h b (by simp));rw[aY,cO,aY,cO];refine uF.app (.cons ⟨rfl,p.nm,p.pn⟩ ?_) (Cc hp bs λc hc=>h c (bx _ hc));have:∀(rs:List dQ),(∀r∈rs,jA ps r)->uF fW (rs.map (lI ps)) (rs.map (qm ps)):=λrs=>by
   induction rs with
   |nil=>exact λ_=>.nil
   |cons r rs ih=>exact λhr=>.cons (OO hp (hr r (by simp))) (ih λq hq=>hr q (bx _ hq))
  exact this b.rows p.rows
def zU{ps:List bp}(hp:jO ps):parse (rQ ps)=(ub ps).map some:=by
 have a:=Cc hp ps λ_ h=>h;unfold rQ lB;rw[xA];refine Eb ?_ a.len a.get;cases ps with
 |nil=>exact absurd rfl hp.pos
 |cons b bs=>rw[aY,cO];unfold EC;simp
def MS{ps:List bp}(hp:ps≠[])(n:Nat):¬oG ((ub ps).map some) n:=by
 rintro(h|⟨_,r,h,q⟩)
 ·rw[aQ] at h;obtain⟨x,_,e⟩:=b5.mp h;cases e
 ·cases ps with
  |nil=>exact hp rfl
  |cons b bs=>
   have:((ub (b::bs)).map some)[0]?=some (some (.part b.name b.params)):=rfl;rw[this] at h;cases h;cases q
def zN(ps:List bp):∀(rs:List dQ),(rs.map (qm ps)).filterMap ud=[]
 |[]=>rfl
 |r::rs=>by rw[aY,dE,(zL ps r).2];exact zN ps rs
def xC(ps:List bp):∀(bs:List bp),((bs.map (pK ps)).flatten).filterMap ud=bs.map (·.name)
 |[]=>rfl
 |b::bs=>by
  rw[aY,cO,List.filterMap_append,xC ps bs];unfold pK;rw[dE,zN];rfl
def Np(ps:List bp):gf (ub ps)=ps.map (·.name):=xC ps ps
def KQ{ps:List bp}{x:dw}(h:x∈ub ps):(∃b∈ps,x=.part b.name b.params)\/∃b∈ps,∃r∈b.rows,x=qm ps r:=by
 obtain⟨l,hl,hx⟩:=List.mem_flatten.mp h;obtain⟨b,hb,rfl⟩:=bF.mp hl;rcases aE.mp hx with e|e
 ·exact .inl ⟨b,hb,e⟩
 ·obtain⟨r,hr,rfl⟩:=bF.mp e;exact .inr ⟨b,hb,r,hr,rfl⟩
def Ms{ps:List bp}(hp:jO ps)(n:Nat):¬sP (ub ps) n:=by
 rintro⟨x,f,as,e,nf⟩;rcases KQ (aD e) with⟨b,_,z⟩|⟨b,hb,r,hr,z⟩
 ·cases z
 ·have q:=(hp.part b hb).rows r hr;cases r with
  |call x' k as'=>
   have z:dw.call x f as=.call x' (pO ps k) as':=z;injection z with _ z _;obtain⟨c,_,hc,e'⟩:=rY q.2.1 q.2.2.1;rw[Np] at nf;exact nf (by rw[z,e'];exact bF.mpr ⟨c,hc,rfl⟩)
  |_=>cases z
def xq:∀{xs:List Str} {i:Nat} {y:Str},xs.Nodup->xs[i]?=some y->jQ xs y=i
 |[],i,y,_,h=>by simp at h
 |x::xs,0,y,_,h=>by
  have:x=y:=by simpa using h
  unfold jQ;rw[if_pos this]
 |x::xs,i+1,y,nd,h=>by
  have h:xs[i]?=some y:=by simpa using h
  have ne:x≠y:=λz=>(dC.mp nd).1 (by rw[z];exact aD h);unfold jQ;rw[if_neg ne,xq (dC.mp nd).2 h]
def Ol{ps:List bp}(nd:(ps.map (·.name)).Nodup){r:dQ}(h:jA ps r):sU (ps.map (·.name)) (qm ps r)=r:=by
 cases r with
 |num x z=>
  show dQ.num x ((z.toNat:Nat):Int)=_;rw[show((z.toNat:Nat):Int)=z from by have:=h.2.1;lia]
 |op x s a b=>rfl
 |call x k as=>
  obtain⟨b,e,_,e'⟩:=rY h.2.1 h.2.2.1;show dQ.call x ((jQ (ps.map (·.name)) (pO ps k):Nat):Int) as=_;rw[xq (i:=k.toNat) nd (by rw[aQ,e,e'];rfl),show((k.toNat:Nat):Int)=k from by have:=h.2.1;lia]
 |say a=>rfl
 |jump to=>
  show dQ.jump ((to.toNat:Nat):Int)=_;rw[show((to.toNat:Nat):Int)=to from by have h':IR to:=h;have:=h'.1;lia]
 |test a to=>
  show dQ.test a ((to.toNat:Nat):Int)=_;rw[show((to.toNat:Nat):Int)=to from by have:=h.2.1;lia]
 |give a=>rfl
def DI{nm:List Str}{acc:List bp}{r:dw}(h:lq r=false):Mp nm acc r=vW acc (sU nm r):=by
 cases r<;>first|rfl|cases h
def qV(acc:List bp)(b:bp)(w:dQ):vW (acc++[b]) w=acc++[⟨b.name,b.params,b.rows++[w]⟩]:=by
 unfold vW;rw[List.dropLast_concat,List.getLast?_concat];rfl
def E6{ps:List bp}{nm:List Str}:∀(rs:List dQ) (acc:List bp) (b:bp),(∀r∈rs,sU nm (qm ps r)=r)->(rs.map (qm ps)).foldl (Mp nm) (acc++[b])=acc++[⟨b.name,b.params,b.rows++rs⟩]
 |[],acc,b,_=>by rw[dn];rfl
 |r::rs,acc,b,h=>by
  rw[aY,jf,DI (zL ps r).1,qV,h r (by simp),E6 rs acc _ λq hq=>h q (bx _ hq)];show acc++[(⟨b.name,b.params,(b.rows++[r])++rs⟩:bp)]=_;rw[dM];rfl
def Cm{ps:List bp}{nm:List Str}:∀(bs acc:List bp),(∀b∈bs,∀r∈b.rows,sU nm (qm ps r)=r)->((bs.map (pK ps)).flatten).foldl (Mp nm) acc=acc++bs
 |[],acc,_=>by rw[dn];rfl
 |b::bs,acc,h=>by
  rw[aY,cO,mS];have:(pK ps b).foldl (Mp nm) acc=acc++[b]:=by
   unfold pK;rw[jf];show(b.rows.map (qm ps)).foldl (Mp nm) (acc++[⟨b.name,b.params,[]⟩])=_;rw[E6 b.rows acc _ (h b (by simp))];rfl
  rw[this,Cm bs _ λc hc=>h c (bx _ hc),dM];rfl
def Ld{ps:List bp}(hp:jO ps)(nd:(ps.map (·.name)).Nodup):u7 (ub ps)=ps:=by
 unfold u7;rw[Np];have:=Cm (ps:=ps) (nm:=ps.map (·.name)) ps [] λb hb r hr=>Ol nd ((hp.part b hb).rows r hr);rw[List.nil_append] at this;exact this
def Jw{ps:List bp}(hn:∀b∈ps,b.name.length<=8){r:dQ}(h:xk ps r):∃n b,n<=12/\b<=20/\n*(b+1)<=108/\(lI ps r).length<=n/\∀w∈lI ps r,w.length<=b:=by
 have c1:("=":Str).length<=8:=by decide +kernel
 have c2:("call":Str).length<=8:=by decide +kernel
 have c3:("say":Str).length<=8:=by decide +kernel
 have c4:("jump":Str).length<=8:=by decide +kernel
 have c5:("test":Str).length<=8:=by decide +kernel
 have c6:("give":Str).length<=8:=by decide +kernel
 cases r with
 |num x z=>
  refine⟨3,20,by decide,by decide,by decide,aB _,λw hw=>?_⟩;have hw:w∈[x,"=",sN z]:=hw;simp only[aE,bj,or_false] at hw;rcases hw with rfl|rfl|rfl
  ·have:=h.1;lia
  ·lia
  ·exact ur h.2
 |op x s a b=>
  refine⟨5,8,by decide,by decide,by decide,aB _,λw hw=>?_⟩;have hw:w∈[x,"=",a,s,b]:=hw;simp only[aE,bj,or_false] at hw;obtain⟨h1,h2,h3,h4⟩:=h;rcases hw with rfl|rfl|rfl|rfl|rfl
  ·lia
  ·exact c1
  ·lia
  ·lia
  ·lia
 |call x k as=>
  obtain⟨h1,h2,h3,h4,h5⟩:=h;refine⟨12,8,by decide,by decide,by decide,(by show as.length+4<=12;lia),λw hw=>?_⟩;have hw:w∈x::"="::"call"::pO ps k::as:=hw;simp only[aE] at hw;rcases hw with rfl|rfl|rfl|rfl|hw
  ·lia
  ·exact c1
  ·exact c2
  ·obtain⟨b,_,hb,e⟩:=rY h2 h3;rw[e];exact hn b hb
  ·exact h5 w hw
 |say a=>
  refine⟨2,8,by decide,by decide,by decide,aB _,λw hw=>?_⟩;have hw:w∈(["say",a]:List Str):=hw;simp only[aE,bj,or_false] at hw;rcases hw with rfl|rfl
  ·exact c3
  ·exact h
 |jump to=>
  refine⟨2,20,by decide,by decide,by decide,aB _,λw hw=>?_⟩;have hw:w∈(["jump",sN to]:List Str):=hw;simp only[aE,bj,or_false] at hw;rcases hw with rfl|rfl
  ·lia
  ·exact ur h
 |test a to=>
  refine⟨3,20,by decide,by decide,by decide,aB _,λw hw=>?_⟩;have hw:w∈(["test",a,sN to]:List Str):=hw;simp only[aE,bj,or_false] at hw;rcases hw with rfl|rfl|rfl
  ·lia
  ·have:=h.1;lia
  ·exact ur h.2
 |give a=>
  refine⟨2,8,by decide,by decide,by decide,aB _,λw hw=>?_⟩;have hw:w∈(["give",a]:List Str):=hw;simp only[aE,bj,or_false] at hw;rcases hw with rfl|rfl
  ·exact c6
  ·exact h
def Ng{ps:List bp}(hn:∀b∈ps,b.name.length<=8){r:dQ}(h:xk ps r):(lI ps r).length<=12/\∀w∈lI ps r,w.length<=20:=by
 obtain⟨n,b,h1,h2,_,h4,h5⟩:=Jw hn h;exact⟨by lia,λw hw=>by have:=h5 w hw;lia⟩
def Vg:(" ":Str).length=1:=by decide +kernel
def Vs:("\n":Str).length=1:=by decide +kernel
def KP{ps:List bp}(hn:∀b∈ps,b.name.length<=8){r:dQ}(h:xk ps r):(uZ ps r).length<=108:=by
 obtain⟨n,b,_,_,h3,h4,h5⟩:=Jw hn h;have h6:=wj (sep:=" ") h5;rw[Vg] at h6;have:(lI ps r).length*(b+1)<=n*(b+1):=dv _ h4;show(Txt.join " " (lI ps r)).length<=108;lia
def se{ps:List bp}{b:bp}(h:DC ps b):(("part":Str)::b.name::b.params).length<=10/\∀w∈("part":Str)::b.name::b.params,w.length<=8:=by
 refine⟨by have:=h.p8;show b.params.length+2<=10;lia,λw hw=>?_⟩;simp only[aE] at hw;rcases hw with rfl|rfl|hw
 ·decide +kernel
 ·exact h.nm
 ·exact h.pl w hw
def Kx{ps:List bp}{b:bp}(h:DC ps b):(mw b).length<=108:=by
 obtain⟨h1,h2⟩:=se h;have:=wj (sep:=" ") h2;rw[Vg] at this;have:(("part":Str)::b.name::b.params).length*9<=10*9:=dv _ h1;show(Txt.join " " (("part":Str)::b.name::b.params)).length<=108;lia
def HC{ps:List bp}(hp:mj ps){b:bp}(hb:b∈ps):(eA ps b).length<=65/\∀y∈eA ps b,y.length<=108:=by
 have p:=hp.part b hb;refine⟨by unfold eA;rw[aP,af];have:=p.few;lia,λy hy=>?_⟩;rcases aE.mp hy with rfl|hy
 ·exact Kx p
 ·obtain⟨r,hr,rfl⟩:=bF.mp hy;exact KP (λc hc=>(hp.part c hc).nm) (p.rows r hr)
def wz{ps:List bp}(hp:mj ps):∀(bs:List bp),(∀b∈bs,b∈ps)->((bs.map (eA ps)).flatten).length<=bs.length*65/\∀y∈(bs.map (eA ps)).flatten,y.length<=108
 |[],_=>⟨b9 _,λy hy=>by cases hy⟩
 |b::bs,h=>by
  obtain⟨i1,i2⟩:=wz hp bs λc hc=>h c (bx _ hc);obtain⟨j1,j2⟩:=HC hp (h b (by simp));rw[aY,cO];refine⟨by rw[aN,aP];lia,λy hy=>?_⟩;rcases aV.mp hy with z|z
  ·exact j2 y z
  ·exact i2 y z
def pL{ps:List bp}(hp:mj ps):(lB ps).length<=520/\∀y∈lB ps,y.length<=108:=by
 obtain⟨h1,h2⟩:=wz hp ps λ_ h=>h;have:=hp.few;have:ps.length*65<=8*65:=dv _ this;exact⟨by show((ps.map (eA ps)).flatten).length<=520;lia,h2⟩
def Dd{ps:List bp}(hp:mj ps):(rQ ps).length<=90000:=by
 obtain⟨h1,h2⟩:=pL hp;have:=wj (sep:="\n") h2;rw[Vs] at this;have:(lB ps).length*109<=520*109:=dv _ h1;show(Txt.join "\n" (lB ps)).length<=_;lia
def dr.up(b:dr):bp:=⟨b.name,b.params,b.rows.map bU.up⟩
def dr.up_low(b:dr):b.up.low=b:=by
 have:(b.rows.map bU.up).map dQ.low=b.rows:=by
  rw[dN];exact(i4 λr _=>bU.up_low r).trans (wZ _)
 show(⟨b.name,b.params,(b.rows.map bU.up).map dQ.low⟩:dr)=b;rw[this]
def Ug(r:bU):we r.up=jS r:=by cases r<;>rfl
def KU{bs:List dr}{k:Nat}{b:dr}(nd:(bs.map (·.name)).Nodup)(e:bs[k]?=some b):b.name∉(bs.take k).map (·.name):=λz=>by
 obtain⟨b',hb',en⟩:=bF.mp z;obtain⟨j,hj,ej⟩:=b7.mp hb';rw[aX] at hj;have lt:j<k:=by lia
 rw[List.getElem_take] at ej;have e1:(bs.map (·.name))[j]?=some b.name:=by rw[aQ,ao (by lia),ej];exact congrArg some en
 have e2:(bs.map (·.name))[k]?=some b.name:=by rw[aQ,e];rfl
 have lk:=(aj.mp e2).1;have lj:=(aj.mp e1).1;have:=(List.getElem?_inj lj nd).mp (e1.trans e2.symm);lia
def Sf(bs:List dr):sE (bs.map dr.up)=bs.map (·.params.length):=by
 show(bs.map dr.up).map _=_;rw[dN];rfl
def Hw{ys:List Str}{cs:List Nat}{bs:List dr}(ok:tY ys cs bs):vK (bs.map dr.up):=λk b' e=>by
 rw[aQ] at e;obtain⟨b,hb,rfl⟩:=b5.mp e;have bm:=aD hb;have sh:=ok.sh.part b bm;have pos:=sh.good.pos;refine⟨?_,λm=>?_,λm rg=>?_,λm u=>?_⟩
 ·rintro(z|z)
  ·refine KU ok.nnd hb ?_;have:((bs.map dr.up).take k).map (·.name)=(bs.take k).map (·.name):=by rw[<-fO,dN];rfl
   rw[this] at z;exact z
  ·exact z sh.pnd
 ·rintro(⟨z,_⟩|⟨r,er,z⟩)
  ·have:(b.rows.map bU.up).length=0:=by rw[show b.rows.map bU.up=[] from z];rfl
   rw[af] at this;lia
  ·have er:(b.rows.map bU.up)[m]?=some r:=er;have ll:b.up.rows.length=b.rows.length:=af ..;rw[aQ] at er;obtain⟨r0,e0,rfl⟩:=b5.mp er;have rm:=aD e0;rw[ll,Sf] at z;rcases z with z|⟨z,y⟩
   ·cases r0 with
    |call x k as=>
     rcases(show((k:Nat):Int)<0\/_ from z) with w|w
     ·lia
     ·exact w (by rw[dJ];exact sh.calls x k as rm)
    |jump t=>
     have:=sh.gl _ rm t rfl;rcases(show((t:Nat):Int)<0\/(b.rows.length:Int)<=(t:Nat) from z) with w|w<;>lia
    |test a t=>
     have:=sh.gl _ rm t rfl;rcases(show((t:Nat):Int)<0\/(b.rows.length:Int)<=(t:Nat) from z) with w|w<;>lia
    |num x z'=>exact z
    |op x s a b=>exact z
    |say a=>exact z
    |give a=>exact z
   ·rw[Ug] at y;have la:=sh.last;rw[cG,show b.rows.length-1=m from by lia,e0] at la;have:=Option.some.inj la;rw[y] at this;cases this
 ·rw[dr.up_low] at rg;obtain⟨⟨r0,e0,_⟩,_⟩:=id rg;have lt:=(aj.mp e0).1;obtain⟨r,er,jr⟩:=rg.jumps b.rows.length;rw[sh.good.ring m lt r er] at jr;cases jr
 ·rw[dr.up_low] at u;exact(ok.part b bm).clean m u
def lh.up{H:Hp}{v:V}{b:dr}(h:lh H v b):jh H v b.up:=by
 obtain⟨p,q,r,rs,e,h1,h2,h3,h4⟩:=h;refine⟨p,q,r,rs,e,h1,h2,h3,by rw[h4.len];exact(af ..).symm,λi v r' ev er=>?_⟩;have er:(b.rows.map bU.up)[i]?=some r':=er;rw[aQ] at er;obtain⟨r0,e0,rfl⟩:=b5.mp er;exact(h4.at_ i v r0 ev e0).up
def Ru{H:Hp}{pvs:List V}{bs:List dr}(h:b3 (lh H) pvs bs):b3 (jh H) pvs (bs.map dr.up):=by
 refine⟨by rw[h.len,af],λi v b' ev eb=>?_⟩;rw[aQ] at eb;obtain⟨b,e0,rfl⟩:=b5.mp eb;exact(h.at_ i v b ev e0).up
def Uk(x y:V):Prop:=(∃z:Str,x=.str z/\y=.str z)\/∃z:Int,x=.int z/\y=.int z
def GU(H:Hp):Nat->V->V->Prop
 |0,x,y=>Uk x y
 |d+1,x,y=>Uk x y\/∃(p q:ar) (xs ys:List V),x=.ref p/\y=.ref q/\H p=some (.tup xs)/\H q=some (.tup ys)/\xs.length=ys.length/\xs.length<=10000/\∀(i:Nat) u v,xs[i]?=some u->ys[i]?=some v->GU H d u v
def vh(d:Nat):Sp:=λvs H Q _=>∃(x y:V),vs=[x,y]/\GU H d x y/\∀(H':Hp),aK H H'->Q (.bl true) H'
def u6:Nat->Sp
 |0=>λ_ _ _ _=>False
 |d+1=>vh d
abbrev rE(_:Fg):Sp:=vh 6
def An(K:Fg):Sp:=λvs H Q _=>∃(st p:ar) (k:Nat) (ys:List Str) (cs:List Nat) (bs:List dr),vs=[.ref st,.ref p]/\j9 K H st k/\k<=100000/\R3 H p bs/\tY ys cs bs/\(∀b∈bs,b.rows.length<=21)/\
 ∀(p':ar) (ps:List bp) (k':Nat) (H':Hp),eQ H' p' ps->jO ps->(ps.map (·.name)).Nodup->j9 K H' st k'->gc st H H'->Q (.ref p') H'
def yL(K:Fg):Sp:=λvs H Q _=>∃(ps:List bp),vs=[.str (rQ ps)]/\jO ps/\(ps.map (·.name)).Nodup/\
 (vK ps->∀(q p:ar) (H':Hp),H' q=some (.tup [.str "read",.ref p])->eQ H' p ps->aK H H'->Q (.ref q) H')/\
 (¬vK ps->∀(q:ar) (w:Str) (H':Hp),H' q=some (.tup [.str "refused",.str w])->aK H H'->Q (.ref q) H')
def mJ(_:Fg):Sp:=λvs H Q _=>∃(p:ar) (ps:List bp),vs=[.ref p]/\eQ H p ps/\mj ps/\∀(H':Hp),aK H H'->Q (.bl true) H'
abbrev IV:Nat:=7
abbrev PU:Nat:=1
abbrev Pa:Nat:=2
abbrev Sz:Nat:=6
abbrev RX:Nat:=7
abbrev KL:Nat:=3
abbrev J4:Nat:=4
abbrev RC:Nat:=7
abbrev LZ:Nat:=8
end Bg
end
section
namespace Bg
open PySem PySem.Spec PyProof.Rows L2
abbrev G8:List Str:=["row"]
abbrev B0:List Str:=["row","word"]
def GB(K:Fg):TS:=(cK (e6 aJ))
def GC(K:Fg):TS:=(bC (de (bH (bq ((EG K false)) (au 1) (e6 (ai (tC (.str "say")) (ai (tC (.str "test")) (ai (tC (.str "give")) aJ)))))) (cK (e6 (ai (bq (cV K) (au 0) (tC (.int 1))) aJ))) bY) (GB K))
def GD(K:Fg):TS:=(bC (de (bH (bq (fb K) (au 1) (tC (.str "call")))) (cK (fS (hV K) (ai (bq (cV K) (au 0) (tC (.int 3))) aJ))) bY) (GC K))
def GE(K:Fg):TS:=(bC (de (bH (bq (fb K) (au 1) (tC (.str "op")))) (cK (e6 (ai (bq (cV K) (au 0) (tC (.int 3))) (ai (bq (cV K) (au 0) (tC (.int 4))) aJ)))) bY) (GD K))
def C3(K:Fg):TS:=(bC (cu (bq (cV K) (au 0) (tC (.int 0))) (aW 1)) (GE K))
abbrev J9:List Str:=["row"]
abbrev EX:List Str:=["row"]
def IC(K:Fg):TS:=(cK (tC .non))
def GF(K:Fg):TS:=(bC (de (bH (bq ((EG K false)) (bq (cV K) (au 0) (tC (.int 0))) (e6 (ai (tC (.str "num")) (ai (tC (.str "op")) (ai (tC (.str "call")) aJ)))))) (cK (bq (cV K) (au 0) (tC (.int 1)))) bY) (IC K))
abbrev Ca:List Str:=["row"]
abbrev za:List Str:=["row"]
def Iz(K:Fg):TS:=(cK (tC .non))
def IA(K:Fg):TS:=(bC (de (bH (bq (fb K) (bq (cV K) (au 0) (tC (.int 0))) (tC (.str "test")))) (cK (bq (cV K) (au 0) (tC (.int 2)))) bY) (Iz K))
def AE(K:Fg):TS:=(bC (de (bH (bq (fb K) (bq (cV K) (au 0) (tC (.int 0))) (tC (.str "jump")))) (cK (bq (cV K) (au 0) (tC (.int 1)))) bY) (IA K))
abbrev G7:List Str:=["rows","n"]
abbrev BZ:List Str:=["rows","n","word"]
def Gw(K:Fg):TS:=(cK (e6 (ai (bq (d9 K) (au 1) (tC (.int 1))) aJ)))
def Gx(K:Fg):TS:=(bC (de (bH (bq (fb K) (au 2) (tC (.str "test")))) (cK (e6 (ai (bq (d9 K) (au 1) (tC (.int 1))) (ai (bE (oX K) [] E0 (ai (bq (cV K) (au 0) (au 1)) aJ)) aJ)))) bY) (Gw K))
def Gy(K:Fg):TS:=(bC (de (bH (bq (fb K) (au 2) (tC (.str "jump")))) (cK (e6 (ai (bE (oX K) [] E0 (ai (bq (cV K) (au 0) (au 1)) aJ)) aJ))) bY) (Gx K))
def Gz(K:Fg):TS:=(bC (de (bH (bq (fb K) (au 2) (tC (.str "give")))) (cK (e6 aJ)) bY) (Gy K))
def C2(K:Fg):TS:=(bC (cu (bq (cV K) (bq (cV K) (au 0) (au 1)) (tC (.int 0))) (aW 2)) (Gz K))
abbrev kP:List Str:=["rows","unset"]
abbrev tW:List Str:=["rows","unset","found","waiting","n","to"]
def Et(K:Fg):TS:=(cK (fS N7 (ai (au 2) aJ)))
def Eu(K:Fg):TS:=(gM (qt K "list" f9 (au 3) (ai (au 5) aJ)))
def pZ(K:Fg):TS:=(de (bH (bq ((HZ true)) (au 5) (au 2))) (bC (cu (tC (.bl true)) (t9 (au 2) (au 5) F0)) (Eu K)) bY)
def vB(K:Fg):TS:=(de (Lr (bH (bq (U3) (au 1) (tC .non))) (bH (bq (FY K) (bE (wM K) [] E0 (ai (bq (cV K) (au 0) (au 4)) aJ)) (au 1)))) (kC (jR K (bE (pS K) [] E0 (ai (au 0) (ai (au 4) aJ)))) (aW 5) (pZ K)) bY)
def Ew(K:Fg):TS:=(bC (cu (Rh K "list" U9 (au 3)) (aW 4)) (vB K))
def vC(K:Fg):TS:=(bC (wQ (bH (bq (FV) (fS (gA K) (ai (au 3) aJ)) (tC (.int 0)))) (Ew K)) (Et K))
def vD(K:Fg):TS:=(bC (cu (iO (ai (tC (.int 0)) aJ)) (aW 3)) (vC K))
def AO(K:Fg):TS:=(bC (cu (Ox [((tC (.int 0)),(tC (.bl true)))]) (aW 2)) (vD K))
abbrev fo:List Str:=["self","part","row","word"]
abbrev kx:List Str:=["self","part","row","word"]
def uz(K:Fg):TS:=(CI K (au 0) (au 3) "word")
def uA(K:Fg):TS:=(bC (CI K (au 0) (au 2) "row") (uz K))
def oY(K:Fg):TS:=(bC (CI K (au 0) (au 1) "part") (uA K))
abbrev EY:List Str:=["part","row","word"]
abbrev zc:List Str:=["part","row","word"]
def AM(K:Fg)(E:XK):TS:=(de (bH (bq (RM) (au 1) (tC .non))) (uy K E (ux (eK K "NoProgram") (fu K) (ai (au 0) (ai (au 1) (ai (au 2) aJ))))) bY)
abbrev zg:List Str:=["part"]
abbrev nK:List Str:=["part","rows","due","name"]
def yA(K:Fg):TS:=(cK (Oz K (ai (au 2) aJ)))
def qE(K:Fg):TS:=(de (bH (bq ((EG K true)) (au 3) (bq (cV K) (au 0) (tC (.int 1))))) (gM (qt K "list" Ee (au 2) (ai (hW [] 1 (jR K (bE (kS K) [] E0 (ai (au 1) (ai (au 3) aJ)))) (aW 4) (bH (bq ((EG K false)) (au 3) (bE (pU K) [] E0 (ai (bq (cV K) (au 1) (au 4)) aJ)))) (au 4)) aJ))) bY)
def qF(K:Fg):TS:=(bC (kC (jR K (bE (lF K) [] E0 (ai (au 1) aJ))) (aW 3) (qE K)) (yA K))
def qG(K:Fg):TS:=(bC (cu (iO aJ) (aW 2)) (qF K))
def tK(K:Fg):TS:=(bC (cu (bq (cV K) (au 0) (tC (.int 2))) (aW 1)) (qG K))
abbrev yg:List Str:=["rows"]
abbrev qS:List Str:=["rows","names","row","name"]
def wR(K:Fg):TS:=(cK (fS N4 (ai (au 1) aJ)))
def oZ(K:Fg):TS:=(cu (tC (.bl true)) (t9 (au 1) (au 3) F0))
def pd(K:Fg):TS:=(kC (jR K (bE (pU K) [] E0 (ai (au 2) aJ))) (aW 3) (oZ K))
def pe(K:Fg):TS:=(bC (kC (jR K (au 0)) (aW 2) (pd K)) (wR K))
def rK(K:Fg):TS:=(bC (cu Aq (aW 1)) (pe K))
end Bg
end
section
namespace PySem
open Sem (wp)
open AutoSeq1 (wpAny_loadPart')
section
variable{prog:aZ}{w:bK}{A:bu}{E:Zi}{s:aq}
def HM{ib tb:ar}{i:Nat}{its:Array ae}{x:ae}{Q:Zi}(hib:s.heap.IsTupleIter ib tb i)(htb:s.heap.IsTuple tb its)(hx:its[i]?=some x)
  (hQ:∀h',h'.IsTupleIter ib tb (i+1)->Heap.SameBut ib s.heap h'->Q x {s with heap:=h'}):aM (model prog w) A (aS.SmallTypes.nextOf (.ref ib)) Q E s:=by
 obtain⟨ob,hob,hcb,hdb⟩:=id hib;obtain⟨ot,hot,_,nt,hdt⟩:=htb;unfold aS.SmallTypes.nextOf;refine aa (b8 (name:=Str.ofString "__next__") hib.typeIs F.slot_tuple_iterator_next (dq F.slot_tuple_iterator_next hib.typeIs F.entry_tuple_iterator_next ?_ (F.args_tuple_iterator_next_1 _)));show aM _ _ (field (.ref ib) 0 >>= _) _ _ s;refine aa (bQ hob hdb (x:=.ref tb) rfl ?_);show aM _ _ (if(ae.ref tb==ae.none)=true then _ else _) _ _ s;rw[if_neg (show ¬((ae.ref tb==ae.none)=true) from Bool.false_ne_true)];show aM _ _ (field (.ref ib) 1 >>= _) _ _ s;refine aa (bQ hob hdb (x:=.int i 0) rfl ?_);show aM _ _ (lU (.ref tb) >>= _) _ _ s;refine aa (dB hot hdt ?_);simp only[dJ,hx];refine aa (iE hob hdb (by simp) (az ⟨x,rfl,az (hQ _ ?_ (Heap.SameBut.update ..))⟩));exact⟨_,cA _ hob (Obj.isFreed_of_fields (Obj.data_mapFields hdb _)),(Obj.cls_mapFields ..).trans hcb,by rw[Obj.data_mapFields hdb];simp[ki]⟩
def CH{ib tb:ar}{i:Nat}{its:Array ae}{Q:Zi}(hh:A.handled=none)(hib:s.heap.IsTupleIter ib tb i)(htb:s.heap.IsTuple tb its)(hx:its[i]?=none)
  (hE:∀h' e,Heap.ExtBut ib s.heap h'->(∃o,h'.get? e=some o/\o.cls=.type "StopIteration")->E (.ref e) {s with heap:=h'}):aM (model prog w) A (aS.SmallTypes.nextOf (.ref ib)) Q E s:=by
 obtain⟨ob,hob,hcb,hdb⟩:=id hib;obtain⟨ot,hot,_,nt,hdt⟩:=htb;unfold aS.SmallTypes.nextOf;refine aa (b8 (name:=Str.ofString "__next__") hib.typeIs F.slot_tuple_iterator_next (dq F.slot_tuple_iterator_next hib.typeIs F.entry_tuple_iterator_next ?_ (F.args_tuple_iterator_next_1 _)));show aM _ _ (field (.ref ib) 0 >>= _) _ _ s;refine aa (bQ hob hdb (x:=.ref tb) rfl ?_);show aM _ _ (if(ae.ref tb==ae.none)=true then _ else _) _ _ s;rw[if_neg (show ¬((ae.ref tb==ae.none)=true) from Bool.false_ne_true)];show aM _ _ (field (.ref ib) 1 >>= _) _ _ s;refine aa (bQ hob hdb (x:=.int i 0) rfl ?_);show aM _ _ (lU (.ref tb) >>= _) _ _ s;refine aa (dB hot hdt ?_);simp only[dJ,hx];refine aa (iD (aa (iE hob hdb (by simp) ?_)));show aM _ _ (newExc (.type "StopIteration") [] >>= _) _ _ _;refine aa ?_;simp only[newExc,newTuple];refine aa (b4 ?_ (by size_fits));refine aa (m:=ma _ _) (kL (a:=ae.none) (by first|rfl|(simp only[ma];rfl)) ?_)
 refine b4 ?_ (by size_fits);simp only[raiseNew];refine aa (wpAny_handled ?_)
 first|rw[show A.in1.handled=none from hh]|rw[hh]
 refine aa (az (wpAny_throw ?_));exact hE _ _ (((Heap.SameBut.update ..).extBut.push _).push _) ⟨_,aO _ rfl,rfl⟩
end
def Sj{prog:aZ}{w:bK}{A:bu}(hh:A.handled=none)(ib tb:ar)(hne:tb≠ib)(its:Array ae) :
  Draws prog w A ib [ib,tb] its.size (λi v=>its[i]?=some v) (λi h=>h.IsTupleIter ib tb i/\h.IsTuple tb its) where
 live:=λ_ _ st=>let⟨o,ho,_⟩:=st.1;⟨o,ho⟩
 frame:=λ_ _ _ st hk=>⟨st.1.at λo e=>hk ib (by simp) o e,let⟨o,ho,r⟩:=st.2;⟨o,hk tb (by simp) o ho,r⟩⟩
 item:=λi s Q E hi st hQ=>HM st.1 st.2 (x:=its[i]) (by simp[hi]) λh' hit' hs'=>hQ _ h' s.toks (by simp[hi]) ⟨hit',st.2.extBut hs'.extBut hne⟩ hs'
 done:=λs Q E st hE=>CH hh st.1 st.2 (by simp) hE
def FJ(tb:ar)(its:Array ae)(n:Nat)(dct:Option ar)(sl:Array (Option ae)) :
  Meets (aS.«enumerate.__new__» ⟨[.type "enumerate",.ref tb],[]⟩) (λ_ R s=>s.heap.get? tb=some {cls:=.type "tuple",dict:=dct,data:=.seq its n,slots:=sl}/\
   R (.ok (.ret (.ref (s.heap.push {cls:=.type "tuple_iterator",data:=.fields #[.ref tb,.int 0 0]}).objs.size)))
    {s with heap:=(s.heap.push {cls:=.type "tuple_iterator",data:=.fields #[.ref tb,.int 0 0]}).push {cls:=.type "enumerate",data:=.fields #[.none,.bool false,.ref s.heap.objs.size,ki 0,.none,.none]}}):=
 .of_wp λprog w A R s h=>by
  obtain⟨hp,g,d,tk,os⟩:=s;obtain⟨hl,h⟩:=h;have hsub:=sub_enumerate;have hL:Heap.IsTuple (aq.heap ⟨hp,g,d,tk,os⟩) tb its:=⟨_,hl,rfl,n,rfl⟩
  wp_walk using wpAny_loadPart' hl
  refine wpAny_stack_any λst=>az ?_;split
  ·rename_i c _ _ _ _ _;cases(c==ae.type "enumerate")
   ·wp_walk using wpAny_loadPart' hl,fU hL
    exact⟨_,rfl,h⟩
   ·wp_walk using wpAny_loadPart' hl,fU hL
    exact⟨_,rfl,h⟩
  ·wp_walk using wpAny_loadPart' hl,fU hL
   exact⟨_,rfl,h⟩
def Hk{prog:aZ}{w:bK}{A:bu}{E:Zi}{s:aq}{tb:ar}{its:Array ae}{Q:Zi}(hL:s.heap.IsTuple tb its)
  (h:∀h',IsEnum h' (s.heap.objs.size+1) s.heap.objs.size 0 .none->h'.IsTupleIter s.heap.objs.size tb 0->h'.objs.size=s.heap.objs.size+2->(∀b o,s.heap.get? b=some o->h'.get? b=some o)->Q (.ref (s.heap.objs.size+1)) {s with heap:=h'}) :
  aM (model prog w) A (call (.type "enumerate") [.ref tb]) Q E s:=by
 obtain⟨⟨c,dct,dt,sl⟩,hl,hc,n,hd⟩:=hL
 replace hc:c=.type "tuple":=hc
 replace hd:dt=.seq its n:=hd
 subst hc hd;refine callType_new F.called_enumerate (by decide) (F.typeCall_enumerate_1 _) (F.newCall_enumerate_1 _) (λobj=>F.args_object_init_2 obj _) F.entry_enumerate_new (FJ tb its n dct sl) ⟨hl,?_⟩;have hz:(s.heap.push {cls:=.type "tuple_iterator",data:=.fields #[.ref tb,.int 0 0]}).objs.size=s.heap.objs.size+1:=cY ..;show _/\_;rw[hz];have he:IsEnum ((s.heap.push {cls:=.type "tuple_iterator",data:=.fields #[.ref tb,.int 0 0]}).push {cls:=.type "enumerate",data:=.fields #[.none,.bool false,.ref s.heap.objs.size,ki 0,.none,.none]}) (s.heap.objs.size+1) s.heap.objs.size 0 .none:=by
  have:=aO (s.heap.push {cls:=.type "tuple_iterator",data:=.fields #[.ref tb,.int 0 0]}) (o:={cls:=.type "enumerate",data:=.fields #[.none,.bool false,.ref s.heap.objs.size,ki 0,.none,.none]}) rfl;rw[hz] at this;exact this
 refine⟨⟨_,he,rfl⟩,h _ he ⟨_,ak _ (aO _ rfl),rfl,rfl⟩ (by rw[cY,hz]) λb o x=>ak _ (ak _ x)⟩
end PySem
namespace L2
open PySem PySem.Spec PyProof.Rows
def LX(K:Fg)(a:ar):It:=
 ⟨λi H=>∃xs x,dA K H a xs/\xs[i]?=some x,λi H x H'=>∃p v,H p=none/\x=.ref p/\H'=upd H p (.tup [.int (i:Nat),v])/\∀xs,dA K H a xs->xs[i]?=some v,λi H=>∃xs,dA K H a xs/\xs.length<=i⟩
def ID{P:aZ}{w:bK}{K:Fg}{elts:List Expr}{k:Nat}{pos:Pos}(a e it:ar)(hne:e≠it) :
  Bd P w K (.Tuple elts k pos) (LX K a) [e,it] e (λi h=>(∃old,IsEnum h e it (i:Nat) old)/\h.IsTupleIter it a i) where
 mem:=by simp
 obj:=λi h st b hb=>by
  obtain⟨⟨old,he⟩,⟨o,ho,c,d⟩⟩:=st;rcases aE.mp hb with rfl|hb
  ·exact⟨_,he,λv z=>by have z':Data.fields _=Data.cell v:=z;cases z'⟩
  ·rw[ax.mp hb];exact⟨o,ho,λv z=>by rw[d] at z;cases z⟩
 keep:=λi h h' st k=>⟨let⟨old,he⟩:=st.1;⟨old,k e (by simp) _ he⟩,st.2.at λo q=>k it (by simp) o q⟩
 item:=by
  intro X hP hw hK hc i pins s σ H E I hf st hg;subst hP hw hK;obtain⟨⟨old,he⟩,hit⟩:=st;obtain⟨xs,x,hq,hx⟩:=hg;obtain⟨its,rv,p,hz⟩:=I.tuple hq;obtain⟨u,hu,ru⟩:=rv.get hx;have p':s.heap.IsTuple a its.toArray:=p;have hlt:i<its.toArray.size:=by have:=(aj.mp hu).1;simpa using this
  have na:a≠it:=by
   intro z;subst z;obtain⟨o,e1,c1,_⟩:=p';obtain⟨o',e2,c2,_⟩:=hit;rw[e1] at e2;cases e2;rw[c1] at c2;injection c2 with c3;exact absurd c3 (by decide)
  have nb:e≠a:=by
   intro z;subst z;obtain⟨o,e1,c1,_⟩:=p';rw[he] at e1;cases e1;injection c1 with c3;exact absurd c3 (by decide)
  have Dw:=Sj (prog:=X.prog) (w:=X.w) (A:=X.A.in1) (show X.A.in1.handled=none from I.ok.hd hc) it a na its.toArray;refine wpAny_pyNext_enum_itemD Dw he ⟨hit,p'⟩ hlt hne (by simp[hne,nb]) λy h1 tk hP ho st1 hT hsz hk=>?_;have ey:y=u:=by
   have h1:its.toArray[i]?=some y:=hP;have h2:its[i]?=some y:=by simpa using h1
   rw[hu] at h2;exact(Option.some.inj h2).symm
  subst ey;refine⟨_,rfl,?_⟩;have fT:sC X pins H s.heap.objs.size:=I.fpOk (aB _) (I.hok.fresh (aB _));refine wpAny_letOwnedTupleGo_enum ho λh2 he2 hs2=>?_;have helt:e<s.heap.objs.size:=aI he;have I1:bZ X pins σ H {s with heap:=h2,toks:=tk+1}:=I.turnedL (t':=tk+1) (ch:=[e,it]) (λb o hb q=>by
   have b1:b≠e:=λz=>hb (by simp[z]);have b2:b≠it:=λz=>hb (by simp[z]);exact(hs2.2 b b1).trans (hk b o b1 b2 q)) hf
  have gT:h2.get? s.heap.objs.size=some {cls:=.type "tuple",data:=.seq #[.int i tk,y]}:=(hs2.2 _ (gU helt)).trans hT;have I2:=I1.adopt (T:=s.heap.objs.size) (o:=.tup [.int (i:Nat),x]) fT (yO (X:=X) gT ⟨tk,rfl⟩ ru);refine⟨.ref s.heap.objs.size,_,I2,rfl,⟨s.heap.objs.size,x,fT.1,rfl,rfl,λys hy=>by rw[I.tuple_inj hy hq];exact hx⟩,⟨⟨y,?_⟩,?_⟩,λb hb=>?_⟩
  ·have e2:(((i+1:Nat):Nat):Int)=(i:Int)+1:=by lia
   show IsEnum h2 e it (((i+1:Nat):Nat):Int) y;rw[e2];exact he2
  ·obtain⟨o,q1,q2⟩:=st1.1;exact⟨o,(hs2.2 it (Ne.symm hne)).trans q1,q2⟩
  ·have nT:b≠s.heap.objs.size:=by
    rcases aE.mp hb with rfl|hb
    ·exact a9 helt
    ·rw[ax.mp hb];obtain⟨o,ho,_⟩:=hit;exact a9 (aI ho)
   rw[aL nT];exact(hf b hb).1
 done:=by
  intro X hP hw hK hc i pins s σ H E I hf st hg;subst hP hw hK;obtain⟨⟨old,he⟩,hit⟩:=st;obtain⟨xs,hq,hx⟩:=hg;obtain⟨its,rv,p,hz⟩:=I.tuple hq;have hl:=rv.length;have hT:s.TypeIs (.ref e) "enumerate":=⟨_,he,rfl⟩;unfold kh;refine aa (kD (b8 (name:=Str.ofString "__next__") hT F.slot_enumerate_next
   (dq F.slot_enumerate_next hT F.entry_enumerate_next ?_ (F.args_enumerate_next_1 _))))
  show aM _ _ (field (.ref e) 2 >>= _) _ _ _;refine aa (bQ he rfl (x:=.ref it) rfl ?_);refine aa (CH (show X.A.in1.handled=none from I.ok.hd hc) hit (show s.heap.IsTuple a its.toArray from p) (by simp;lia) λh1 x1 eb hx1=>?_);obtain⟨o,ho,hcl⟩:=hx1;refine aa (ko (T:="StopIteration") (b:=true) ⟨o,ho,hcl⟩ isSubtype_stop ?_);exact az ⟨rfl,I.turnedL (t':=s.toks) (ch:=[e,it]) (λb ob hb q=>eb b ob (λz=>hb (by simp[z])) q) hf⟩
 self:=λ_ _ _ _ _ st h=>let⟨_,he⟩:=st.1;jG he h
section
variable{X:Cx}{elts:List Expr}{k:Nat}{tpos:Pos}
def DY(K:Fg)(tl:TA):TI:=λσ H R=>tl σ H λvs H1=>∃a,vs=[.ref a]/\(∃xs,dA K H1 a xs)/\R (LX K a) H1
def NJ{a:Expr}{ta:TA}{p pos:Pos}(hg:Gl X "enumerate")(hm:X.mg "enumerate"=none)(ha:PA X [a] ta)(hs:aT [a] X.env=[(false,eval a X.env)]:=by rfl) :
  PI X (.Tuple elts k tpos) (.Call (.Name "enumerate" p) [a] [] pos) (DY X.K ta):=by
 intro pins s σ H R I h;refine Call_ (lA I hg hm boot_enumerate (cL (gs (ha pos pins s σ H _ I h) λus s1 ⟨vs,H1,I1,r1,q1⟩=>?_) hs rfl));obtain⟨l,e,⟨xs,hq⟩,q⟩:=q1;subst e;cases r1 with
 |cons r rr=>
  cases rr;cases r;obtain⟨its,rv,pl,hz⟩:=I1.tuple hq;refine Hk (show s1.heap.IsTuple l its.toArray from pl) λh1 he hit hsz hk=>?_;refine jG he ?_;have I2:bZ X pins σ H1 {s1 with heap:=h1}:=I1.kept (t':=s1.toks) hk;refine⟨s1.heap.objs.size+1,[s1.heap.objs.size+1,s1.heap.objs.size],_,_,H1,rfl,I2,ID l _ _ (Nat.succ_ne_self _),⟨⟨.none,he⟩,hit⟩,λb hb=>?_,q⟩;have hb':s1.heap.objs.size<=b:=by
   rcases aE.mp hb with rfl|hb
   ·lia
   ·rw[ax.mp hb];exact aB _
  exact I1.fpOk hb' (I1.hok.fresh hb')
def FU{a:Expr}{ta:TA}{p pos:Pos}(hg:Gl X "enumerate")(hm:X.mg "enumerate"=none)(ha:QA X [a] ta)(hs:aT [a] X.env=[(false,eval a X.env)]:=by rfl):QI X (.Tuple elts k tpos) (.Call (.Name "enumerate" p) [a] [] pos) (DY X.K ta):=
 ⟨NJ hg hm ha.1 hs⟩
end
def Ct{K:Fg}{a:ar}{xs:List V}{g:TG}{tb:TS}{D:oE}{σ:St}{H:Hp}(Pv:Nat->St->Hp->Prop)(h0:Pv 0 σ H)(hl:∀i σ H,i<=xs.length->Pv i σ H->dA K H a xs)
  (hs:∀i x σ H p,xs[i]?=some x->H p=none->Pv i σ H->g (.ref p) σ (upd H p (.tup [.int (i:Nat),x])) λσ2 H2=>tb {D with nx:=Pv (i+1),ct:=Pv (i+1),bk:=D.nx} σ2 H2) (hd:∀σ H,Pv xs.length σ H->D.nx σ H) :
  ∃W:Nat->Nat->St->Hp->Prop,(∃m,W 0 m σ H)/\∀i m σ H,W i m σ H->
   ((LX K a).stop i H/\D.nx σ H)\/((LX K a).go i H/\∃N:St->Hp->Prop,(∀σ' H',N σ' H'->∃m',m'<m/\W (i+1) m' σ' H')/\∀x H',(LX K a).yld i H x H'->g x σ H' λσ2 H2=>tb {D with nx:=N,ct:=N,bk:=D.nx} σ2 H2):=by
 refine⟨λi m σ H=>m=xs.length-i/\i<=xs.length/\Pv i σ H,⟨xs.length,by simp,b9 _,h0⟩,?_⟩;rintro i m σ H ⟨rfl,hi,p⟩;have q:=hl i σ H hi p;by_cases hlt:i<xs.length
 ·refine .inr ⟨⟨xs,xs[i],q,by simp[hlt]⟩,Pv (i+1),λσ' H' p'=>⟨xs.length-(i+1),by lia,rfl,hlt,p'⟩,λx H' y=>?_⟩;obtain⟨pp,v,e1,rfl,rfl,y⟩:=y;exact hs i v σ H pp (y xs q) e1 p
 ·have e:i=xs.length:=by lia
  subst e;exact .inl ⟨⟨xs,q,aB _⟩,hd σ H p⟩
section
variable{X:Cx}
end
section
variable{X:Cx}
end
section
variable{X:Cx}
def JD:List V->Hp->VK->Prop:=λxs H Q=>∃x:V,xs=[x,.ty "str"]/\((∃t,x=.str t/\Q (.bl true) H)\/∃z,x=.int z/\Q (.bl false) H)
def vY:iJ X (.builtin "isinstance") JD:=by
 intro pins s σ H xs us Q I r h;obtain⟨x,rfl,hx⟩:=h;obtain⟨u,w',rfl,r1,r2⟩:=GR r;cases r2;rcases hx with⟨t,rfl,q⟩|⟨z,rfl,q⟩
 ·obtain⟨t,rfl⟩:=r1;exact IsiPair.str_str ⟨.bl true,H,I,rfl,q⟩
 ·obtain⟨t,rfl⟩:=r1;exact IsiPair.int_str ⟨.bl false,H,I.tok _,rfl,q⟩
end
end L2
end
section
namespace Bg
open PySem PySem.Spec PyProof.Rows L2
abbrev fX:List Str:=["self","line"]
abbrev nH:List Str:=["self","line"]
def sW(K:Fg):TS:=(CI K (au 0) (au 1) "line")
abbrev G6:List Str:=["program"]
abbrev BY:List Str:=["program","k","part"]
def Gs(K:Fg)(E:XK):TS:=(gM (bE (jD K) [] (oR λ_=>E) (ai (au 1) (ai (bE (mH K) [] E0 (ai (au 2) aJ)) (ai (tC (.str "unset")) aJ)))))
def Gu(K:Fg)(E:XK):TS:=(bC (gM (bE (jD K) [] (oR λ_=>E) (ai (au 1) (ai (bE (oi K) [] E0 (ai (bq (cV K) (au 2) (tC (.int 2))) aJ)) (ai (tC (.str "ring")) aJ))))) (Gs K E))
def Gv(K:Fg)(E:XK):TS:=(bC (gM (bE (jD K) [] (oR λ_=>E) (ai (au 1) (ai (bE (pV K) [] E0 (ai (au 0) (ai (au 1) aJ))) (ai (tC (.str "row")) aJ))))) (Gu K E))
def xN(K:Fg)(E:XK):TS:=(bC (gM (bE (jD K) [] (oR λ_=>E) (ai (au 1) (ai (bE (og K) [] E0 (ai (au 0) (ai (au 1) aJ))) (ai (tC (.str "name")) aJ))))) (Gv K E))
def C1(K:Fg)(E:XK):TS:=(kC (DY K (ai (au 0) aJ)) (wc K 2 (gD (aW 1) (gD (aW 2) uV))) (xN K E))
abbrev Ba:List Str:=["program","k"]
abbrev pH:List Str:=["program","k","name","params"]
def AF(K:Fg):TS:=(cK (tC .non))
def rG(K:Fg):TS:=(bC (de (bH (bq (sH) (Eo K (ai (au 3) aJ)) (fS (gA K) (ai (au 3) aJ)))) (cK (tC (.int 0))) bY) (AF K))
def rH(K:Fg):TS:=(bC (de (bH (bq ((EG K false)) (au 2) (hW [] 1 (jR K (As (F1 K) (au 0) eU (iP (au 1)))) (aW 4) oj (bq (cV K) (au 4) (tC (.int 0)))))) (cK (tC (.int 0))) bY) (rG K))
def rJ(K:Fg):TS:=(bC (cu (bq (cV K) (bq (cV K) (au 0) (au 1)) (tC (.int 1))) (aW 3)) (rH K))
def vy(K:Fg):TS:=(bC (cu (bq (cV K) (bq (cV K) (au 0) (au 1)) (tC (.int 0))) (aW 2)) (rJ K))
abbrev Dx:List Str:=["program","k"]
abbrev xg:List Str:=["program","k","rows","n","row"]
def BF(K:Fg):TS:=(cK (tC .non))
def tG(K:Fg):TS:=(bC (de (bH (bq ((EG K true)) (bq (cV K) (bq (cV K) (au 2) (Ue N5 (tC (.int 1)))) (tC (.int 0))) (e6 (ai (tC (.str "jump")) (ai (tC (.str "give")) aJ))))) (cK (bq (Ac) (fS (gA K) (ai (au 2) aJ)) (tC (.int 1)))) bY) (BF K))
def tH(K:Fg):TS:=(de (Lr (tB (bE (kB K) [] E0 (ai (au 2) (ai (au 4) aJ)))) (tB (bE (kz K) [] E0 (ai (au 0) (ai (au 4) aJ))))) (cK (au 3)) bY)
def tI(K:Fg):TS:=(bC (kC (DY K (ai (au 2) aJ)) (wc K 2 (gD (aW 3) (gD (aW 4) uV))) (tH K)) (tG K))
def tJ(K:Fg):TS:=(bC (de (bH (bq (fb K) (fS (gA K) (ai (au 2) aJ)) (tC (.int 0)))) (cK (tC (.int 0))) bY) (tI K))
def xR(K:Fg):TS:=(bC (cu (bq (cV K) (bq (cV K) (au 0) (au 1)) (tC (.int 2))) (aW 2)) (tJ K))
abbrev vU:List Str:=["rows","row"]
abbrev qk:List Str:=["rows","row","to"]
def iw(K:Fg):TS:=(cK (vo (bq (RM) (au 2) (tC .non)) (Uc (bq (sH) (au 2) (tC (.int 0))) (bq (TM) (au 2) (fS (gA K) (ai (au 0) aJ))))))
def qw(K:Fg):TS:=(bC (cu (bE (wN K) [] E0 (ai (au 1) aJ)) (aW 2)) (iw K))
abbrev vS:List Str:=["program","row"]
abbrev lg:List Str:=["program","row","k"]
def vq(K:Fg):TS:=(cK (bq (FY K) (fS (gA K) (ai (bq (cV K) (au 1) (tC (.int 3))) aJ)) (fS (gA K) (ai (bq (cV K) (bq (cV K) (au 0) (au 2)) (tC (.int 1))) aJ))))
def ni(K:Fg):TS:=(bC (de (Lr (bH (bq (sH) (au 2) (tC (.int 0)))) (bH (bq (TM) (au 2) (fS (gA K) (ai (au 0) aJ))))) (cK (tC (.bl true))) bY) (vq K))
def vt(K:Fg):TS:=(bC (cu (bq (cV K) (au 1) (tC (.int 2))) (aW 2)) (ni K))
def lH(K:Fg):TS:=(bC (de (bH (bq (FY K) (bq (cV K) (au 1) (tC (.int 0))) (tC (.str "call")))) (cK (tC (.bl false))) bY) (vt K))
abbrev Bc:List Str:=["rows"]
abbrev uM:List Str:=["rows","n"]
def AN(K:Fg):TS:=(cK (tC .non))
def rM(K:Fg):TS:=(de (tB (bE (kA K) [] E0 (ai (au 0) (ai (au 1) aJ)))) (cK (au 1)) bY)
def vA(K:Fg):TS:=(bC (kC (xr (ai (fS (gA K) (ai (au 0) aJ)) aJ)) (aW 1) (rM K)) (AN K))
abbrev vT:List Str:=["rows","n"]
abbrev qj:List Str:=["rows","n","passed","at"]
def nj(K:Fg):TS:=(cK (vo (bq (fb K) (au 3) (au 1)) (bq ((HZ false)) (au 1) (au 2))))
def vv(K:Fg):TS:=(cu (bE (oX K) [] E0 (ai (bq (cV K) (au 0) (au 3)) aJ)) (aW 3))
def vw(K:Fg):TS:=(bC (cu (tC (.bl true)) (t9 (au 2) (au 3) F0)) (vv K))
def nv(K:Fg):TS:=(bC (wQ (jv (bH (bq (fb K) (bq (cV K) (bq (cV K) (au 0) (au 3)) (tC (.int 0))) (tC (.str "jump")))) (bH (bq ((HZ true)) (au 3) (au 2)))) (vw K)) (nj K))
def vx(K:Fg):TS:=(bC (cu (au 1) (aW 3)) (nv K))
def qu(K:Fg):TS:=(bC (cu Aq (aW 2)) (vx K))
abbrev G9:List Str:=["program"]
abbrev vO:List Str:=["program","lines","part"]
def GG(K:Fg):TS:=(cK (qt K "str" (ke K) (tC (.str "\n")) (ai (au 1) aJ)))
def xS(K:Fg):TS:=(gM (qt K "list" Ee (au 1) (ai (hW [] 1 (jR K (bq (cV K) (au 2) (tC (.int 2)))) (aW 3) oj (bE (pT K) [] E0 (ai (au 0) (ai (au 3) aJ)))) aJ)))
def xT(K:Fg):TS:=(bC (gM (qt K "list" f9 (au 1) (ai (qt K "str" (ke K) (tC (.str " ")) (ai (bq (d9 K) (iO (ai (tC (.str "part")) (ai (bq (cV K) (au 2) (tC (.int 0))) aJ))) (fS (so K) (ai (bq (cV K) (au 2) (tC (.int 1))) aJ))) aJ)) aJ))) (xS K))
def xU(K:Fg):TS:=(bC (kC (jR K (au 0)) (aW 2) (xT K)) (GG K))
def C4(K:Fg):TS:=(bC (cu (iO aJ) (aW 1)) (xU K))
abbrev Dv:List Str:=["program","row"]
abbrev xf:List Str:=["program","row","word"]
def Bz(K:Fg):TS:=(cK (qt K "str" (ke K) (tC (.str " ")) (ai (iO (ai (au 2) (ai (bq (cV K) (au 1) (tC (.int 1))) aJ))) aJ)))
def BA(K:Fg):TS:=(bC (de (bH (bq (fb K) (au 2) (tC (.str "test")))) (cK (qt K "str" (ke K) (tC (.str " ")) (ai (iO (ai (au 2) (ai (bq (cV K) (au 1) (tC (.int 1))) (ai (bE (jW K) [] E0 (ai (bq (cV K) (au 1) (tC (.int 2))) aJ)) aJ)))) aJ))) bY) (Bz K))
def BB(K:Fg):TS:=(bC (de (bH (bq (fb K) (au 2) (tC (.str "jump")))) (cK (qt K "str" (ke K) (tC (.str " ")) (ai (iO (ai (au 2) (ai (bE (jW K) [] E0 (ai (bq (cV K) (au 1) (tC (.int 1))) aJ)) aJ))) aJ))) bY) (BA K))
def BC(K:Fg):TS:=(bC (de (bH (bq (fb K) (au 2) (tC (.str "call")))) (cK (qt K "str" (ke K) (tC (.str " ")) (ai (bq (d9 K) (iO (ai (bq (cV K) (au 1) (tC (.int 1))) (ai (tC (.str "=")) (ai (tC (.str "call")) (ai (bq (cV K) (bq (cV K) (au 0) (bq (cV K) (au 1) (tC (.int 2)))) (tC (.int 0))) aJ))))) (fS (so K) (ai (bq (cV K) (au 1) (tC (.int 3))) aJ))) aJ))) bY) (BB K))
def BD(K:Fg):TS:=(bC (de (bH (bq (fb K) (au 2) (tC (.str "op")))) (cK (qt K "str" (ke K) (tC (.str " ")) (ai (iO (ai (bq (cV K) (au 1) (tC (.int 1))) (ai (tC (.str "=")) (ai (bq (cV K) (au 1) (tC (.int 3))) (ai (bq (cV K) (au 1) (tC (.int 2))) (ai (bq (cV K) (au 1) (tC (.int 4))) aJ)))))) aJ))) bY) (BC K))
def BE(K:Fg):TS:=(bC (de (bH (bq (fb K) (au 2) (tC (.str "num")))) (cK (qt K "str" (ke K) (tC (.str " ")) (ai (iO (ai (bq (cV K) (au 1) (tC (.int 1))) (ai (tC (.str "=")) (ai (bE (jW K) [] E0 (ai (bq (cV K) (au 1) (tC (.int 2))) aJ)) aJ)))) aJ))) bY) (BD K))
def xQ(K:Fg):TS:=(bC (cu (bq (cV K) (au 1) (tC (.int 0))) (aW 2)) (BE K))
abbrev J8:List Str:=["text"]
abbrev zb:List Str:=["text","lines","numbers","program"]
def IB(K:Fg)(E:XK):TS:=(cK (au 3))
def AH(K:Fg)(E:XK):TS:=(bC (gM (bE (uv K) [] (oR λ_=>E) (ai (au 3) aJ))) (IB K E))
def AI(K:Fg)(E:XK):TS:=(bC (cu (bE (lG K) [] E0 (ai (au 1) (ai (au 2) aJ))) (aW 3)) (AH K E))
def AJ(K:Fg)(E:XK):TS:=(bC (gM (bE (jX K) [] (oR λ_=>E) (ai (au 1) (ai (au 2) aJ)))) (AI K E))
def AK(K:Fg)(E:XK):TS:=(bC (cu (bE (ij K) [] E0 (ai (au 1) aJ)) (aW 2)) (AJ K E))
def AL(K:Fg)(E:XK):TS:=(bC (gM (bE (jY K) [] (oR λ_=>E) (ai (au 1) aJ))) (AK K E))
def GA(K:Fg)(E:XK):TS:=(bC (cu (hW [] 1 (jR K (qt K "str" Ib (au 0) (ai (tC (.str "\n")) aJ))) (aW 4) oj (bE (mG K) [] E0 (ai (au 4) aJ))) (aW 1)) (AL K E))
abbrev uO:List Str:=["lines"]
abbrev oJ:List Str:=["lines","n","line"]
def mL(K:Fg)(E:XK):TS:=(de (Lr (bH (bq (U3) (au 2) (tC .non))) (jv (bH (bq (fb K) (au 1) (tC (.int 0)))) (bH (bq (FY K) (bq (cV K) (au 2) (tC (.int 0))) (tC (.str "part")))))) (uy K E (ux (eK K "NoLine") (eC K) (ai (au 1) aJ))) bY)
def pA(K:Fg)(E:XK):TS:=(kC (Cv K (ai (au 0) aJ)) (wc K 2 (gD (aW 1) (gD (aW 2) uV))) (mL K E))
abbrev uN:List Str:=["lines","numbers"]
abbrev oH:List Str:=["lines","numbers","n","line"]
def mK(K:Fg)(E:XK):TS:=(de (jv (bH (bq (fb K) (bq (cV K) (au 3) (tC (.int 0))) (tC (.str "call")))) (bH (bq ((HZ true)) (bq (cV K) (au 3) (tC (.int 2))) (au 1)))) (uy K E (ux (eK K "NoLine") (eC K) (ai (au 2) aJ))) bY)
def px(K:Fg)(E:XK):TS:=(kC (Cv K (ai (au 0) aJ)) (wc K 2 (gD (aW 2) (gD (aW 3) uV))) (mK K E))
abbrev qJ:List Str:=["lines"]
abbrev iK:List Str:=["lines","names","numbers","k","name"]
def pY(K:Fg):TS:=(cK (au 2))
def j4(K:Fg):TS:=(de (bH (bq ((HZ true)) (au 4) (au 2))) (cu (au 3) (t9 (au 2) (au 4) F0)) bY)
def j6(K:Fg):TS:=(bC (kC (Cv K (ai (au 1) aJ)) (wc K 2 (gD (aW 3) (gD (aW 4) uV))) (j4 K)) (pY K))
def j7(K:Fg):TS:=(bC (cu Aq (aW 2)) (j6 K))
def kT(K:Fg):TS:=(bC (cu (hW [] 1 (jR K (au 0)) (aW 5) (bH (bq (fb K) (bq (cV K) (au 5) (tC (.int 0))) (tC (.str "part")))) (bq (cV K) (au 5) (tC (.int 1)))) (aW 1)) (j7 K))
abbrev yh:List Str:=["lines","numbers"]
abbrev mi:List Str:=["lines","numbers","parts","line"]
def ph(K:Fg):TS:=(cK (fS (hV K) (ai (hW [] 1 (jR K (au 2)) (aW 4) oj (e6 (ai (bq (cV K) (au 4) (tC (.int 0))) (ai (bq (cV K) (au 4) (tC (.int 1))) (ai (fS (hV K) (ai (bq (cV K) (au 4) (tC (.int 2))) aJ)) aJ))))) aJ)))
def pj(K:Fg):TS:=(de (bH (bq (fb K) (bq (cV K) (au 3) (tC (.int 0))) (tC (.str "part")))) (gM (qt K "list" f9 (au 2) (ai (e6 (ai (bq (cV K) (au 3) (tC (.int 1))) (ai (bq (cV K) (au 3) (tC (.int 2))) (ai (iO aJ) aJ)))) aJ))) (gM (qt K "list" f9 (bq (cV K) (bq (cV K) (au 2) (Ue N5 (tC (.int 1)))) (tC (.int 2))) (ai (bE (oh K) [] E0 (ai (au 3) (ai (au 1) aJ))) aJ))))
def pw(K:Fg):TS:=(bC (kC (jR K (au 0)) (aW 3) (pj K)) (ph K))
def rL(K:Fg):TS:=(bC (cu (iO aJ) (aW 2)) (pw K))
abbrev Bb:List Str:=["row","numbers"]
abbrev uL:List Str:=["row","numbers"]
def AG(K:Fg):TS:=(cK (au 0))
def vz(K:Fg):TS:=(bC (de (bH (bq (fb K) (bq (cV K) (au 0) (tC (.int 0))) (tC (.str "call")))) (cK (e6 (ai (tC (.str "call")) (ai (bq (cV K) (au 0) (tC (.int 1))) (ai (Ow (au 1) (bq (cV K) (au 0) (tC (.int 2)))) (ai (bq (cV K) (au 0) (tC (.int 3))) aJ)))))) bY) (AG K))
abbrev zf:List Str:=["line"]
abbrev sQ:List Str:=["line","words"]
def yz(K:Fg):TS:=(cK (tC .non))
def qz(K:Fg):TS:=(bC (de (jv (bH (bq (fb K) (bq (cV K) (au 1) (tC (.int 0))) (tC (.str "test")))) (jv (bH (bq (fb K) (fS (gA K) (ai (au 1) aJ)) (tC (.int 3)))) (jv (tB (bE (gr K) [] E0 (ai (bq (cV K) (au 1) (tC (.int 1))) aJ))) (tB (bE (iN K) [] E0 (ai (bq (cV K) (au 1) (tC (.int 2))) aJ)))))) (cK (e6 (ai (tC (.str "test")) (ai (bq (cV K) (au 1) (tC (.int 1))) (ai (fS FX (ai (bq (cV K) (au 1) (tC (.int 2))) aJ)) aJ))))) bY) (yz K))
def qA(K:Fg):TS:=(bC (de (jv (bH (bq (fb K) (bq (cV K) (au 1) (tC (.int 0))) (tC (.str "jump")))) (jv (bH (bq (fb K) (fS (gA K) (ai (au 1) aJ)) (tC (.int 2)))) (tB (bE (iN K) [] E0 (ai (bq (cV K) (au 1) (tC (.int 1))) aJ))))) (cK (e6 (ai (tC (.str "jump")) (ai (fS FX (ai (bq (cV K) (au 1) (tC (.int 1))) aJ)) aJ)))) bY) (qz K))
def qB(K:Fg):TS:=(bC (de (jv (bH (bq (FW K) (bq (cV K) (au 1) (tC (.int 0))) (e6 (ai (tC (.str "say")) (ai (tC (.str "give")) aJ))))) (jv (bH (bq (fb K) (fS (gA K) (ai (au 1) aJ)) (tC (.int 2)))) (tB (bE (gr K) [] E0 (ai (bq (cV K) (au 1) (tC (.int 1))) aJ))))) (cK (e6 (ai (bq (cV K) (au 1) (tC (.int 0))) (ai (bq (cV K) (au 1) (tC (.int 1))) aJ)))) bY) (qA K))
def qC(K:Fg):TS:=(bC (de (jv (bH (bq (fb K) (bq (cV K) (au 1) (tC (.int 0))) (tC (.str "part")))) (jv (bH (bq (FV) (fS (gA K) (ai (au 1) aJ)) (tC (.int 1)))) (tB (bE (jV K) [] E0 (ai (As (F1 K) (au 1) (iP (tC (.int 1))) eU) aJ))))) (cK (e6 (ai (tC (.str "part")) (ai (bq (cV K) (au 1) (tC (.int 1))) (ai (fS (hV K) (ai (As (F1 K) (au 1) (iP (tC (.int 2))) eU) aJ)) aJ))))) bY) (qB K))
def qD(K:Fg):TS:=(bC (de (jv (bH (bq (FV) (fS (gA K) (ai (au 1) aJ)) (tC (.int 1)))) (bH (bq (fb K) (bq (cV K) (au 1) (tC (.int 1))) (tC (.str "="))))) (cK (bE (jZ K) [] E0 (ai (au 1) aJ))) bY) (qC K))
def tF(K:Fg):TS:=(bC (cu (qt K "str" Ib (au 0) (ai (tC (.str " ")) aJ)) (aW 1)) (qD K))
abbrev uP:List Str:=["words"]
abbrev oK:List Str:=["words","name"]
def uC(K:Fg):TS:=(cK (tC .non))
def mM(K:Fg):TS:=(bC (de (jv (bH (bq (fb K) (fS (gA K) (ai (au 0) aJ)) (tC (.int 5)))) (jv (bH (bq (FW K) (bq (cV K) (au 0) (tC (.int 3))) (Ri K [.str "+",.str "-",.str "*",.str "<",.str "="]))) (jv (tB (bE (gr K) [] E0 (ai (bq (cV K) (au 0) (tC (.int 2))) aJ))) (tB (bE (gr K) [] E0 (ai (bq (cV K) (au 0) (tC (.int 4))) aJ)))))) (cK (e6 (ai (tC (.str "op")) (ai (au 1) (ai (bq (cV K) (au 0) (tC (.int 3))) (ai (bq (cV K) (au 0) (tC (.int 2))) (ai (bq (cV K) (au 0) (tC (.int 4))) aJ))))))) bY) (uC K))
def mN(K:Fg):TS:=(bC (de (jv (bH (bq (FV) (fS (gA K) (ai (au 0) aJ)) (tC (.int 3)))) (jv (bH (bq (fb K) (bq (cV K) (au 0) (tC (.int 2))) (tC (.str "call")))) (tB (bE (jV K) [] E0 (ai (As (F1 K) (au 0) (iP (tC (.int 3))) eU) aJ))))) (cK (e6 (ai (tC (.str "call")) (ai (au 1) (ai (bq (cV K) (au 0) (tC (.int 3))) (ai (fS (hV K) (ai (As (F1 K) (au 0) (iP (tC (.int 4))) eU) aJ)) aJ)))))) bY) (mM K))
def mO(K:Fg):TS:=(bC (de (jv (bH (bq (fb K) (fS (gA K) (ai (au 0) aJ)) (tC (.int 3)))) (jv (tB (bE (iN K) [] E0 (ai (bq (cV K) (au 0) (tC (.int 2))) aJ))) (bH (bq (sH) (fS FX (ai (bq (cV K) (au 0) (tC (.int 2))) aJ)) (bq (sS) (tC (.int 2)) (tC (.int 64))))))) (cK (e6 (ai (tC (.str "num")) (ai (au 1) (ai (fS FX (ai (bq (cV K) (au 0) (tC (.int 2))) aJ)) aJ))))) bY) (mN K))
def mP(K:Fg):TS:=(bC (de (Ep (tB (bE (gr K) [] E0 (ai (au 1) aJ)))) (cK (tC .non)) bY) (mO K))
def pB(K:Fg):TS:=(bC (cu (bq (cV K) (au 0) (tC (.int 0))) (aW 1)) (mP K))
abbrev zd:List Str:=["words"]
abbrev nI:List Str:=["words"]
def sX(K:Fg):TS:=(cK (fS (NX K) (ai (hW [] 1 (jR K (au 0)) (aW 1) oj (bE (gr K) [] E0 (ai (au 1) aJ))) aJ)))
abbrev Du:List Str:=["word"]
abbrev qR:List Str:=["word"]
def By(K:Fg):TS:=(cK (fS (NX K) (ai (hW [] 1 (MW (au 0)) (aW 1) oj (bq (FW K) (au 1) (tC (.str "abcdefghijklmnopqrstuvwxyz")))) aJ)))
def xP(K:Fg):TS:=(bC (de (Lr (bH (bq (sH) (fS (gA K) (ai (au 0) aJ)) (tC (.int 1)))) (Lr (bH (bq (FV) (fS (gA K) (ai (au 0) aJ)) (tC (.int 8)))) (bH (bq (FW K) (au 0) (Ri K [.str "part",.str "call",.str "say",.str "jump",.str "test",.str "give"]))))) (cK (tC (.bl false))) bY) (By K))
abbrev ze:List Str:=["word"]
abbrev nJ:List Str:=["word"]
def qx(K:Fg):TS:=(cK (fS (NX K) (ai (hW [] 1 (MW (au 0)) (aW 1) oj (bq (FW K) (au 1) (tC (.str "0123456789")))) aJ)))
def qy(K:Fg):TS:=(bC (de (jv (bH (bq (fb K) (bq (cV K) (au 0) (tC (.int 0))) (tC (.str "0")))) (bH (bq (FY K) (au 0) (tC (.str "0"))))) (cK (tC (.bl false))) bY) (qx K))
def tE(K:Fg):TS:=(bC (de (Lr (bH (bq (sH) (fS (gA K) (ai (au 0) aJ)) (tC (.int 1)))) (bH (bq (FV) (fS (gA K) (ai (au 0) aJ)) (tC (.int 20))))) (cK (tC (.bl false))) bY) (qy K))
abbrev EZ:List Str:=["_law_program_here","_law_row"]
abbrev tX:List Str:=["_law_program_here","_law_row"]
def Ex(K:Fg):TS:=(cK (qt K "str" (ke K) (tC (.str " ")) (ai (hW [] 1 (jR K (au 1)) (aW 2) oj (fS (wC) (ai (au 2) aJ))) aJ)))
def Ey(K:Fg):TS:=(bC (de (bH (bq (fb K) (bq (cV K) (au 1) (tC (.int 0))) (tC (.str "call")))) (cK (qt K "str" (ke K) (tC (.str " ")) (ai (bq (d9 K) (iO (ai (bq (cV K) (au 1) (tC (.int 1))) (ai (tC (.str "=")) (ai (tC (.str "call")) (ai (bq (cV K) (bq (cV K) (au 0) (bq (cV K) (au 1) (tC (.int 2)))) (tC (.int 0))) aJ))))) (fS (so K) (ai (bq (cV K) (au 1) (tC (.int 3))) aJ))) aJ))) bY) (Ex K))
def Ez(K:Fg):TS:=(bC (de (bH (bq (fb K) (bq (cV K) (au 1) (tC (.int 0))) (tC (.str "op")))) (cK (bq (d9 K) (bq (d9 K) (bq (d9 K) (bq (d9 K) (bq (d9 K) (bq (d9 K) (bq (cV K) (au 1) (tC (.int 1))) (tC (.str " = "))) (bq (cV K) (au 1) (tC (.int 3)))) (tC (.str " "))) (bq (cV K) (au 1) (tC (.int 2)))) (tC (.str " "))) (bq (cV K) (au 1) (tC (.int 4))))) bY) (Ey K))
def AV(K:Fg):TS:=(bC (de (bH (bq (fb K) (bq (cV K) (au 1) (tC (.int 0))) (tC (.str "num")))) (cK (bq (d9 K) (bq (d9 K) (bq (cV K) (au 1) (tC (.int 1))) (tC (.str " = "))) (fS (wC) (ai (bq (cV K) (au 1) (tC (.int 2))) aJ)))) bY) (Ez K))
abbrev Md:List Str:=["_law_program_here"]
abbrev IZ:List Str:=["_law_program_here","_law_lines_here","_law_name","_law_params","_law_rows","_law_row"]
def Ly(K:Fg):TS:=(cK (au 1))
def CQ(K:Fg):TS:=(gM (qt K "list" f9 (au 1) (ai (bE (rF K) [] E0 (ai (au 0) (ai (au 5) aJ))) aJ)))
def CS(K:Fg):TS:=(kC (jR K (au 4)) (aW 5) (CQ K))
def CT(K:Fg):TS:=(bC (gM (qt K "list" f9 (au 1) (ai (qt K "str" (ke K) (tC (.str " ")) (ai (bq (d9 K) (iO (ai (tC (.str "part")) (ai (au 2) aJ))) (fS (so K) (ai (au 3) aJ))) aJ)) aJ))) (CS K))
def CU(K:Fg):TS:=(bC (kC (jR K (au 0)) (wc K 3 (gD (aW 2) (gD (aW 3) (gD (aW 4) uV)))) (CT K)) (Ly K))
def JT(K:Fg):TS:=(bC (cu (iO aJ) (aW 1)) (CU K))
end Bg
end
section
namespace L2
open PySem PySem.Spec PyProof.Rows
section
variable{X:Cx}
def da(ha:QE X a ta)(hb:QE X b tb)(h:DA b:=by exact λ_ _=>rfl):QE X (.Subscript a b pos) (bq (cV X.K) ta tb):=UZ Su ha hb h
def gb{x:Str}(c:cP X.prog X.w X.K X.mg X.base x ps k sp)(ha:QA X (e::es) t)(hr:gW k X.A:=by exact gW.mono (by assumption) (by decide))(hg:Gl X x:=by rfl)(h1:(x==("__debug__":Str))=false:=by decide)
  (h2:aT (e::es) X.env=(false,eval e X.env)::aT es X.env:=by rfl) (h3:(eW pos (aT es X.env)).any (·.1)=false:=by rfl):QE X (.Call (.Name x p) (e::es) [] pos) (bE sp [] E0 t):=RI c hr hg ha h1 h2 h3
def QQ{x:Str}(c:mX X.prog X.w X.K X.mg X.base x ps k sp)(hx:nO (GT X.prog X.w) X E)(ha:QA X (e::es) t)(hr:gW k X.A:=by exact gW.mono (by assumption) (by decide))(hg:Gl X x:=by rfl)(h1:(x==("__debug__":Str))=false:=by decide)
  (h2:aT (e::es) X.env=(false,eval e X.env)::aT es X.env:=by rfl) (h3:(eW pos (aT es X.env)).any (·.1)=false:=by rfl):QE X (.Call (.Name x p) (e::es) [] pos) (bE sp [] E t):=TF c hr hg hx ha h1 h2 h3
def gN(B:kG X.mg)(ha:QA X (e::es) t)(hg:Gl X "len":=by rfl)(h2:aT (e::es) X.env=(false,eval e X.env)::aT es X.env:=by rfl)(h3:(eW pos (aT es X.env)).any (·.1)=false:=by rfl):QE X (.Call (.Name "len" p) (e::es) [] pos) (fS (gA X.K) t):=eS Mr hg B.len_ boot_len ha (by decide) (by decide) h2 h3
def gP(i:Nat){x:Str}(he:QE X e te)(hi:X.N[i]?=some x:=by rfl)(hN:X.N.Nodup:=by assumption)(hx:L7 X.env.scope x:=by first|exact Or.inl rfl|exact Or.inr rfl)(hs:iT e (some (.Name x pos')) pos.line X.env=pure false:=by rfl)
  (hf:X.fn x=true\/X.env.scope.names.lookup x=some .local:=by first|exact .inl rfl|exact .inr rfl|assumption):QS X (.Assign [.Name x pos'] e pos) (cu te (aW i)):=TK hN hi hx he hs hf
def kc(i:Nat){x:Str}(hi:X.N[i]?=some x:=by rfl)(hN:X.N.Nodup:=by first|assumption|(dsimp only[eJ];decide +kernel))(hx:L7 X.env.scope x:=by first|exact Or.inl rfl|exact Or.inr rfl)
  (hf:X.fn x=true\/X.env.scope.names.lookup x=some .local:=by first|exact .inl rfl|exact .inr rfl|assumption):QG X (.Name x pos) (aW i):=QR hN hi hx hf
def ix{s1:Stmt}(hc:QT X c tc)(ha:QS X s1 t):QS X (.If c [s1] [] pos) (de tc t bY):=u9 hc (a7 ha) sk
def bP(ha:QE X e te)(hs:aT [e] X.env=(false,eval e X.env)::aT [] X.env:=by rfl):QA X [e] (ai te aJ):=aA ha i6 hs
def ug(ho:QE X o to)(ha:QE X e te)(hbase:eM o "append" X.env (eval o X.env)=eval o X.env:=by rfl)
  (hfew:((eW cpos (aT [e] X.env)).all (λx=>!x.1)&&(lZ cpos (iA [] X.env)).all (λx=>x.1.isSome)&&decide (([e]:List Expr).length+([]:List iS).length+(if([]:List iS).isEmpty then 0 else 1)<30))=true:=by rfl)
  (hline:(apos.endLine==cpos.line)=true:=by rfl) (hs:aT [e] X.env=(false,eval e X.env)::aT [] X.env:=by rfl) (hp:(eW cpos (aT [] X.env)).any (·.1)=false:=by rfl) :
  QE X (.Call (.Attribute o "append" apos) [e] [] cpos) (qt X.K "list" f9 to (ai te aJ)):=zZ fh PySem.F.slot_list_append PySem.F.type_list_append CD ho (bP ha hs) hbase hfew hline hs hp
def JC(ho:QE X o to)(ha:QE X e te)(hbase:eM o "join" X.env (eval o X.env)=eval o X.env:=by rfl)
  (hfew:((eW cpos (aT [e] X.env)).all (λx=>!x.1)&&(lZ cpos (iA [] X.env)).all (λx=>x.1.isSome)&&decide (([e]:List Expr).length+([]:List iS).length+(if([]:List iS).isEmpty then 0 else 1)<30))=true:=by rfl)
  (hline:(apos.endLine==cpos.line)=true:=by rfl) (hs:aT [e] X.env=(false,eval e X.env)::aT [] X.env:=by rfl) (hp:(eW cpos (aT [] X.env)).any (·.1)=false:=by rfl) :
  QE X (.Call (.Attribute o "join" apos) [e] [] cpos) (qt X.K "str" (ke X.K) to (ai te aJ)):=zZ fF PySem.F.slot_str_join PySem.F.type_str_join P7 ho (bP ha hs) hbase hfew hline hs hp
def OZ(st:Stmt)(N ext:List Str)(js:List Nat)(it:QI X target iter wi)(hg:∀{cl C s₀ H₀ fp},QG (eJ X (N++ext) scope cl C s₀ H₀ fp) target g)(hi:∀{cl C s₀ H₀ fp},Ka (eJ X (N++ext) scope cl C s₀ H₀ fp) ifs tc)(he:∀{cl C s₀ H₀ fp},QE (eJ X (N++ext) scope cl C s₀ H₀ fp) elt te)
  (ok:tV (bS st) N scope (N++ext) js:=by exact⟨rfl,by decide +kernel,by decide +kernel,by decide +kernel,rfl,by decide +kernel⟩) (h1:X.env.scope=bS st:=by rfl) (h2:X.N=N:=by rfl) (h3:(N++ext).length=N.length+k:=by rfl) (h4:X.calm=true:=by rfl)
  (hs:∀x,eP iter X.env x=pure x:=by intro _;rfl):QE X (.ListComp elt [⟨target,iter,ifs,0⟩] scope pos) (hW js k wi g tc te):=QK ok h1 h2 h3 h4 it (λ_ _ _ _ _=>hg) (λ_ _ _ _ _=>hi) (λ_ _ _ _ _=>he) hs
def TC(st:Stmt)(N ext:List Str)(js:List Nat)(i:Nat){y:Str}(it:QI X target iter wi)(hg:∀{cl C s₀ H₀ fp},QG (eJ X (N++ext) scope cl C s₀ H₀ fp) target g)(hi:∀{cl C s₀ H₀ fp},Ka (eJ X (N++ext) scope cl C s₀ H₀ fp) ifs tc)(he:∀{cl C s₀ H₀ fp},QE (eJ X (N++ext) scope cl C s₀ H₀ fp) elt te)
  (ok:tV (bS st) N scope (N++ext) js:=by exact⟨rfl,by decide +kernel,by decide +kernel,by decide +kernel,rfl,by decide +kernel⟩) (h1:X.env.scope=bS st:=by rfl) (h2:X.N=N:=by rfl) (h3:(N++ext).length=N.length+k:=by rfl) (h4:X.calm=true:=by rfl)
  (nd:X.N.Nodup:=by assumption) (hy:X.N[i]?=some y:=by rfl) (hl:L7 X.env.scope y:=by first|exact Or.inl rfl|exact Or.inr rfl) (hw:iT (.ListComp elt [⟨target,iter,ifs,0⟩] scope pos) (some (.Name y py)) spos.line X.env=pure true:=by rfl)
  (hs:∀x,eP iter X.env x=pure x:=by intro _;rfl) (hf:X.fn y=true\/X.env.scope.names.lookup y=some .local:=by first|exact .inl rfl|exact .inr rfl|assumption):QS X (.Assign [.Name y py] (.ListComp elt [⟨target,iter,ifs,0⟩] scope pos) spos) (cu (hW js k wi g tc te) (aW i)):=QY ok h1 h2 h3 h4 it (λ_ _ _ _ _=>hg) (λ_ _ _ _ _=>hi) (λ_ _ _ _ _=>he) nd hy hl hw hs hf
end
end L2
namespace Bg
open PySem PySem.Spec PyProof.Rows L2
def dP(K:Fg)(x:Str)(st:Stmt):Prop:=∃(f:ar) (oc:ae) (od:Option ar) (kV doc pm:ae) (an:Option ar) (cdv ct:ae) (osl:Array (Option ae)),
 bG K bg x=some (some (.ref f))/\K.lookup f=some ⟨oc,od,.func (dk x x (gX st) (eX st) (bS st) .none kV doc pm an cdv ct),osl⟩/\eh K cdv x=true/\cI K (.ref f)=true
def defAt{K:Fg}{x:Str}{st:Stmt}{f:ar}{oc:ae}{od:Option ar}{kV doc pm:ae}{an:Option ar}{cdv ct:ae}{osl:Array (Option ae)}(a:bG K bg x=some (some (.ref f)))(l:K.lookup f=some ⟨oc,od,.func (dk x x (gX st) (eX st) (bS st) .none kV doc pm an cdv ct),osl⟩)(c:eh K cdv x=true)(k:cI K (.ref f)=true):dP K x st:=⟨f,oc,od,kV,doc,pm,an,cdv,ct,osl,a,l,c,k⟩
def mQ(P:aZ)(w:bK)(K:Fg)(mg:Str->Option ae)(base:Heap)(N:List Str)(q:Str)(st:Stmt)(k:Nat)(t:TS):Prop:=
 ∀{f:ar} {cdv:ae} {A:bu} {outer:List Env} {s:aq} {H:Hp} {E:XK},gW k (A.deeper (h9 q (bS st) s.heap.objs.size f cdv))->Cb (sF Dl P w K mg base N q (bS st) f cdv A outer s H E).nox (eX st) t
def GW(P:aZ)(w:bK)(K:Fg)(mg:Str->Option ae)(base:Heap)(N:List Str)(q:Str)(st:Stmt)(k:Nat)(t:XK->TS):Prop:=
 ∀{f:ar} {cdv:ae} {A:bu} {outer:List Env} {s:aq} {H:Hp} {E:XK},gW k (A.deeper (h9 q (bS st) s.heap.objs.size f cdv))->Cb (sF (GT P w) P w K mg base N q (bS st) f cdv A outer s H E) (eX st) (t E)
section
variable{P:aZ}{w:bK}{K:Fg}{mg:Str->Option ae}{base h:Heap}{x q:Str}{N ps:List Str}{st:Stmt}{k:Nat}{sp:Sp}
def nQ{t:TS}(d:∀{f:ar} {cdv:ae} {A:bu} {outer:List Env} {s:aq} {H:Hp} {E:XK},N.Nodup->(A.deeper (h9 q (bS st) s.heap.objs.size f cdv)).units<cLine->(A.deeper (h9 q (bS st) s.heap.objs.size f cdv)).units+1<cLine->gW k (A.deeper (h9 q (bS st) s.heap.objs.size f cdv))->
  LQ (sF Dl P w K mg base N q (bS st) f cdv A outer s H E).nox (eX st) t) (nd:N.Nodup:=by decide +kernel):mQ P w K mg base N q st k t:=λhr=>(d nd hr.units0 (Rw hr) hr).up
def MG{t:XK->TS}(d:∀{f:ar} {cdv:ae} {A:bu} {outer:List Env} {s:aq} {H:Hp} {E:XK},N.Nodup->(A.deeper (h9 q (bS st) s.heap.objs.size f cdv)).units<cLine->(A.deeper (h9 q (bS st) s.heap.objs.size f cdv)).units+1<cLine->gW k (A.deeper (h9 q (bS st) s.heap.objs.size f cdv))->
  LQ (sF (GT P w) P w K mg base N q (bS st) f cdv A outer s H E) (eX st) (t E)) (nd:N.Nodup:=by decide +kernel):GW P w K mg base N q st k t:=λhr=>(d nd hr.units0 (Rw hr) hr).up
structure Vz(x:Str)(N ps:List Str)(st:Stmt)(sp:Sp):Prop where
 S:kH N ps (bS st):=by exact⟨rfl,rfl,rfl,by decide +kernel,rfl,by decide +kernel,by decide +kernel⟩
 len:∀vs H Q E,sp vs H Q E->vs.length=ps.length:=by(intro _ _ _ _ h;(repeat obtain⟨_,h⟩:=h)<;>(subst_vars;rfl))
 bd:∀(kV doc pm:ae) (an:Option ar) (cdv ct:ae) (us:List ae),us.length=ps.length->bindArgs (dk x x (gX st) (eX st) (bS st) .none kV doc pm an cdv ct) ⟨us,[]⟩=pure (ps.zip us):=by
   (intro _ _ _ _ _ _ us hl;first|(obtain⟨_,rfl⟩:=V6 (us:=us) hl;rfl)|(obtain⟨_,_,rfl⟩:=Vr (us:=us) hl;rfl)|(obtain⟨_,_,_,rfl⟩:=V7 (us:=us) hl;rfl)|(obtain⟨_,_,_,_,rfl⟩:=VU (us:=us) hl;rfl)|(obtain⟨_,_,_,_,_,rfl⟩:=le5 (us:=us) hl;rfl)|(obtain⟨_,_,_,_,_,_,rfl⟩:=V8 (us:=us) hl;rfl)|(obtain⟨_,_,_,_,_,_,_,rfl⟩:=le7 (us:=us) hl;rfl)|(obtain rfl:=le0 (us:=us) hl;rfl))
def pN{t:TS}(X:K.In h)(G:h.Ns bg mg)(l:dP K x st)(d:mQ P w K mg base N x st k t)(r:∀vs H Q E,sp vs H Q E->t {nx:=λ_ H'=>Q .non H',rt:=Q} (cQ N vs) H)(z:Vz x N ps st sp:=by exact{}):cP P w K mg base x ps (k+1) sp:=by
 obtain⟨f,oc,od,kV,doc,pm,an,cdv,ct,osl,a,lk,c,kp⟩:=l;have F:=v9 lk c kp;exact⟨⟨f,_,dX X G a,kp,F.binds (ps:=ps) z.bd,F.ok z.S z.len λcdv A outer s H vs Q E hr z=>⟨t,d hr,r vs H Q E z⟩⟩⟩
def Nl{t:XK->TS}(X:K.In h)(G:h.Ns bg mg)(l:dP K x st)(d:GW P w K mg base N x st k t)(r:∀vs H Q E,sp vs H Q E->t E {nx:=λ_ H'=>Q .non H',rt:=Q} (cQ N vs) H)(z:Vz x N ps st sp:=by exact{}):mX P w K mg base x ps (k+1) sp:=by
 obtain⟨f,oc,od,kV,doc,pm,an,cdv,ct,osl,a,lk,c,kp⟩:=l;have F:=v9 lk c kp;exact⟨⟨f,_,dX X G a,kp,F.binds (ps:=ps) z.bd,PH F z.S z.len λcdv A outer s H vs Q E hr z=>⟨t E,d hr,r vs H Q E z⟩⟩⟩
def UH{p:Str}{fa:ar}{t:TS}(X:K.In h)(G:h.Ns bg mg)(hfa:mg "law"=some (.ref fa))(l:dP K "law" st)(d:∀base,mQ P w K mg base N "law" st k t)(r:∀vs H Q E,sp vs H Q E->t {nx:=λ_ H'=>Q .non H',rt:=Q} (cQ N vs) H)(z:Vz "law" N [p] st sp:=by exact{}) :
  ∃fd:dR,(∀(s:aq) (v:ae),rT s fd ⟨[v],[]⟩ [(p,v)])/\∀base:Heap,K.In base->base.Ns bg mg->oF P w K mg base Dl (k+1) fa fd [p] sp:=by
 obtain⟨f,oc,od,kV,doc,pm,an,cdv,ct,osl,a,lk,c,kp⟩:=l;have e:=hfa.symm.trans (dX X G a);cases e;have F:=v9 lk c kp;exact⟨_,λs v=>.of_eq (z.bd kV doc pm an cdv ct [v] rfl),λbase _ _=>F.ok z.S z.len λcdv A outer s H vs Q E hr z=>⟨t,d base hr,r vs H Q E z⟩⟩
end
def lW(i:Nat):Stmt:=PySem.Challenge.pw_beltgarth_k21_programs_as_texts.main.body.getD i (.Pass ⟨0,0,0,0⟩)
abbrev wI:Stmt:=lW 1
abbrev xI:Stmt:=lW 2
abbrev xH:Stmt:=lW 3
abbrev eZ:Stmt:=Ry (lW 6) 0
def ve:kH kx fo (bS eZ):=⟨rfl,rfl,rfl,by decide +kernel,rfl,by decide +kernel,by decide +kernel⟩
abbrev gB:Stmt:=Ry (lW 7) 0
def Ak:kH nH fX (bS gB):=⟨rfl,rfl,rfl,by decide +kernel,rfl,by decide +kernel,by decide +kernel⟩
abbrev CL:Stmt:=lW 9
abbrev Gd:Stmt:=lW 10
abbrev Gc:Stmt:=lW 11
abbrev CK:Stmt:=lW 12
abbrev gC:Stmt:=lW 13
def Gf:kH tW kP (bS gC):=⟨rfl,rfl,rfl,by decide +kernel,rfl,by decide +kernel,by decide +kernel⟩
abbrev CJ:Stmt:=lW 15
abbrev Aj:Stmt:=lW 16
abbrev pR:Stmt:=lW 17
abbrev xJ:Stmt:=lW 18
abbrev qr:Stmt:=lW 19
abbrev qo:Stmt:=lW 20
abbrev vd:Stmt:=lW 21
abbrev qp:Stmt:=lW 22
abbrev oa:Stmt:=lW 23
abbrev rD:Stmt:=lW 24
abbrev Ai:Stmt:=lW 30
abbrev oU:Stmt:=lW 31
abbrev oS:Stmt:=lW 32
abbrev iM:Stmt:=lW 33
abbrev mD:Stmt:=lW 34
abbrev vc:Stmt:=lW 35
abbrev sV:Stmt:=lW 36
abbrev oV:Stmt:=lW 37
abbrev nY:Stmt:=lW 38
abbrev rC:Stmt:=lW 39
abbrev nZ:Stmt:=lW 40
abbrev On:Stmt:=lW 42
abbrev Ej:Stmt:=lW 43
abbrev JJ:Stmt:=lW 44
abbrev xK:Stmt:=lW 45
abbrev JG:Stmt:=lW 46
abbrev Gb:Stmt:=lW 47
abbrev nh:Stmt:=lW 48
abbrev Ah:Stmt:=lW 49
abbrev Ik:Stmt:=lW 50
abbrev wJ:Stmt:=lW 51
abbrev uu:Stmt:=lW 52
abbrev JH:Stmt:=lW 53
abbrev m9:Stmt:=lW 54
abbrev kO:List Str:=["_law_found","_law_due"]
abbrev yC:List Str:=["_law_found","_law_due"]
def Ls(K:Fg)(S:Sp):TS:=(cK (vo (fS (N3 K) (ai (au 0) (ai (tC (.ty "int")) aJ))) (vo (OA (fS (N3 K) (ai (au 0) (ai (tC (.ty "bool")) aJ)))) (bq (fb K) (au 0) (au 1)))))
def Lu(K:Fg)(S:Sp):TS:=(bC (de (tB (fS JD (ai (au 1) (ai (tC (.ty "str")) aJ)))) (cK (vo (fS JD (ai (au 0) (ai (tC (.ty "str")) aJ))) (bq (fb K) (au 0) (au 1)))) bY) (Ls K S))
def CP(K:Fg)(S:Sp):TS:=(cK (fS (NX K) (ai (hW [] 2 (MX K (ai (au 0) (ai (au 1) aJ))) (wc K 2 (gD (aW 2) (gD (aW 3) uV))) oj (bE S [] E0 (ai (au 2) (ai (au 3) aJ)))) aJ)))
def Er(K:Fg)(S:Sp):TS:=(bC (de (tB (fS (N3 K) (ai (au 1) (ai (tC (.ty "tuple")) aJ)))) (bC (de (Lr (Ep (tB (fS (N3 K) (ai (au 0) (ai (tC (.ty "tuple")) aJ))))) (bH (bq (FY K) (fS (gA K) (ai (au 0) aJ)) (fS (gA K) (ai (au 1) aJ))))) (cK (tC (.bl false))) bY) (CP K S)) bY) (Lu K S))
def Ge:kH yC kO (bS m9):=⟨rfl,rfl,rfl,by decide +kernel,rfl,by decide +kernel,by decide +kernel⟩
abbrev JI:Stmt:=lW 55
abbrev Mf:List Str:=["_law_state","_law_program_here"]
abbrev I0:List Str:=["_law_state","_law_program_here","_law_found","_law_name","_law_params","_law_rows","_law_new","_law_row","_law_sort"]
def wU(K:Fg):TS:=(cK (fS (hV K) (ai (au 2) aJ)))
def wV(K:Fg):TS:=(gM (qt K "list" f9 (au 2) (ai (e6 (ai (au 3) (ai (au 4) (ai (fS (hV K) (ai (au 6) aJ)) aJ)))) aJ)))
def C6(K:Fg):TS:=(bC (de (bH (bq (Ed K) (bE (dm K) [] E0 (ai (au 0) (ai (tC (.int 9)) aJ))) (tC (.int 1)))) (cu (As (Ia K) (bq (uo K) (au 4) (As (Ia K) (au 4) eU (iP (tC (.int 1))))) eU (iP (tC (.int 4)))) (aW 4)) bY) (wV K))
def C7(K:Fg):TS:=(bC (de (bH (bq (Ed K) (bE (dm K) [] E0 (ai (au 0) (ai (tC (.int 5)) aJ))) (tC (.int 1)))) (gM (Rh K "list" FZ (au 6))) bY) (C6 K))
def C8(K:Fg):TS:=(bC (de (bH (bq (Ed K) (bE (dm K) [] E0 (ai (au 0) (ai (tC (.int 9)) aJ))) (tC (.int 1)))) (gM (qt K "list" f9 (au 6) (ai (e6 (ai (tC (.str "num")) (ai (tC (.str "q")) (ai (bq (Ac) (bq (Ac) (bq (sS) (tC (.int 2)) (tC (.int 64))) (tC (.int 1))) (bE (dm K) [] E0 (ai (au 0) (ai (tC (.int 2)) aJ)))) aJ)))) aJ))) bY) (C7 K))
def wW(K:Fg):TS:=(gM (qt K "list" f9 (au 6) (ai (au 7) aJ)))
def sA(K:Fg):TS:=(bC (de (jv (bH (bq (Ed K) (au 8) (tC (.int 2)))) (bH (bq (Ed K) (bq (cV K) (au 7) (tC (.int 0))) (tC (.str "call"))))) (cu (bq (uo K) (As (Ia K) (au 7) eU (iP (tC (.int 3)))) (e6 (ai (bq (uo K) (bq (cV K) (au 7) (tC (.int 3))) (e6 (ai (bq (cV K) (au 7) (tC (.int 1))) aJ))) aJ))) (aW 7)) bY) (wW K))
def wX(K:Fg):TS:=(bC (de (jv (bH (bq (Ed K) (au 8) (tC (.int 1)))) (bH (bq ((EG K false)) (bq (cV K) (au 7) (tC (.int 0))) (e6 (ai (tC (.str "say")) (ai (tC (.str "give")) aJ)))))) (cu (e6 (ai (bq (cV K) (au 7) (tC (.int 0))) (ai (As (Ia K) (tC (.str "abcdefgh")) (iP (bE (dm K) [] E0 (ai (au 0) (ai (tC (.int 8)) aJ)))) eU) aJ))) (aW 7)) bY) (sA K))
def C9(K:Fg):TS:=(bC (de (jv (bH (bq (Ed K) (au 8) (tC (.int 0)))) (bH (bq ((EG K false)) (bq (cV K) (au 7) (tC (.int 0))) (e6 (ai (tC (.str "jump")) (ai (tC (.str "test")) aJ)))))) (cu (bq (uo K) (As (Ia K) (au 7) eU (iP (Ue N5 (tC (.int 1))))) (e6 (ai (bE (dm K) [] E0 (ai (au 0) (ai (bq (sS) (tC (.int 10)) (tC (.int 6))) aJ))) aJ))) (aW 7)) bY) (wX K))
def AQ(K:Fg):TS:=(bC (cu (bE (dm K) [] E0 (ai (au 0) (ai (tC (.int 8)) aJ))) (aW 8)) (C9 K))
def AR(K:Fg):TS:=(bC (kC (jR K (au 5)) (aW 7) (AQ K)) (C8 K))
def AS(K:Fg):TS:=(bC (cu (iO aJ) (aW 6)) (AR K))
def AU(K:Fg):TS:=(bC (kC (jR K (au 1)) (wc K 3 (gD (aW 3) (gD (aW 4) (gD (aW 5) uV)))) (AS K)) (wU K))
def JV(K:Fg):TS:=(bC (cu (iO aJ) (aW 2)) (AU K))
abbrev Oo:Stmt:=lW 56
abbrev Pf:List Str:=["_law_text"]
abbrev L9:List Str:=["_law_text","_law_said","e"]
def OJ(K:Fg):TS:=(cK (au 1))
def GM(K:Fg):TS:=(bC (Ud K (eK K "NoProgram") 3 2 (λEin=>(cu (e6 (ai (tC (.str "read")) (ai (bE (sx K) [] Ein (ai (au 0) aJ)) aJ))) (aW 1))) (cu (e6 (ai (tC (.str "refused")) (ai (Oy K (au 2) "word") aJ))) (aW 1))) (OJ K))
def OI(K:Fg):TS:=(bC (cu (e6 (ai (tC (.str "none")) aJ)) (aW 1)) (GM K))
abbrev CM:Stmt:=lW 57
abbrev He:List Str:=["_law_program_here"]
abbrev B9:List Str:=["_law_program_here","_law_found"]
def yc(K:Fg):TS:=(cK (vo (fS JD (ai (au 1) (ai (tC (.ty "str")) aJ))) (bq (fb K) (au 1) (qt K "str" (ke K) (tC (.str "\n")) (ai (bE (vi K) [] E0 (ai (au 0) aJ)) aJ)))))
def Dc(K:Fg):TS:=(bC (cu (bE (mI K) [] E0 (ai (au 0) aJ)) (aW 1)) (yc K))
abbrev RQ:Stmt:=lW 58
abbrev Mb:List Str:=["_law_script"]
abbrev Rq:List Str:=["_law_script","_law_state","_law_good","_law_other","_law_found"]
def JM(K:Fg):TS:=(cK (vo (bq ((EG K false)) (bq (cV K) (au 4) (tC (.int 0))) (e6 (ai (tC (.str "read")) (ai (tC (.str "refused")) aJ)))) (bE (rE K) [] E0 (ai (bE (sx K) [] E0 (ai (bE (mI K) [] E0 (ai (au 2) aJ)) aJ)) (ai (au 2) aJ)))))
def Es(K:Fg):TS:=(bC (de (jv (bH (bq (Ed K) (bq (cV K) (au 4) (tC (.int 0))) (tC (.str "read")))) (Ep (tB (bE (rE K) [] E0 (ai (bq (cV K) (au 4) (tC (.int 1))) (ai (au 3) aJ)))))) (cK (tC (.bl false))) bY) (JM K))
def JN(K:Fg):TS:=(bC (cu (bE (yL K) [] E0 (ai (bE (mI K) [] E0 (ai (au 3) aJ)) aJ)) (aW 4)) (Es K))
def JO(K:Fg):TS:=(bC (de (Ep (tB (bE (rE K) [] E0 (ai (bE (yL K) [] E0 (ai (qt K "str" (ke K) (tC (.str "\n")) (ai (bE (vi K) [] E0 (ai (au 2) aJ)) aJ)) aJ)) (ai (e6 (ai (tC (.str "read")) (ai (au 2) aJ))) aJ))))) (cK (tC (.bl false))) bY) (JN K))
def JP(K:Fg):TS:=(bC (de (Lr (Ep (tB (bE (mJ K) [] E0 (ai (au 2) aJ)))) (Lr (Ep (tB (bE (mJ K) [] E0 (ai (au 3) aJ)))) (Ep (tB (bE (mJ K) [] E0 (ai (As (N6 K) (bq (uo K) (As (N6 K) (Ip K (au 2) (Ue N5 (tC (.int 1)))) eU (iP (tC (.int 1)))) (au 2)) eU (iP (tC (.int 5)))) aJ)))))) (cK (tC (.bl false))) bY) (JO K))
def JQ(K:Fg):TS:=(bC (cu (bE (An K) [] E0 (ai (au 1) (ai (au 2) aJ))) (aW 3)) (JP K))
def JR(K:Fg):TS:=(bC (cu (bE (uw K) [] E0 (ai (au 1) (ai (tC (.int 20)) aJ))) (aW 2)) (JQ K))
def RS(K:Fg):TS:=(bC (cu (iO (ai (au 0) (ai (tC (.int 0)) (ai (tC (.int 0)) aJ)))) (aW 1)) (JR K))
section
variable(P:aZ)(w:bK)(K:Fg)(mg:Str->Option ae)(base:Heap)
abbrev w6:=cP P w K mg base "line_of" Dv ES (pT K)
abbrev w5:=cP P w K mg base "figures" Dt EN (jW K)
abbrev yU:=cP P w K mg base "goal" Ca EO (oX K)
abbrev yX:=cP P w K mg base "sets" J9 L5 (wM K)
abbrev vH:=cP P w K mg base "leads" G7 J0 (pS K)
abbrev sO:=cP P w K mg base "unset_due" zg A8 (mH K)
abbrev yW:=mX P w K mg base "refuse" EY GY (jD K)
abbrev uI:=cP P w K mg base "ring_due" Bc Dr (oi K)
abbrev w9:=cP P w K mg base "row_due" Dx ET (pV K)
abbrev uG:=cP P w K mg base "name_due" Ba Dp (og K)
abbrev qg:=cP P w K mg base "calls_amiss" vS yd (kz K)
abbrev qi:=cP P w K mg base "goes_astray" vU yf (kB K)
abbrev EJ:=cP P w K mg base "goal" Ca EO (wN K)
abbrev qh:=cP P w K mg base "comes_round" vT ye (kA K)
abbrev qN:=cP P w K mg base "names_read" yg y3 (lF K)
abbrev yY:=cP P w K mg base "walked" kP y7 (kS K)
abbrev vI:=cP P w K mg base "reads" G8 J1 (pU K)
abbrev BU:=mX P w K mg base "check" G6 JZ (uv K)
abbrev qO:=cP P w K mg base "program_of" yh y4 (lG K)
abbrev oA:=mX P w K mg base "refuse_calls" uN vL (jX K)
abbrev kN:=cP P w K mg base "numbers_of_parts" qJ qP (ij K)
abbrev oB:=mX P w K mg base "refuse_forms" uO vM (jY K)
abbrev sM:=cP P w K mg base "line_read" zf A6 (mG K)
abbrev uH:=cP P w K mg base "numbered" Bb Dq (oh K)
abbrev nF:=cP P w K mg base "is_number" ze A5 (iN K)
abbrev mW:=cP P w K mg base "is_name" Du ER (gr K)
abbrev nE:=cP P w K mg base "are_names" zd A4 (jV K)
abbrev oC:=cP P w K mg base "setting_read" uP vN (jZ K)
abbrev qM:=cP P w K mg base "_law_draw" Pd RV (dm K)
abbrev IS:=cP P w K mg base "_law_worth" Mg Pb (Ao K)
abbrev IM:=cP P w K mg base "_law_leads" Mc O7 (Am K)
abbrev EH:=cP P w K mg base "_law_filled" J6 LY (wK K)
abbrev xb:=cP P w K mg base "_law_set_names" Dz EV (pX K)
abbrev EI:=cP P w K mg base "_law_mended" J7 L3 (wL K)
abbrev xa:=cP P w K mg base "_law_rough_row" Dy EU (pW K)
abbrev LU:=cP P w K mg base "_law_part" Pe RW (En K)
abbrev IP:=cP P w K mg base "_law_names" Me O9 (vj K)
abbrev yZ:=cP P w K mg base "_law_row_text" EZ GZ (rF K)
abbrev yV:=mX P w K mg base "read" J8 L4 (sx K)
abbrev Dm:=cP P w K mg base "_law_lines" Md O8 (vi K)
abbrev vJ:=cP P w K mg base "write" G9 J2 (mI K)
abbrev O2:=cP P w K mg base "_law_kinds" kO IV (rE K)
abbrev LV:=cP P w K mg base "_law_told" Pf RX (yL K)
abbrev BW:=cP P w K mg base "_law_written" He J4 (mJ K)
abbrev IQ:=cP P w K mg base "_law_rough" Mf Pa (An K)
abbrev BV:=cP P w K mg base "_law_program" Hd J3 (uw K)
end
section
variable{P:aZ}{w:bK}{K:Fg}{mg:Str->Option ae}{base:Heap}
def Fd(B:kG mg) :mQ P w K mg base xc "figures" xH FA (xO K):=nQ λnd hu hu1 hr=>by exact
 (ay (gP 1 (NT (aU my (qv 0) aw rfl) aR aR)) (ay (gP 2 (eS Kg rfl B.abs_ boot_abs (bP (qv 0)))) (ay (gP 3 (d7 i6)) (ay (va cb.never (aU Nv (qv 2) (bR nW aw aw) rfl) (ay (eE (ug (qv 3) (zZ fF PySem.F.slot_str_zfill PySem.F.type_str_zfill Nn (cv pI rfl B.str_ oo (bP (bR jU (qv 2) (bR nW aw aw)))) (bP aw)))) (a7 (gP 2 (bR Nu (qv 2) (bR nW aw aw)))))) (ay (eE (ug (qv 3) (cv pI rfl B.str_ oo (bP (qv 2))))) (a7 (bz (bR cx (qv 1) (HX rfl B.reversed_ rfl aR (bP (qv 3)))))))))))
def Fh(B:kG mg)(c_p_figures:w5 P w K mg base):mQ P w K mg base xf "line_of" xI FC (xQ K):=nQ λnd hu hu1 hr=>by exact
 (ay (gP 2 (da (qv 1) aw)) (ay (ix (aU (cw hu) (qv 2) aR rfl) (bz (JC aR (d7 (aA (da (qv 1) aw) (aA aR (bP (gb c_p_figures (bP (da (qv 1) aw)))))))))) (ay (ix (aU (cw hu) (qv 2) aR rfl) (bz (JC aR (d7 (aA (da (qv 1) aw) (aA aR (aA (da (qv 1) aw) (aA (da (qv 1) aw) (bP (da (qv 1) aw)))))))))) (ay (ix (aU (cw hu) (qv 2) aR rfl) (bz (JC aR (bR cx (d7 (aA (da (qv 1) aw) (aA aR (aA aR (bP (da (da (qv 0) (da (qv 1) aw)) aw)))))) (cv iX rfl B.list_ lS (bP (da (qv 1) aw))))))) (ay (ix (aU (cw hu) (qv 2) aR rfl) (bz (JC aR (d7 (aA (qv 2) (bP (gb c_p_figures (bP (da (qv 1) aw))))))))) (ay (ix (aU (cw hu) (qv 2) aR rfl) (bz (JC aR (d7 (aA (qv 2) (aA (da (qv 1) aw) (bP (gb c_p_figures (bP (da (qv 1) aw)))))))))) (a7 (bz (JC aR (d7 (aA (qv 2) (bP (da (qv 1) aw)))))))))))))
def Ko(B:kG mg)(c_p_line_of:w6 P w K mg base):mQ P w K mg base vO "write" wI KH (C4 K):=nQ λnd hu hu1 hr=>by exact
 (ay (gP 1 (d7 i6)) (ay (fK cb.never rfl (fz (qv 0)) (kc 2) (ay (eE (ug (qv 1) (JC aR (bR cx (d7 (aA aR (bP (da (qv 2) aw)))) (cv iX rfl B.list_ lS (bP (da (qv 2) aw))))))) (a7 (eE (zZ fh PySem.F.slot_list_extend PySem.F.type_list_extend CF (qv 1) (bP (OZ wI vO ["row"] [] (fz (da (qv 2) aw)) (kc 3) iu (gb c_p_line_of (aA (qv 0) (bP (qv 3))))))))))) (a7 (bz (JC aR (qv 1))))))
def Kn(B:kG mg) :mQ P w K mg base B0 "reads" CL KG (C3 K):=nQ λnd hu hu1 hr=>by exact
 (ay (gP 1 (da (qv 0) aw)) (ay (ix (aU (cw hu) (qv 1) aR rfl) (bz (cy (aA (da (qv 0) aw) (bP (da (qv 0) aw)))))) (ay (ix (aU (cw hu) (qv 1) aR rfl) (bz (cv dY rfl B.tuple_ eN (bP (da (qv 0) aw))))) (ay (ix (aU gL (qv 1) (cy (aA aR (aA aR (bP aR)))) rfl) (bz (cy (bP (da (qv 0) aw))))) (a7 (bz (cy i6)))))))
def zr(B:kG mg)(c_p_reads:vI P w K mg base):mQ P w K mg base qS "names_read" rD zH (rK K):=nQ λnd hu hu1 hr=>by exact
 (ay (gP 1 z9) (ay (fK cb.never rfl (fz (qv 0)) (kc 2) (a7 (fK cb.never rfl (fz (gb c_p_reads (bP (qv 2)))) (kc 3) (a7 (ky lL (lD (qv 1) (qv 3) (vf hu1))))))) (a7 (bz (cv (Hm rfl) rfl B.list_ lS (bP (qv 1)))))))
def MA(B:kG mg) :mQ P w K mg base EX "sets" Gd M6 (GF K):=nQ λnd hu hu1 hr=>by exact
 (ay (ix (aU gL (da (qv 0) aw) (cy (aA aR (aA aR (bP aR)))) rfl) (bz (da (qv 0) aw))) (a7 (bz lC)))
def Fe(B:kG mg) :mQ P w K mg base za "goal" Gc M4 (AE K):=nQ λnd hu hu1 hr=>by exact
 (ay (ix (aU (cw hu) (da (qv 0) aw) aR rfl) (bz (da (qv 0) aw))) (ay (ix (aU (cw hu) (da (qv 0) aw) aR rfl) (bz (da (qv 0) aw))) (a7 (bz lC))))
def Km(B:kG mg)(c_p_goal:yU P w K mg base):mQ P w K mg base BZ "leads" CK KF (C2 K):=nQ λnd hu hu1 hr=>by exact
 (ay (gP 2 (da (da (qv 0) (qv 1)) aw)) (ay (ix (aU (cw hu) (qv 2) aR rfl) (bz (cy i6))) (ay (ix (aU (cw hu) (qv 2) aR rfl) (bz (cy (bP (gb c_p_goal (bP (da (qv 0) (qv 1)))))))) (ay (ix (aU (cw hu) (qv 2) aR rfl) (bz (cy (aA (bR cx (qv 1) aw) (bP (gb c_p_goal (bP (da (qv 0) (qv 1))))))))) (a7 (bz (cy (bP (bR cx (qv 1) aw)))))))))
def Hq(B:kG mg)(c_p_sets:yX P w K mg base)(c_p_leads:vH P w K mg base):mQ P w K mg base tW "walked" gC Hz (AO K):=nQ λnd hu hu1 hr=>by exact
 (ay (gP 2 (QM (NW aw lL QX) rfl rfl (by simp) (by decide))) (ay (gP 3 (d7 (bP aw))) (ay (va cb.never (aU xE (gN B (bP (qv 3))) aw rfl) (ay (gP 4 (NQ fh PySem.F.slot_list_pop PySem.F.type_list_pop SH (qv 3))) (a7 (ix (QW.pt (rz (aU Nw (qv 1) lC rfl) (pQ (aU (ue hu) (gb c_p_sets (bP (da (qv 0) (qv 4)))) (qv 1) rfl)))) (fK cb.never rfl (fz (gb c_p_leads (aA (qv 0) (bP (qv 4))))) (kc 5) (a7 (u9 (aU (sj hu1) (qv 5) (qv 2) rfl) (ay (ky lL (lD (qv 2) (qv 5) (vf hu1))) (a7 (eE (ug (qv 3) (qv 5))))) sk))))))) (a7 (bz (eS (Hn rfl) rfl B.sorted_ boot_sorted (bP (qv 2))))))))
def Bj(B:kG mg)(c_p_names_read:qN P w K mg base)(c_p_walked:yY P w K mg base)(c_p_reads:vI P w K mg base):mQ P w K mg base nK "unset_due" oa Bo (tK K):=nQ λnd hu hu1 hr=>by exact
 (ay (gP 1 (da (qv 0) aw)) (ay (gP 2 (d7 i6)) (ay (fK cb.never rfl (fz (gb c_p_names_read (bP (qv 1)))) (kc 3) (a7 (ix (aU lQ (qv 3) (da (qv 0) aw) rfl) (eE (zZ fh PySem.F.slot_list_extend PySem.F.type_list_extend CF (qv 2) (bP (OZ oa nK ["n"] [] (fz (gb c_p_walked (aA (qv 1) (bP (qv 3))))) (kc 4) (Ec (aU gL (qv 3) (gb c_p_reads (bP (da (qv 1) (qv 4)))) rfl)) (qv 4)))))))) (a7 (bz (QP rfl rfl B.min_ (bP (qv 2))))))))
def vZ(B:kG mg) :mQ P w K mg base kx "NoProgram.__init__" eZ wk (oY K):=nQ λnd hu hu1 hr=>by exact
 (ay (yJ (qv 0) (qv 1) rfl) (ay (yJ (qv 0) (qv 2) rfl) (a7 (yJ (qv 0) (qv 3) rfl))))
def Ho(B:kG mg)(mx_NoProgram:BX P w K mg base "NoProgram" (eK K "NoProgram") fo ku (fu K)):GW P w K mg base zc "refuse" Aj Hy (AM K):=MG λnd hu hu1 hr=>by exact
 (a7 (ix (aU JA (qv 1) lC rfl) (Ab pJ hr.hd (Aa mx_NoProgram (hr.mono (by decide)) rfl (by decide) (aA (qv 0) (aA (qv 1) (bP (qv 2))))))))
def yk(B:kG mg)(c_p_goal:yU P w K mg base):mQ P w K mg base qj "comes_round" qp yq (qu K):=nQ λnd hu hu1 hr=>by exact
 (ay (gP 2 z9) (ay (gP 3 (qv 1)) (ay (va cb.never (QW.pt (eT (aU (cw hu) (da (da (qv 0) (qv 3)) aw) aR rfl) (fM (aU (sj hu1) (qv 3) (qv 2) rfl)))) (ay (ky lL (lD (qv 2) (qv 3) (vf hu1))) (a7 (gP 3 (gb c_p_goal (bP (da (qv 0) (qv 3)))))))) (a7 (bz (uh (gG (cw hu) (qv 3) (qv 1) rfl) (uk (gG (SO hu1) (qv 1) (qv 2) rfl))))))))
def DR(B:kG mg)(c_p_comes_round:qh P w K mg base):mQ P w K mg base uM "ring_due" vd D1 (vA K):=nQ λnd hu hu1 hr=>by exact
 (ay (fK cb.never rfl (lV rfl B.range_ (bP (gN B (bP (qv 0))))) (kc 1) (a7 (ix (fL (gb c_p_comes_round (aA (qv 0) (bP (qv 1))))) (bz (qv 1))))) (a7 (bz lC)))
def yj(B:kG mg) :mQ P w K mg base lg "calls_amiss" qo yo (lH K):=nQ λnd hu hu1 hr=>by exact
 (ay (ix (aU (ue hu) (da (qv 1) aw) aR rfl) (bz lL)) (ay (gP 2 (da (qv 1) aw)) (ay (ix (QW.pt (rz (aU my (qv 2) aw rfl) (pQ (aU Nv (qv 2) (gN B (bP (qv 0))) rfl)))) (bz lL)) (a7 (bz (gG (ue hu) (gN B (bP (da (qv 1) aw))) (gN B (bP (da (da (qv 0) (qv 2)) aw))) rfl))))))
def ym(B:kG mg)(c_w_goal:EJ P w K mg base):mQ P w K mg base qk "goes_astray" qr yt (qw K):=nQ λnd hu hu1 hr=>by exact
 (ay (gP 2 (gb c_w_goal (bP (qv 1)))) (a7 (bz (uh (gG JA (qv 2) lC rfl) (uk (U0 (gG my (qv 2) aw rfl) (uk (gG Nv (qv 2) (gN B (bP (qv 0))) rfl))))))))
def Fi(B:kG mg)(c_p_calls_amiss:qg P w K mg base)(c_p_goes_astray:qi P w K mg base):mQ P w K mg base xg "row_due" xJ FD (xR K):=nQ λnd hu hu1 hr=>by exact
 (ay (gP 2 (da (da (qv 0) (qv 1)) aw)) (ay (ix (aU (cw hu) (gN B (bP (qv 2))) aw rfl) (bz aw)) (ay (fK cb.never rfl (FU rfl B.enumerate_ (bP (qv 2))) (mz rfl (dy (kc 3) (dy (kc 4) jm))) (a7 (ix (QW.pt (rz (fL (gb c_p_goes_astray (aA (qv 2) (bP (qv 4))))) (pQ (fL (gb c_p_calls_amiss (aA (qv 0) (bP (qv 4)))))))) (bz (qv 3))))) (ay (ix (aU lQ (da (da (qv 2) (FT AZ aw)) aw) (cy (aA aR (bP aR))) rfl) (bz (bR uf (gN B (bP (qv 2))) aw))) (a7 (bz lC))))))
def DP(B:kG mg) :mQ P w K mg base pH "name_due" pR DZ (vy K):=nQ λnd hu hu1 hr=>by exact
 (ay (gP 2 (da (da (qv 0) (qv 1)) aw)) (ay (gP 3 (da (da (qv 0) (qv 1)) aw)) (ay (ix (aU gL (qv 2) (OZ pR pH ["part"] [] (fz (eB ju (qv 0) e8 (e9 (qv 1)))) (kc 4) iu (da (qv 4) aw)) rfl) (bz aw)) (ay (ix (aU my (Le rfl rfl B.len_ B.set_ rfl (bP (qv 3))) (gN B (bP (qv 3))) rfl) (bz aw)) (a7 (bz lC))))))
def Kl(B:kG mg)(c_p_unset_due:sO P w K mg base)(c_p_refuse:yW P w K mg base)(c_p_ring_due:uI P w K mg base)(c_p_row_due:w9 P w K mg base)(c_p_name_due:uG P w K mg base):GW P w K mg base BY "check" CJ KD (C1 K):=MG λnd hu hu1 hr=>by exact
 (a7 (fK cb.leaving rfl (FU rfl B.enumerate_ (bP (qv 0))) (mz rfl (dy (kc 1) (dy (kc 2) jm))) (ay (eE (QQ c_p_refuse jt (aA (qv 1) (aA (gb c_p_name_due (aA (qv 0) (bP (qv 1)))) (bP aR))))) (ay (eE (QQ c_p_refuse jt (aA (qv 1) (aA (gb c_p_row_due (aA (qv 0) (bP (qv 1)))) (bP aR))))) (ay (eE (QQ c_p_refuse jt (aA (qv 1) (aA (gb c_p_ring_due (bP (da (qv 2) aw))) (bP aR))))) (a7 (eE (QQ c_p_refuse jt (aA (qv 1) (aA (gb c_p_unset_due (bP (qv 2))) (bP aR)))))))))))
def DQ(B:kG mg) :mQ P w K mg base uL "numbered" vc D0 (vz K):=nQ λnd hu hu1 hr=>by exact
 (ay (ix (aU (cw hu) (da (qv 0) aw) aR rfl) (bz (cy (aA aR (aA (da (qv 0) aw) (aA (QL hu1 (qv 1) (da (qv 0) aw) (λ_ _=>rfl)) (bP (da (qv 0) aw)))))))) (a7 (bz (qv 0))))
def zt(B:kG mg)(c_p_numbered:uH P w K mg base):mQ P w K mg base mi "program_of" mD zI (rL K):=nQ λnd hu hu1 hr=>by exact
 (ay (gP 2 (d7 i6)) (ay (fK cb.never rfl (fz (qv 0)) (kc 3) (a7 (u9 (aU (cw hu) (da (qv 3) aw) aR rfl) (a7 (eE (ug (qv 2) (cy (aA (da (qv 3) aw) (aA (da (qv 3) aw) (bP (d7 i6)))))))) (a7 (eE (ug (da (da (qv 2) (FT AZ aw)) aw) (gb c_p_numbered (aA (qv 3) (bP (qv 1)))))))))) (a7 (bz (cv dY rfl B.tuple_ eN (bP (OZ mD mi ["part"] [] (fz (qv 2)) (kc 4) iu (cy (aA (da (qv 4) aw) (aA (da (qv 4) aw) (bP (cv dY rfl B.tuple_ eN (bP (da (qv 4) aw))))))))))))))
def Be(B:kG mg) :mQ P w K mg base nH "NoLine.__init__" gB Bk (sW K):=nQ λnd hu hu1 hr=>by exact
 (a7 (yJ (qv 0) (qv 1) rfl))
def v5(B:kG mg)(mx_NoLine:BX P w K mg base "NoLine" (eK K "NoLine") fX kI (eC K)):GW P w K mg base oH "refuse_calls" oS wo (px K):=MG λnd hu hu1 hr=>by exact
 (a7 (fK cb.leaving rfl (yI rfl B.enumerate_ (bP (qv 0))) (mz rfl (dy (kc 2) (dy (kc 3) jm))) (a7 (ix (QW.pt (eT (aU (cw hu) (da (qv 3) aw) aR rfl) (fM (aU (sj hu1) (da (qv 3) aw) (qv 1) rfl)))) (Ab pJ hr.hd (Aa mx_NoLine (hr.mono (by decide)) rfl (by decide) (bP (qv 2))))))))
def qX(B:kG mg) :mQ P w K mg base iK "numbers_of_parts" iM qZ (kT K):=nQ λnd hu hu1 hr=>by exact
 (ay (TC iM iK ["line"] [] 1 (fz (qv 0)) (kc 5) (Ec (aU (cw hu) (da (qv 5) aw) aR rfl)) (da (qv 5) aw)) (ay (gP 2 z9) (ay (fK cb.never rfl (yI rfl B.enumerate_ (bP (qv 1))) (mz rfl (dy (kc 3) (dy (kc 4) jm))) (a7 (ix (aU (sj hu1) (qv 4) (qv 2) rfl) (ky (qv 3) (lD (qv 2) (qv 4) (vf hu1)))))) (a7 (bz (qv 2))))))
def v7(B:kG mg)(mx_NoLine:BX P w K mg base "NoLine" (eK K "NoLine") fX kI (eC K)):GW P w K mg base oJ "refuse_forms" oU wq (pA K):=MG λnd hu hu1 hr=>by exact
 (a7 (fK cb.leaving rfl (yI rfl B.enumerate_ (bP (qv 0))) (mz rfl (dy (kc 1) (dy (kc 2) jm))) (a7 (ix (QW.pt (rz (aU Nw (qv 2) lC rfl) (pQ (QW.pt (eT (aU (cw hu) (qv 1) aw rfl) (fM (aU (ue hu) (da (qv 2) aw) aR rfl))))))) (Ab pJ hr.hd (Aa mx_NoLine (hr.mono (by decide)) rfl (by decide) (bP (qv 1))))))))
def Bh(B:kG mg)(q_FIGURES:Ul mg "FIGURES" "0123456789"):mQ P w K mg base nJ "is_number" nZ Bm (tE K):=nQ λnd hu hu1 hr=>by exact
 (ay (ix (QW.pt (rz (aU my (gN B (bP (qv 0))) aw rfl) (pQ (aU xE (gN B (bP (qv 0))) aw rfl)))) (bz lL)) (ay (ix (QW.pt (eT (aU (cw hu) (da (qv 0) aw) aR rfl) (fM (aU (ue hu) (qv 0) aR rfl)))) (bz lL)) (a7 (bz (eS (m5 rfl) rfl B.all_ boot_all (bP (OZ nZ nJ ["sign"] [] (NV (qv 0)) (kc 1) iu (gG zT (qv 1) (NR rfl q_FIGURES) rfl))))))))
def Ff(B:kG mg)(q_LETTERS:Ul mg "LETTERS" "abcdefghijklmnopqrstuvwxyz")(q_WORDS:Um K mg "WORDS" [.str "part",.str "call",.str "say",.str "jump",.str "test",.str "give"]):mQ P w K mg base qR "is_name" rC FB (xP K):=nQ λnd hu hu1 hr=>by exact
 (ay (ix (QW.pt (rz (aU my (gN B (bP (qv 0))) aw rfl) (rz (aU xE (gN B (bP (qv 0))) aw rfl) (pQ (aU zT (qv 0) (NS rfl q_WORDS) rfl))))) (bz lL)) (a7 (bz (eS (m5 rfl) rfl B.all_ boot_all (bP (OZ rC qR ["sign"] [] (NV (qv 0)) (kc 1) iu (gG zT (qv 1) (NR rfl q_LETTERS) rfl)))))))
def Bf(B:kG mg)(c_p_is_name:mW P w K mg base):mQ P w K mg base nI "are_names" nY Bl (sX K):=nQ λnd hu hu1 hr=>by exact
 (a7 (bz (eS (m5 rfl) rfl B.all_ boot_all (bP (OZ nY nI ["word"] [] (fz (qv 0)) (kc 1) iu (gb c_p_is_name (bP (qv 1))))))))
def v8(B:kG mg)(q_SIGNS:Um K mg "SIGNS" [.str "+",.str "-",.str "*",.str "<",.str "="])(c_p_is_name:mW P w K mg base)(c_p_are_names:nE P w K mg base)(c_p_is_number:nF P w K mg base):mQ P w K mg base oK "setting_read" oV wt (pB K):=nQ λnd hu hu1 hr=>by exact
 (ay (gP 1 (da (qv 0) aw)) (ay (ix (um (fL (gb c_p_is_name (bP (qv 1))))) (bz lC)) (ay (ix (QW.pt (eT (aU (cw hu) (gN B (bP (qv 0))) aw rfl) (eT (fL (gb c_p_is_number (bP (da (qv 0) aw)))) (fM (aU my (cv rZ rfl B.int_ lX (bP (da (qv 0) aw))) (bR nW aw aw) rfl))))) (bz (cy (aA aR (aA (qv 1) (bP (cv rZ rfl B.int_ lX (bP (da (qv 0) aw))))))))) (ay (ix (QW.pt (eT (aU xE (gN B (bP (qv 0))) aw rfl) (eT (aU (cw hu) (da (qv 0) aw) aR rfl) (fM (fL (gb c_p_are_names (bP (eB ju (qv 0) (e9 aw) e8)))))))) (bz (cy (aA aR (aA (qv 1) (aA (da (qv 0) aw) (bP (cv dY rfl B.tuple_ eN (bP (eB ju (qv 0) (e9 aw) e8)))))))))) (ay (ix (QW.pt (eT (aU (cw hu) (gN B (bP (qv 0))) aw rfl) (eT (aU zT (da (qv 0) aw) (NS rfl q_SIGNS) rfl) (eT (fL (gb c_p_is_name (bP (da (qv 0) aw)))) (fM (fL (gb c_p_is_name (bP (da (qv 0) aw))))))))) (bz (cy (aA aR (aA (qv 1) (aA (da (qv 0) aw) (aA (da (qv 0) aw) (bP (da (qv 0) aw))))))))) (a7 (bz lC)))))))
def Bi(B:kG mg)(c_p_is_number:nF P w K mg base)(c_p_is_name:mW P w K mg base)(c_p_are_names:nE P w K mg base)(c_p_setting_read:oC P w K mg base):mQ P w K mg base sQ "line_read" sV Bn (tF K):=nQ λnd hu hu1 hr=>by exact
 (ay (gP 1 (zZ fF fG PySem.F.type_str_split FM (qv 0) (bP aR))) (ay (ix (QW.pt (eT (aU xE (gN B (bP (qv 1))) aw rfl) (fM (aU (cw hu) (da (qv 1) aw) aR rfl)))) (bz (gb c_p_setting_read (bP (qv 1))))) (ay (ix (QW.pt (eT (aU (cw hu) (da (qv 1) aw) aR rfl) (eT (aU xE (gN B (bP (qv 1))) aw rfl) (fM (fL (gb c_p_are_names (bP (eB ju (qv 1) (e9 aw) e8)))))))) (bz (cy (aA aR (aA (da (qv 1) aw) (bP (cv dY rfl B.tuple_ eN (bP (eB ju (qv 1) (e9 aw) e8))))))))) (ay (ix (QW.pt (eT (aU zT (da (qv 1) aw) (cy (aA aR (bP aR))) rfl) (eT (aU (cw hu) (gN B (bP (qv 1))) aw rfl) (fM (fL (gb c_p_is_name (bP (da (qv 1) aw)))))))) (bz (cy (aA (da (qv 1) aw) (bP (da (qv 1) aw)))))) (ay (ix (QW.pt (eT (aU (cw hu) (da (qv 1) aw) aR rfl) (eT (aU (cw hu) (gN B (bP (qv 1))) aw rfl) (fM (fL (gb c_p_is_number (bP (da (qv 1) aw)))))))) (bz (cy (aA aR (bP (cv rZ rfl B.int_ lX (bP (da (qv 1) aw)))))))) (ay (ix (QW.pt (eT (aU (cw hu) (da (qv 1) aw) aR rfl) (eT (aU (cw hu) (gN B (bP (qv 1))) aw rfl) (eT (fL (gb c_p_is_name (bP (da (qv 1) aw)))) (fM (fL (gb c_p_is_number (bP (da (qv 1) aw))))))))) (bz (cy (aA aR (aA (da (qv 1) aw) (bP (cv rZ rfl B.int_ lX (bP (da (qv 1) aw))))))))) (a7 (bz lC))))))))
def Mz(B:kG mg)(c_p_check:BU P w K mg base)(c_p_program_of:qO P w K mg base)(c_p_refuse_calls:oA P w K mg base)(c_p_numbers_of_parts:kN P w K mg base)(c_p_refuse_forms:oB P w K mg base)(c_p_line_read:sM P w K mg base):GW P w K mg base zb "read" Ai M5 (GA K):=MG λnd hu hu1 hr=>by exact
 (ay (TC Ai zb ["line"] [] 1 (fz (zZ fF fG PySem.F.type_str_split FM (qv 0) (bP aR))) (kc 4) iu (gb c_p_line_read (bP (qv 4)))) (ay (eE (QQ c_p_refuse_forms jt (bP (qv 1)))) (ay (gP 2 (gb c_p_numbers_of_parts (bP (qv 1)))) (ay (eE (QQ c_p_refuse_calls jt (aA (qv 1) (bP (qv 2))))) (ay (gP 3 (gb c_p_program_of (aA (qv 1) (bP (qv 2))))) (ay (eE (QQ c_p_check jt (bP (qv 3)))) (a7 (bz (qv 3)))))))))
def Jj(B:kG mg){S:Sp}{n:Nat}(c_rec:cP P w K mg base "_law_kinds" kO n S):mQ P w K mg base yC "_law_kinds" m9 n (Er K S):=nQ λnd hu hu1 hr=>by exact
 (ay (u9 (fL (eS qW rfl B.isinstance_ fv (aA (qv 1) (bP (m8 rfl B.tuple_ eN (v:=.ty "tuple") rfl))))) (ay (ix (QW.pt (rz (um (fL (eS qW rfl B.isinstance_ fv (aA (qv 0) (bP (m8 rfl B.tuple_ eN (v:=.ty "tuple") rfl)))))) (pQ (aU (ue hu) (gN B (bP (qv 0))) (gN B (bP (qv 1))) rfl)))) (bz lL)) (a7 (bz (eS (m5 rfl) rfl B.all_ boot_all (bP (OZ m9 yC ["_law_one","_law_other"] [] (QV rfl B.zip_ (aA (qv 0) (bP (qv 1)))) (mz rfl (dy (kc 2) (dy (kc 3) jm))) iu (RI c_rec (hr.mono (aB _)) rfl (aA (qv 2) (bP (qv 3)))))))))) sk) (ay (ix (fL (eS vY rfl B.isinstance_ fv (aA (qv 1) (bP (m8 rfl B.str_ oo (v:=.ty "str") rfl))))) (bz (uh (eS vY rfl B.isinstance_ fv (aA (qv 0) (bP (m8 rfl B.str_ oo (v:=.ty "str") rfl)))) (uk (gG (cw hu) (qv 0) (qv 1) rfl))))) (a7 (bz (uh (eS qW rfl B.isinstance_ fv (aA (qv 0) (bP (m8 rfl B.int_ lX (v:=.ty "int") rfl)))) (uh (TH (eS qW rfl B.isinstance_ fv (aA (qv 0) (bP (m8 rfl B.bool_ boot_bool (v:=.ty "bool") rfl))))) (uk (gG (cw hu) (qv 0) (qv 1) rfl))))))))
def Si(B:kG mg)(g_NoProgram:mg "NoProgram"=some (.ref (eK K "NoProgram")))(c_p_read:yV P w K mg base):mQ P w K mg base L9 "_law_told" Oo Sz (OI K):=nQ λnd hu hu1 hr=>by exact
 (ay (gP 1 (cy (bP aR))) (ay (TL (i:=2) rfl rfl rfl rfl g_NoProgram nd rfl rfl (λpl E1 Ein hp=>(a7 (gP 1 (cy (aA aR (bP (QQ c_p_read hp (bP (qv 0))))))))) (λx=>(a7 (gP 1 (cy (aA aR (bP (QN (qv 2) rfl)))))))) (a7 (bz (qv 1)))))
def Hr(B:kG mg) :mQ P w K mg base tX "_law_row_text" uu HA (AV K):=nQ λnd hu hu1 hr=>by exact
 (ay (ix (aU (cw hu) (da (qv 1) aw) aR rfl) (bz (bR cx (bR cx (da (qv 1) aw) aR) (cv pI rfl B.str_ oo (bP (da (qv 1) aw)))))) (ay (ix (aU (cw hu) (da (qv 1) aw) aR rfl) (bz (bR cx (bR cx (bR cx (bR cx (bR cx (bR cx (da (qv 1) aw) aR) (da (qv 1) aw)) aR) (da (qv 1) aw)) aR) (da (qv 1) aw)))) (ay (ix (aU (cw hu) (da (qv 1) aw) aR rfl) (bz (JC aR (bR cx (d7 (aA (da (qv 1) aw) (aA aR (aA aR (bP (da (da (qv 0) (da (qv 1) aw)) aw)))))) (cv iX rfl B.list_ lS (bP (da (qv 1) aw))))))) (a7 (bz (JC aR (OZ uu tX ["_law_thing"] [] (fz (qv 1)) (kc 2) iu (cv pI rfl B.str_ oo (bP (qv 2))))))))))
def Po(B:kG mg)(c_row_text:yZ P w K mg base):mQ P w K mg base IZ "_law_lines" JH PQ (JT K):=nQ λnd hu hu1 hr=>by exact
 (ay (gP 1 (d7 i6)) (ay (fK cb.never rfl (fz (qv 0)) (mz rfl (dy (kc 2) (dy (kc 3) (dy (kc 4) jm)))) (ay (eE (ug (qv 1) (JC aR (bR cx (d7 (aA aR (bP (qv 2)))) (cv iX rfl B.list_ lS (bP (qv 3))))))) (a7 (fK cb.never rfl (fz (qv 4)) (kc 5) (a7 (eE (ug (qv 1) (gb c_row_text (aA (qv 0) (bP (qv 5))))))))))) (a7 (bz (qv 1)))))
def Kr(B:kG mg)(c_lines:Dm P w K mg base)(c_p_write:vJ P w K mg base):mQ P w K mg base B9 "_law_written" CM KL (Dc K):=nQ λnd hu hu1 hr=>by exact
 (ay (gP 1 (gb c_p_write (bP (qv 0)))) (a7 (bz (uh (eS vY rfl B.isinstance_ fv (aA (qv 1) (bP (m8 rfl B.str_ oo (v:=.ty "str") rfl)))) (uk (gG (cw hu) (qv 1) (JC aR (gb c_lines (bP (qv 0)))) rfl))))))
def Sg(B:kG mg) :mQ P w K mg base L8 "_law_draw" On Sx (OB K):=nQ λnd hu hu1 hr=>by exact
 (ay (ky (eB ju (qv 0) e8 (e9 aw)) (QU rfl (dy (kc 2) (dy (kc 3) jm)))) (ay (ky (bR cx (qv 3) aw) (lD (qv 0) aw kR)) (ay (u9 (QW.pt (eT (aU my (bR cx (bR Ea (qv 3) aw) aw) (gN B (bP (qv 2))) rfl) (fM (aU (cw hu) (bR jU (da (qv 2) aw) aw) aw rfl)))) (ay (ix (aU (cw hu) (bR jU (qv 3) aw) aw rfl) (ky (da (qv 2) (bR cx (bR Ea (qv 3) aw) aw)) (lD (qv 0) aw kR))) (a7 (u9 (aU lQ (da (qv 0) aw) (cy (aA aw (bP (FT AZ aw)))) rfl) (ay (ky (eS DJ rfl B.divmod_ boot_divmod (aA (da (qv 0) aw) (bP (qv 1)))) (mz rfl (dy (lD (qv 0) aw kR) (dy (kc 4) jm)))) (a7 (bz (qv 4)))) sk))) (a7 (ix (aU my (qv 3) (gN B (bP (qv 2))) rfl) (bz (bR jU (da (qv 2) (qv 3)) (qv 1)))))) (ay (gP 5 (bR cx (bR iL (qv 3) aw) aw)) (ay (ix (aU xE (gN B (bP (qv 2))) aw rfl) (gP 5 (bR cx (qv 5) (bR iL (da (qv 2) (bR jU (bR iL (qv 3) aw) (gN B (bP (qv 2))))) (bR cx aw (qv 3)))))) (ay (gP 5 (bR jU (bR iL (bR jU (qv 5) aw) (bR cx (qv 3) aw)) aw)) (ay (gP 5 (bR jU (bR iL (qv 5) (qv 5)) aw)) (a7 (bz (bR jU (bR jU (bR iL (qv 5) (qv 5)) aw) (qv 1)))))))))))
def Pr(B:kG mg)(c_draw:qM P w K mg base):mQ P w K mg base I0 "_law_rough" JI PU (JV K):=nQ λnd hu hu1 hr=>by exact
 (ay (gP 2 (d7 i6)) (ay (fK cb.never rfl (fz (qv 1)) (mz rfl (dy (kc 3) (dy (kc 4) (dy (kc 5) jm)))) (ay (gP 6 (d7 i6)) (ay (fK cb.never rfl (fz (qv 5)) (kc 7) (ay (gP 8 (gb c_draw (aA (qv 0) (bP aw)))) (ay (ix (QW.pt (eT (aU (rp hu) (qv 8) aw rfl) (fM (aU gL (da (qv 7) aw) (cy (aA aR (bP aR))) rfl)))) (gP 7 (bR rq (eB vg (qv 7) e8 (e9 (FT AZ aw))) (cy (bP (gb c_draw (aA (qv 0) (bP (bR nW aw aw))))))))) (ay (ix (QW.pt (eT (aU (rp hu) (qv 8) aw rfl) (fM (aU gL (da (qv 7) aw) (cy (aA aR (bP aR))) rfl)))) (gP 7 (cy (aA (da (qv 7) aw) (bP (eB vg aR (e9 (gb c_draw (aA (qv 0) (bP aw)))) e8)))))) (ay (ix (QW.pt (eT (aU (rp hu) (qv 8) aw rfl) (fM (aU (rp hu) (da (qv 7) aw) aR rfl)))) (gP 7 (bR rq (eB vg (qv 7) e8 (e9 aw)) (cy (bP (bR rq (da (qv 7) aw) (cy (bP (da (qv 7) aw))))))))) (a7 (eE (ug (qv 6) (qv 7))))))))) (ay (ix (aU (rp hu) (gb c_draw (aA (qv 0) (bP aw))) aw rfl) (eE (ug (qv 6) (cy (aA aR (aA aR (bP (bR uf (bR uf (bR nW aw aw) aw) (gb c_draw (aA (qv 0) (bP aw))))))))))) (ay (ix (aU (rp hu) (gb c_draw (aA (qv 0) (bP aw))) aw rfl) (eE (NQ fh PySem.F.slot_list_reverse PySem.F.type_list_reverse HJ (qv 6)))) (ay (ix (aU (rp hu) (gb c_draw (aA (qv 0) (bP aw))) aw rfl) (gP 4 (eB vg (bR rq (qv 4) (eB vg (qv 4) e8 (e9 aw))) e8 (e9 aw)))) (a7 (eE (ug (qv 2) (cy (aA (qv 3) (aA (qv 4) (bP (cv dY rfl B.tuple_ eN (bP (qv 6)))))))))))))))) (a7 (bz (cv dY rfl B.tuple_ eN (bP (qv 2)))))))
def Mx(B:kG mg)(c_draw:qM P w K mg base):mQ P w K mg base y9 "_law_filled" Ah MZ (Gq K):=nQ λnd hu hu1 hr=>by exact
 (ay (gP 3 (d7 i6)) (ay (fK cb.never rfl (yI rfl B.enumerate_ (bP (qv 1))) (mz rfl (dy (kc 4) (dy (kc 5) jm))) (ay (gP 6 (d7 i6)) (ay (fK cb.never rfl (fz (eB ju (qv 5) (e9 aw) e8)) (kc 7) (ay (u9 (aU (cw hu) (qv 7) aR rfl) (a7 (gP 7 (da (da (qv 2) (qv 4)) (gb c_draw (aA (qv 0) (bP (gN B (bP (da (qv 2) (qv 4)))))))))) (a7 (ix (fL (eS qW rfl B.isinstance_ fv (aA (qv 7) (bP (m8 rfl B.tuple_ eN (v:=.ty "tuple") rfl))))) (gP 7 (cv dY rfl B.tuple_ eN (bP (OZ Ah y9 ["_law_one"] [] (fz (qv 7)) (kc 8) iu (da (da (qv 2) (qv 4)) (gb c_draw (aA (qv 0) (bP (gN B (bP (da (qv 2) (qv 4))))))))))))))) (a7 (eE (ug (qv 6) (qv 7)))))) (a7 (eE (ug (qv 3) (bR cx (cy (bP (da (qv 5) aw))) (cv dY rfl B.tuple_ eN (bP (qv 6)))))))))) (a7 (bz (cv dY rfl B.tuple_ eN (bP (qv 3)))))))
def Pn(B:kG mg) :mQ P w K mg base IW "_law_leads" JG PP (JS K):=nQ λnd hu hu1 hr=>by exact
 (ay (ix (aU (cw hu) (da (da (qv 0) (qv 1)) aw) aR rfl) (bz (d7 (bP (da (da (qv 0) (qv 1)) aw))))) (ay (ix (aU (cw hu) (da (da (qv 0) (qv 1)) aw) aR rfl) (bz (d7 (aA (bR cx (qv 1) aw) (bP (da (da (qv 0) (qv 1)) aw)))))) (ay (ix (aU (cw hu) (da (da (qv 0) (qv 1)) aw) aR rfl) (bz (d7 i6))) (a7 (bz (d7 (bP (bR cx (qv 1) aw))))))))
def Fk(B:kG mg)(c_leads:IM P w K mg base):mQ P w K mg base mY "_law_set_names" nh FF (yb K):=nQ λnd hu hu1 hr=>by exact
 (ay (TC nh mY ["_law_row"] [] 3 (fz (qv 0)) (kc 9) iu (cv iX rfl B.list_ lS (bP (qv 1)))) (ay (ky (cv iX rfl B.list_ lS (bP (qv 2))) (lD (qv 3) aw kR)) (ay (gP 4 lL) (ay (va cb.never (fL (qv 4)) (ay (gP 4 lL) (a7 (fK cb.never rfl (lV rfl B.range_ (bP (gN B (bP (qv 0))))) (kc 5) (ay (gP 6 (da (qv 3) (qv 5))) (ay (ix (aU gL (da (da (qv 0) (qv 5)) aw) (cy (aA aR (aA aR (bP aR)))) rfl) (gP 6 (bR cx (qv 6) (d7 (bP (da (da (qv 0) (qv 5)) aw)))))) (a7 (fK cb.never rfl (fz (gb c_leads (aA (qv 0) (bP (qv 5))))) (kc 7) (ay (TC nh mY ["_law_name"] [] 8 (fz (da (qv 3) (qv 7))) (kc 9) (Ec (aU gL (qv 9) (qv 6) rfl)) (qv 9)) (a7 (u9 (aU my (gN B (bP (qv 8))) (gN B (bP (da (qv 3) (qv 7)))) rfl) (ay (ky (qv 8) (lD (qv 3) (qv 7) kR)) (a7 (gP 4 lL))) sk))))))))))) (a7 (bz (qv 3)))))))
def My(B:kG mg) :mQ P w K mg base EW "_law_mended" Gb M3 (Gr K):=nQ λnd hu hu1 hr=>by exact
 (ay (gP 3 (bR uf (gN B (bP (qv 0))) aw)) (ay (ix (aU lQ (da (da (qv 0) (qv 3)) aw) (cy (aA aR (bP aR))) rfl) (ky (cy (aA aR (bP aR))) (lD (qv 0) (qv 3) kR))) (ay (ix (QW.pt (eT (fL (qv 2)) (eT (aU (ue hu) (da (da (qv 0) aw) aw) aR rfl) (fM (aU xE (qv 3) aw rfl))))) (ky (cy (aA aR (aA (da (qv 1) aw) (bP aw)))) (lD (qv 0) aw kR))) (ay (fK cb.never rfl (lV rfl B.range_ (bP (gN B (bP (qv 0))))) (kc 4) (ay (gP 5 (qv 4)) (ay (fK cb.never rfl (fz (qv 0)) (kc 6) (a7 (ix (aU (cw hu) (da (da (qv 0) (qv 5)) aw) aR rfl) (gP 5 (da (da (qv 0) (qv 5)) aw))))) (a7 (ix (aU (cw hu) (da (da (qv 0) (qv 5)) aw) aR rfl) (ky (da (d7 (aA (cy (aA aR (bP aR))) (bP (cy (aA aR (bP aR)))))) (cv vX rfl B.int_ lX (bP (gG (cw hu) (qv 4) (qv 3) rfl)))) (lD (qv 0) (qv 4) kR))))))) (a7 (bz (qv 0)))))))
def Pt(B:kG mg)(c_draw:qM P w K mg base):mQ P w K mg base Ja "_law_worth" JJ PV (JW K):=nQ λnd hu hu1 hr=>by exact
 (ay (ix (aU (cw hu) (gb c_draw (aA (qv 0) (bP aw))) aw rfl) (bz (bR cx (bR iL (gb c_draw (aA (qv 0) (bP (bR nW aw aw)))) (bR nW aw aw)) (gb c_draw (aA (qv 0) (bP (bR nW aw aw))))))) (a7 (bz (da (d7 (aA aw (aA aw (aA (bR uf (bR uf (bR nW aw aw) aw) (gb c_draw (aA (qv 0) (bP aw)))) (bP (gb c_draw (aA (qv 0) (bP aw)))))))) (gb c_draw (aA (qv 0) (bP aw)))))))
def Fj(B:kG mg)(c_draw:qM P w K mg base)(c_worth:IS P w K mg base):mQ P w K mg base xh "_law_rough_row" xK FE (ya K):=nQ λnd hu hu1 hr=>by exact
 (ay (gP 4 (da (qv 1) (gb c_draw (aA (qv 0) (bP (gN B (bP (qv 1)))))))) (ay (gP 5 (gb c_draw (aA (qv 0) (bP aw)))) (ay (ix (aU my (qv 5) aw rfl) (bz (cy (aA aR (aA (qv 4) (bP (gb c_worth (bP (qv 0))))))))) (ay (ix (aU my (qv 5) aw rfl) (bz (cy (aA aR (aA (qv 4) (aA (da aR (gb c_draw (aA (qv 0) (bP aw)))) (aA aR (bP aR)))))))) (ay (u9 (aU (cw hu) (qv 5) aw rfl) (ay (gP 6 (gb c_draw (aA (qv 0) (bP (gN B (bP (qv 3))))))) (a7 (bz (cy (aA aR (aA (qv 4) (aA (qv 6) (bP (bR iL (cy (bP aR)) (da (qv 3) (qv 6))))))))))) sk) (ay (ix (aU my (qv 5) aw rfl) (bz (cy (aA aR (bP aR))))) (ay (ix (aU my (qv 5) aw rfl) (bz (cy (aA aR (aA aR (bP (gb c_draw (aA (qv 0) (bP (qv 2)))))))))) (a7 (bz (da (d7 (aA (cy (aA aR (bP (gb c_draw (aA (qv 0) (bP (qv 2))))))) (bP (cy (aA aR (bP aR)))))) (bR uf (qv 5) aw)))))))))))
def Sh(B:kG mg)(c_filled:EH P w K mg base)(c_set_names:xb P w K mg base)(c_mended:EI P w K mg base)(c_rough_row:xa P w K mg base)(c_draw:qM P w K mg base):mQ P w K mg base G4 "_law_part" Ik Sy (OH K):=nQ λnd hu hu1 hr=>by exact
 (ay (gP 6 (eS (Kh rfl) rfl B.max_ boot_max (aA (bR cx aw (cv vX rfl B.int_ lX (bP (gG (cw hu) (gN B (bP (qv 3))) aw rfl)))) (bP (bR cx aw (gb c_draw (aA (qv 0) (bP (qv 5))))))))) (ay (TC Ik G4 ["_law_n"] [] 7 (lV rfl B.range_ (bP (qv 6))) (kc 9) iu (gb c_rough_row (aA (qv 0) (aA (qv 2) (aA (qv 6) (bP (qv 4))))))) (ay (gP 7 (gb c_mended (aA (qv 7) (aA (qv 2) (bP (gG (cw hu) (gN B (bP (qv 3))) aw rfl)))))) (ay (gP 8 (gb c_set_names (aA (qv 7) (aA (qv 2) (bP (qv 3)))))) (a7 (bz (cy (aA (qv 1) (aA (cv dY rfl B.tuple_ eN (bP (qv 3))) (bP (gb c_filled (aA (qv 0) (aA (qv 7) (bP (qv 8)))))))))))))))
def Pp(B:kG mg)(c_draw:qM P w K mg base):mQ P w K mg base Ds "_law_names" Ej PR (JU K):=nQ λnd hu hu1 hr=>by exact
 (ay (gP 2 aR) (ay (gP 3 (bR cx aw (gb c_draw (aA (qv 0) (bP aw))))) (ay (gP 4 (gb c_draw (aA (qv 0) (bP (qv 3))))) (ay (gP 5 (gb c_draw (aA (qv 0) (bP aw)))) (ay (TC Ej Ds ["_law_j"] [] 6 (lV rfl B.range_ (bP (qv 3))) (kc 11) iu (da (qv 2) (bR jU (bR cx (qv 5) (bR iL (bR iL aw (qv 11)) (gb c_draw (aA (qv 0) (bP aw))))) aw))) (ay (gP 7 (d7 i6)) (ay (fK cb.never rfl (lV rfl B.range_ (bP (qv 1))) (kc 8) (ay (gP 9 (bR cx (bR cx (eB ju (qv 6) e8 (e9 (qv 4))) (d7 (bP (da (qv 2) (bR jU (bR cx (qv 5) (bR iL aw (qv 8))) aw))))) (eB ju (qv 6) (e9 (bR cx (qv 4) aw)) e8))) (ay (gP 10 (JC aR (qv 9))) (ay (ix (QW.pt (rz (aU gL (qv 10) (cy (aA aR (aA aR (aA aR (aA aR (aA aR (bP aR))))))) rfl) (pQ (QW.pt (eT (aU my (qv 3) aw rfl) (fM (aU (cw hu) (bR jU (bR cx (qv 3) (qv 8)) aw) aw rfl))))))) (gP 10 (bR cx (qv 10) aR))) (a7 (eE (ug (qv 7) (qv 10)))))))) (a7 (bz (qv 7))))))))))
def Kp(B:kG mg)(c_part:LU P w K mg base)(c_draw:qM P w K mg base)(c_names:IP P w K mg base):mQ P w K mg base vP "_law_program" wJ KI (C5 K):=nQ λnd hu hu1 hr=>by exact
 (ay (gP 2 (cv vX rfl B.int_ lX (bP (gG (cw hu) (bR jU (bR Ea (eS (DL rfl) rfl B.sum_ boot_sum (bP (eB ju (da (qv 0) aw) e8 (e9 aw)))) aw) aw) aw rfl)))) (ay (gP 3 (eB ju (gb c_names (aA (qv 0) (bP aw))) e8 (e9 (da (d7 (aA (bR cx aw (gb c_draw (aA (qv 0) (bP aw)))) (bP aw))) (qv 2))))) (ay (gP 4 (gb c_names (aA (qv 0) (bP (bR cx aw (gb c_draw (aA (qv 0) (bP aw)))))))) (ay (TC wJ vP [] [7] 5 (fz (qv 3)) (kc 7) iu (gb c_draw (aA (qv 0) (bP (bR cx (eS (Ki rfl) rfl B.min_ boot_min (aA aw (bP (gN B (bP (qv 4)))))) aw))))) (ay (gP 6 (d7 i6)) (ay (fK cb.never rfl (TJ rfl B.zip_ (aA (qv 3) (bP (qv 5)))) (mz rfl (dy (kc 7) (dy (kc 8) jm))) (ay (gP 9 (gb c_draw (aA (qv 0) (bP (gN B (bP (qv 4))))))) (ay (gP 10 (eB ju (bR cx (eB ju (qv 4) (e9 (qv 9)) e8) (eB ju (qv 4) e8 (e9 (qv 9)))) e8 (e9 (qv 8)))) (a7 (eE (ug (qv 6) (gb c_part (aA (qv 0) (aA (qv 7) (aA (qv 4) (aA (qv 10) (aA (qv 5) (bP (qv 1)))))))))))))) (a7 (bz (cv dY rfl B.tuple_ eN (bP (qv 6)))))))))))
def UC(B:kG mg)(c_p_write:vJ P w K mg base)(c_p_read:yV P w K mg base)(c_kinds:O2 P w K mg base)(c_told:LV P w K mg base)(c_lines:Dm P w K mg base)(c_written:BW P w K mg base)(c_rough:IQ P w K mg base)(c_program:BV P w K mg base):mQ P w K mg base Rq "law" RQ RC (RS K):=nQ λnd hu hu1 hr=>by exact
 (ay (gP 1 (d7 (aA (qv 0) (aA aw (bP aw))))) (ay (gP 2 (gb c_program (aA (qv 1) (bP aw)))) (ay (gP 3 (gb c_rough (aA (qv 1) (bP (qv 2))))) (ay (ix (QW.pt (rz (um (fL (gb c_written (bP (qv 2))))) (rz (um (fL (gb c_written (bP (qv 3))))) (pQ (um (fL (gb c_written (bP (eB Ek (bR rq (eB Ek (NU (qv 2) (FT AZ aw)) e8 (e9 aw)) (qv 2)) e8 (e9 aw)))))))))) (bz lL)) (ay (ix (um (fL (gb c_kinds (aA (gb c_told (bP (JC aR (gb c_lines (bP (qv 2)))))) (bP (cy (aA aR (bP (qv 2))))))))) (bz lL)) (ay (gP 4 (gb c_told (bP (gb c_p_write (bP (qv 3)))))) (ay (ix (QW.pt (eT (aU (rp hu) (da (qv 4) aw) aR rfl) (fM (um (fL (gb c_kinds (aA (da (qv 4) aw) (bP (qv 3))))))))) (bz lL)) (a7 (bz (uh (gG gL (da (qv 4) aw) (cy (aA aR (bP aR))) rfl) (uk (gb c_kinds (aA (QQ c_p_read SV (bP (gb c_p_write (bP (qv 2))))) (bP (qv 2)))))))))))))))
end
end Bg
end
section
namespace Bg
open PySem L2
def xG{K:Fg}{st scr:ar}{m:Int}{k:Nat}{ns:List Int}{c:Int}{H H2:Hp}{Q:VK}{o4 o5:Option V}{nx:St->Hp->Prop}(hk:k<=1000000)(m0:0<m)
  (q:∀(d:Int) (H':Hp),0<=d->d<m->j9 K H' st (k+1)->gc st H H'->Q (.int d) H') (hS:H2 st=some (.lst [.ref scr,.int ((k:Int)+1),.int c])) (hscr:mZ K H2 scr ns) (hns:ns.length<=63) (hB:gc st H H2) :
  vp K {nx:=nx,rt:=Q} [some (.ref st),some (.int m),some (.ref scr),some (.int (k:Nat)),o4,o5] H2:=by
 have e1:(((k+1:Nat):Nat):Int)=(k:Int)+1:=by lia
 have S2:j9 K H2 st (k+1):=⟨scr,ns,c,by rw[e1];exact hS,hscr,hns⟩;refine⟨_,rfl,.inl ⟨_,_,rfl,rfl,.inr ⟨by decide,by decide⟩,.inl ⟨_,_,rfl,rfl,?_⟩⟩⟩;have rest:∀z:Int,Gm K {nx:=nx,rt:=Q} [some (.ref st),some (.int m),some (.ref scr),some (.int (k:Nat)),o4,some (.int z)] H2:=λz=>by
  have b1:0<=z % 2147483629:=dW _ (by decide);have b2:z % 2147483629<2147483629:=dS _ (by decide);refine⟨_,rfl,_,_,rfl,rfl,(by show(0:Int)<2147483629;decide),_,rfl,.inl ⟨_,_,rfl,rfl,.inl ⟨_,_,rfl,rfl,.inl ⟨by lia,by lia⟩,_,_,rfl,rfl,(by show(0:Int)<2147483629;decide),?_⟩⟩⟩;generalize hy:z % 2147483629*((k:Int)+3) % 2147483629=y;have c1:0<=y:=by rw[<-hy];exact dW _ (by decide)
  have c2:y<2147483629:=by rw[<-hy];exact dS _ (by decide)
  refine⟨_,rfl,_,rfl,.inl ⟨_,_,rfl,rfl,.inl ⟨by lia,by lia⟩,_,_,rfl,rfl,(by show(0:Int)<2147483587;decide),?_⟩⟩;generalize hx:y*y % 2147483587=x;have d1:0<=x:=by rw[<-hx];exact dW _ (by decide)
  have d2:x<2147483587:=by rw[<-hx];exact dS _ (by decide)
  refine⟨_,rfl,_,rfl,.inl ⟨_,_,rfl,rfl,.inl ⟨by lia,by lia⟩,_,_,rfl,rfl,(by show(0:Int)<1999999973;decide),_,rfl,_,_,rfl,rfl,m0,?_⟩⟩;exact q _ H2 (dW _ (by lia)) (dS _ m0) S2 hB
 refine⟨_,rfl,_,_,rfl,.inl ⟨_,hscr.sq,rfl⟩,_,_,rfl,rfl,_,rfl,bL (λhl=>?_) (λ_=>rest _)⟩;rw[af] at hl;have hlp:0<ns.length:=by lia
 refine⟨_,rfl,_,rfl,_,rfl,.inl ⟨_,_,rfl,rfl,.inr ⟨by decide,by decide⟩,_,rfl,_,_,rfl,.inl ⟨_,hscr.sq,rfl⟩,_,_,rfl,rfl,(by rw[af];lia),?_⟩⟩;have i1:0<=(k:Int)*7 % ((ns.map V.int).length:Nat):=dW _ (by rw[af];lia);have i2:(k:Int)*7 % ((ns.map V.int).length:Nat)<((ns.map V.int).length:Nat):=dS _ (by rw[af];lia);rw[af] at i1 i2;have i3:((k:Int)*7 % (ns.length:Nat)).toNat<ns.length:=by lia
 refine sf hscr.sq (by rw[af];exact i1) (v:=.int ns[((k:Int)*7 % (ns.length:Nat)).toNat]) (by simp only[af];rw[aQ,ao i3];rfl) ?_;exact⟨_,rfl,.inl ⟨_,_,rfl,rfl,.inl ⟨_,_,rfl,rfl,.inr ⟨by lia,by lia⟩,.inl ⟨_,_,rfl,rfl,rest _⟩⟩⟩⟩
def TN{K:Fg}{vs:List V}{H:Hp}{Q:VK}{E:XK}(h:dm K vs H Q E):OB K {nx:=λ_ H'=>Q .non H',rt:=Q} (cQ L8 vs) H:=by
 obtain⟨st,m,k,rfl,S,hk,m0,m1,q⟩:=h;obtain⟨scr,ns,c,hst,hscr,hns⟩:=S;refine⟨_,rfl,_,rfl,.inl ⟨st,_,rfl,cN.of hst,λp hp=>?_⟩⟩;refine⟨p,_,rfl,cN.of ag,rfl,_,_,rfl,_,_,rfl,rfl,?_⟩;have np:st≠p:=aC hst hp;have B1:gc st H (upd H p (.lst (kQ [V.ref scr,V.int (k:Nat),V.int c] none (some 2)))):=(gc.refl st H).new hp;have h1:(upd H p (.lst (kQ [V.ref scr,V.int (k:Nat),V.int c] none (some 2)))) st=some (.lst [.ref scr,.int (k:Nat),.int c]):=by rw[aL np];exact hst
 have s1:mZ K (upd H p (.lst (kQ [V.ref scr,V.int (k:Nat),V.int c] none (some 2)))) scr ns:=hscr.mono (.of_but B1 hst);generalize upd H p (.lst (kQ [V.ref scr,V.int (k:Nat),V.int c] none (some 2)))=H1 at B1 h1 s1 ⊢;refine⟨_,rfl,.inl ⟨_,_,rfl,rfl,_,rfl,Gg h1 (by decide) (by show 1<3;decide) ?_⟩⟩;have B2:gc st H (upd H1 st (.lst [.ref scr,.int ((k:Int)+1),.int c])):=B1.trans .upd_at;have h2:(upd H1 st (.lst [.ref scr,.int ((k:Int)+1),.int c])) st=some (.lst [.ref scr,.int ((k:Int)+1),.int c]):=ag;have s2:mZ K (upd H1 st (.lst [.ref scr,.int ((k:Int)+1),.int c])) scr ns:=s1.mono (.of_but .upd_at h1);show Gp K _ [some (.ref st),some (.int m),some (.ref scr),some (.int (k:Nat)),none,none] (upd H1 st (.lst [.ref scr,.int ((k:Int)+1),.int c]));generalize upd H1 st (.lst [.ref scr,.int ((k:Int)+1),.int c])=H2 at B2 h2 s2 ⊢;have tail:=@xG K st scr m k ns c H H2 Q none none (λ_ H'=>Q .non H') hk m0 q h2 s2 hns B2;have dig:∀(c':Int) (H3:Hp),H3 st=some (.lst [.ref scr,.int ((k:Int)+1),.int c'])->mZ K H3 scr ns->gc st H H3->
   Gn K {nx:=vp K {nx:=λ_ H'=>Q .non H',rt:=Q},rt:=Q} [some (.ref st),some (.int m),some (.ref scr),some (.int (k:Nat)),none,none] H3:=λc' H3 h3 s3 B3=>by
  refine⟨_,rfl,sf (cN.of h3) (by decide) rfl ?_⟩;refine⟨_,rfl,Ze,λt ht=>⟨t,_,rfl,.inr (dA.of ag),rfl,rfl,_,rfl,?_⟩⟩;have n3:st≠t:=aC h3 ht;have B4:gc st H (upd H3 t (.tup [.int 0,.int (-1)])):=B3.new ht;have h4:(upd H3 t (.tup [.int 0,.int (-1)])) st=some (.lst [.ref scr,.int ((k:Int)+1),.int c']):=by rw[aL n3];exact h3
  have s4:mZ K (upd H3 t (.tup [.int 0,.int (-1)])) scr ns:=s3.mono (.of_same ((aK.refl H3).new ht));refine ka (λ_=>?_) (λ_=>?_)
  ·-- _law_state[2],_law_digit=divmod(_law_state[2],_law_many)
   refine⟨_,rfl,.inl ⟨st,_,_,_,rfl,rfl,cN.of h4,DG (by decide) rfl,_,rfl,_,_,rfl,⟨m0,m1⟩,λp2 hp2=>?_⟩⟩;have n4:st≠p2:=aC h4 hp2;refine⟨p2,_,rfl,dA.of ag,rfl,_,_,rfl,_,rfl,Gg (by rw[aL n4];exact h4) (by decide) (by show 2<3;decide) ?_⟩;refine⟨_,_,rfl,rfl,_,rfl,?_⟩;have B5:=(B4.new (o:=.tup [.int (c' / m),.int (c' % m)]) hp2);have s5:mZ K (upd (upd H3 t (.tup [.int 0,.int (-1)])) p2 (.tup [.int (c' / m),.int (c' % m)])) scr ns:=s4.mono (.of_same ((aK.refl _).new hp2));have h5:(upd (upd H3 t (.tup [.int 0,.int (-1)])) p2 (.tup [.int (c' / m),.int (c' % m)])) st=some (.lst [.ref scr,.int ((k:Int)+1),.int c']):=by rw[aL n4];exact h4
   refine q _ _ (dW _ (by lia)) (dS _ m0) ⟨scr,ns,c' / m,?_,s5.mono (.of_but .upd_at h5),hns⟩ (B5.trans .upd_at);have e1:(((k+1:Nat):Nat):Int)=(k:Int)+1:=by lia
   rw[ag,e1];rfl
  ·exact xG hk m0 q h4 s4 hns B4
 have e1:(((k+1:Nat):Nat):Int)=(k:Int)+1:=by lia
 have elif:de (bH (bq sH (au 3) (fS (gA K) (ai (au 2) aJ)))) (cK (bq mB (bq (cV K) (au 2) (au 3)) (au 1))) bY
   {nx:=vp K {nx:=λ_ H'=>Q V.non H',rt:=Q},rt:=Q} [some (V.ref st),some (V.int m),some (V.ref scr),some (V.int (k:Nat)),none,none] H2:=by
  refine⟨_,rfl,_,rfl,_,_,rfl,.inl ⟨_,s2.sq,rfl⟩,_,_,rfl,rfl,_,rfl,bL (λhlt=>?_) (λ_=>tail)⟩;rw[af] at hlt;have j2:((k:Nat):Int).toNat<ns.length:=by lia
  refine⟨_,rfl,_,rfl,sf s2.sq (by lia) (v:=.int ns[((k:Nat):Int).toNat]) (by rw[aQ,ao j2];rfl) ?_⟩;refine⟨_,rfl,_,_,rfl,rfl,m0,?_⟩;exact q _ H2 (dW _ (by lia)) (dS _ m0) ⟨scr,ns,c,by rw[e1];exact h2,s2,hns⟩ B2
 refine⟨_,rfl,_,_,rfl,rfl,⟨by decide,by decide⟩,.inl ⟨_,_,rfl,rfl,_,rfl,_,_,rfl,.inl ⟨_,s2.sq,rfl⟩,_,_,rfl,rfl,_,rfl,bL (λhlt=>?_) (λ_=>?_)⟩⟩
 ·rw[af] at hlt;have hlp:0<ns.length:=by lia
  have i0:(ns.map V.int)[(0:Int).toNat]?=some (.int ns[0]):=by
   show(ns.map V.int)[0]?=_;rw[aQ,ao hlp];rfl
  refine⟨_,rfl,sf s2.sq (by decide) i0 ⟨_,_,rfl,rfl,(by show(0:Int)<2;decide),.inl ⟨rfl,_,rfl,bL (λ_=>?_) (λ_=>?_)⟩⟩⟩
  ·-- if _law_k % 12==0
   refine⟨_,rfl,_,_,rfl,rfl,(by show(0:Int)<12;decide),.inl ⟨rfl,_,rfl,bL (λ_=>?_) (λ_=>dig c H2 h2 s2 B2)⟩⟩;have j2:((k:Int) / 12+1).toNat<ns.length:=by lia
   refine⟨_,rfl,_,rfl,_,_,rfl,rfl,⟨by decide,by decide⟩,.inl ⟨_,_,rfl,rfl,sf s2.sq (by lia) (v:=.int ns[((k:Int) / 12+1).toNat]) (by rw[aQ,ao j2];rfl) ?_⟩⟩;refine⟨_,rfl,Gg h2 (by decide) (by show 2<3;decide) ?_⟩;exact dig _ _ ag (s2.mono (.of_but .upd_at h2)) (B2.trans .upd_at)
  ·exact elif
 ·exact ff elif
def Q6{K:Fg}{vs:List V}{H:Hp}{Q:VK}{E:XK}(h:Ao K vs H Q E):JW K {nx:=λ_ H'=>Q .non H',rt:=Q} (cQ Ja vs) H:=by
 obtain⟨st,k,rfl,S,hk,q⟩:=h;have e31:(2:Int) ^ dz 31=2147483648:=by decide
 have e33:(2:Int) ^ dz 33=8589934592:=by decide
 have e64:(2:Int) ^ dz 64=18446744073709551616:=by decide
 have f64:(2:Int) ^ 64=18446744073709551616:=by decide
 refine⟨_,rfl,st,2,k,rfl,S,by lia,by decide,by decide,λd H1 d0 d1 S1 B1=>?_⟩;refine .inl ⟨rfl,_,rfl,bL (λ_=>?_) (λ_=>?_)⟩
 ·refine⟨_,rfl,_,_,rfl,rfl,⟨by decide,by decide,by decide⟩,st,_,k+1,rfl,S1,by lia,by rw[e31];decide,by rw[e31];decide,λd2 H2 a0 a1 S2 B2=>?_⟩;rw[e31] at a1;refine⟨_,_,rfl,rfl,⟨by decide,by decide,by decide⟩,.inl ⟨_,_,rfl,rfl,.inl ⟨by lia,by lia⟩,?_⟩⟩;refine⟨_,rfl,_,_,rfl,rfl,⟨by decide,by decide,by decide⟩,st,_,k+2,rfl,S2,by lia,by rw[e31];decide,by rw[e31];decide,λd3 H3 b0 b1 S3 B3=>?_⟩;rw[e31] at b1;refine .inl ⟨_,_,rfl,rfl,q _ _ H3 ?_ ?_ S3 (by lia) ((B1.trans B2).trans B3)⟩
  ·show 0<=d2*(2:Int) ^ dz 33+d3;rw[e33];lia
  ·show d2*(2:Int) ^ dz 33+d3<2 ^ 64;rw[e33,f64];lia
 ·refine⟨_,_,rfl,rfl,⟨by decide,by decide,by decide⟩,_,_,rfl,rfl,_,rfl,st,3,k+1,rfl,S1,by lia,by decide,by decide,λd2 H2 a0 a1 S2 B2=>?_⟩;refine⟨_,_,rfl,rfl,_,rfl,st,12,k+2,rfl,S2,by lia,by decide,by decide,λd3 H3 b0 b1 S3 B3=>?_⟩;refine⟨Zg,λl hl=>?_⟩;refine⟨_,rfl,st,4,k+3,rfl,S3.new hl,by lia,by decide,by decide,λd4 H4 c0 c1 S4 B4=>?_⟩;obtain⟨ys,hys⟩:=S3.lst;have nl:l≠st:=λz=>by rw[z,hys] at hl;cases hl
  have h4:=B4 l _ nl ag;have B5:gc st H H4:=(((B1.trans B2).trans B3).new hl).trans B4;have fin:∀z:Int,0<=z->z<2 ^ 64->Q (.int z) H4:=λz z0 z1=>q z _ H4 z0 z1 S4 (by lia) B5;rcases(by lia:d4=0\/d4=1\/d4=2\/d4=3) with rfl|rfl|rfl|rfl
  ·exact sf (cN.of h4) (by decide) rfl (fin _ (by decide) (by decide))
  ·exact sf (cN.of h4) (by decide) rfl (fin _ (by decide) (by decide))
  ·refine sf (cN.of h4) (by decide) rfl (fin _ ?_ ?_)
   ·show 0<=(2:Int) ^ dz 64-1-d2;rw[e64];lia
   ·show(2:Int) ^ dz 64-1-d2<2 ^ 64;rw[e64,f64];lia
  ·exact sf (cN.of h4) (by decide) rfl (fin _ (by lia) (by lia))
def oO{K:Fg}{p:ar}{xs:List V}{i:Int}{v:V}{H:Hp}{Q:VK}(h:H p=some (.lst xs)\/H p=some (.tup xs))(h0:0<=i)(e:xs[i.toNat]?=some v)(q:Q v H):cV K (.ref p) (.int i) H Q:=by
 rcases h with h|h
 ·exact sf (cN.of h) h0 e q
 ·exact cJ h h0 e q
def Q2{K:Fg}{vs:List V}{H:Hp}{Q:VK}{E:XK}(h:Am K vs H Q E):JS K {nx:=λ_ H'=>Q .non H',rt:=Q} (cQ IW vs) H:=by
 obtain⟨rt,n,rvs,v,r,rfl,hrt,hv,hr,q⟩:=h;have hn:rvs[((n:Nat):Int).toNat]?=some v:=by simpa using hv
 have n0:(0:Int)<=((n:Nat):Int):=by lia
 have e1:(((n+1:Nat):Nat):Int)=(n:Int)+1:=by lia
 cases r with
 |num x z=>
  obtain⟨p,rfl,h⟩:=hr;refine⟨_,rfl,_,rfl,oO hrt n0 hn (Zb h rfl (.inl ⟨rfl,_,rfl,Za ?_⟩))⟩;refine⟨_,rfl,_,rfl,oO hrt n0 hn (Zb h rfl (.inl ⟨rfl,_,rfl,Za ?_⟩))⟩;refine⟨_,rfl,_,rfl,oO hrt n0 hn (Zb h rfl (.inl ⟨rfl,_,rfl,Za ?_⟩))⟩;exact⟨_,rfl,.inl ⟨_,_,rfl,rfl,⟨Zd,λt ht=>(by have z:=q t ht;unfold cZ eL at z;simp only[aY,dh,e1] at z;exact z)⟩⟩⟩
 |op x s a b=>
  obtain⟨p,rfl,h⟩:=hr;refine⟨_,rfl,_,rfl,oO hrt n0 hn (Zb h rfl (.inl ⟨rfl,_,rfl,Za ?_⟩))⟩;refine⟨_,rfl,_,rfl,oO hrt n0 hn (Zb h rfl (.inl ⟨rfl,_,rfl,Za ?_⟩))⟩;refine⟨_,rfl,_,rfl,oO hrt n0 hn (Zb h rfl (.inl ⟨rfl,_,rfl,Za ?_⟩))⟩;exact⟨_,rfl,.inl ⟨_,_,rfl,rfl,⟨Zd,λt ht=>(by have z:=q t ht;unfold cZ eL at z;simp only[aY,dh,e1] at z;exact z)⟩⟩⟩
 |call x k as=>
  obtain⟨p,q1,rfl,h,h1⟩:=hr;refine⟨_,rfl,_,rfl,oO hrt n0 hn (Zb h rfl (.inl ⟨rfl,_,rfl,Za ?_⟩))⟩;refine⟨_,rfl,_,rfl,oO hrt n0 hn (Zb h rfl (.inl ⟨rfl,_,rfl,Za ?_⟩))⟩;refine⟨_,rfl,_,rfl,oO hrt n0 hn (Zb h rfl (.inl ⟨rfl,_,rfl,Za ?_⟩))⟩;exact⟨_,rfl,.inl ⟨_,_,rfl,rfl,⟨Zd,λt ht=>(by have z:=q t ht;unfold cZ eL at z;simp only[aY,dh,e1] at z;exact z)⟩⟩⟩
 |say a=>
  obtain⟨p,rfl,h⟩:=hr;refine⟨_,rfl,_,rfl,oO hrt n0 hn (Zb h rfl (.inl ⟨rfl,_,rfl,Za ?_⟩))⟩;refine⟨_,rfl,_,rfl,oO hrt n0 hn (Zb h rfl (.inl ⟨rfl,_,rfl,Za ?_⟩))⟩;refine⟨_,rfl,_,rfl,oO hrt n0 hn (Zb h rfl (.inl ⟨rfl,_,rfl,Za ?_⟩))⟩;exact⟨_,rfl,.inl ⟨_,_,rfl,rfl,⟨Zd,λt ht=>(by have z:=q t ht;unfold cZ eL at z;simp only[aY,dh,e1] at z;exact z)⟩⟩⟩
 |jump to=>
  obtain⟨p,rfl,h⟩:=hr;refine⟨_,rfl,_,rfl,oO hrt n0 hn (Zb h rfl (.inl ⟨rfl,_,rfl,ED ?_⟩))⟩;exact⟨_,rfl,_,rfl,oO hrt n0 hn (Zb h rfl ⟨Zd,λt ht=>(by have z:=q t ht;unfold cZ eL at z;simp only[aY,dh,e1] at z;exact z)⟩)⟩
 |test a to=>
  obtain⟨p,rfl,h⟩:=hr;refine⟨_,rfl,_,rfl,oO hrt n0 hn (Zb h rfl (.inl ⟨rfl,_,rfl,Za ?_⟩))⟩;refine⟨_,rfl,_,rfl,oO hrt n0 hn (Zb h rfl (.inl ⟨rfl,_,rfl,ED ?_⟩))⟩;exact⟨_,rfl,.inl ⟨_,_,rfl,rfl,⟨_,rfl,_,rfl,oO hrt n0 hn (Zb h rfl ⟨Ze,λt ht=>(by have z:=q t ht;unfold cZ eL at z;simp only[aY,dh,e1] at z;exact z)⟩)⟩⟩⟩
 |give a=>
  obtain⟨p,rfl,h⟩:=hr;refine⟨_,rfl,_,rfl,oO hrt n0 hn (Zb h rfl (.inl ⟨rfl,_,rfl,Za ?_⟩))⟩;refine⟨_,rfl,_,rfl,oO hrt n0 hn (Zb h rfl (.inl ⟨rfl,_,rfl,Za ?_⟩))⟩;refine⟨_,rfl,_,rfl,oO hrt n0 hn (Zb h rfl (.inl ⟨rfl,_,rfl,ED ?_⟩))⟩;exact⟨Zc,λt ht=>(by have z:=q t ht;unfold cZ eL at z;simp only[aY,dh,e1] at z;exact z)⟩
def Lh{K:Fg}{vs:List V}{H:Hp}{Q:VK}{E:XK}(h:pU K vs H Q E):C3 K {nx:=λ_ H'=>Q .non H',rt:=Q} (cQ B0 vs) H:=by
 obtain⟨v,r,rfl,hr,q⟩:=h;cases r with
 |num x z=>
  obtain⟨p,rfl,h⟩:=hr;refine⟨_,rfl,Zb h rfl ?_⟩;refine⟨_,rfl,.inl ⟨rfl,_,rfl,Za ?_⟩⟩;refine⟨_,rfl,.inl ⟨rfl,_,rfl,Za ?_⟩⟩;refine⟨_,rfl,Zf,λt ht=>⟨t,_,rfl,.inr (dA.of ag),rfl,rfl,_,rfl,Kz (by decide +kernel) ?_⟩⟩;have nt:p≠t:=aC h ht;exact⟨Zc,λt2 ht2=>q t2 _ ag (((aK.refl H).new ht).new ht2)⟩
 |op x s a b=>
  obtain⟨p,rfl,h⟩:=hr;refine⟨_,rfl,Zb h rfl ?_⟩;refine⟨_,rfl,.inl ⟨rfl,_,rfl,ED ?_⟩⟩;exact⟨_,rfl,Zb h rfl ⟨_,rfl,Zb h rfl ⟨Ze,λt ht=>q t _ ag ((aK.refl H).new ht)⟩⟩⟩
 |call x k as=>
  obtain⟨p,q1,rfl,h,h1⟩:=hr;refine⟨_,rfl,Zb h rfl ?_⟩;refine⟨_,rfl,.inl ⟨rfl,_,rfl,Za ?_⟩⟩;refine⟨_,rfl,.inl ⟨rfl,_,rfl,ED ?_⟩⟩;exact⟨_,rfl,Zb h rfl ⟨_,_,rfl,.inr ⟨dA.of h1,q _ _ h1 (aK.refl H)⟩⟩⟩
 |say a=>
  obtain⟨p,rfl,h⟩:=hr;refine⟨_,rfl,Zb h rfl ?_⟩;refine⟨_,rfl,.inl ⟨rfl,_,rfl,Za ?_⟩⟩;refine⟨_,rfl,.inl ⟨rfl,_,rfl,Za ?_⟩⟩;refine⟨_,rfl,Zf,λt ht=>⟨t,_,rfl,.inr (dA.of ag),rfl,rfl,_,rfl,KA (by decide +kernel) ?_⟩⟩;have nt:p≠t:=aC h ht;exact⟨_,rfl,cJ (by rw[aL nt];exact h) (by decide) rfl ⟨Zd,λt2 ht2=>q t2 _ ag (((aK.refl H).new ht).new ht2)⟩⟩
 |jump to=>
  obtain⟨p,rfl,h⟩:=hr;refine⟨_,rfl,Zb h rfl ?_⟩;refine⟨_,rfl,.inl ⟨rfl,_,rfl,Za ?_⟩⟩;refine⟨_,rfl,.inl ⟨rfl,_,rfl,Za ?_⟩⟩;refine⟨_,rfl,Zf,λt ht=>⟨t,_,rfl,.inr (dA.of ag),rfl,rfl,_,rfl,Kz (by decide +kernel) ?_⟩⟩;have nt:p≠t:=aC h ht;exact⟨Zc,λt2 ht2=>q t2 _ ag (((aK.refl H).new ht).new ht2)⟩
 |test a to=>
  obtain⟨p,rfl,h⟩:=hr;refine⟨_,rfl,Zb h rfl ?_⟩;refine⟨_,rfl,.inl ⟨rfl,_,rfl,Za ?_⟩⟩;refine⟨_,rfl,.inl ⟨rfl,_,rfl,Za ?_⟩⟩;refine⟨_,rfl,Zf,λt ht=>⟨t,_,rfl,.inr (dA.of ag),rfl,rfl,_,rfl,KA (by decide +kernel) ?_⟩⟩;have nt:p≠t:=aC h ht;exact⟨_,rfl,cJ (by rw[aL nt];exact h) (by decide) rfl ⟨Zd,λt2 ht2=>q t2 _ ag (((aK.refl H).new ht).new ht2)⟩⟩
 |give a=>
  obtain⟨p,rfl,h⟩:=hr;refine⟨_,rfl,Zb h rfl ?_⟩;refine⟨_,rfl,.inl ⟨rfl,_,rfl,Za ?_⟩⟩;refine⟨_,rfl,.inl ⟨rfl,_,rfl,Za ?_⟩⟩;refine⟨_,rfl,Zf,λt ht=>⟨t,_,rfl,.inr (dA.of ag),rfl,rfl,_,rfl,KA (by decide +kernel) ?_⟩⟩;have nt:p≠t:=aC h ht;exact⟨_,rfl,cJ (by rw[aL nt];exact h) (by decide) rfl ⟨Zd,λt2 ht2=>q t2 _ ag (((aK.refl H).new ht).new ht2)⟩⟩
def Od{K:Fg}{vs:List V}{H:Hp}{Q:VK}{E:XK}(h:wM K vs H Q E):GF K {nx:=λ_ H'=>Q .non H',rt:=Q} (cQ EX vs) H:=by
 obtain⟨v,r,rfl,hr,q⟩:=h;cases r with
 |num x z=>
  obtain⟨p,rfl,h⟩:=hr;refine⟨_,rfl,Zb h rfl ?_⟩;refine⟨Zf,λt ht=>⟨t,_,rfl,.inr (dA.of ag),rfl,rfl,_,rfl,KA (by decide +kernel) ?_⟩⟩;have nt:p≠t:=aC h ht;exact⟨_,rfl,cJ (by rw[aL nt];exact h) (by decide) rfl (q _ ((aK.refl H).new ht))⟩
 |op x s a b=>
  obtain⟨p,rfl,h⟩:=hr;refine⟨_,rfl,Zb h rfl ?_⟩;refine⟨Zf,λt ht=>⟨t,_,rfl,.inr (dA.of ag),rfl,rfl,_,rfl,KA (by decide +kernel) ?_⟩⟩;have nt:p≠t:=aC h ht;exact⟨_,rfl,cJ (by rw[aL nt];exact h) (by decide) rfl (q _ ((aK.refl H).new ht))⟩
 |call x k as=>
  obtain⟨p,q1,rfl,h,h1⟩:=hr;refine⟨_,rfl,Zb h rfl ?_⟩;refine⟨Zf,λt ht=>⟨t,_,rfl,.inr (dA.of ag),rfl,rfl,_,rfl,KA (by decide +kernel) ?_⟩⟩;have nt:p≠t:=aC h ht;exact⟨_,rfl,cJ (by rw[aL nt];exact h) (by decide) rfl (q _ ((aK.refl H).new ht))⟩
 |say a=>
  obtain⟨p,rfl,h⟩:=hr;refine⟨_,rfl,Zb h rfl ?_⟩;refine⟨Zf,λt ht=>⟨t,_,rfl,.inr (dA.of ag),rfl,rfl,_,rfl,Kz (by decide +kernel) ?_⟩⟩;have nt:p≠t:=aC h ht;exact q _ ((aK.refl H).new ht)
 |jump to=>
  obtain⟨p,rfl,h⟩:=hr;refine⟨_,rfl,Zb h rfl ?_⟩;refine⟨Zf,λt ht=>⟨t,_,rfl,.inr (dA.of ag),rfl,rfl,_,rfl,Kz (by decide +kernel) ?_⟩⟩;have nt:p≠t:=aC h ht;exact q _ ((aK.refl H).new ht)
 |test a to=>
  obtain⟨p,rfl,h⟩:=hr;refine⟨_,rfl,Zb h rfl ?_⟩;refine⟨Zf,λt ht=>⟨t,_,rfl,.inr (dA.of ag),rfl,rfl,_,rfl,Kz (by decide +kernel) ?_⟩⟩;have nt:p≠t:=aC h ht;exact q _ ((aK.refl H).new ht)
 |give a=>
  obtain⟨p,rfl,h⟩:=hr;refine⟨_,rfl,Zb h rfl ?_⟩;refine⟨Zf,λt ht=>⟨t,_,rfl,.inr (dA.of ag),rfl,rfl,_,rfl,Kz (by decide +kernel) ?_⟩⟩;have nt:p≠t:=aC h ht;exact q _ ((aK.refl H).new ht)
def Ob{K:Fg}{vs:List V}{H:Hp}{Q:VK}{E:XK}(h:oX K vs H Q E):AE K {nx:=λ_ H'=>Q .non H',rt:=Q} (cQ za vs) H:=by
 obtain⟨v,r,rfl,hr,q⟩:=h;cases r with
 |num x z=>
  obtain⟨p,rfl,h⟩:=hr;refine⟨_,rfl,Zb h rfl (.inl ⟨rfl,_,rfl,Za ?_⟩)⟩;exact⟨_,rfl,Zb h rfl (.inl ⟨rfl,_,rfl,Za q⟩)⟩
 |op x s a b=>
  obtain⟨p,rfl,h⟩:=hr;refine⟨_,rfl,Zb h rfl (.inl ⟨rfl,_,rfl,Za ?_⟩)⟩;exact⟨_,rfl,Zb h rfl (.inl ⟨rfl,_,rfl,Za q⟩)⟩
 |call x k as=>
  obtain⟨p,q1,rfl,h,h1⟩:=hr;refine⟨_,rfl,Zb h rfl (.inl ⟨rfl,_,rfl,Za ?_⟩)⟩;exact⟨_,rfl,Zb h rfl (.inl ⟨rfl,_,rfl,Za q⟩)⟩
 |say a=>
  obtain⟨p,rfl,h⟩:=hr;refine⟨_,rfl,Zb h rfl (.inl ⟨rfl,_,rfl,Za ?_⟩)⟩;exact⟨_,rfl,Zb h rfl (.inl ⟨rfl,_,rfl,Za q⟩)⟩
 |jump to=>
  obtain⟨p,rfl,h⟩:=hr;exact⟨_,rfl,Zb h rfl (.inl ⟨rfl,_,rfl,ED ⟨_,rfl,Zb h rfl q⟩⟩)⟩
 |test a to=>
  obtain⟨p,rfl,h⟩:=hr;refine⟨_,rfl,Zb h rfl (.inl ⟨rfl,_,rfl,Za ?_⟩)⟩;exact⟨_,rfl,Zb h rfl (.inl ⟨rfl,_,rfl,ED ⟨_,rfl,Zb h rfl q⟩⟩)⟩
 |give a=>
  obtain⟨p,rfl,h⟩:=hr;refine⟨_,rfl,Zb h rfl (.inl ⟨rfl,_,rfl,Za ?_⟩)⟩;exact⟨_,rfl,Zb h rfl (.inl ⟨rfl,_,rfl,Za q⟩)⟩
def Lg{K:Fg}{vs:List V}{H:Hp}{Q:VK}{E:XK}(h:pS K vs H Q E):C2 K {nx:=λ_ H'=>Q .non H',rt:=Q} (cQ BZ vs) H:=by
 obtain⟨rt,n,rvs,v,r,rfl,hrt,hv,hr,q⟩:=h;have hn:rvs[((n:Nat):Int).toNat]?=some v:=by simpa using hv
 have n0:(0:Int)<=((n:Nat):Int):=by lia
 have e1:(((n+1:Nat):Nat):Int)=(n:Int)+1:=by lia
 cases r with
 |num x z=>
  have hr0:=hr;obtain⟨p,rfl,h⟩:=hr;refine⟨_,rfl,_,rfl,cJ hrt n0 hn (Zb h rfl ?_)⟩;refine⟨_,rfl,.inl ⟨rfl,_,rfl,Za ?_⟩⟩;refine⟨_,rfl,.inl ⟨rfl,_,rfl,Za ?_⟩⟩;refine⟨_,rfl,.inl ⟨rfl,_,rfl,Za ?_⟩⟩;exact⟨_,rfl,.inl ⟨_,_,rfl,rfl,⟨Zd,λt ht=>q t _ (by rw[ag];first|rfl|(unfold cZ eL;simp only[aY,dh,e1])) ((aK.refl H).new ht)⟩⟩⟩
 |op x s a b=>
  have hr0:=hr;obtain⟨p,rfl,h⟩:=hr;refine⟨_,rfl,_,rfl,cJ hrt n0 hn (Zb h rfl ?_)⟩;refine⟨_,rfl,.inl ⟨rfl,_,rfl,Za ?_⟩⟩;refine⟨_,rfl,.inl ⟨rfl,_,rfl,Za ?_⟩⟩;refine⟨_,rfl,.inl ⟨rfl,_,rfl,Za ?_⟩⟩;exact⟨_,rfl,.inl ⟨_,_,rfl,rfl,⟨Zd,λt ht=>q t _ (by rw[ag];first|rfl|(unfold cZ eL;simp only[aY,dh,e1])) ((aK.refl H).new ht)⟩⟩⟩
 |call x k as=>
  have hr0:=hr;obtain⟨p,q1,rfl,h,h1⟩:=hr;refine⟨_,rfl,_,rfl,cJ hrt n0 hn (Zb h rfl ?_)⟩;refine⟨_,rfl,.inl ⟨rfl,_,rfl,Za ?_⟩⟩;refine⟨_,rfl,.inl ⟨rfl,_,rfl,Za ?_⟩⟩;refine⟨_,rfl,.inl ⟨rfl,_,rfl,Za ?_⟩⟩;exact⟨_,rfl,.inl ⟨_,_,rfl,rfl,⟨Zd,λt ht=>q t _ (by rw[ag];first|rfl|(unfold cZ eL;simp only[aY,dh,e1])) ((aK.refl H).new ht)⟩⟩⟩
 |say a=>
  have hr0:=hr;obtain⟨p,rfl,h⟩:=hr;refine⟨_,rfl,_,rfl,cJ hrt n0 hn (Zb h rfl ?_)⟩;refine⟨_,rfl,.inl ⟨rfl,_,rfl,Za ?_⟩⟩;refine⟨_,rfl,.inl ⟨rfl,_,rfl,Za ?_⟩⟩;refine⟨_,rfl,.inl ⟨rfl,_,rfl,Za ?_⟩⟩;exact⟨_,rfl,.inl ⟨_,_,rfl,rfl,⟨Zd,λt ht=>q t _ (by rw[ag];first|rfl|(unfold cZ eL;simp only[aY,dh,e1])) ((aK.refl H).new ht)⟩⟩⟩
 |jump to=>
  have hr0:=hr;obtain⟨p,rfl,h⟩:=hr;refine⟨_,rfl,_,rfl,cJ hrt n0 hn (Zb h rfl ?_)⟩;refine⟨_,rfl,.inl ⟨rfl,_,rfl,Za ?_⟩⟩;refine⟨_,rfl,.inl ⟨rfl,_,rfl,ED ?_⟩⟩;exact⟨_,rfl,_,rfl,cJ hrt n0 hn ⟨_,_,rfl,hr0,⟨Zd,λt ht=>q t _ (by rw[ag];first|rfl|(unfold cZ eL;simp only[aY,dh,e1])) ((aK.refl H).new ht)⟩⟩⟩
 |test a to=>
  have hr0:=hr;obtain⟨p,rfl,h⟩:=hr;refine⟨_,rfl,_,rfl,cJ hrt n0 hn (Zb h rfl ?_)⟩;refine⟨_,rfl,.inl ⟨rfl,_,rfl,Za ?_⟩⟩;refine⟨_,rfl,.inl ⟨rfl,_,rfl,Za ?_⟩⟩;refine⟨_,rfl,.inl ⟨rfl,_,rfl,ED ?_⟩⟩;exact⟨_,rfl,.inl ⟨_,_,rfl,rfl,⟨_,rfl,_,rfl,cJ hrt n0 hn ⟨_,_,rfl,hr0,⟨Ze,λt ht=>q t _ (by rw[ag];first|rfl|(unfold cZ eL;simp only[aY,dh,e1])) ((aK.refl H).new ht)⟩⟩⟩⟩⟩
 |give a=>
  have hr0:=hr;obtain⟨p,rfl,h⟩:=hr;refine⟨_,rfl,_,rfl,cJ hrt n0 hn (Zb h rfl ?_)⟩;refine⟨_,rfl,.inl ⟨rfl,_,rfl,ED ?_⟩⟩;exact⟨Zc,λt ht=>q t _ (by rw[ag];first|rfl|(unfold cZ eL;simp only[aY,dh,e1])) ((aK.refl H).new ht)⟩
def VN{K:Fg}{rl nm pr kl la l:ar}{H H':Hp}{ys ps ls:List Str}{w:Str}{rs:List bU}{kss0:List (List Str)}{B i mm j0:Nat}{ms:List Nat}{refs:List V}{kss:List (List Str)}{more:Bool}{o8:Option V}{rt:VK}{bk:St->Hp->Prop}
  (hkl:H kl=none) (nla:la≠kl) (nl:l≠kl) (hw:w∈ls) (hm:mm<rs.length) (hmj:ms[j0]?=some mm) (hz:DE ps kss) (hc:more=false->kss=kss0/\zh rs i kss0/\∀j',j'<j0->∀m km,ms[j']?=some m->kss0[m]?=some km->∀y∈km,y∈ls) (k:KJ kl H ys ps w rs.length H' refs kss) (hB:2*wO kss+more.toNat<=B) (hla:H' la=some (.lst (ls.map V.str))) (hl:H' l=some (.lst (cZ ms))) :
  tM K {nx:=VA rl nm pr kl H ys ps w rs B i la l ls ms kss0 (j0+1),rt:=rt,ct:=VA rl nm pr kl H ys ps w rs B i la l ls ms kss0 (j0+1),bk:=bk} [some (.ref rl),some (.ref nm),some (.ref pr),some (.ref kl),some (.bl more),some (.int (i:Nat)),some (.ref la),some (.int (mm:Nat)),o8] H':=by
 obtain⟨am,km,e1,e2,nam,ham⟩:=k.get hm;obtain⟨k1,k2,k3⟩:=k.wit mm km e2;have e1':refs[((mm:Nat):Int).toNat]?=some (.ref am):=by simpa using e1
 refine .inl ⟨_,rfl,_,rfl,sf (cN.of k.at_) (by lia) e1' ⟨am,rfl,⟨_,cN.of ham⟩,λD hD=>?_⟩⟩;have nD:kl≠D:=aC k.at_ hD;have naD:am≠D:=aC ham hD;have nlaD:la≠D:=aC hla hD;have nlD:l≠D:=aC hl hD;refine jB (xs:=km.map V.str) (λj σ' H2=>∃o,σ'=[some (.ref rl),some (.ref nm),some (.ref pr),some (.ref kl),some (.bl more),some (.int (i:Nat)),some (.ref la),some (.int (mm:Nat)),o8,o]/\H2=upd H' D (.lst (((km.take j).filter λy=>decide (y∈ls)).map V.str))) ?_ ?_ ?_ ?_
 ·exact⟨none,rfl,rfl⟩
 ·rintro j σ' H2 _ ⟨o,_,rfl⟩;exact cN.of (by rw[aL naD];exact ham)
 ·rintro j x σ' H2 hx ⟨o,rfl,rfl⟩;rw[aQ] at hx;obtain⟨y,hy,rfl⟩:∃y,km[j]?=some y/\V.str y=x:=by
   cases e:km[j]? with
   |none=>rw[e] at hx;cases hx
   |some y=>rw[e] at hx;exact⟨y,rfl,Option.some.inj hx⟩
  have jl:j<km.length:=(aj.mp hy).1;have fl:((km.take j).filter λy=>decide (y∈ls)).length<=100:=cT (fZ _ _) (by rw[aX];lia);have ft:=xp (λy=>decide (y∈ls)) km j y hy;refine⟨_,rfl,_,rfl,la,_,rfl,.inl (cN.of (by rw[aL nlaD];exact hla)),rfl,sd _,_,rfl,?_⟩;show if m7 (.str y) (ls.map V.str)=true then _ else _;rw[jb];refine bL (λhin=>?_) (λhin=>?_)
  ·refine⟨_,rfl,_,ag,cg (by rw[af];lia),_,rfl,?_⟩;rw[EA,ft,if_pos (by simpa using hin),aG];rfl
  ·refine⟨_,rfl,?_⟩;rw[ft,if_neg (by simpa using hin),dn]
 ·rintro σ' H2 ⟨o,_,rfl⟩;have et:km.take (km.map V.str).length=km:=bA (by rw[af];exact aB _);rw[et];have fl:(km.filter λy=>decide (y∈ls)).length<=km.length:=fZ _ _;have fm:∀y∈km.filter (λy=>decide (y∈ls)),y∈ys:=λy hy=>k2 y (gZ.mp hy).1;have fw:w∈km.filter (λy=>decide (y∈ls))\/(mm=0/\ps=[]):=k3.imp (λz=>gZ.mpr ⟨z,by simpa using hw⟩) id;have fs:∀y∈km.filter (λy=>decide (y∈ls)),y∈km:=λy hy=>(gZ.mp hy).1;have fe:¬(km.filter (λy=>decide (y∈ls))).length<km.length->∀y∈km,y∈ls:=λhn y hy=>by
   have:=List.length_filter_eq_length_iff.mp (qe (fZ (λy=>decide (y∈ls)) km) (yR.mp hn)) y hy;simpa using this
  generalize km.filter (λy=>decide (y∈ls))=kp at fl fm fw fs fe;have k':=k.grown ((aK.refl H').new (o:=.lst (kp.map V.str)) hD);have hla':(upd H' D (.lst (kp.map V.str))) la=some (.lst (ls.map V.str)):=by rw[aL nlaD];exact hla
  have hl':(upd H' D (.lst (kp.map V.str))) l=some (.lst (cZ ms)):=by rw[aL nlD];exact hl
  have ham':(upd H' D (.lst (kp.map V.str))) am=some (.lst (km.map V.str)):=by rw[aL naD];exact ham
  have hD':(upd H' D (.lst (kp.map V.str))) D=some (.lst (kp.map V.str)):=ag;generalize upd H' D (.lst (kp.map V.str))=H3 at k' hla' hl' ham' hD';show tL K _ [some (.ref rl),some (.ref nm),some (.ref pr),some (.ref kl),some (.bl more),some (.int (i:Nat)),some (.ref la),some (.int (mm:Nat)),some (.ref D)] H3;refine⟨_,rfl,_,_,rfl,.inl ⟨_,cN.of hD',rfl⟩,_,rfl,_,rfl,sf (cN.of k'.at_) (by lia) e1' ⟨_,_,rfl,.inl ⟨_,cN.of ham',rfl⟩,_,_,rfl,rfl,_,rfl,bL (λhlt=>?_) (λhlt=>?_)⟩⟩
  ·rw[af,af] at hlt;refine⟨_,rfl,_,rfl,_,rfl,Gg k'.at_ (by lia) (by rw[k'.vlen];simpa using hm) ?_⟩;have ei:((mm:Nat):Int).toNat=mm:=by simp
   rw[ei];have ss:=Gk (kp:=kp) e2;refine⟨_,kss.set mm kp,true,_,_,rfl,k'.set hkl (Ne.symm nD) hD' ⟨by lia,fm,fw⟩,?_,by rw[aL nla];exact hla',by rw[aL nl];exact hl',hz.set e2 fs,λz=>by cases z⟩;have:(true:Bool).toNat=1:=rfl;lia
  ·rw[af,af] at hlt;refine⟨refs,kss,more,_,_,rfl,k',hB,hla',hl',hz,λhmo=>?_⟩;obtain⟨c1,c2,c3⟩:=hc hmo;refine⟨c1,c2,λj' hj' m km' hm' hk'=>?_⟩;by_cases cj:j'<j0
   ·exact c3 j' cj m km' hm' hk'
   ·have:j'=j0:=by lia
    subst this;rw[hmj] at hm';cases hm';rw[<-c1,e2] at hk';cases hk';exact fe (by lia)
def uX{ms:List Nat}{j:Nat}{x:V}(h:(cZ ms)[j]?=some x):∃m,ms[j]?=some m/\x=.int (m:Nat):=by
 unfold cZ at h;rw[aQ] at h;cases e:ms[j]? with
 |none=>rw[e] at h;cases h
 |some m=>rw[e] at h;exact⟨m,rfl,(Option.some.inj h).symm⟩
def VM{K:Fg}{rl nm pr kl:ar}{H H':Hp}{ys ps:List Str}{cs:List Nat}{w:Str}{B i:Nat}{rvs:List V}{rs:List bU}{refs:List V}{kss:List (List Str)}{more:Bool}{o6 o7 o8:Option V}{rt:VK}{bk:St->Hp->Prop}
  (hkl:H kl=none) (hrl:H rl=some (.lst rvs)) (hA:b3 (e7 H) rvs rs) (hOk:zj ys cs rs) (hE:rs.getLast?.map jS=some true) (hw0:ps=[]->∃z,rs[0]?=some (.num w z)) (hi:i<rs.length) (k:KJ kl H ys ps w rs.length H' refs kss) (hB:2*wO kss+more.toNat<=B) (hz:DE ps kss) (hP:more=false->zh rs i kss) :
  om K {nx:=Up rl nm pr kl H ys ps w rs B (i+1),rt:=rt,ct:=Up rl nm pr kl H ys ps w rs B (i+1),bk:=bk} [some (.ref rl),some (.ref nm),some (.ref pr),some (.ref kl),some (.bl more),some (.int (i:Nat)),o6,o7,o8] H':=by
 obtain⟨a,ks,e1,e2,na,ha⟩:=k.get hi;obtain⟨k1,k2,k3⟩:=k.wit i ks e2;obtain⟨v,r,f1,f2,hra⟩:=hA.get (i:=i) hi;obtain⟨p,xs,rfl,hp⟩:=hra.ref;have e1':refs[((i:Nat):Int).toNat]?=some (.ref a):=by simpa using e1
 have f1':rvs[((i:Nat):Int).toNat]?=some (.ref p):=by simpa using f1
 have nkl:rl≠kl:=aC hrl hkl;have ways:∀(la:ar) (ls:List Str) (H2:Hp),la≠kl->w∈ls->(∀y∈ls,y∈ks\/mE r=.str y)->KJ kl H ys ps w rs.length H2 refs kss->H2 la=some (.lst (ls.map V.str))->
   tN K {nx:=Up rl nm pr kl H ys ps w rs B (i+1),rt:=rt,ct:=Up rl nm pr kl H ys ps w rs B (i+1),bk:=bk} [some (.ref rl),some (.ref nm),some (.ref pr),some (.ref kl),some (.bl more),some (.int (i:Nat)),some (.ref la),o7,o8] H2:=λla ls H2 nla hwl hls k2 hla=>by
  refine .inl ⟨_,rfl,_,rfl,rl,i,rvs,.ref p,r,rfl,.inl (k2.same _ _ hrl),f1,hra.mono (.of_same k2.same),λl hl=>?_⟩;have nl:l≠kl:=λz=>by rw[z,k2.at_] at hl;cases hl
  have nlal:la≠l:=aC hla hl;refine⟨l,rfl,⟨_,cN.of ag⟩,qY (xs:=cZ (eL i r)) (λj=>VA rl nm pr kl H ys ps w rs B i la l ls (eL i r) kss j) ?_ ?_ ?_ ?_⟩
  ·exact⟨refs,kss,more,_,_,rfl,k2.grown ((aK.refl H2).new hl),hB,by rw[aL nlal];exact hla,ag,hz,λhmo=>⟨rfl,hP hmo,λj' hj'=>absurd hj' (cE _)⟩⟩
  ·rintro j σ' H3 _ ⟨_,_,_,_,_,_,_,_,_,h3,_,_⟩;exact cN.of h3
  ·rintro j x σ' H3 hx ⟨refs3,kss3,more3,o73,o83,rfl,k3',hB3,hla3,hl3,hz3,hc3⟩;obtain⟨mm,hmm,rfl⟩:=uX hx;exact VN hkl nla nl hwl (Na f2 (hOk.rough r (aD f2)) hE hmm) hmm hz3 hc3 k3' hB3 hla3 hl3
  ·rintro σ' H3 ⟨refs3,kss3,more3,o73,o83,rfl,k3',hB3,hla3,hl3,hz3,hc3⟩;refine⟨refs3,kss3,more3,_,_,_,_,rfl,k3',hB3,hz3,λhmo=>?_⟩;obtain⟨c1,c2,c3⟩:=hc3 hmo;subst c1;intro n m r' ks' km hn hr' hm' hks' hkm y hy;by_cases cn:n<i
   ·exact c2 n m r' ks' km cn hr' hm' hks' hkm y hy
   ·have:n=i:=by lia
    subst this;rw[f2] at hr';cases hr';rw[e2] at hks';cases hks';obtain⟨j',hj',hmj⟩:=b7.mp hm';have hmj':(eL n r)[j']?=some m:=by rw[ao hj',hmj]
    exact hls y (c3 j' (by rw[fq];exact hj') m km hmj' hkm y hy)
 refine⟨_,rfl,_,rfl,sf (cN.of k.at_) (by lia) e1' ?_⟩;show tO K _ [some (.ref rl),some (.ref nm),some (.ref pr),some (.ref kl),some (.bl more),some (.int (i:Nat)),some (.ref a),o7,o8] H';refine⟨_,rfl,_,rfl,sf (cN.of (k.same _ _ hrl)) (by lia) f1' (cJ (k.same _ _ hp) (by decide) rfl ⟨Zf,λt ht=>⟨t,_,rfl,.inr (dA.of ag),rfl,rfl,_,rfl,?_⟩⟩)⟩;have sm:=(aK.refl H').new (o:=.tup [V.str "num",V.str "op",V.str "call"]) ht;have kt:=k.grown sm;have hat:=sm _ _ ha;generalize upd H' t (.tup [V.str "num",V.str "op",V.str "call"])=H1 at sm kt hat ⊢;refine ka (λhb=>?_) (λhb=>?_)
 ·have hb':m7 (.str (yB r)) [V.str "num",V.str "op",V.str "call"]=true:=hb;obtain⟨x,hx⟩:=PJ hb';obtain⟨xs',hp'⟩:=Ra hra hx;refine⟨_,rfl,_,rfl,_,rfl,sf (cN.of (kt.same _ _ hrl)) (by lia) f1' (cJ (kt.same _ _ hp') (by decide) rfl ⟨Zd,λp1 hp1=>?_⟩)⟩;have na1:a≠p1:=aC hat hp1;refine .inr (.inr (.inl ⟨a,p1,_,_,rfl,rfl,by rw[aL na1];exact hat,ag,?_,λp2 hp2=>?_⟩))
  ·have:=cg (n:=101) (by decide);rw[af];show ks.length+1<=av;lia
  have k5:=(kt.grown ((aK.refl H1).new (o:=.lst [V.str x]) hp1)).grown ((aK.refl _).new (o:=.lst (ks.map V.str++[V.str x])) hp2);have np2:p2≠kl:=λz=>by
   have:=(kt.grown ((aK.refl H1).new (o:=.lst [V.str x]) hp1)).at_;rw[z,this] at hp2;cases hp2
  refine ways p2 (ks++[x]) _ np2 ?_ (λy hy=>(aV.mp hy).imp id λz=>by rw[ax.mp z];exact hx) k5 (by rw[ag,aG];rfl);rcases k3 with z|⟨z1,z2⟩
  ·exact bX _ z
  ·obtain⟨zz,hz⟩:=hw0 z2;subst z1;rw[f2] at hz;cases hz;cases hx;exact bI _ (ax.mpr rfl)
 ·refine ways a ks _ na ?_ (λy hy=>.inl hy) kt hat;rcases k3 with z|⟨z1,z2⟩
  ·exact z
  ·obtain⟨zz,hz⟩:=hw0 z2;subst z1;rw[f2] at hz;cases hz;exact absurd (show m7 (.str "num") [V.str "num",V.str "op",V.str "call"]=false from hb) (by decide +kernel)
def Ll{α:Type}(n:Nat)(a:α):bB (n+1) a=bB n a++[a]:=by
 exact kM
def F7{K:Fg}{vs:List V}{H:Hp}{Q:VK}{E:XK}(h:pX K vs H Q E):yb K {nx:=λ_ H'=>Q .non H',rt:=Q} (cQ mY vs) H:=by
 obtain⟨rl,nm,pr,rvs,rs,ys,ps,cs,rfl,hrl,hA,hOk,hE,hnm,ysl,hpr,psl,pin,hnum,q⟩:=h;have n1:1<=rs.length:=dF.mpr hOk.pos;obtain⟨w,wy,wp,w0⟩:∃w:Str,w∈ys/\(ps≠[]->w∈ps)/\(ps=[]->∃z,rs[0]?=some (.num w z)):=by
  cases ps with
  |cons p r=>exact⟨p,pin p bT,λ_=>bT,λz=>by cases z⟩
  |nil=>
   have h0:=hnum rfl;rw[jI] at h0;cases e:rs[0]? with
   |none=>rw[e] at h0;cases h0
   |some r=>
    rw[e,cq] at h0;cases r with
    |num x z=>exact⟨x,(hOk.rough _ (aD e)).1,λz=>absurd rfl z,λ_=>⟨z,rfl⟩⟩
    |_=>cases h0
 refine .inl ⟨_,rfl,rl,rfl,⟨_,cN.of hrl⟩,λkl hkl=>?_⟩;have nrl:rl≠kl:=aC hrl hkl;have nnm:nm≠kl:=aC hnm hkl;have npr:pr≠kl:=aC hpr hkl;refine jB (xs:=rvs) (λj σ' H'=>∃(refs:List V) (o:Option V),σ'=[some (.ref rl),some (.ref nm),some (.ref pr),none,none,none,none,none,none,o]/\H' kl=some (.lst refs)/\b3 (Rt kl H') refs (bB j ys)/\aK H H') ?_ ?_ ?_ ?_
 ·exact⟨[],none,rfl,ag,.nil,(aK.refl H).new hkl⟩
 ·rintro j σ' H' _ ⟨_,_,_,_,_,s⟩;exact cN.of (s _ _ hrl)
 ·rintro j x σ' H' hx ⟨refs,o,rfl,hk,ha,s⟩;refine iq ?_;have jl:j<rvs.length:=(aj.mp hx).1;have rl100:rvs.length<=100:=by rw[hA.len];exact hOk.few
  have rlen:refs.length=j:=by rw[ha.len,cB]
  refine⟨_,rfl,nm,_,rfl,.inl (cN.of (s _ _ hnm)),λa ha0=>?_⟩;have nak:kl≠a:=aC hk ha0;refine⟨refs,by rw[aL nak];exact hk,cg (by lia),refs++[.ref a],_,rfl,ag,?_,λb o h=>?_⟩
  ·rw[Ll];refine b3.snoc (ha.imp λ_ _ z=>(z.same ((aK.refl H').new ha0)).upd) ⟨a,rfl,Ne.symm nak,?_⟩;rw[aL (Ne.symm nak),ag]
  ·have h1:=s b o h;rw[aL (aC h hkl),aL (aC h1 ha0)];exact h1
 ·rintro σ' H1 ⟨refs,o,_,hk,ha,s⟩;rw[hA.len] at ha;have rlen:refs.length=rs.length:=by rw[ha.len,cB]
  show rP K _ [some (.ref rl),some (.ref nm),some (.ref pr),some (.ref kl),none,none,none,none,none] H1;refine⟨_,rfl,pr,_,rfl,.inl (cN.of (s _ _ hpr)),λa ha0=>?_⟩;have nak:kl≠a:=aC hk ha0;have K0:KJ kl H ys [] w rs.length H1 refs (bB rs.length ys):=⟨hk,ha,by rw[cB],λi ks e=>by
   have hm:=aD e;rw[List.mem_replicate] at hm;rw[hm.2];exact⟨ysl,λy hy=>hy,.inl wy⟩,s⟩
  have K1:=K0.grown ((aK.refl H1).new (o:=.lst (ps.map V.str)) ha0);refine⟨_,rfl,Gg K1.at_ (by decide) (by rw[rlen];exact n1) ?_⟩;have K2:KJ kl H ys ps w rs.length (upd (upd H1 a (.lst (ps.map V.str))) kl (.lst (refs.set 0 (.ref a)))) (refs.set 0 (.ref a)) ((bB rs.length ys).set 0 ps):=by
   have z:=K1.set (m:=0) (kp:=ps) (a:=a) hkl (Ne.symm nak) ag ⟨psl,pin,.inr ⟨rfl,rfl⟩⟩;refine⟨z.at_,z.all,z.len,λi ks e=>?_,z.same⟩;by_cases c:0=i
   ·subst c;rw[bJ (by rw[cB];exact n1)] at e;cases e;refine⟨psl,pin,?_⟩;by_cases e:ps=[]
    ·exact .inr ⟨rfl,e⟩
    ·exact .inl (wp e)
   ·obtain⟨z1,z2,z3⟩:=z.wit i ks e;refine⟨z1,z2,?_⟩;rcases z3 with z3|z3
    ·exact .inl z3
    ·exact absurd z3.1.symm c
  show rO K _ [some (.ref rl),some (.ref nm),some (.ref pr),some (.ref kl),none,none,none,none,none] (upd (upd H1 a (.lst (ps.map V.str))) kl (.lst (refs.set 0 (.ref a))));generalize upd (upd H1 a (.lst (ps.map V.str))) kl (.lst (refs.set 0 (.ref a)))=H2 at K2 ⊢;generalize refs.set 0 (.ref a)=refs2 at K2;have Z2:DE ps ((bB rs.length ys).set 0 ps):=λks e y hy=>by
   rw[bJ (by rw[cB];exact n1)] at e;cases e;exact hy
  generalize (bB rs.length ys).set 0 ps=kss2 at K2 Z2;show rN K _ [some (.ref rl),some (.ref nm),some (.ref pr),some (.ref kl),some (.bl true),none,none,none,none] H2;refine⟨λm σ' H'=>∃(refs:List V) (kss:List (List Str)) (more:Bool) (o5 o6 o7 o8:Option V),σ'=[some (.ref rl),some (.ref nm),some (.ref pr),some (.ref kl),some (.bl more),o5,o6,o7,o8]/\KJ kl H ys ps w rs.length H' refs kss/\DE ps kss/\(more=false->zh rs rs.length kss)/\2*wO kss+more.toNat=m,⟨_,refs2,kss2,true,_,_,_,_,rfl,K2,Z2,(λz=>by cases z),rfl⟩,?_⟩;rintro m σ' H' ⟨refs3,kss3,more,o5,o6,o7,o8,rfl,K3,Z3,P3,hm⟩;refine⟨_,rfl,more,rfl,ka (λhmore=>?_) (λhmore=>?_)⟩
  ·subst hmore;refine⟨Up rl nm pr kl H ys ps w rs (2*wO kss3) rs.length,?_,?_⟩
   ·rintro σ4 H4 ⟨refs4,kss4,more4,p5,p6,p7,p8,rfl,K4,hB,Z4,P4⟩;refine⟨_,?_,refs4,kss4,more4,_,_,_,_,rfl,K4,Z4,P4,rfl⟩;have:(true:Bool).toNat=1:=rfl;lia
   ·-- more=False;for n in range(len(rows))
    show tP K _ [some (.ref rl),some (.ref nm),some (.ref pr),some (.ref kl),some (.bl false),o5,o6,o7,o8] H';have hlr:=K3.same _ _ hrl;refine⟨_,rfl,_,_,rfl,.inl ⟨_,cN.of hlr,rfl⟩,_,rfl,by lia,by rw[hA.len];have:=hOk.few;lia,oN (λi=>Up rl nm pr kl H ys ps w rs (2*wO kss3) i) ⟨refs3,kss3,false,_,_,_,_,rfl,K3,by simp,Z3,λ_ n _ _ _ _ hn=>absurd hn (cE _)⟩ ?_ ?_⟩
    ·rintro i σ5 H5 hi ⟨refs5,kss5,more5,p5,p6,p7,p8,rfl,K5,hB,Z5,P5⟩;have hi:i<rs.length:=by rw[hA.len] at hi;simpa using hi
     have e0:(0:Int)+(i:Int)=((i:Nat):Int):=by lia
     show om K _ [some (.ref rl),some (.ref nm),some (.ref pr),some (.ref kl),some (.bl more5),some (.int ((0:Int)+(i:Int))),p6,p7,p8] H5;rw[e0];exact VM hkl hrl hA hOk hE w0 hi K5 hB Z5 P5
    ·rintro σ5 H5 h5;rw[hA.len,dJ] at h5;exact h5
  ·refine⟨_,rfl,q kl refs3 kss3 H' hkl K3.at_ (K3.all.imp λ_ _ ⟨a,e,_,h⟩=>⟨a,e,h⟩) K3.len (λi ks e=>?_) ⟨Z3,λn m r ks km hr hm hks hkm=>P3 hmore n m r ks km (aj.mp hr).1 hr hm hks hkm⟩ K3.same⟩;obtain⟨z1,z2,z3⟩:=K3.wit i ks e;refine⟨z1,z2,z3.imp (λz e=>?_) id⟩;rw[e] at z;cases z
def V4(st nm cn fd wl:ar)(m:Nat)(f:Int)(ws ys:List Str)(cs:List Nat)(H:Hp)(K:Fg)(k i:Nat):St->Hp->Prop:=λσ' H'=>∃(pvs:List V) (bs:List dr) (k':Nat) (o7 o8 o9 o10:Option V),σ'=[some (.ref st),some (.int (m:Nat)),some (.int f),some (.ref wl),some (.ref nm),some (.ref cn),some (.ref fd),o7,o8,o9,o10]/\
 H' fd=some (.lst pvs)/\b3 (lh H') pvs bs/\bs.length=i/\(∀b∈bs,qT ys cs b/\b.rows.length<=m+1)/\bs.map (·.name)=ws.take i/\bs.map (·.params.length)=cs.take i/\j9 K H' st k'/\k'<=k+1001*i/\A2 st fd H H'
def Lj{K:Fg}{vs:List V}{H:Hp}{Q:VK}{E:XK}(h:uw K vs H Q E):C5 K {nx:=λ_ H'=>Q .non H',rt:=Q} (cQ vP vs) H:=by
 obtain⟨st,m,k,rfl,S,hk,m1,m50,q⟩:=h;obtain⟨scr,ns,c,hst,hscr,hns⟩:=id S;refine⟨_,rfl,sf (cN.of hst) (by decide) rfl ⟨_,rfl,.inl ⟨scr,_,rfl,hscr.sq,λp hp=>?_⟩⟩⟩;rw[show((1:Int))=((1:Nat):Int) from rfl,mq,<-fO];refine⟨p,ns.take 1,rfl,cN.of ag,λz=>⟨_,_,rfl,rfl,⟨by decide,by decide⟩,_,_,rfl,rfl,(by show(0:Int)<16;decide),.inl ⟨rfl,.inr ⟨_,rfl,?_⟩⟩⟩⟩;have S1:=S.new (o:=.lst ((ns.take 1).map V.int)) hp;have B1:=(gc.refl st H).new (o:=.lst ((ns.take 1).map V.int)) hp;generalize upd H p (.lst ((ns.take 1).map V.int))=H1 at S1 B1 ⊢;obtain⟨f,hf,f01⟩:∃f:Int,(if decide (V.int (z / 4 % 16)=V.int 5)=true then(1:Int) else 0)=f/\(f=0\/f=1):=by
  cases decide (V.int (z / 4 % 16)=V.int 5) with
  |true=>exact⟨1,rfl,.inr rfl⟩
  |false=>exact⟨0,rfl,.inl rfl⟩
 rw[hf];show x9 K _ [some (.ref st),some (.int (m:Nat)),some (.int f),none,none,none,none,none,none,none,none] H1;refine⟨_,rfl,st,5,k,rfl,S1,by lia,by decide,λl ws k1 H2 hl wl wnd wok h2 S2 l2 B2=>?_⟩;have nl:l≠st:=λz=>by obtain⟨_,e⟩:=S1.lst;rw[z,e] at hl;cases hl
 refine⟨_,rfl,st,3,k1,rfl,S2,by lia,by decide,by decide,λd H3 d0 d1 S3 B3=>.inl ⟨_,_,rfl,rfl,Ze,λl4 hl4=>?_⟩⟩;have h3:=B3 l _ nl h2;have S4:=S3.new (o:=.lst [V.int (1+d),V.int 5]) hl4;have B4:=(((B1.trans B2).trans B3).new (o:=.lst [V.int (1+d),V.int 5]) hl4);have h4:(upd H3 l4 (.lst [V.int (1+d),V.int 5])) l=some (.lst (ws.map V.str)):=by rw[aL (aC h3 hl4)];exact h3
 have g4:(upd H3 l4 (.lst [V.int (1+d),V.int 5])) l4=some (.lst [V.int (1+d),V.int 5]):=ag;have words:∀c5:Nat,1<=c5->c5<=5->F1 K (V.ref l) none (some (c5:Int)) (upd H3 l4 (.lst [V.int (1+d),V.int 5])) λx H1=>x8 K {nx:=λ_ H'=>Q .non H',rt:=Q} [some (.ref st),some (.int (m:Nat)),some (.int f),some x,none,none,none,none,none,none,none] H1:=λc5 c1 c2=>by
  generalize upd H3 l4 (.lst [V.int (1+d),V.int 5])=H4 at S4 B4 h4;refine .inl ⟨l,_,rfl,cN.of h4,λwp hwp=>?_⟩;rw[mq,<-fO];have wlen:(ws.take c5).length=c5:=by rw[aX];lia
  have S5:=S4.new (o:=.lst ((ws.take c5).map V.str)) hwp;have B5:=B4.new (o:=.lst ((ws.take c5).map V.str)) hwp;have h5:(upd H4 wp (.lst ((ws.take c5).map V.str))) wp=some (.lst ((ws.take c5).map V.str)):=ag;have nwp:wp≠st:=λz=>by obtain⟨_,e⟩:=S4.lst;rw[z,e] at hwp;cases hwp
  have wwnd:(ws.take c5).Nodup:=(jL c5 ws).nodup wnd;have wwnm:∀y∈ws.take c5,Nm y:=λy hy=>wok y (dU hy);generalize ws.take c5=ww at wlen S5 B5 h5 wwnd wwnm ⊢;generalize upd H4 wp (.lst (ww.map V.str))=H5 at S5 B5 h5 ⊢;refine⟨_,rfl,_,rfl,st,5,k1+1,rfl,S5,by lia,by decide,by decide,λe H6 e0 e1 S6 B6=>.inl ⟨_,_,rfl,rfl,?_⟩⟩;obtain⟨n,hn,n2,n6⟩:∃n:Nat,(2:Int)+e=(n:Int)/\2<=n/\n<=6:=⟨(2+e).toNat,by lia,by lia,by lia⟩;refine⟨st,n,k1+2,by show[V.ref st,V.int (2+e)]=_;rw[hn],S6,by lia,by lia,λnm ys k7 H7 hnm yl ynd yok h7 S7 l7 B7=>?_⟩;have nnm:nm≠st:=λz=>by obtain⟨_,e⟩:=S6.lst;rw[z,e] at hnm;cases hnm
  have nwn:wp≠nm:=aC (B6 wp _ nwp h5) hnm;have w7:=B7 wp _ nwp (B6 wp _ nwp h5);have BH7:=(B5.trans B6).trans B7;have yne:∀y∈ys,y≠"":=λy hy=>(yok y hy).ne;have ysne:ys≠[]:=λz=>by rw[z] at yl;simp at yl;lia
  show x6 K _ [some (.ref st),some (.int (m:Nat)),some (.int f),some (.ref wp),some (.ref nm),none,none,none,none,none,none] H7;refine .inl ⟨_,rfl,wp,rfl,⟨_,cN.of w7⟩,λcn hcn=>?_⟩;have ncn:cn≠st:=λz=>by obtain⟨_,e⟩:=S7.lst;rw[z,e] at hcn;cases hcn
  have nwc:wp≠cn:=aC w7 hcn;have nnc:nm≠cn:=aC h7 hcn;refine jB (xs:=ww.map V.str) (λi σ' H'=>∃(cs:List Nat) (k':Nat) (o:Option V),σ'=[some (.ref st),some (.int (m:Nat)),some (.int f),some (.ref wp),some (.ref nm),none,none,o,none,none,none]/\H' cn=some (.lst (cZ cs))/\cs.length=i/\(∀x∈cs,x<=4/\x<=ys.length)/\j9 K H' st k'/\k'<=k7+i/\gc st H7 H') ?_ ?_ ?_ ?_
  ·exact⟨[],k7,none,rfl,ag,rfl,by simp,S7.new hcn,by lia,(gc.refl st H7).new hcn⟩
  ·rintro i σ' H' _ ⟨_,_,_,_,_,_,_,_,_,B⟩;exact cN.of (B wp _ nwp w7)
  ·rintro i x σ' H' hx ⟨cs,k',o,rfl,hc,cl,c4,S',hk',B'⟩;have il:i<ww.length:=by have:=(aj.mp hx).1;rw[af] at this;exact this
   refine iq ⟨_,rfl,_,rfl,_,_,rfl,.inl ⟨_,cN.of (B' nm _ nnm h7),rfl⟩,_,_,rfl,.inl ⟨_,_,rfl,rfl,?_⟩⟩;rw[af];refine⟨st,_,k',rfl,S',by lia,?_,?_,λg H8 g0 g1 S8 B8=>?_⟩
   ·by_cases z:((ys.length:Nat):Int)<4
    ·rw[if_pos z];lia
    ·rw[if_neg z];lia
   ·by_cases z:((ys.length:Nat):Int)<4
    ·rw[if_pos z];lia
    ·rw[if_neg z];lia
   obtain⟨gn,rfl⟩:∃j:Nat,g=(j:Int):=⟨g.toNat,by lia⟩;have g4:gn<=4/\gn<=ys.length:=by
    by_cases z:((ys.length:Nat):Int)<4
    ·rw[if_pos z] at g1;lia
    ·rw[if_neg z] at g1;lia
   have h8:=B8 cn _ ncn hc;refine⟨_,h8,cg (by rw[fq];lia),cs++[gn],k'+1,_,rfl,?_,by simp[cl],λx hx=>?_,S8.mono .upd_at h8 (Ne.symm ncn),by lia,?_⟩
   ·rw[ag];unfold cZ;rw[aG];rfl
   ·rcases aV.mp hx with z|z
    ·exact c4 x z
    ·rw[ax.mp z];exact g4
   ·exact gc.past (B'.trans B8) hcn .upd_at
  ·rintro σ' H8 ⟨cs,k8,o,_,hc,cl,c4,S8,hk8,B8⟩;rw[af] at cl hk8;have csne:cs≠[]:=λz=>by rw[z] at cl;simp at cl;lia
   have w8:=B8 wp _ nwp w7;have n8:=B8 nm _ nnm h7;have BH8:=BH7.trans B8;show xZ K _ [some (.ref st),some (.int (m:Nat)),some (.int f),some (.ref wp),some (.ref nm),some (.ref cn),none,none,none,none,none] H8;refine⟨Zc,λfd hfd=>?_⟩;have nfd:fd≠st:=λz=>by obtain⟨_,e⟩:=S8.lst;rw[z,e] at hfd;cases hfd
   have s9:aK H8 (upd H8 fd (.lst [])):=(aK.refl H8).new hfd;have g9:(upd H8 fd (.lst [])) fd=some (.lst []):=ag;have HF:H fd=none:=BH8.free nfd hfd;have nwf:wp≠fd:=aC w8 hfd;have nnf:nm≠fd:=aC n8 hfd;have ncf:cn≠fd:=aC hc hfd;show xY K _ [some (.ref st),some (.int (m:Nat)),some (.int f),some (.ref wp),some (.ref nm),some (.ref cn),some (.ref fd),none,none,none,none] (upd H8 fd (.lst []));generalize upd H8 fd (.lst [])=H9 at s9 g9 ⊢;refine⟨_,rfl,_,rfl,wp,cn,rfl,⟨_,cN.of (s9 _ _ w8)⟩,⟨_,cN.of (s9 _ _ hc)⟩,PD (xs:=ww.map V.str) (ys:=cZ cs) (by rw[af,fq,cl]) (V4 st nm cn fd wp m f ww ys cs H9 K k8) ?_ ?_ ?_ ?_⟩
   ·exact⟨[],[],k8,none,none,none,none,rfl,g9,.nil,rfl,by simp,rfl,rfl,S8.same s9,by lia,.refl _ _ _⟩
   ·rintro i σ' H' _ ⟨_,_,_,_,_,_,_,_,_,_,_,_,_,_,_,_,B⟩;exact⟨cN.of (B wp _ nwp nwf (s9 _ _ w8)),cN.of (B cn _ ncn ncf (s9 _ _ hc))⟩
   ·rintro i x y σ' H' tp hx hy htp ⟨pvs,bs,k',o7,o8,o9,o10,rfl,hpv,hA,bl,b100,bnm,bct,S',hk',B'⟩;have il:i<ww.length:=by have:=(aj.mp hx).1;rw[af] at this;exact this
    obtain⟨c,hcc,rfl⟩:=uX hy;rw[aQ,ao il] at hx;obtain⟨w,hw,rfl⟩:∃w:Str,ww[i]?=some w/\x=.str w:=⟨ww[i],ao il,(Option.some.inj hx).symm⟩;have s2:aK H' (upd H' tp (.tup [.str w,.int (c:Nat)])):=(aK.refl H').new htp;have g2:(upd H' tp (.tup [.str w,.int (c:Nat)])) tp=some (.tup [.str w,.int (c:Nat)]):=ag;generalize upd H' tp (.tup [.str w,.int (c:Nat)])=H10 at s2 g2 ⊢;refine⟨tp,_,rfl,dA.of g2,rfl,_,_,rfl,_,_,rfl,rfl,?_⟩;show xX K _ [some (.ref st),some (.int (m:Nat)),some (.int f),some (.ref wp),some (.ref nm),some (.ref cn),some (.ref fd),some (.str w),some (.int (c:Nat)),o9,o10] H10;have nm10:=s2 _ _ (B' nm _ nnm nnf (s9 _ _ n8));have cn10:=s2 _ _ (B' cn _ ncn ncf (s9 _ _ hc));have fd10:=s2 _ _ hpv;refine⟨_,rfl,_,rfl,_,_,rfl,.inl ⟨_,cN.of nm10,rfl⟩,st,_,k',rfl,S'.same s2,by lia,by rw[af];lia,by rw[af];lia,λt H11 t0 t1 S11 B11=>?_⟩;obtain⟨tn,rfl⟩:∃j:Nat,t=(j:Int):=⟨t.toNat,by lia⟩;show xW K _ [some (.ref st),some (.int (m:Nat)),some (.int f),some (.ref wp),some (.ref nm),some (.ref cn),some (.ref fd),some (.str w),some (.int (c:Nat)),some (.int (tn:Nat)),o10] H11;have nm11:=B11 nm _ nnm nm10;have cn11:=B11 cn _ ncn cn10;have fd11:=B11 fd _ nfd fd10;refine⟨_,rfl,_,rfl,_,rfl,.inl ⟨nm,_,rfl,cN.of nm11,λa1 ha1=>?_⟩⟩;rw[zq,<-nC];have nm12:(upd H11 a1 (.lst ((ys.drop tn).map V.str))) nm=some (.lst (ys.map V.str)):=by rw[aL (aC nm11 ha1)];exact nm11
    refine⟨_,rfl,_,rfl,_,rfl,.inl ⟨nm,_,rfl,cN.of nm12,λa2 ha2=>?_⟩⟩;rw[mq,<-fO];have n12:a1≠a2:=aC ag ha2;refine .inr (.inr (.inl ⟨a1,a2,_,_,rfl,rfl,by rw[aL n12,ag],ag,?_,λa3 ha3=>?_⟩))
    ·have:=cg (n:=100) (by decide);rw[af,af,eY,aX];lia
    rw[<-aG];refine⟨_,rfl,_,rfl,.inl ⟨a3,_,rfl,cN.of ag,λpr hpr=>?_⟩⟩;rw[mq,<-fO];have pin:∀y∈(ys.drop tn++ys.take tn).take c,y∈ys:=λy hy=>by
     rcases aV.mp (dU hy) with z|z
     ·exact List.mem_of_mem_drop z
     ·exact dU z
    have pnd:((ys.drop tn++ys.take tn).take c).Nodup:=by
     refine(jL c _).nodup ?_;have z:(ys.take tn++ys.drop tn).Nodup:=by rw[List.take_append_drop];exact ynd
     exact(List.perm_append_comm.nodup_iff).mp z
    have plc:((ys.drop tn++ys.take tn).take c).length=c:=by
     have:=(c4 c (aD hcc)).2;rw[aX,aN,eY,aX];lia
    have pl:((ys.drop tn++ys.take tn).take c).length<=100:=by
     rw[aX,aN,eY,aX];lia
    have s13:aK H11 (upd (upd (upd (upd H11 a1 (.lst ((ys.drop tn).map V.str))) a2 (.lst ((ys.take tn).map V.str))) a3 (.lst ((ys.drop tn++ys.take tn).map V.str))) pr (.lst (((ys.drop tn++ys.take tn).take c).map V.str))):=((((aK.refl H11).new ha1).new ha2).new ha3).new hpr;have g13:(upd (upd (upd (upd H11 a1 (.lst ((ys.drop tn).map V.str))) a2 (.lst ((ys.take tn).map V.str))) a3 (.lst ((ys.drop tn++ys.take tn).map V.str))) pr (.lst (((ys.drop tn++ys.take tn).take c).map V.str))) pr=some (.lst (((ys.drop tn++ys.take tn).take c).map V.str)):=ag;show xV K _ [some (.ref st),some (.int (m:Nat)),some (.int f),some (.ref wp),some (.ref nm),some (.ref cn),some (.ref fd),some (.str w),some (.int (c:Nat)),some (.int (tn:Nat)),some (.ref pr)] (upd (upd (upd (upd H11 a1 (.lst ((ys.drop tn).map V.str))) a2 (.lst ((ys.take tn).map V.str))) a3 (.lst ((ys.drop tn++ys.take tn).map V.str))) pr (.lst (((ys.drop tn++ys.take tn).take c).map V.str)));generalize upd (upd (upd (upd H11 a1 (.lst ((ys.drop tn).map V.str))) a2 (.lst ((ys.take tn).map V.str))) a3 (.lst ((ys.drop tn++ys.take tn).map V.str))) pr (.lst (((ys.drop tn++ys.take tn).take c).map V.str))=H13 at s13 g13 ⊢;generalize (ys.drop tn++ys.take tn).take c=ps at pin pl pnd plc g13;have S13:=S11.same s13;have npr:pr≠st:=λz=>by
     have:=JX S13 (v:=.ref pr) ⟨pr,rfl,g13⟩;exact this (by rw[z])
    have fd13:=s13 _ _ fd11;refine⟨_,rfl,.inl ⟨rfl,_,cN.of fd13⟩,_,rfl,_,rfl,_,rfl,_,rfl,_,rfl,_,rfl,st,nm,pr,cn,w,m,k'+1,ys,ps,cs,rfl,S13,by lia,s13 _ _ nm11,ysne,by lia,yne,g13,pl,pnd,pin,s13 _ _ cn11,csne,by lia,λx hx=>(c4 x hx).1,m1,m50,nnm,npr,ncn,λv b k14 H14 hv hbn hbp bok br S14 l14 B14=>?_⟩;have fd14:=B14 fd _ nfd fd13;obtain⟨_,e11⟩:=(S'.same s2).lst;obtain⟨_,e13⟩:=S13.lst;have t14:Tp H' H14:=(((Tp.of_same s2).trans (.of_but B11 e11)).trans (.of_same s13)).trans (.of_but B14 e13);have t15:Tp H14 (upd H14 fd (.lst (pvs++[v]))):=(Tp.refl H14).lst fd14;refine⟨fd,_,_,rfl,rfl,fd14,cg (by rw[hA.len];lia),?_⟩;refine⟨pvs++[v],bs++[b],k14,_,_,_,_,rfl,ag,(hA.imp λ_ _ z=>(z.mono t14).mono t15).snoc (hv.mono t15),by simp[bl],λb' hb'=>(aV.mp hb').elim (b100 b') (λz=>by rw[ax.mp z];exact⟨bok,br⟩),by rw[aG,bnm,bN,hw,List.map_singleton,hbn];rfl,by rw[aG,bct,bN,hcc,List.map_singleton,hbp,plc];rfl,S14.mono .upd_at fd14 (Ne.symm nfd),by lia,?_⟩;exact λe u n1 n2 h=>by rw[aL n2];exact B14 e u n1 (s13 _ _ (B11 e u n1 (s2 _ _ (B' e u n1 n2 h))))
   ·rintro σ' H' ⟨pvs,bs,k',o7,o8,o9,o10,rfl,hpv,hA,bl,b100,bnm,bct,S',hk',B'⟩;rw[af] at bl hk';refine⟨_,rfl,fd,_,rfl,.inl ⟨cN.of hpv,λl hl=>?_⟩⟩;rw[af,<-cl] at bct;rw[af] at bnm;rw[List.take_length] at bnm bct;have ok:tY ys cs bs:=⟨ynd,yok,by lia,by lia,by lia,by lia,by rw[bnm];exact wwnd,λb hb=>wwnm _ (by rw[<-bnm];exact List.mem_map_of_mem hb),bct,λx hx=>(c4 x hx).1,λb hb=>(b100 b hb).1⟩;refine q l pvs bs ys cs k' _ ag (hA.imp λ_ _ z=>z.mono ((Tp.refl H').new hl)) ok (λb hb=>(b100 b hb).2) (S'.new hl) (by lia) (gc.new ?_ hl);exact λe u n1 h=>B' e u n1 (aC h HF) (s9 _ _ (BH8 e u n1 h))
 rcases f01 with rfl|rfl
 ·refine⟨_,rfl,sf (cN.of g4) (by decide) rfl ⟨_,rfl,?_⟩⟩;obtain⟨c5,h5,c1,c2⟩:∃c5:Nat,(1:Int)+d=(c5:Int)/\1<=c5/\c5<=5:=⟨(1+d).toNat,by lia,by lia,by lia⟩;have z:=words c5 c1 c2;rw[<-h5] at z;exact z
 ·refine⟨_,rfl,sf (cN.of g4) (by decide) rfl ⟨_,rfl,?_⟩⟩;exact words 5 (by decide) (by decide)
def fH{H H1:Hp}{a:ar}{o:HO}(s:aK H H1)(h:H a=none):aK H (upd H1 a o):=λb u e=>by
 rw[aL (aC e h)];exact s b u e
def ly(F:List Nat):List (iy×V):=F.map λ(n:Nat)=>(Sum.inl ((n:Nat):Int),V.bl true)
def OM:∀(F:List Nat) (m:Nat),(jd (ly F) (Sum.inl (m:Int))).isSome=decide (m∈F)
 |[],m=>rfl
 |a::r,m=>by
  unfold jd ly;rw[aY,gi];by_cases c:m=a
  ·subst c;rw[decide_eq_true (by rfl:((Sum.inl (m:Int),V.bl true):iy×V).1=Sum.inl (m:Int))];rw[decide_eq_true bT];rfl
  ·have e:decide (((Sum.inl (a:Int),V.bl true):iy×V).1=Sum.inl (m:Int))=false:=decide_eq_false λz=>c (by injection z with z;lia);rw[e];have ih:=OM r m;unfold jd ly at ih;refine Eq.trans ih ?_;rw[Bool.eq_iff_iff,decide_eq_true_eq,decide_eq_true_eq,aE];exact⟨.inr,λz=>z.resolve_left c⟩
def nX{F:List Nat}{m:Nat}(h:m∉F):lR (ly F) (Sum.inl (m:Int)) (V.bl true)=ly (F++[m]):=by
 have e:jd (ly F) (Sum.inl (m:Int))=none:=by
  have:=OM F m;rw[decide_eq_false h] at this;cases q:jd (ly F) (Sum.inl (m:Int)) with
  |none=>rfl
  |some v=>rw[q] at this;cases this
 rw[zX _ e];unfold ly;rw[aG];rfl
def FG(F:List Nat):(ly F).length=F.length:=by unfold ly;rw[af]
def O3(rs:List bU)(un:Option Str)(F:List Nat)(n:Nat):Prop:=∀r,rs[n]?=some r->(∀y,un=some y->mE r≠.str y)->∀m∈eL n r,m∈F
def O3.mono{rs:List bU}{un:Option Str}{F F':List Nat}{n:Nat}(h:O3 rs un F n)(s:∀x∈F,x∈F'):O3 rs un F' n:=λr e hy m hm=>s m (h r e hy m hm)
structure WI(rs:List bU)(un:Option Str)(F W:List Nat)(now:Nat->Prop):Prop where
 nd:F.Nodup
 way:∀x∈F,Jd rs un x
 zero:0∈F
 sub:∀x∈W,x∈F
 cl:∀x∈F,x∈W\/now x\/O3 rs un F x
def WI.add{rs:List bU}{un:Option Str}{F W:List Nat}{now:Nat->Prop}{m:Nat}(i:WI rs un F W now)(h:m∉F)(w:Jd rs un m):WI rs un (F++[m]) (W++[m]) now:=by
 refine⟨yH i.nd h,λx hx=>?_,bX _ i.zero,λx hx=>?_,λx hx=>?_⟩
 ·rcases aV.mp hx with z|z
  ·exact i.way x z
  ·rw[ax.mp z];exact w
 ·rcases aV.mp hx with z|z
  ·exact bX _ (i.sub x z)
  ·exact bI _ z
 ·rcases aV.mp hx with z|z
  ·rcases i.cl x z with a|a|a
   ·exact .inl (bX _ a)
   ·exact .inr (.inl a)
   ·exact .inr (.inr (a.mono λy hy=>bX _ hy))
  ·exact .inl (bI _ z)
def VB(rt fd wl:ar)(H:Hp)(rs:List bU)(un:Option Str)(m:Nat):St->Hp->Prop:=λσ' H'=>∃(F W:List Nat) (o4 o5:Option V),σ'=[some (.ref rt),some (RT un),some (.ref fd),some (.ref wl),o4,o5]/\H' fd=some (.dK (ly F))/\H' wl=some (.lst (cZ W))/\WI rs un F W (λ_=>False)/\aK H H'/\2*(rs.length-F.length)+W.length<=m
def V5(rt fd wl tp:ar)(H:Hp)(rs:List bU)(un:Option Str)(ms:List Nat)(n m j:Nat):St->Hp->Prop:=λσ' H'=>∃(F W:List Nat) (o5:Option V),σ'=[some (.ref rt),some (RT un),some (.ref fd),some (.ref wl),some (.int (n:Nat)),o5]/\H' fd=some (.dK (ly F))/\H' wl=some (.lst (cZ W))/\H' tp=some (.tup (cZ ms))/\WI rs un F W (λx=>x=n)/\aK H H'/\2*(rs.length-F.length)+W.length<=m/\∀i,i<j->∀x,ms[i]?=some x->x∈F
def zy(ns:List Nat)(n:Nat):cZ (ns++[n])=cZ ns++[V.int (n:Nat)]:=by unfold cZ;rw[aG];rfl
def WI.done{rs:List bU}{un:Option Str}{F:List Nat}(i:WI rs un F [] (λ_=>False))(m:Nat):m∈F↔Jd rs un m:=by
 refine⟨i.way m,λh=>?_⟩
 induction h with
 |zero=>exact i.zero
 |step _ e hy hm ih=>
  rcases i.cl _ ih with z|z|z
  ·cases z
  ·exact z.elim
  ·exact z _ e hy _ hm
def WI.len{rs:List bU}{un:Option Str}{F W:List Nat}{now:Nat->Prop}(g:oM rs)(i:WI rs un F W now):F.length<=rs.length:=mx i.nd λx hx=>(i.way x hx).lt g
def RU{K:Fg}{rt fd wl:ar}{H H1:Hp}{rvs:List V}{rs:List bU}{un:Option Str}{F W:List Nat}{n m:Nat}{r:bU}{v:V}{o5:Option V}{D:oE}(hrt:H rt=some (.tup rvs))(hfd:H fd=none)(hwl:H wl=none)(nfw:fd≠wl)(g:oM rs)
  (e1:rvs[n]?=some v) (e2:rs[n]?=some r) (hra:e7 H v r) (hy:∀y,un=some y->mE r≠.str y) (hn:Jd rs un n) (h1:H1 fd=some (.dK (ly F))) (h2:H1 wl=some (.lst (cZ W))) (i:WI rs un F W (λx=>x=n)) (s:aK H H1) (hm:2*(rs.length-F.length)+W.length<=m) (hmb:m<=1000)
  (q:∀(σ':St) (H':Hp),VB rt fd wl H rs un m σ' H'->D.nx σ' H') :
  kC (jR K (bE (pS K) [] E0 (ai (au 0) (ai (au 4) aJ)))) (aW 5) (pZ K) D [some (.ref rt),some (RT un),some (.ref fd),some (.ref wl),some (.int (n:Nat)),o5] H1:=by
 refine .inr ⟨_,rfl,_,rfl,rt,n,rvs,v,r,rfl,s _ _ hrt,e1,hra.mono (.of_same s),λtp H2 htp s2=>⟨tp,rfl,⟨_,dA.of htp⟩,kJ (xs:=cZ (eL n r)) (V5 rt fd wl tp H rs un (eL n r) n m) ?_ ?_ ?_ ?_⟩⟩
 ·exact⟨F,W,_,rfl,s2 _ _ h1,s2 _ _ h2,htp,i,s.trans s2,hm,λi hi=>absurd hi (cE _)⟩
 ·rintro j σ' H' _ ⟨_,_,_,_,_,_,h3,_⟩;exact dA.of h3
 ·rintro j x σ' H' hx ⟨F',W',p5,rfl,h3,h4,h5,i',s',hm',hj⟩;obtain⟨to,hto,rfl⟩:=uX hx;have hw:Jd rs un to:=.step hn e2 hy (aD hto);have fl:=i'.len g;have few:=g.few;show pZ K _ [some (.ref rt),some (RT un),some (.ref fd),some (.ref wl),some (.int (n:Nat)),some (.int (to:Nat))] H';refine⟨_,rfl,_,rfl,fd,_,rfl,uJ.k (k:=Sum.inl (to:Int)) h3,_,rfl,?_⟩;show if(!(jd (ly F') (Sum.inl (to:Int))).isSome)=true then _ else _;rw[OM];refine nU (λhin=>?_) (λhin=>?_)
  ·have nd':=mx (yH i'.nd hin) (n:=rs.length) λy hy'=>by
    rcases aV.mp hy' with z|z
    ·exact(i'.way y z).lt g
    ·rw[ax.mp z];exact hw.lt g
   rw[aN,cD] at nd';refine⟨_,rfl,_,rfl,fd,_,rfl,EK.k (k:=Sum.inl (to:Int)) h3 (cg (by rw[FG];lia)),?_⟩;rw[nX hin];have h4':(upd H' fd (.dK (ly (F'++[to])))) wl=some (.lst (cZ W')):=by rw[aL (Ne.symm nfw)];exact h4
   have nwl:W'.length<=100000:=by lia
   refine⟨_,rfl,.inl ⟨rfl,_,cN.of h4'⟩,_,rfl,wl,_,_,rfl,rfl,h4',cg (by rw[fq];exact nwl),?_⟩;have ntf:tp≠fd:=λz=>by rw[z,h3] at h5;cases h5
   have ntw:tp≠wl:=λz=>by rw[z,h4] at h5;cases h5
   refine⟨F'++[to],W'++[to],_,rfl,by rw[aL nfw,ag],by rw[ag,zy],by rw[aL ntw,aL ntf];exact h5,i'.add hin hw,fH (fH s' hfd) hwl,?_,λk hk x hxk=>?_⟩
   ·simp only[aN,cD];lia
   ·by_cases c:k<j
    ·exact bX _ (hj k c x hxk)
    ·have:k=j:=by lia
     subst this;rw[hto] at hxk;cases hxk;exact bI _ (ax.mpr rfl)
  ·refine⟨F',W',_,rfl,h3,h4,h5,i',s',hm',λk hk x hxk=>?_⟩;by_cases c:k<j
   ·exact hj k c x hxk
   ·have:k=j:=by lia
    subst this;rw[hto] at hxk;cases hxk;exact hin
 ·rintro σ' H' ⟨F',W',p5,rfl,h3,h4,h5,i',s',hm',hj⟩;rw[fq] at hj;refine q _ _ ⟨F',W',_,_,rfl,h3,h4,⟨i'.nd,i'.way,i'.zero,i'.sub,λx hx=>?_⟩,s',hm'⟩;rcases i'.cl x hx with z|z|z
  ·exact .inl z
  ·subst z;refine .inr (.inr λr' e _ m' hm'=>?_);rw[e2] at e;cases e;obtain⟨k,hk,ek⟩:=b7.mp hm';exact hj k hk m' (by rw[ao hk,ek])
  ·exact .inr (.inr z)
def Ie{K:Fg}{vs:List V}{H:Hp}{Q:VK}{E:XK}(h:kS K vs H Q E):AO K {nx:=λ_ H'=>Q .non H',rt:=Q} (cQ tW vs) H:=by
 obtain⟨rt,un,rvs,rs,rfl,hrt,hA,g,q⟩:=h;refine λfd hfd=>⟨ag,[(Sum.inl 0,V.bl true)],rfl,by decide,?_⟩;have e0:upd (upd H fd (.dK [])) fd (.dK (rj [] [(Sum.inl 0,V.bl true)]))=upd H fd (.dK (ly [0])):=by
  rw[EA];have:rj [] [((Sum.inl 0:iy),V.bl true)]=ly [0]:=by
   show lR [] (Sum.inl 0) (V.bl true)=_;rw[zX _ GQ];rfl
  rw[this]
 show vD K _ [some (.ref rt),some (RT un),some (.ref fd),none,none,none] (upd (upd H fd (.dK [])) fd (.dK (rj [] [(Sum.inl 0,V.bl true)])));rw[e0];refine⟨Zd,λwl hwl0=>?_⟩;have nfw:fd≠wl:=aC ag hwl0;have hwl:H wl=none:=by
  have:(upd H fd (.dK (ly [0]))) wl=H wl:=aL (Ne.symm nfw);rw[<-this];exact hwl0
 show vC K _ [some (.ref rt),some (RT un),some (.ref fd),some (.ref wl),none,none] (upd (upd H fd (.dK (ly [0]))) wl (.lst [V.int 0]));have few0:=g.few;refine⟨λm σ' H'=>m<=1000/\VB rt fd wl H rs un m σ' H',⟨2*(rs.length-1)+1,by lia,[0],[0],none,none,rfl,by rw[aL nfw,ag],ag,⟨by simp,λx hx=>by rw[ax.mp hx];exact .zero,by simp,λx hx=>hx,λx hx=>.inl hx⟩,fH (fH (aK.refl H) hfd) hwl,by simp⟩,?_⟩;rintro m σ' H1 ⟨hmb,F,W,o4,o5,rfl,h1,h2,i,s,hm⟩;refine⟨_,rfl,_,_,rfl,.inl ⟨_,cN.of h2,rfl⟩,_,_,rfl,rfl,_,rfl,bL (λhl=>?_) (λhl=>?_)⟩
 ·rw[fq] at hl;obtain⟨L,n,rfl⟩:∃L n,W=L++[n]:=by
   rcases List.eq_nil_or_concat W with z|⟨L,n,z⟩
   ·subst z;simp at hl
   ·exact⟨L,n,by rw[z,List.concat_eq_append]⟩
  have hnF:=i.sub n (bI _ (ax.mpr rfl));have hn:=i.way n hnF;have nl:=hn.lt g;obtain⟨v,r,e1,e2,hra⟩:=hA.get nl;have hm1:2*(rs.length-F.length)+L.length<=m-1:=by rw[aN,cD] at hm;lia
  have m0:0<m:=by rw[aN,cD] at hm;lia
  refine⟨VB rt fd wl H rs un (m-1),λσ4 H4 h4=>⟨m-1,by lia,by lia,h4⟩,?_⟩;rw[zy] at h2;refine⟨_,rfl,.inl ⟨rfl,_,cN.of h2⟩,wl,_,V.int (n:Nat),rfl,rfl,h2,?_,?_⟩
  ·rw[aN,cD,Nat.add_sub_cancel,bV (aB _),jM];rfl
  rw[List.dropLast_concat];show vB K _ [some (.ref rt),some (RT un),some (.ref fd),some (.ref wl),some (.int (n:Nat)),o5] (upd H1 wl (.lst (cZ L)));have h1':(upd H1 wl (.lst (cZ L))) fd=some (.dK (ly F)):=by rw[aL nfw];exact h1
  have h2':(upd H1 wl (.lst (cZ L))) wl=some (.lst (cZ L)):=ag;have s':aK H (upd H1 wl (.lst (cZ L))):=fH s hwl;generalize upd H1 wl (.lst (cZ L))=H2 at h1' h2' s';have i':WI rs un F L (λx=>x=n):=⟨i.nd,i.way,i.zero,λx hx=>i.sub x (bX _ hx),λx hx=>by
   rcases i.cl x hx with z|z|z
   ·rcases aV.mp z with z|z
    ·exact .inl z
    ·exact .inr (.inl (ax.mp z))
   ·exact z.elim
   ·exact .inr (.inr z)⟩
  have e1':rvs[((n:Nat):Int).toNat]?=some v:=by simpa using e1
  cases un with
  |none=>
   refine⟨_,rfl,rfl,_,rfl,lu (lu ?_)⟩;exact RU hrt hfd hwl nfw g e1 e2 hra (λy z=>by cases z) hn h1' h2' i' s' hm1 (by lia) λ_ _ z=>z
  |some y=>
   refine⟨_,rfl,rfl,_,rfl,ff ?_⟩;refine⟨_,rfl,_,rfl,cJ (s' _ _ hrt) (by lia) e1' ⟨v,r,rfl,hra.mono (.of_same s'),λH3 s3=>⟨_,rfl,.inl ⟨?_,_,rfl,?_⟩⟩⟩⟩
   ·cases r<;>rfl
   ·refine nU (λhne=>?_) (λhe=>?_)
    ·exact RU hrt hfd hwl nfw g e1 e2 hra (λy' z=>by cases z;exact hne) hn (s3 _ _ h1') (s3 _ _ h2') i' (s'.trans s3) hm1 (by lia) λ_ _ z=>z
    ·refine⟨F,L,_,_,rfl,s3 _ _ h1',s3 _ _ h2',⟨i'.nd,i'.way,i'.zero,i'.sub,λx hx=>?_⟩,s'.trans s3,hm1⟩;rcases i'.cl x hx with z|z|z
     ·exact .inl z
     ·subst z;refine .inr (.inr λr' e hy=>?_);rw[e2] at e;cases e;exact absurd he (hy y rfl)
     ·exact .inr (.inr z)
 ·rw[fq] at hl;have:W=[]:=dO.mp (by lia);subst this;have fl:=i.len g;have few:=g.few;refine⟨_,rfl,fd,_,F.map (λn=>((n:Nat):Int)),rfl,h1,?_,by rw[af];lia,λl ns' hl' hp hs=>?_⟩
  ·unfold ly;rw[dN,dN];rfl
  ·obtain⟨ks,rfl,hk,hr⟩:=La hp hs i.nd;have e:(ks.map λn=>((n:Nat):Int)).map V.int=cZ ks:=by unfold cZ;rw[dN];rfl
   rw[e];refine q l ks _ (λm=>(hk m).trans (i.done m)) hr ag (s.free hl') (s.new hl')
def uW(a b:List Nat):cZ (a++b)=cZ a++cZ b:=by unfold cZ;rw[aG]
def wD{K:Fg}(T:Mj K){vs:List V}{H:Hp}{Q:VK}{E:XK}(h:fu K vs H Q E):oY K {nx:=λ_ H'=>Q .non H',rt:=Q} (cQ kx vs) H:=by
 obtain⟨x,a,b,c,rfl,hx,q⟩:=h;refine⟨_,rfl,_,rfl,x,_,rfl,T.clN,T.nNp,.inl ⟨hx,λdx hd ne=>?_⟩⟩;have gx:∀{fs},(upd (upd (upd H dx (XD dx [("part",a)])) x (XF x (eK K "NoProgram") (some dx))) dx (XD dx fs)) x=some (XF x (eK K "NoProgram") (some dx)):=λ{fs}=>by rw[aL (Ne.symm ne),ag]
 refine⟨_,rfl,_,rfl,x,_,rfl,T.clN,T.nNr,.inr ⟨dx,[("part",a)],ag,ne,by rw[aL ne,ag],by show 1<1000;decide,?_⟩⟩;refine⟨_,rfl,_,rfl,x,_,rfl,T.clN,T.nNw,.inr ⟨dx,_,gx,ne,ag,by show 2<1000;decide,?_⟩⟩;refine q dx _ hd ne (by rw[aL (Ne.symm ne),aL (Ne.symm ne),ag]) ?_ λp o n e=>?_
 ·rw[ag];rfl
 ·have np:p≠dx:=aC e hd;rw[aL np,aL np,aL n,aL np];exact e
def Ic{K:Fg}(T:Mj K){vs:List V}{H:Hp}{Q:VK}{E:XK}(h:jD K vs H Q E):AM K E {nx:=λ_ H'=>Q .non H',rt:=Q} (cQ zc vs) H:=by
 obtain⟨k,r,wd,rfl,h⟩:=h;rcases h with⟨rfl,q⟩|⟨n,rfl,q⟩
 ·exact⟨_,rfl,rfl,_,rfl,RA rfl q⟩
 ·refine⟨_,rfl,rfl,_,rfl,?_⟩;rw[show(!decide (V.int n=V.non))=true from by simp];refine lu ?_;refine⟨_,rfl,_,rfl,_,rfl,λx hx=>⟨x,_,_,_,rfl,ag,λdx H' hd ne gx gd bt=>⟨rfl,x,_,_,rfl,T.clN,gx,(λz=>ne (Option.some.inj z)),λT' hT nT=>?_⟩⟩⟩;refine q dx _ (λp o e=>?_) ?_
  ·have n1:p≠x:=aC e hx;have e1:H' p=some o:=bt p o n1 (by rw[aL n1];exact e);rw[aL n1,aL (aC e1 hT)];exact e1
  ·rw[aL ne,aL (aC gd hT)];exact gd
def yu(ss:List Str):List (iy×V):=ss.map λy=>(Sum.inr y,V.bl true)
def Hh(ss:List Str)(y:Str):List Str:=if y∈ss then ss else ss++[y]
def M7(ss:List Str)(y:Str):((yu ss).any λkv=>decide (kv.1=(Sum.inr y:iy)))=decide (y∈ss):=by
 unfold yu;rw[List.any_map,Bool.eq_iff_iff,List.any_eq_true,decide_eq_true_eq];constructor
 ·rintro⟨z,hz,e⟩;have e':(Sum.inr z:iy)=Sum.inr y:=of_decide_eq_true e;injection e' with e';rw[<-e'];exact hz
 ·intro h;exact⟨y,h,by show decide ((Sum.inr y:iy)=Sum.inr y)=true;simp⟩
def VJ(ss:List Str)(y:Str):lR (yu ss) (Sum.inr y) (V.bl true)=yu (Hh ss y):=by
 unfold lR Hh;rw[M7];by_cases c:y∈ss
 ·rw[if_pos (decide_eq_true c),if_pos c];unfold yu;rw[dN];refine i4 λz _=>?_;show(if(Sum.inr z:iy)=Sum.inr y then((Sum.inr z:iy),V.bl true) else(Sum.inr z,V.bl true))=_;split<;>rfl
 ·rw[if_neg (by rw[decide_eq_false c];decide),if_neg c];unfold yu;rw[aG];rfl
def Nj{ss:List Str}{y z:Str}:z∈Hh ss y↔z∈ss\/z=y:=by
 unfold Hh;split
 ·rename_i h;exact⟨.inl,λq=>q.elim id λe=>by rw[e];exact h⟩
 ·rw[aV,ax]
def Nc(ss:List Str)(y:Str):(Hh ss y).length<=ss.length+1:=by
 unfold Hh;split
 ·lia
 ·rw[aN,cD];lia
def M8(ss:List Str):(yu ss).length=ss.length:=by unfold yu;rw[af]
def KO(ss:List Str):(yu ss).map (λkv=>kV kv.1)=ss.map V.str:=by unfold yu;rw[dN];rfl
def sy{ys:List Str}{i:Nat}{x:V}(h:(ys.map V.str)[i]?=some x):∃y,ys[i]?=some y/\x=.str y:=by
 rw[aQ] at h;obtain⟨y,e,rfl⟩:=b5.mp h;exact⟨y,e,rfl⟩
def Ad{K:Fg}{vs:List V}{H:Hp}{Q:VK}{E:XK}(h:lF K vs H Q E):rK K {nx:=λ_ H'=>Q .non H',rt:=Q} (cQ qS vs) H:=by
 obtain⟨rt,rvs,rs,rfl,hrt,hA,few,rd,q⟩:=h;refine λfd hfd=>?_;show pe K _ [some (.ref rt),some (.ref fd),none,none] (upd H fd (.dK []));have s0:aK H (upd H fd (.dK [])):=(aK.refl H).new hfd;refine .inr ⟨_,rfl,rt,rfl,⟨_,dA.of (s0 _ _ hrt)⟩,kJ (xs:=rvs) (λi σ' H'=>∃(ss:List Str) (o2 o3:Option V),σ'=[some (.ref rt),some (.ref fd),o2,o3]/\H' fd=some (.dK (yu ss))/\(∀y,y∈ss↔∃j r,j<i/\rs[j]?=some r/\y∈gq r)/\ss.length<=100*i/\aK H H')
  ⟨[],_,_,rfl,ag,λy=>⟨λz=>(by cases z),λ⟨j,_,z,_⟩=>absurd z (cE _)⟩,b9 _,s0⟩ ?_ ?_ ?_⟩
 ·rintro i σ' H' _ ⟨_,_,_,_,_,_,_,s⟩;exact dA.of (s _ _ hrt)
 ·rintro i x σ' H1 hx ⟨ss,o2,o3,rfl,hd,mm,ln,s1⟩;obtain⟨r,hr,ra⟩:=hA.of_v hx;have ir:i<rs.length:=(aj.mp hr).1;have r100:=rd r (aD hr);show pd K _ [some (.ref rt),some (.ref fd),some x,o3] H1;refine .inr ⟨_,rfl,x,r,rfl,ra.mono (.of_same s1),λtp H2 htp s2=>⟨tp,rfl,⟨_,dA.of htp⟩,kJ (xs:=(gq r).map V.str) (λj σ' H'=>∃(ss':List Str) (o3:Option V),σ'=[some (.ref rt),some (.ref fd),some x,o3]/\H' fd=some (.dK (yu ss'))/\H' tp=some (.tup ((gq r).map V.str))/\
   (∀y,y∈ss'↔y∈ss\/y∈(gq r).take j)/\ss'.length<=100*i+j/\aK H H') ⟨ss,_,rfl,s2 _ _ hd,htp,λy=>by simp,by lia,s1.trans s2⟩ ?_ ?_ ?_⟩⟩
  ·rintro j σ' H' _ ⟨_,_,_,_,h3,_⟩;exact dA.of h3
  ·rintro j z σ' H' hz ⟨ss',p3,rfl,hd',ht',mm',ln',s'⟩;obtain⟨y,hy,rfl⟩:=sy hz;have jl:j<(gq r).length:=(aj.mp hy).1;show oZ K _ [some (.ref rt),some (.ref fd),some x,some (.str y)] H';refine⟨_,rfl,_,rfl,fd,_,rfl,EK.k (k:=Sum.inr y) hd' (cg (by rw[M8];lia)),?_⟩;rw[VJ];have ntf:tp≠fd:=λz=>by rw[z,hd'] at ht';cases ht'
   refine⟨Hh ss' y,_,rfl,ag,by rw[aL ntf];exact ht',λw=>?_,by have:=Nc ss' y;lia,fH s' hfd⟩;rw[Nj,mm',bN,hy];simp only[Option.toList_some,aV,ax,or_assoc]
  ·rintro σ' H' ⟨ss',p3,rfl,hd',ht',mm',ln',s'⟩;rw[af] at mm' ln';rw[bA (aB _)] at mm';refine⟨ss',_,_,rfl,hd',λy=>?_,by lia,s'⟩;rw[mm',mm];constructor
   ·rintro(⟨j,r',lt,e,h⟩|h)
    ·exact⟨j,r',by lia,e,h⟩
    ·exact⟨i,r,by lia,hr,h⟩
   ·rintro⟨j,r',lt,e,h⟩;rcases dD.mp lt with z|z
    ·exact .inl ⟨j,r',z,e,h⟩
    ·subst z;rw[hr] at e;cases e;exact .inr h
 ·rintro σ' H1 ⟨ss,o2,o3,rfl,hd,mm,ln,s1⟩;rw[hA.len] at mm ln;refine⟨_,rfl,fd,_,rfl,.inl hd,λl hl=>?_⟩;rw[KO];refine q l ss _ (λy=>?_) (by lia) (s1.free hl) ag (s1.new hl);rw[mm];constructor
  ·rintro⟨j,r,_,e,h⟩;exact⟨r,aD e,h⟩
  ·rintro⟨r,hr,h⟩;obtain⟨j,hj,e⟩:=b7.mp hr;exact⟨j,r,hj,by rw[ao hj,e],h⟩
def Bw(rs:List bU)(y:Str)(m:Nat):Bool:=match rs[m]? with
 |some r=>decide (y∈gq r)
 |none=>false
def F9{rs:List bU}{y:Str}{m:Nat}:Bw rs y m=true↔∃r,rs[m]?=some r/\y∈gq r:=by
 unfold Bw;cases e:rs[m]? with
 |none=>exact⟨(λz=>by cases z),(λ⟨r,z,_⟩=>by cases z)⟩
 |some r=>exact⟨λz=>⟨r,rfl,of_decide_eq_true z⟩,(λ⟨r',z,q⟩=>by cases z;exact decide_eq_true q)⟩
def Hx(ns:List Nat):cZ ns=(ns.map λ(n:Nat)=>(n:Int)).map V.int:=by unfold cZ;rw[dN];rfl
def Bv{K:Fg}{vs:List V}{H:Hp}{Q:VK}{E:XK}(h:mH K vs H Q E):tK K {nx:=λ_ H'=>Q .non H',rt:=Q} (cQ nK vs) H:=by
 obtain⟨v,b,cs,rfl,⟨pt,pa,rt,rvs,rfl,hpt,hpa,hrt,hR⟩,sh,q1,q2⟩:=h;have g:=sh.good;have few:=g.few;refine⟨_,rfl,Zb hpt rfl ?_⟩;show qG K _ [some (.ref pt),some (.ref rt),none,none] H;refine⟨Zc,λdu hdu=>?_⟩;show qF K _ [some (.ref pt),some (.ref rt),some (.ref du),none] (upd H du (.lst []));have s0:aK H (upd H du (.lst [])):=(aK.refl H).new hdu;refine .inl ⟨_,rfl,rt,rvs,b.rows,rfl,s0 _ _ hrt,hR.imp λ_ _ z=>z.mono (.of_same s0),few,sh.rd,λl ss H1 mss lss hl0 hl s1=>⟨l,rfl,⟨_,cN.of hl⟩,qY (xs:=ss.map V.str) (λi σ' H'=>∃(DU:List Nat) (o:Option V),σ'=[some (.ref pt),some (.ref rt),some (.ref du),o]/\H' du=some (.lst (cZ DU))/\H' l=some (.lst (ss.map V.str))/\
  (∀m,m∈DU↔∃y,y∈ss.take i/\y∉b.params/\Jd b.rows (some y) m/\Bw b.rows y m=true)/\DU.length<=64*i/\aK H H') ⟨[],_,rfl,s1 _ _ ag,hl,λm=>by simp,b9 _,s0.trans s1⟩ ?_ ?_ ?_⟩⟩
 ·rintro i σ' H' _ ⟨_,_,_,_,h3,_⟩;exact cN.of h3
 ·rintro i x σ' H2 hx ⟨DU,o,rfl,hd,hl2,mm,ln,s2⟩;obtain⟨y,hy,rfl⟩:=sy hx;have il:i<ss.length:=(aj.mp hy).1;have tk:∀z,z∈ss.take (i+1)↔z∈ss.take i\/z=y:=λz=>by rw[bN,hy];simp
  show qE K _ [some (.ref pt),some (.ref rt),some (.ref du),some (.str y)] H2;refine⟨_,rfl,_,rfl,cJ (s2 _ _ hpt) (by decide) rfl ⟨pa,_,rfl,.inr (dA.of (s2 _ _ hpa)),rfl,sd _,_,rfl,?_⟩⟩;rw[jb];refine nU (λhny=>?_) (λhin=>?_)
  ·refine⟨_,rfl,.inl ⟨rfl,_,cN.of hd⟩,?_⟩;refine .inl ⟨_,rfl,_,rfl,rt,some y,rvs,b.rows,rfl,s2 _ _ hrt,hR.imp λ_ _ z=>z.mono (.of_same s2),g,λlw ns H3 hns hr hlw hlw0 s3=>⟨lw,rfl,⟨_,cN.of hlw⟩,λD hD=>?_⟩⟩;have s3':=s2.trans s3;have nD:lw≠D:=aC hlw hD;have nlt:∀m∈ns,m<b.rows.length:=λm hm=>((hns m).mp hm).lt g;have nsl:ns.length<=b.rows.length:=mx (hr.imp λh=>a9 h) nlt;refine jB (xs:=cZ ns) (λj σ' H'=>∃o,σ'=[some (.ref pt),some (.ref rt),some (.ref du),some (.str y),o]/\H' D=some (.lst (cZ ((ns.take j).filter (Bw b.rows y))))/\aK H3 H') ?_ ?_ ?_ ?_
   ·exact⟨none,rfl,ag,(aK.refl H3).new hD⟩
   ·rintro j σ' H' _ ⟨o,_,_,s⟩;exact cN.of (s _ _ hlw)
   ·rintro j x σ' H4 hx4 ⟨o4,rfl,hD4,s4⟩;obtain⟨m,hm,rfl⟩:=uX hx4;have ml:=nlt m (aD hm);have s4':=s3'.trans s4;obtain⟨w,r,e1,e2,hra⟩:=(hR.imp λ_ _ z=>z.mono (Tp.of_same s4')).get ml;have e1':rvs[((m:Nat):Int).toNat]?=some w:=by simpa using e1
    have ft:=xp (Bw b.rows y) ns j m hm;have jl:j<ns.length:=(aj.mp hm).1;have fl:((ns.take j).filter (Bw b.rows y)).length<=100:=cT (fZ _ _) (by rw[aX];lia);refine⟨_,rfl,_,rfl,_,rfl,cJ (s4' _ _ hrt) (by lia) e1' ⟨w,r,rfl,hra,λtp H5 htp s5=>⟨tp,_,rfl,.inr (dA.of htp),rfl,sd _,_,rfl,?_⟩⟩⟩;rw[jb];have rv:Bw b.rows y m=decide (y∈gq r):=by unfold Bw;rw[e2]
    show if decide (y∈gq r)=true then _ else _;rw[<-rv];refine ka (λhb=>?_) (λhb=>?_)
    ·refine⟨_,rfl,_,s5 _ _ hD4,cg (by rw[fq];lia),_,rfl,?_,fH (s4.trans s5) hD⟩;rw[ag,ft,if_pos hb,uW];rfl
    ·refine⟨_,rfl,?_,s4.trans s5⟩;rw[ft,if_neg (by rw[hb];decide),dn];exact s5 _ _ hD4
   ·rintro σ' H4 ⟨o4,_,hD4,s4⟩;rw[fq,bA (aB _)] at hD4;have dl:(ns.filter (Bw b.rows y)).length<=64:=cT (fZ _ _) (by lia);have hd4:=s4 _ _ (s3 _ _ hd);refine⟨du,D,_,_,rfl,rfl,hd4,hD4,?_,?_⟩
    ·rw[fq,fq];have:(7000:Nat)*64+64<=av:=by decide
     lia
    ·have n1:l≠du:=λz=>by rw[z,ag] at hl0;cases hl0
     refine⟨DU++ns.filter (Bw b.rows y),_,rfl,by rw[ag,uW],by rw[aL n1];exact s4 _ _ (s3 _ _ hl2),λm=>?_,by rw[aN];lia,fH (s3'.trans s4) hdu⟩;rw[aV,mm,gZ,hns];constructor
     ·rintro(⟨z,hz,q⟩|⟨wy,rdm⟩)
      ·exact⟨z,(tk z).mpr (.inl hz),q⟩
      ·exact⟨y,(tk y).mpr (.inr rfl),hny,wy,rdm⟩
     ·rintro⟨z,hz,np,q⟩;rcases(tk z).mp hz with z1|z1
      ·exact .inl ⟨z,z1,np,q⟩
      ·subst z1;exact .inr q
  ·refine⟨DU,_,rfl,hd,hl2,λm=>?_,by lia,s2⟩;rw[mm];constructor
   ·rintro⟨z,hz,q⟩;exact⟨z,(tk z).mpr (.inl hz),q⟩
   ·rintro⟨z,hz,q⟩;rcases(tk z).mp hz with z1|z1
    ·exact⟨z,z1,q⟩
    ·subst z1;exact absurd hin q.1
 ·rintro σ' H2 ⟨DU,o,rfl,hd,hl2,mm,ln,s2⟩;rw[af,bA (aB _)] at mm;have mu:∀m,m∈DU↔R7 b m:=λm=>by
   rw[mm];constructor
   ·rintro⟨y,hy,np,wy,rdm⟩;obtain⟨r,er,yr⟩:=F9.mp rdm;exact⟨r,y,er,yr,np,wy⟩
   ·rintro⟨r,y,er,yr,np,wy⟩;exact⟨y,(mss y).mpr ⟨r,aD er,yr⟩,np,wy,F9.mpr ⟨r,er,yr⟩⟩
  refine⟨_,rfl,du,DU.map λ(n:Nat)=>(n:Int),rfl,cN.of (by rw[<-Hx];exact hd),λe=>?_,λz hz mn=>?_⟩
  ·refine q1 (λn u=>?_) H2 s2;have:=(mu n).mpr u;rw[List.map_eq_nil_iff.mp e] at this;cases this
  ·obtain⟨n,hn,rfl⟩:=bF.mp hz;refine q2 n ((mu n).mp hn) (λm lt u=>?_) H2 s2;have:=mn (m:Int) (bF.mpr ⟨m,(mu m).mpr u,rfl⟩);lia
def Oe{K:Fg}{vs:List V}{H:Hp}{Q:VK}{E:XK}(h:wN K vs H Q E):AE K {nx:=λ_ H'=>Q .non H',rt:=Q} (cQ za vs) H:=by
 obtain⟨v,r,rfl,hr,q⟩:=h;cases r with
 |num x z=>
  obtain⟨p,rfl,h⟩:=hr;refine⟨_,rfl,Zb h rfl (.inl ⟨rfl,_,rfl,Za ?_⟩)⟩;exact⟨_,rfl,Zb h rfl (.inl ⟨rfl,_,rfl,Za q⟩)⟩
 |op x s a b=>
  obtain⟨p,rfl,h⟩:=hr;refine⟨_,rfl,Zb h rfl (.inl ⟨rfl,_,rfl,Za ?_⟩)⟩;exact⟨_,rfl,Zb h rfl (.inl ⟨rfl,_,rfl,Za q⟩)⟩
 |call x k as=>
  obtain⟨p,q1,rfl,h,h1⟩:=hr;refine⟨_,rfl,Zb h rfl (.inl ⟨rfl,_,rfl,Za ?_⟩)⟩;exact⟨_,rfl,Zb h rfl (.inl ⟨rfl,_,rfl,Za q⟩)⟩
 |say a=>
  obtain⟨p,rfl,h⟩:=hr;refine⟨_,rfl,Zb h rfl (.inl ⟨rfl,_,rfl,Za ?_⟩)⟩;exact⟨_,rfl,Zb h rfl (.inl ⟨rfl,_,rfl,Za q⟩)⟩
 |give a=>
  obtain⟨p,rfl,h⟩:=hr;refine⟨_,rfl,Zb h rfl (.inl ⟨rfl,_,rfl,Za ?_⟩)⟩;exact⟨_,rfl,Zb h rfl (.inl ⟨rfl,_,rfl,Za q⟩)⟩
 |jump to=>
  obtain⟨p,rfl,h⟩:=hr;refine⟨_,rfl,Zb h rfl (.inl ⟨rfl,_,rfl,bL (λ_=>?_) λz=>absurd rfl z⟩)⟩;exact⟨_,rfl,Zb h rfl q⟩
 |test a to=>
  obtain⟨p,rfl,h⟩:=hr;refine⟨_,rfl,Zb h rfl (.inl ⟨rfl,_,rfl,Za ?_⟩)⟩;refine⟨_,rfl,Zb h rfl (.inl ⟨rfl,_,rfl,bL (λ_=>?_) λz=>absurd rfl z⟩)⟩;exact⟨_,rfl,Zb h rfl q⟩
def Br{K:Fg}(T:Ke K){vs:List V}{H:Hp}{Q:VK}{E:XK}(h:eC K vs H Q E):sW K {nx:=λ_ H'=>Q .non H',rt:=Q} (cQ nH vs) H:=by
 obtain⟨x,a,rfl,hx,q⟩:=h;refine⟨_,rfl,_,rfl,x,_,rfl,T.clL,T.nLl,.inl ⟨hx,λdx hd ne=>?_⟩⟩;refine q dx _ hd ne ag (by rw[aL ne,ag]) λp o n e=>?_;rw[aL n,aL (aC e hd)];exact e
def yy{K:Fg}{vs:List V}{H:Hp}{Q:VK}{E:XK}(h:kB K vs H Q E):qw K {nx:=λ_ H'=>Q .non H',rt:=Q} (cQ qk vs) H:=by
 obtain⟨rt,v,rvs,r,rfl,hrt,ra,q⟩:=h;refine⟨_,rfl,v,r,rfl,ra,?_⟩;show iw K _ [some (.ref rt),some v,some (Cu r)] H;have non:Cu r=.non->¬Dk rvs.length r->iw K {nx:=λ_ H'=>Q .non H',rt:=Q} [some (.ref rt),some v,some (Cu r)] H:=λe na=>by
  rw[e];exact⟨_,rfl,rfl,_,rfl,RA rfl (q false ⟨λz=>(by cases z),λz=>absurd z na⟩)⟩
 have int:∀t:Int,Cu r=.int t->(Dk rvs.length r↔t<0\/(rvs.length:Int)<=t)->iw K {nx:=λ_ H'=>Q .non H',rt:=Q} [some (.ref rt),some v,some (Cu r)] H:=λt e ia=>by
  rw[e];refine⟨_,rfl,rfl,_,rfl,?_⟩;rw[show(!decide (V.int t=V.non))=true from by simp];refine lu ⟨_,rfl,_,_,rfl,rfl,_,rfl,bL (λz=>q true ⟨λ_=>ia.mpr (.inl z),λ_=>rfl⟩) λnz=>⟨_,rfl,_,rfl,_,_,rfl,.inr ⟨_,dA.of hrt,rfl⟩,_,_,rfl,rfl,?_⟩⟩;refine q _ ⟨λz=>ia.mpr (.inr (of_decide_eq_true z)),λz=>decide_eq_true ?_⟩;rcases ia.mp z with y|y
  ·exact absurd y nz
  ·exact y
 cases r with
 |jump t=>exact int t rfl Iff.rfl
 |test a t=>exact int t rfl Iff.rfl
 |num x z=>exact non rfl id
 |op x s a b=>exact non rfl id
 |call x k as=>exact non rfl id
 |say a=>exact non rfl id
 |give a=>exact non rfl id
def yw{K:Fg}{vs:List V}{H:Hp}{Q:VK}{E:XK}(h:kz K vs H Q E):lH K {nx:=λ_ H'=>Q .non H',rt:=Q} (cQ lg vs) H:=by
 obtain⟨p,v,bs,r,rfl,⟨pvs,hpt,hA⟩,ra,q⟩:=h;have other:(∀p' xs,v=.ref p'->H p'=some (.tup (.str (qH r)::xs))->qH r≠"call"->¬LS (sE bs) r->lH K {nx:=λ_ H'=>Q .non H',rt:=Q} (cQ lg [.ref p,v]) H):=λp' xs ev hp' ne na=>by
  subst ev;refine⟨_,rfl,Zb hp' rfl (.inl ⟨rfl,_,rfl,?_⟩)⟩;exact nU (λ_=>q false ⟨λz=>(by cases z),λz=>absurd z na⟩) λz=>absurd (by injection z) ne
 cases r with
 |call x k as=>
  obtain⟨p',q1,rfl,hp',hq1⟩:=ra;refine⟨_,rfl,Zb hp' rfl (.inl ⟨rfl,_,rfl,nU (λz=>absurd rfl z) λ_=>?_⟩)⟩;refine⟨_,rfl,Zb hp' rfl ?_⟩;show ni K _ [some (.ref p),some (.ref p'),some (.int k)] H;refine⟨_,rfl,_,_,rfl,rfl,_,rfl,bL (λz=>q true ⟨λ_=>.inl z,λ_=>rfl⟩) λk0=>⟨_,rfl,_,rfl,_,_,rfl,.inr ⟨_,dA.of hpt,rfl⟩,_,_,rfl,rfl,_,rfl,bL (λz=>q true ⟨λ_=>.inr ?_,λ_=>rfl⟩) λkl=>?_⟩⟩
  ·rw[cS (by show(bs.map _).length<=_;rw[af,<-hA.len];lia)];intro y;cases y
  ·have kb:k.toNat<bs.length:=by rw[<-hA.len];lia
   obtain⟨w,b,e1,e2,hP⟩:=hA.get kb;obtain⟨pt,pa,rt,rvs,rfl,hpt4,hpa4,hrt4,hR4⟩:=hP;have ec:(sE bs)[k.toNat]?=some b.params.length:=by show(bs.map _)[k.toNat]?=_;rw[aQ,e2];rfl
   refine⟨_,rfl,Zb hp' rfl ⟨_,_,rfl,.inr ⟨_,dA.of hq1,rfl⟩,_,rfl,_,rfl,cJ hpt (by lia) e1 (Zb hpt4 rfl ⟨_,_,rfl,.inr ⟨_,dA.of hpa4,rfl⟩,.inl ⟨rfl,?_⟩⟩)⟩⟩;rw[af,af];refine q _ ⟨λz=>.inr λy=>?_,λz=>?_⟩
   ·rw[ec] at y;have y':=Option.some.inj y;rw[y'] at z;simp at z
   ·rcases z with z|z
    ·exact absurd z k0
    ·rw[ec] at z;rw[Bool.not_eq_true',decide_eq_false_iff_not];intro y;injection y with y;exact z (by rw[show b.params.length=as.length from by lia])
 |num x z=>obtain⟨p',e,h⟩:=ra;exact other p' _ e h (show("num":Str)≠"call" by decide +kernel) id
 |op x s a b=>obtain⟨p',e,h⟩:=ra;exact other p' _ e h (show("op":Str)≠"call" by decide +kernel) id
 |say a=>obtain⟨p',e,h⟩:=ra;exact other p' _ e h (show("say":Str)≠"call" by decide +kernel) id
 |jump t=>obtain⟨p',e,h⟩:=ra;exact other p' _ e h (show("jump":Str)≠"call" by decide +kernel) id
 |test a t=>obtain⟨p',e,h⟩:=ra;exact other p' _ e h (show("test":Str)≠"call" by decide +kernel) id
 |give a=>obtain⟨p',e,h⟩:=ra;exact other p' _ e h (show("give":Str)≠"call" by decide +kernel) id
def yx{K:Fg}{vs:List V}{H:Hp}{Q:VK}{E:XK}(h:kA K vs H Q E):qu K {nx:=λ_ H'=>Q .non H',rt:=Q} (cQ qj vs) H:=by
 obtain⟨rt,n,rvs,rs,rfl,hrt,hA,few,hg,hn,q⟩:=h;refine λfd hfd=>⟨_,rfl,?_⟩;show nv K _ [some (.ref rt),some (.int (n:Nat)),some (.ref fd),some (.int (n:Nat))] (upd H fd (.dK []));refine⟨λm σ' H'=>∃k,m=rs.length-k/\σ'=[some (.ref rt),some (.int (n:Nat)),some (.ref fd),some (.int (runJ rs k n:Nat))]/\H' fd=some (.dK (ly ((cX k).map λj=>runJ rs j n)))/\((cX k).map λj=>runJ rs j n).Nodup/\
  (∀i,i<k->nG rs (runJ rs i n))/\aK H H',⟨_,0,rfl,rfl,ag,List.nodup_nil,(λi z=>absurd z (cE _)),(aK.refl H).new hfd⟩,?_⟩
 rintro m σ' H1 ⟨k,rfl,rfl,hd,nd,jp,s1⟩;have kl:k<=rs.length:=by
  have:=mx nd (n:=rs.length) λx hx=>by
   obtain⟨j,_,rfl⟩:=bF.mp hx;exact sr hg j hn
  rw[af,jJ] at this;exact this
 have lt:=sr hg k hn;obtain⟨v,r,e1,e2,hra⟩:=hA.get lt;have hra1:=hra.mono (.of_same s1);obtain⟨p,xs,rfl,hp⟩:=hra1.ref;have hrt1:=s1 _ _ hrt;have e1':rvs[((runJ rs k n:Nat):Int).toNat]?=some (.ref p):=by simpa using e1
 have df:∀a b,a<b->b<k->runJ rs a n≠runJ rs b n:=λa b ab bk z=>by
  have la:a<((cX k).map λj=>runJ rs j n).length:=by rw[af,jJ];lia
  have:=(List.getElem?_inj la nd (j:=b)).mp (by
   rw[aQ,aQ,iZ (by lia),iZ bk];exact congrArg some z)
  lia
 have n0:n∈((cX k).map λj=>runJ rs j n)↔0<k/\n∈((cX k).map λj=>runJ rs j n):=⟨λz=>⟨by
   obtain⟨j,hj,_⟩:=bF.mp z;have:=ef.mp hj;lia,z⟩,λz=>z.2⟩
 have fin:(¬nG rs (runJ rs k n)\/∃j,j<k/\runJ rs k n=runJ rs j n)->nj K {nx:=λ_ H'=>Q .non H',rt:=Q} [some (.ref rt),some (.int (n:Nat)),some (.ref fd),some (.int (runJ rs k n:Nat))] H1:=λen=>by
  have is:=Oj hg hn df jp en;refine⟨_,rfl,_,rfl,.inl ⟨rfl,_,rfl,bL (λz=>?_) λnz=>q false H1 ⟨λz=>(by cases z),λrg=>absurd (by rw[(is.mpr rg).1]) nz⟩ s1⟩⟩;have ez:runJ rs k n=n:=by injection z with z;lia
  refine⟨_,rfl,_,rfl,fd,_,rfl,uJ.k (k:=Sum.inl (n:Int)) hd,?_⟩;show Q (.bl (jd (ly ((cX k).map λj=>runJ rs j n)) (Sum.inl (n:Int))).isSome) H1;rw[OM];refine q _ H1 ⟨λb=>is.mp ⟨ez,(n0.mp (of_decide_eq_true b)).1⟩,λrg=>decide_eq_true ?_⟩ s1;exact bF.mpr ⟨0,ef.mpr (is.mpr rg).2,rfl⟩
 refine⟨_,rfl,_,rfl,cJ hrt1 (by lia) e1' (Zb hp rfl (.inl ⟨rfl,_,rfl,bL (λhw=>?_) (λhw=>?_)⟩))⟩
 ·refine⟨_,rfl,_,rfl,fd,_,rfl,uJ.k (k:=Sum.inl (runJ rs k n:Int)) hd,_,rfl,?_⟩;show if(!(jd (ly ((cX k).map λj=>runJ rs j n)) (Sum.inl (runJ rs k n:Int))).isSome)=true then _ else _;rw[OM];obtain⟨t',rfl⟩:=wY (yM hw);refine nU (λhin=>?_) (λhin=>?_)
  ·have nd2:((cX (k+1)).map λj=>runJ rs j n).Nodup:=by
    rw[qc,aG];exact yH nd hin
   have kl2:k+1<=rs.length:=by
    have:=mx nd2 (n:=rs.length) λx hx=>by
     obtain⟨j,_,rfl⟩:=bF.mp hx;exact sr hg j hn
    rw[af,jJ] at this;exact this
   refine⟨λσ' H''=>∃m',m'<rs.length-k/\_,λσ4 H4 z=>z,?_⟩;refine⟨_,rfl,_,rfl,fd,_,rfl,EK.k (k:=Sum.inl (runJ rs k n:Int)) hd (cg (by rw[FG,af,jJ];lia)),?_⟩;rw[nX hin];have nrt:rt≠fd:=λz=>by rw[z,hd] at hrt1;cases hrt1
   have npf:p≠fd:=λz=>by rw[z,hd] at hp;cases hp
   have s2:aK H (upd H1 fd (.dK (ly (((cX k).map λj=>runJ rs j n)++[runJ rs k n])))):=fH s1 hfd;refine⟨_,rfl,_,rfl,cJ (by rw[aL nrt];exact hrt1) (by lia) e1' ⟨_,.jump t',rfl,hra.mono (.of_same s2),?_⟩⟩;have e:runJ rs (k+1) n=t':=by rw[sv];unfold stp;rw[e2]
   refine⟨rs.length-(k+1),by lia,k+1,rfl,by rw[e];rfl,?_,nd2,λi hi=>?_,s2⟩
   ·rw[ag,qc,aG];rfl
   ·rcases dD.mp hi with z|z
    ·exact jp i z
    ·subst z;exact⟨_,e2,rfl⟩
  ·obtain⟨j,hj,ej⟩:=bF.mp hin;exact fin (.inr ⟨j,ef.mp hj,ej.symm⟩)
 ·refine ff ?_;refine fin (.inl ?_);rintro⟨r',er,jr⟩;rw[e2] at er;cases er;rw[zR λz=>hw (by rw[z])] at jr;cases jr
def Eh{K:Fg}{vs:List V}{H:Hp}{Q:VK}{E:XK}(h:oi K vs H Q E):vA K {nx:=λ_ H'=>Q .non H',rt:=Q} (cQ uM vs) H:=by
 obtain⟨rt,rvs,rs,rfl,hrt,hA,r64,hg,q1,q2⟩:=h;have rl:=hA.len;refine⟨_,rfl,_,_,rfl,.inr ⟨_,dA.of hrt,rfl⟩,_,rfl,by lia,by lia,oN (λi σ' H'=>∃o1,σ'=[some (.ref rt),o1]/\aK H H'/\∀m,m<i->¬uQ rs m) ⟨_,rfl,aK.refl H,λm z=>absurd z (cE _)⟩ ?_ ?_⟩
 ·rintro i σ' H1 hi ⟨o1,rfl,s1,ah⟩;have hi':i<rs.length:=by lia
  show rM K _ [some (.ref rt),some (.int (0+(i:Int)))] H1;rw[Int.zero_add];refine⟨_,rfl,_,rfl,rt,i,rvs,rs,rfl,s1 _ _ hrt,hA.imp λ_ _ z=>z.mono (.of_same s1),r64,hg,hi',λb H2 ib s2=>⟨_,rfl,ka (λhb=>?_) λhb=>?_⟩⟩
  ·exact⟨_,rfl,q1 i ⟨ib.mp hb,ah⟩ H2 (s1.trans s2)⟩
  ·refine⟨_,rfl,s1.trans s2,λm lt=>?_⟩;rcases dD.mp lt with z|z
   ·exact ah m z
   ·subst z;intro rg;rw[ib.mpr rg] at hb;cases hb
 ·rintro σ' H1 ⟨o1,rfl,s1,ah⟩;refine q2 (λm rg=>ah m ?_ rg) H1 s1;obtain⟨⟨r,e,_⟩,_⟩:=rg;have:=(aj.mp e).1;lia
def zQ{ss ss':List Str}(nd:ss.Nodup)(nd':ss'.Nodup)(h:∀x,x∈ss'↔x∈ss):ss'.length=ss.length:=
 qe (Nd nd' λy hy=>(h y).mp hy) (Nd nd λy hy=>(h y).mpr hy)
def Rv:∀(l:List Str),∃d:List Str,d.Nodup/\(∀x,x∈d↔x∈l)/\d.length<=l.length/\(¬l.Nodup->d.length<l.length)
 |[]=>⟨[],.nil,λx=>Iff.rfl,aB _,λh=>absurd .nil h⟩
 |a::l=>by
  obtain⟨d,nd,mm,le,lt⟩:=Rv l;by_cases c:a∈l
  ·refine⟨d,nd,λx=>?_,by rw[aP];lia,λ_=>by rw[aP];lia⟩;rw[mm,aE];exact⟨λz=>.inr z,λz=>z.elim (λe=>by rw[e];exact c) id⟩
  ·refine⟨a::d,dC.mpr ⟨λz=>c ((mm a).mp z),nd⟩,λx=>by rw[aE,aE,mm],by rw[aP,aP];lia,λh=>?_⟩;rw[aP,aP];have:=lt λz=>h (dC.mpr ⟨c,z⟩);lia
def Bq{l ss:List Str}(nd:ss.Nodup)(mm:∀x,x∈ss↔x∈l):ss.length<l.length↔¬l.Nodup:=by
 constructor
 ·intro lt z;have:=zQ z nd mm;lia
 ·intro z;obtain⟨d,nd',mm',_,lt⟩:=Rv l;have:=lt z;have e:=zQ nd' nd λx=>(mm x).trans (mm' x).symm;lia
def HN{xs:List V}{k:Nat}(h:k<xs.length):¬(HT.sIx xs.length 0 none=0/\HT.sIx xs.length xs.length (some (k:Int))=xs.length):=λz=>by
 have:=z.2;rw[HT.sIx_nat] at this;lia
def Mn{α:Type}{xs:List α}{v:α}(e:xs.getLast?=some v):OY xs (-1)=some v:=by
 have ne:xs≠[]:=λz=>by rw[z] at e;cases e
 have l1:0<xs.length:=dF.mpr ne;rw[cG] at e;unfold OY PM;rw[if_neg (by decide),if_pos (by lia)];have:(-1+(xs.length:Int)).toNat=xs.length-1:=by lia
 rw[this];exact e
def Ss{K:Fg}{p:ar}{xs:List V}{v:V}{H:Hp}{Q:VK}(h:H p=some (.tup xs))(e:xs.getLast?=some v)(q:Q v H):cV K (.ref p) (.int (-1)) H Q:=
 .inr (.inl ⟨p,xs,-1,v,rfl,rfl,dA.of h,Mn e,q⟩)
def VE(r:dQ):m7 (.str (qH r)) [V.str "jump",V.str "give"]=we r:=by
 cases r with
 |num x z=>show m7 (.str "num") _=false;decide +kernel
 |op x s a b=>show m7 (.str "op") _=false;decide +kernel
 |call x k as=>show m7 (.str "call") _=false;decide +kernel
 |say a=>show m7 (.str "say") _=false;decide +kernel
 |jump t=>show m7 (.str "jump") _=true;decide +kernel
 |test a t=>show m7 (.str "test") _=false;decide +kernel
 |give a=>show m7 (.str "give") _=true;decide +kernel
def Ef{K:Fg}{vs:List V}{H:Hp}{Q:VK}{E:XK}(h:og K vs H Q E):vy K {nx:=λ_ H'=>Q .non H',rt:=Q} (cQ pH vs) H:=by
 obtain⟨p,k,bs,b,rfl,⟨pvs,hpt,hA⟩,wd,e2,q1,q2⟩:=h;have kb:k<bs.length:=(aj.mp e2).1;obtain⟨w,b0,e1,e2',hP⟩:=hA.get kb;rw[e2] at e2';cases e2';obtain⟨pt,pa,rt,rvs,rfl,hp1,hp2,hp3,hp4⟩:=id hP;have e1':pvs[((k:Nat):Int).toNat]?=some (.ref pt):=by simpa using e1
 have ps:=wd.part b (aD e2);have few:=wd.few;refine⟨_,rfl,_,rfl,cJ hpt (by lia) e1' (Zb hp1 rfl ?_)⟩;show rJ K _ [some (.ref p),some (.int (k:Nat)),some (.str b.name),none] H;refine⟨_,rfl,_,rfl,cJ hpt (by lia) e1' (Zb hp1 rfl ?_)⟩;show rH K _ [some (.ref p),some (.int (k:Nat)),some (.str b.name),some (.ref pa)] H;refine⟨_,rfl,.inr ⟨_,rfl,_,rfl,_,rfl,.inr ⟨p,pvs,rfl,dA.of hpt,HN (by rw[hA.len];exact kb),λtp htp=>?_⟩⟩⟩;rw[mq];have s1:aK H (upd H tp (.tup (pvs.take k))):=(aK.refl H).new htp;have ht1:upd H tp (.tup (pvs.take k)) tp=some (.tup (pvs.take k)):=ag;generalize upd H tp (.tup (pvs.take k))=H1 at s1 ht1 ⊢;refine⟨tp,rfl,⟨_,dA.of ht1⟩,λD hD=>?_⟩;refine uS (xs:=pvs.take k) (λj σ' H'=>∃o,σ'=[some (.ref p),some (.int (k:Nat)),some (.str b.name),some (.ref pa),o]/\H'=upd H1 D (.lst (((bs.take j).map (·.name)).map V.str))) ⟨none,rfl,rfl⟩ ?_ ?_ ?_
 ·rintro j σ' H' _ ⟨o,_,rfl⟩;exact dA.of (by rw[aL (aC ht1 hD)];exact ht1)
 ·rintro j x σ' H' hx ⟨o,rfl,rfl⟩;have jk:j<k:=by have:=(aj.mp hx).1;rw[aX] at this;lia
  rw[i7 jk] at hx;obtain⟨b',hb',hP'⟩:=hA.of_v hx;obtain⟨pt',pa',rt',rvs',rfl,hp1',_⟩:=hP';refine iq ⟨_,rfl,cJ (by rw[aL (aC (s1 _ _ hp1') hD)];exact s1 _ _ hp1') (by decide) rfl ⟨_,ag,cg (by rw[af,af,aX];lia),_,rfl,?_⟩⟩;rw[EA,bN,hb'];simp
 ·rintro σ' H' ⟨o,_,rfl⟩;have tl:(pvs.take k).length=k:=by rw[aX,hA.len];lia
  rw[tl];refine⟨D,_,rfl,.inl (cN.of ag),rfl,sd _,_,rfl,?_⟩;have s2:aK H (upd H1 D (.lst (((bs.take k).map (·.name)).map V.str))):=s1.new hD;show if(m7 (.str b.name) (((bs.take k).map (·.name)).map V.str))=true then _ else _;rw[jb];generalize upd H1 D (.lst (((bs.take k).map (·.name)).map V.str))=H2 at s2 ⊢;refine bL (λz=>q1 (.inl z) H2 s2) λnz=>?_;show rG K _ [some (.ref p),some (.int (k:Nat)),some (.str b.name),some (.ref pa)] H2;refine⟨_,rfl,pa,true,b.params,rfl,dA.of (s2 _ _ hp2),by have:=ps.p9;lia,λss nd' mm=>⟨_,rfl,_,_,rfl,.inr ⟨_,dA.of (s2 _ _ hp2),rfl⟩,_,_,rfl,rfl,_,rfl,?_⟩⟩;have il:=Bq nd' mm;refine bL (λz=>q1 (.inr (il.mp (by rw[af] at z;lia))) H2 s2) λz=>q2 (λnf=>?_) H2 s2;rcases nf with y|y
  ·exact nz y
  ·exact z (by rw[af];have:=il.mpr y;lia)
def F5{K:Fg}{vs:List V}{H:Hp}{Q:VK}{E:XK}(h:pV K vs H Q E):xR K {nx:=λ_ H'=>Q .non H',rt:=Q} (cQ xg vs) H:=by
 obtain⟨p,k,bs,b,rfl,hp,wd,e2,q1,q2⟩:=h;obtain⟨pvs,hpt,hA⟩:=id hp;have kb:k<bs.length:=(aj.mp e2).1;obtain⟨w,b0,e1,e2',hP⟩:=hA.get kb;rw[e2] at e2';cases e2';obtain⟨pt,pa,rt,rvs,rfl,hp1,hp2,hrt,hR⟩:=id hP;have e1':pvs[((k:Nat):Int).toNat]?=some (.ref pt):=by simpa using e1
 have rl:=hR.len;refine⟨_,rfl,_,rfl,cJ hpt (by lia) e1' (Zb hp1 rfl ?_)⟩;show tJ K _ [some (.ref p),some (.int (k:Nat)),some (.ref rt),none,none] H;refine⟨_,rfl,_,_,rfl,.inr ⟨_,dA.of hrt,rfl⟩,.inl ⟨rfl,_,rfl,bL (λz=>?_) λnz=>?_⟩⟩
 ·have e0:b.rows=[]:=dO.mp (by injection z with z;lia);exact q1 0 ⟨.inl ⟨e0,rfl⟩,λm z=>absurd z (cE _)⟩ H (aK.refl H)
 have ne:b.rows≠[]:=λz=>nz (by rw[rl,z];rfl);have pos:0<b.rows.length:=dF.mpr ne;show tI K _ [some (.ref p),some (.int (k:Nat)),some (.ref rt),none,none] H;refine⟨_,rfl,rt,rfl,⟨_,dA.of hrt⟩,Ct (xs:=rvs) (λi σ' H'=>∃o3 o4,σ'=[some (.ref p),some (.int (k:Nat)),some (.ref rt),o3,o4]/\aK H H'/\∀(m:Nat) r,m<i->b.rows[m]?=some r->¬O0 (sE bs) b.rows.length r) ⟨_,_,rfl,aK.refl H,λm r z=>absurd z (cE _)⟩ ?_ ?_ ?_⟩
 ·rintro i σ' H' _ ⟨_,_,_,s,_⟩;exact dA.of (s _ _ hrt)
 ·rintro i x σ' H1 a hx na ⟨o3,o4,rfl,s1,ah⟩;obtain⟨r,hr,ra⟩:=hR.of_v hx;have il:i<b.rows.length:=(aj.mp hr).1;refine⟨a,_,rfl,dA.of ag,rfl,_,_,rfl,_,_,rfl,rfl,?_⟩;have s2:aK H (upd H1 a (.tup [.int (i:Nat),x])):=s1.new na;show tH K _ [some (.ref p),some (.int (k:Nat)),some (.ref rt),some (.int (i:Nat)),some x] _;generalize upd H1 a (.tup [.int (i:Nat),x])=H2 at s2 ⊢;have lst:O0 (sE bs) b.rows.length r->qQ (yi (sE bs) b) i:=λbd=>⟨.inr ⟨r,hr,.inl bd⟩,λm lt=>by
   rintro(⟨z,_⟩|⟨r',e',z|⟨z,_⟩⟩)
   ·exact ne z
   ·exact ah m r' lt e' z
   ·lia⟩
  refine⟨_,rfl,_,rfl,rt,x,rvs,r,rfl,s2 _ _ hrt,ra.mono (.of_same s2),λb1 i1=>⟨_,rfl,ka (λh1=>lu ⟨_,rfl,q1 i (lst (DH.mpr (.inl (by rw[<-rl];exact i1.mp h1)))) H2 s2⟩) λh1=>?_⟩⟩;refine⟨_,rfl,_,rfl,p,x,bs,r,rfl,hp.mono (.of_same s2),ra.mono (.of_same s2),λb2 i2=>⟨_,rfl,ka (λh2=>⟨_,rfl,q1 i (lst (DH.mpr (.inr (i2.mp h2)))) H2 s2⟩) λh2=>⟨_,_,rfl,s2,λm r' lt e'=>?_⟩⟩⟩;rcases dD.mp lt with z|z
  ·exact ah m r' z e'
  ·subst z;rw[hr] at e';cases e';intro bd;rcases DH.mp bd with y|y
   ·rw[i1.mpr (by rw[rl];exact y)] at h1;cases h1
   ·rw[i2.mpr y] at h2;cases h2
 ·rintro σ' H1 ⟨o3,o4,rfl,s1,ah⟩;rw[rl] at ah;have lt:b.rows.length-1<b.rows.length:=by lia
  obtain⟨v,r,ev,er,ra⟩:=hR.get lt;obtain⟨p',xs,rfl,hp'⟩:=ra.ref;have ev':rvs.getLast?=some (.ref p'):=by rw[cG,rl];exact ev
  show tG K _ [some (.ref p),some (.int (k:Nat)),some (.ref rt),o3,o4] H1;refine⟨_,rfl,1,rfl,Ss (s1 _ _ hrt) ev' (cJ (s1 _ _ hp') (by decide) rfl ⟨Ze,λt ht=>⟨t,_,rfl,.inr (dA.of ag),rfl,rfl,_,rfl,?_⟩⟩)⟩;have s2:aK H (upd H1 t (.tup [.str "jump",.str "give"])):=s1.new ht;show if(!m7 (.str (qH r)) [V.str "jump",V.str "give"])=true then _ else _;rw[VE];generalize upd H1 t (.tup [.str "jump",.str "give"])=H2 at s2 ⊢;cases c:we r with
  |true=>
   refine ff (q2 (λm=>?_) H2 s2);rintro(⟨z,_⟩|⟨r',e',z|⟨z,y⟩⟩)
   ·exact ne z
   ·exact ah m r' ((aj.mp e').1) e' z
   ·rw[show m=b.rows.length-1 from by lia,er] at e';cases e';rw[c] at y;cases y
  |false=>
   refine lu ⟨_,rfl,_,_,rfl,.inr ⟨_,dA.of (s2 _ _ hrt),rfl⟩,_,_,rfl,rfl,?_⟩;show Q (.int ((rvs.length:Int)-1)) H2;rw[rl,show((b.rows.length:Nat):Int)-1=((b.rows.length-1:Nat):Int) from by lia];refine q1 _ ⟨.inr ⟨r,er,.inr ⟨by lia,c⟩⟩,λm lt'=>?_⟩ H2 s2;rintro(⟨z,_⟩|⟨r',e',z|⟨z,y⟩⟩)
   ·exact ne z
   ·exact ah m r' ((aj.mp e').1) e' z
   ·lia
def Nz{E:XK}{k n:Int}{wd:Str}{C:ar}{H:Hp}(h:∀(dx:ar) (H':Hp),aK H H'->H' dx=some (XD dx (y0 k n wd))->E (.ref C) (some dx) H') :
  ∀(dx:ar) (H':Hp),aK H H'->H' dx=some (XD dx (y0 k n wd))->(oR λ_=>E) (.ref C) (some dx) H':=λdx H' s g x C' T' ec hx nd hT nx=>
 h dx _ (s.new hT) (by rw[aL (aC g hT)];exact g)
def Q8{cs:List Nat}{H:Hp}{rvs:List V}{b:bp}(hR:b3 (eI H) rvs b.rows)(ok:∀m,¬yi cs b m):b3 (e7 H) rvs b.low.rows:=by
 refine⟨by rw[hR.len];exact(af ..).symm,λi v r' ev er=>?_⟩;have er:(b.rows.map dQ.low)[i]?=some r':=er;rw[aQ] at er;obtain⟨r0,e0,rfl⟩:=b5.mp er;exact(hR.at_ i v r0 ev e0).low (O0.ok0 (yK ok r0 (aD e0)))
def Lf{K:Fg}{vs:List V}{H:Hp}{Q:VK}{E:XK}(h:uv K vs H Q E):C1 K E {nx:=λ_ H'=>Q .non H',rt:=Q} (cQ BY vs) H:=by
 obtain⟨p,bs,rfl,hp,wd,q1,q2⟩:=h;obtain⟨pvs,hpt,hA⟩:=id hp;refine⟨_,rfl,p,rfl,⟨_,dA.of hpt⟩,Ct (xs:=pvs) (λi σ' H'=>∃o1 o2,σ'=[some (.ref p),o1,o2]/\aK H H'/\∀(j:Nat) b,j<i->bs[j]?=some b->Jb bs j b) ⟨_,_,rfl,aK.refl H,λj b z=>absurd z (cE _)⟩ ?_ ?_ ?_⟩
 ·rintro i σ' H' _ ⟨_,_,_,s,_⟩;exact dA.of (s _ _ hpt)
 ·rintro i x σ' H1 a hx na ⟨o1,o2,rfl,s1,ah⟩;obtain⟨b,hb,hP⟩:=hA.of_v hx;have ps:=wd.part b (aD hb);refine⟨a,_,rfl,dA.of ag,rfl,_,_,rfl,_,_,rfl,rfl,?_⟩;have s2:aK H (upd H1 a (.tup [.int (i:Nat),x])):=s1.new na;show xN K E _ [some (.ref p),some (.int (i:Nat)),some x] _;generalize upd H1 a (.tup [.int (i:Nat),x])=H2 at s2 ⊢;have out:∀(n:Nat) (w:Str),xj bs i b n w->∀H3,aK H H3->∀(dx:ar) (H':Hp),aK H3 H'->H' dx=some (XD dx (y0 (i:Nat) (n:Nat) w))->(oR λ_=>E) (.ref (eK K "NoProgram")) (some dx) H':=λn w pf H3 s3=>
   Nz λdx H' s g=>q2 i n w ⟨⟨b,hb,pf⟩,ah⟩ dx H' (s3.trans s) g
  refine⟨_,rfl,_,rfl,_,rfl,p,i,bs,b,rfl,hp.mono (.of_same s2),wd,hb,λnf H3 s3=>⟨i,_,"name",rfl,.inr ⟨0,rfl,out 0 _ (.name nf) H3 (s2.trans s3)⟩⟩,λnn H3 s3=>⟨i,.non,"name",rfl,.inl ⟨rfl,?_⟩⟩⟩;have s3':=s2.trans s3;refine⟨_,rfl,_,rfl,_,rfl,p,i,bs,b,rfl,hp.mono (.of_same s3'),wd,hb,λn lf H4 s4=>⟨i,_,"row",rfl,.inr ⟨(n:Nat),rfl,out n _ (.row nn lf) H4 (s3'.trans s4)⟩⟩,λnr H4 s4=>⟨i,.non,"row",rfl,.inl ⟨rfl,?_⟩⟩⟩;have s4':=s3'.trans s4;obtain⟨pt,pa,rt,rvs,rfl,hpt4,hpa4,hrt4,hR4⟩:=hP.mono (.of_same s4');have R4:=Q8 hR4 nr;have few:b.low.rows.length<64:=by show(b.rows.map dQ.low).length<64;rw[af];exact ps.few
  refine⟨_,rfl,_,rfl,Zb hpt4 rfl ⟨rt,rvs,b.low.rows,rfl,hrt4,R4,few,Fq nr,λn lf H5 s5=>⟨i,_,"ring",rfl,.inr ⟨(n:Nat),rfl,out n _ (.ring nn nr lf) H5 (s4'.trans s5)⟩⟩,λng H5 s5=>⟨i,.non,"ring",rfl,.inl ⟨rfl,?_⟩⟩⟩⟩;have s5':=s4'.trans s5;refine⟨_,rfl,_,rfl,_,b.low,_,rfl,(hP.mono (.of_same s5')).low nr,Oq ps nn nr ng,λcl H6 s6=>⟨i,.non,"unset",rfl,.inl ⟨rfl,?_⟩⟩,λn un mn H6 s6=>⟨i,_,"unset",rfl,.inr ⟨(n:Nat),rfl,out n _ (.unset nn nr ng ⟨un,mn⟩) H6 (s5'.trans s6)⟩⟩⟩;refine⟨_,_,rfl,s5'.trans s6,λj b' lt e=>?_⟩;rcases dD.mp lt with z|z
  ·exact ah j b' z e
  ·subst z;rw[hb] at e;cases e;exact⟨nn,nr,ng,cl⟩
 ·rintro σ' H' ⟨_,_,_,s,ah⟩;refine q1 (λk b e=>ah k b ?_ e) H' s;have:=(aj.mp e).1;rw[hA.len];exact this
def Mm{b:List Bool}:b.all id=true↔∀x∈b,x=true:=by
 rw[fQ];exact⟨λh x hx=>h x hx,λh x hx=>h x hx⟩
def PZ{K:Fg}{z:Str}{H:Hp}(hz:z.length<=99000):L6 K (.str z) H z.length:=⟨di (cg (by lia)),rfl⟩
def zK(c:Nat):c∈("abcdefghijklmnopqrstuvwxyz":Str).cps.toList↔97<=c/\c<=122:=by
 have e:("abcdefghijklmnopqrstuvwxyz":Str).cps.toList=(cX 26).map (·+97):=by decide +kernel
 rw[e,bF];constructor
 ·rintro⟨i,hi,rfl⟩;have:=ef.mp hi;exact⟨by lia,by lia⟩
 ·rintro⟨h1,h2⟩;exact⟨c-97,ef.mpr (by lia),by lia⟩
def zv(c:Nat):c∈("0123456789":Str).cps.toList↔48<=c/\c<=57:=by
 have e:("0123456789":Str).cps.toList=(cX 10).map (·+48):=by decide +kernel
 rw[e,bF];constructor
 ·rintro⟨i,hi,rfl⟩;have:=ef.mp hi;exact⟨by lia,by lia⟩
 ·rintro⟨h1,h2⟩;exact⟨c-48,ef.mpr (by lia),by lia⟩
def Sb{y:Str}{i c:Nat}(h:y.cps[i]?=some c):y.cps.toList[i]?=some c:=by rw[cR];exact h
def Cd{K:Fg}{y Z:Str}{H:Hp}{Q:VK}(hy:y.length<=99000)(q:∀(b:Bool) (H':Hp),(b=true↔∀c∈y.cps.toList,c∈Z.cps.toList)->aK H H'->Q (.bl b) H') :
  fS (NX K) (ai (hW [] 1 (MW (au 0)) (aW 1) oj (bq (FW K) (au 1) (tC (.str Z)))) aJ) [some (.str y)] H Q:=by
 refine⟨_,rfl,y,rfl,λD nD=>?_⟩;refine Mu (λi σ' H'=>∃(bs:List Bool) (o:Option V),σ'=[some (.str y),o]/\H' D=some (.lst (bs.map V.bl))/\bs.length=i/\(∀(j:Nat) b,bs[j]?=some b->∃c,y.cps.toList[j]?=some c/\b=decide (c∈Z.cps.toList))/\aK H H') ?_ ?_ ?_
 ·exact⟨[],none,rfl,ag,rfl,λj b z=>by simp at z,(aK.refl H).new nD⟩
 ·rintro i c σ' H' hc ⟨bs,o,rfl,hD,hl,hb,s⟩;have hi:i<y.length:=(bO.mp hc).1;refine iq ⟨_,rfl,.inr ⟨c,Z,rfl,rfl,_,hD,cg (by rw[af];lia),bs++[decide (c∈Z.cps.toList)],_,rfl,by rw[ag,aG];rfl,by simp[hl],λj b z=>?_,fH s nD⟩⟩;by_cases hj:j<bs.length
  ·rw[cF hj] at z;exact hb j b z
  ·rw[bV (by lia)] at z;have e0:j-bs.length=0:=by
    have:=(aj.mp z).1;simp at this;lia
   rw[e0] at z;have ej:j=i:=by lia
   subst ej;exact⟨c,Sb hc,by simpa using z.symm⟩
 ·rintro σ' H' ⟨bs,o,_,hD,hl,hb,s⟩;refine⟨D,bs,rfl,cN.of hD,q _ H' ?_ s⟩;rw[Mm];constructor
  ·intro h c hc;obtain⟨j,hj,e⟩:=b7.mp hc;have jl:j<bs.length:=by rw[hl,<-bh];exact hj
   obtain⟨c',e1,e2⟩:=hb j bs[j] (ao jl);rw[ao hj,e] at e1;cases e1;have:=h bs[j] (dZ jl);rw[this] at e2;exact of_decide_eq_true e2.symm
  ·intro h x hx;obtain⟨j,hj,e⟩:=b7.mp hx;obtain⟨c,e1,e2⟩:=hb j x (by rw[ao hj,e]);rw[e2];exact decide_eq_true (h c (aD e1))
def F3{K:Fg}{vs:List V}{H:Hp}{Q:VK}{E:XK}(h:gr K vs H Q E):xP K {nx:=λ_ H'=>Q .non H',rt:=Q} (cQ qR vs) H:=by
 obtain⟨y,rfl,hy,q⟩:=h;refine⟨_,rfl,_,_,rfl,PZ hy,_,_,rfl,rfl,_,rfl,bL (λc=>?_) (λc=>?_)⟩
 ·exact lu (q false H ⟨λz=>(by cases z),λn=>absurd n.l1 (by lia)⟩ (aK.refl H))
 refine⟨_,rfl,_,_,rfl,PZ hy,_,_,rfl,rfl,_,rfl,bL (λc2=>?_) (λc2=>?_)⟩
 ·exact lu (q false H ⟨λz=>(by cases z),λn=>absurd n.l8 (by lia)⟩ (aK.refl H))
 refine⟨_,rfl,λp hp=>.inl ⟨p,_,rfl,.inr (hp H),rfl,rfl,_,rfl,?_⟩⟩;have e:m7 (.str y) [.str "part",.str "call",.str "say",.str "jump",.str "test",.str "give"]=decide (y∈Ag):=jb y Ag;rw[show(if false=true then !m7 (V.str y) [.str "part",.str "call",.str "say",.str "jump",.str "test",.str "give"] else m7 (.str y) [.str "part",.str "call",.str "say",.str "jump",.str "test",.str "give"])=decide (y∈Ag) from e];refine bL (λc3=>q false H ⟨λz=>(by cases z),λn=>absurd c3 n.no⟩ (aK.refl H)) λc3=>?_;refine Cd hy λb H' hb s=>q b H' ?_ s;rw[hb];exact⟨λh=>⟨by lia,by lia,λc hc=>(zK c).mp (h c hc),c3⟩,λn c hc=>(zK c).mpr (n.abc c hc)⟩
def Bt{K:Fg}{vs:List V}{H:Hp}{Q:VK}{E:XK}(h:iN K vs H Q E):tE K {nx:=λ_ H'=>Q .non H',rt:=Q} (cQ nJ vs) H:=by
 obtain⟨y,rfl,hy,q⟩:=h;refine⟨_,rfl,_,_,rfl,PZ hy,_,_,rfl,rfl,_,rfl,bL (λc=>?_) (λc=>?_)⟩
 ·exact lu (q false H ⟨λz=>(by cases z),λn=>absurd n.l1 (by lia)⟩ (aK.refl H))
 refine⟨_,rfl,_,_,rfl,PZ hy,_,_,rfl,rfl,_,rfl,bL (λc2=>?_) (λc2=>?_)⟩
 ·exact q false H ⟨λz=>(by cases z),λn=>absurd n.l20 (by lia)⟩ (aK.refl H)
 have pos:0<y.cps.toList.length:=by
  rw[bh];show 0<y.length;lia
 obtain⟨c0,r0,e0⟩:∃c r,y.cps.toList=c::r:=by
  cases h:y.cps.toList with
  |nil=>rw[h] at pos;cases pos
  |cons c r=>exact⟨c,r,rfl⟩
 have fin:(y.cps.toList.head?=some 48->y="0")->qx K {nx:=λ_ H'=>Q .non H',rt:=Q} [some (.str y)] H:=λld=>
  Cd hy λb H' hb s=>q b H' (by
   rw[hb];exact⟨λh=>⟨by lia,by lia,λc hc=>(zv c).mp (h c hc),ld⟩,λn c hc=>(zv c).mpr (n.dig c hc)⟩) s
 show qy K _ [some (.str y)] H;refine⟨_,rfl,Vq (di (cg (by lia))) (by decide) (by rw[e0];rfl) (.inl ⟨rfl,_,rfl,bL (λc3=>?_) (λc3=>?_)⟩)⟩
 ·refine⟨_,rfl,.inl ⟨rfl,_,rfl,nU (λc4=>?_) (λc4=>?_)⟩⟩
  ·refine q false H ⟨λz=>(by cases z),λn=>?_⟩ (aK.refl H);have:c0=48:=by
    have c3:(V.str ⟨#[c0]⟩)=V.str "0":=c3;injection c3 with c3;have:(⟨#[c0]⟩:Str).cps.toList=("0":Str).cps.toList:=by rw[c3]
    rw[show("0":Str).cps.toList=[48] from by decide +kernel] at this;injection this
   exact absurd (by rw[n.lead (by rw[e0,this];rfl)]) c4
  ·exact fin λ_=>by injection c4
 ·refine ff (fin λz=>?_);rw[e0] at z;have:c0=48:=by simpa using z
  subst this;exact absurd (by rw[show("0":Str)=⟨#[48]⟩ from by decide +kernel]) c3
def Bs{K:Fg}{vs:List V}{H:Hp}{Q:VK}{E:XK}(h:jV K vs H Q E):sX K {nx:=λ_ H'=>Q .non H',rt:=Q} (cQ nI vs) H:=by
 obtain⟨l,ys,rfl,hl,few,sh,q⟩:=h;refine .inl ⟨_,rfl,l,rfl,⟨_,cN.of hl⟩,λD nD=>?_⟩;have nl:l≠D:=aC hl nD;refine jB (xs:=ys.map V.str) (λi σ' H'=>∃(bs:List Bool) (o:Option V),σ'=[some (.ref l),o]/\H' D=some (.lst (bs.map V.bl))/\bs.length=i/\(∀(j:Nat) b,bs[j]?=some b->∃y,ys[j]?=some y/\(b=true↔Nm y))/\aK H H') ?_ ?_ ?_ ?_
 ·exact⟨[],none,rfl,ag,rfl,λj b z=>by simp at z,(aK.refl H).new nD⟩
 ·rintro i σ' H' _ ⟨bs,o,rfl,_,_,_,s⟩;exact cN.of (s _ _ hl)
 ·rintro i x σ' H' hx ⟨bs,o,rfl,hD,hbl,hb,s⟩;obtain⟨y,hy,rfl⟩:=sy hx;have hi:i<ys.length:=(aj.mp hy).1;refine iq ⟨_,rfl,y,rfl,sh y (aD hy),λb H2 eb s2=>⟨_,s2 _ _ hD,cg (by rw[af];lia),bs++[b],_,rfl,by rw[ag,aG];rfl,by simp[hbl],λj b' z=>?_,fH (s.trans s2) nD⟩⟩;by_cases hj:j<bs.length
  ·rw[cF hj] at z;exact hb j b' z
  ·rw[bV (by lia)] at z;have e0:j-bs.length=0:=by
    have:=(aj.mp z).1;simp at this;lia
   rw[e0] at z;have ej:j=i:=by lia
   subst ej;have:b=b':=by simpa using z
   subst this;exact⟨y,hy,eb⟩
 ·rintro σ' H' ⟨bs,o,_,hD,hbl,hb,s⟩;rw[af] at hbl;refine⟨D,bs,rfl,cN.of hD,q _ H' ?_ s⟩;rw[Mm];constructor
  ·intro h y hy;obtain⟨j,hj,e⟩:=b7.mp hy;have jl:j<bs.length:=by lia
   obtain⟨y',e1,e2⟩:=hb j bs[j] (ao jl);rw[ao hj,e] at e1;cases e1;exact e2.mp (h _ (dZ jl))
  ·intro h x hx;obtain⟨j,hj,e⟩:=b7.mp hx;obtain⟨y,e1,e2⟩:=hb j x (by rw[ao hj,e]);exact e2.mpr (h y (aD e1))
def wg{K:Fg}{l:ar}{ws:List Str}{i:Nat}{w:Str}{H:Hp}{Q:VK}(hl:H l=some (.lst (ws.map V.str)))(e:ws[i]?=some w)(q:Q (.str w) H):cV K (.ref l) (.int (i:Nat)) H Q:=
 sf (cN.of hl) (Int.natCast_nonneg _) (by rw[dJ];exact Ap e) q
def xu{K:Fg}{l:ar}{ws:List Str}{H:Hp}(hl:H l=some (.lst (ws.map V.str))):L6 K (.ref l) H ws.length:=.inl ⟨_,cN.of hl,by rw[af]⟩
def yE(ws:List Str)(c:Nat):kQ (ws.map V.str) (some (c:Int)) none=(ws.drop c).map V.str:=by rw[zq,nC]
def D6{y:Str}(h:Nb y):PySem.intText? y=some ((vF y:Nat):Int):=by
 refine PySem.intText_digits h.dig ?_ (by have:=h.l20;lia);intro z;have:=h.l1;rw[show y.length=y.cps.toList.length from(bh ..).symm,z] at this;cases this
def VH{α:Type}{l:List α}(h:l.length=2):∃a b,l=[a,b]:=by
 match l,h with
 |[a,b],_=>exact⟨a,b,rfl⟩
def SG{α:Type}{l:List α}(h:l.length=3):∃a b c,l=[a,b,c]:=by
 match l,h with
 |[a,b,c],_=>exact⟨a,b,c,rfl⟩
def Rr(ws:List Str):Prop:=(∃y,ws=[y]/\Nb y/\vF y<2 ^ 64)\/(∃f as,ws=(("call":Str)::f::as)/\Nm f/\∀y∈as,Nm y)\/∃a s b,ws=[a,s,b]/\s∈mF/\Nm a/\Nm b
def T4{x:Str}{ws:List Str}{r:dw}(h:fW (x::"="::ws) r):Nm x/\Rr ws:=by
 rcases h.key with⟨t,e,m⟩|⟨e,x',t,ex,nx⟩
 ·cases r with
  |part y ps=>obtain⟨e,n,_⟩:=h;injection e with _ e;injection e with e _;exact absurd n (by rw[<-e];exact Jz)
  |say a=>obtain⟨e,n⟩:=h;injection e with _ e;injection e with e _;exact absurd n (by rw[<-e];exact Jz)
  |jump to=>obtain⟨y,e,n,_⟩:=h;injection e with _ e;injection e with e _;exact absurd n (by rw[<-e];exact UI)
  |test a to=>obtain⟨y,e,n,_⟩:=h;injection e with _ e;injection e with e _;exact absurd n (by rw[<-e];exact Jz)
  |give a=>obtain⟨e,n⟩:=h;injection e with _ e;injection e with e _;exact absurd n (by rw[<-e];exact Jz)
  |_=>exact absurd m (by simp only[nV];decide +kernel)
 ·cases r with
  |num y z=>obtain⟨w,e,n,nb,_,lt⟩:=h;injection e with e1 e;injection e with _ e;exact⟨by rw[e1];exact n,.inl ⟨w,e,nb,lt⟩⟩
  |op y s a b=>obtain⟨e,n,ns,na,nb⟩:=h;injection e with e1 e;injection e with _ e;exact⟨by rw[e1];exact n,.inr (.inr ⟨a,s,b,e,ns,na,nb⟩)⟩
  |call y f as=>obtain⟨e,n,nf,na⟩:=h;injection e with e1 e;injection e with _ e;exact⟨by rw[e1];exact n,.inr (.inl ⟨f,as,e,nf,na⟩)⟩
  |_=>exact absurd e (by simp only[nV];decide +kernel)
def RE:(2:Nat) ^ 64=18446744073709551616:=by decide
def RH:(2:Int) ^ dz 64=18446744073709551616:=by decide
def wH{K:Fg}{vs:List V}{H:Hp}{Q:VK}{E:XK}(h:jZ K vs H Q E):pB K {nx:=λ_ H'=>Q .non H',rt:=Q} (cQ oK vs) H:=by
 obtain⟨l,ws,rfl,hl,l2,e1,few,sh,q⟩:=h;obtain⟨x,ws',rfl⟩:∃x r,ws=x::r:=by
  cases ws with
  |nil=>cases l2
  |cons x r=>exact⟨x,r,rfl⟩
 obtain⟨ws',rfl⟩:∃r,ws'=(("=":Str)::r):=by
  cases ws' with
  |nil=>simp at e1
  |cons y r=>
   have:y=("=":Str):=by simpa using e1
   exact⟨r,by rw[this]⟩
 have none_of:∀{H':Hp},aK H H'->¬(Nm x/\Rr ws')->Q .non H':=λs n=>q .non _ (by rw[xx λr z=>n (T4 z)];rfl) s;have some_of:∀{H':Hp} {v:V} {r:dw},aK H H'->fW (x::"="::ws') r->gK H' v r->Q v H':=λs lr la=>q _ _ (by rw[rb lr];exact la) s;have shx:=sh x (by simp);have k2:∀H1,aK H H1->Nm x->(¬∃y,ws'=[y]/\Nb y/\vF y<2 ^ 64)->(¬∃f as,ws'=(("call":Str)::f::as)/\Nm f/\∀y∈as,Nm y)->mM K {nx:=λ_ H'=>Q .non H',rt:=Q} [some (.ref l),some (.str x)] H1:=λH1 s1 nx n1 n2=>by
  have hl1:=s1 _ _ hl;have bad:∀{H':Hp},aK H H'->(¬∃a s b,ws'=[a,s,b]/\s∈mF/\Nm a/\Nm b)->Q .non H':=λs n3=>none_of s λ⟨_,z⟩=>z.elim n1 λz=>z.elim n2 n3;refine⟨_,rfl,_,_,rfl,xu hl1,.inl ⟨rfl,_,rfl,bL (λc=>?_) (λc=>ff (bad s1 ?_))⟩⟩
  ·obtain⟨a,s,b,rfl⟩:∃a s b,ws'=[a,s,b]:=by
    have c:V.int (((x::"="::ws').length:Nat):Int)=V.int 5:=c;injection c with c;have:(ws').length=3:=by rw[aP,aP] at c;lia
    exact SG this
   have sha:=sh a (by simp);have shb:=sh b (by simp);refine⟨_,rfl,wg (i:=3) hl1 rfl λp hp=>.inl ⟨p,_,rfl,.inr (hp H1),rfl,rfl,_,rfl,?_⟩⟩;have e:m7 (.str s) [.str "+",.str "-",.str "*",.str "<",.str "="]=decide (s∈mF):=jb s mF;rw[show(if false=true then !m7 (V.str s) [.str "+",.str "-",.str "*",.str "<",.str "="] else m7 (.str s) [.str "+",.str "-",.str "*",.str "<",.str "="])=decide (s∈mF) from e];refine bL (λc3=>?_) λc3=>ff (bad s1 λ⟨a',s',b',e,m,_⟩=>?_);rotate_left
   ·injection e with _ e;injection e with e _;exact c3 (by rw[e];exact m)
   refine⟨_,rfl,wg (i:=2) hl1 rfl ⟨a,rfl,sha,λba H2 hba s2=>⟨_,rfl,ka (λea=>?_) (λea=>ff (bad (s1.trans s2) λ⟨a',s',b',e,_,m,_⟩=>?_))⟩⟩⟩;rotate_left
   ·injection e with e _;rw[<-e] at m;rw[hba.mpr m] at ea;cases ea
   have hl2:=s2 _ _ hl1;refine⟨_,rfl,wg (i:=4) hl2 rfl ⟨b,rfl,shb,λbb H3 hbb s3=>⟨_,rfl,ka (λeb=>?_) (λeb=>bad ((s1.trans s2).trans s3) λ⟨a',s',b',e,_,_,m⟩=>?_)⟩⟩⟩;rotate_left
   ·injection e with _ e;injection e with _ e;injection e with e _;rw[<-e] at m;rw[hbb.mpr m] at eb;cases eb
   have hl3:=s3 _ _ hl2;refine⟨_,rfl,_,rfl,wg (i:=3) hl3 rfl ⟨_,rfl,wg (i:=2) hl3 rfl ⟨_,rfl,wg (i:=4) hl3 rfl ⟨Zh,λt ht=>?_⟩⟩⟩⟩;exact some_of (((s1.trans s2).trans s3).new ht) (r:=.op x s a b) ⟨rfl,nx,c3,hba.mp ea,hbb.mp eb⟩ ⟨t,rfl,ag⟩
  ·rintro⟨a,s,b,rfl,_⟩;exact c rfl
 have k3:∀H1,aK H H1->Nm x->(¬∃y,ws'=[y]/\Nb y/\vF y<2 ^ 64)->mN K {nx:=λ_ H'=>Q .non H',rt:=Q} [some (.ref l),some (.str x)] H1:=λH1 s1 nx n1=>by
  have hl1:=s1 _ _ hl;refine⟨_,rfl,_,_,rfl,xu hl1,_,_,rfl,rfl,_,rfl,bL (λc=>?_) (λc=>ff (k2 H1 s1 nx n1 ?_))⟩
  ·obtain⟨w,f,as,rfl⟩:∃w f as,ws'=w::f::as:=by
    match ws',c with
    |[],c=>exact absurd c (by simp)
    |[w],c=>exact absurd c (by simp)
    |w::f::as,_=>exact⟨w,f,as,rfl⟩
   refine⟨_,rfl,wg (i:=2) hl1 rfl (.inl ⟨rfl,_,rfl,bL (λc2=>?_) (λc2=>ff (k2 H1 s1 nx n1 λ⟨f',as',e,_⟩=>?_))⟩)⟩;rotate_left
   ·injection e with e _;exact c2 (by rw[e])
   have:w="call":=by injection c2
   subst this;refine⟨_,rfl,3,rfl,.inl ⟨l,_,rfl,cN.of hl1,λD nD=>?_⟩⟩;rw[show((3:Int))=((3:Nat):Int) from rfl,yE];have s2:aK H1 (upd H1 D (.lst (((x::"="::"call"::f::as).drop 3).map V.str))):=(aK.refl H1).new nD;have hD:upd H1 D (.lst (((x::"="::"call"::f::as).drop 3).map V.str)) D=some (.lst ((f::as).map V.str)):=ag;generalize upd H1 D (.lst (((x::"="::"call"::f::as).drop 3).map V.str))=H2 at s2 hD ⊢;have fewl:(f::as).length<=99000:=by simp only[aP] at few ⊢;lia
   refine⟨D,f::as,rfl,hD,fewl,λy hy=>sh y (by simp only[aE] at hy ⊢;rcases hy with z|z<;>simp[z]),λb H3 hb s3=>⟨_,rfl,ka (λeb=>?_) (λeb=>k2 H3 ((s1.trans s2).trans s3) nx n1 λ⟨f',as',e,nf,na⟩=>?_)⟩⟩;rotate_left
   ·injection e with _ e;injection e with e1 e2;subst e1;subst e2;rw[hb.mpr λy hy=>(aE.mp hy).elim (λe=>by rw[e];exact nf) (na y)] at eb;cases eb
   have nm:=hb.mp eb;have s3':=(s1.trans s2).trans s3;have hl3:=s3' _ _ hl;refine⟨_,rfl,_,rfl,wg (i:=3) hl3 rfl ⟨_,rfl,4,rfl,.inl ⟨l,_,rfl,cN.of hl3,λD2 nD2=>?_⟩⟩⟩;rw[show((4:Int))=((4:Nat):Int) from rfl,yE];have s4:aK H3 (upd H3 D2 (.lst (((x::"="::"call"::f::as).drop 4).map V.str))):=(aK.refl H3).new nD2;have hD2:upd H3 D2 (.lst (((x::"="::"call"::f::as).drop 4).map V.str)) D2=some (.lst (as.map V.str)):=ag;generalize upd H3 D2 (.lst (((x::"="::"call"::f::as).drop 4).map V.str))=H4 at s4 hD2 ⊢;refine⟨D2,_,rfl,.inl ⟨cN.of hD2,λt nt=>⟨Zg,λu nu=>?_⟩⟩⟩;exact some_of (((s3'.trans s4).new nt).new nu) (r:=.call x f as) ⟨rfl,nx,nm f (by simp),λy hy=>nm y (by simp[hy])⟩ ⟨u,t,rfl,ag,(aK.refl _).new nu _ _ ag⟩
  ·rintro⟨f,as,rfl,_⟩;exact c (by simp only[aP];lia)
 refine⟨_,rfl,wg (i:=0) hl rfl ?_⟩;show mP K _ [some (.ref l),some (.str x)] H;refine⟨_,rfl,x,rfl,shx,λb H1 hb s1=>⟨_,rfl,?_⟩⟩;cases b with
 |false=>exact lu (none_of s1 λz=>by cases hb.mpr z.1)
 |true=>
  refine ff ?_;have nx:=hb.mp rfl;have hl1:=s1 _ _ hl;show mO K _ [some (.ref l),some (.str x)] H1;refine⟨_,rfl,_,_,rfl,xu hl1,.inl ⟨rfl,_,rfl,bL (λc=>?_) (λc=>ff (k3 H1 s1 nx ?_))⟩⟩
  ·obtain⟨y,rfl⟩:∃y,ws'=[y]:=by
    have c:V.int (((x::"="::ws').length:Nat):Int)=V.int 3:=c;injection c with c;have:ws'.length=1:=by rw[aP,aP] at c;lia
    match ws',this with
    |[y],_=>exact⟨y,rfl⟩
   have shy:=sh y (by simp);refine⟨_,rfl,wg (i:=2) hl1 rfl ⟨y,rfl,shy,λb H2 hb s2=>⟨_,rfl,ka (λeb=>?_) (λeb=>ff (k3 H2 (s1.trans s2) nx λ⟨y',e,nb,_⟩=>?_))⟩⟩⟩;rotate_left
   ·injection e with e _;subst e;rw[hb.mpr nb] at eb;cases eb
   have nb:=hb.mp eb;have s2':=s1.trans s2;have hl2:=s2' _ _ hl;have l640:y.length<=640:=by have:=nb.l20;lia
   obtain⟨M,hM,hM'⟩:∃M:Int,(2:Int) ^ dz 64=M/\M=18446744073709551616:=⟨_,rfl,RH⟩;refine⟨_,rfl,wg (i:=2) hl2 rfl ⟨y,_,rfl,D6 nb,l640,_,_,rfl,rfl,⟨by decide,by decide,by decide⟩,_,_,rfl,rfl,_,rfl,?_⟩⟩;rw[hM];refine bL (λc3=>?_) (λc3=>k3 H2 s2' nx λ⟨y',e,_,lt⟩=>?_)
   ·rw[hM'] at c3;refine⟨_,rfl,_,rfl,wg (i:=2) hl2 rfl ⟨y,_,rfl,D6 nb,l640,Zf,λt ht=>?_⟩⟩;exact some_of (s2'.new ht) (r:=.num x (vF y)) ⟨y,rfl,nx,nb,rfl,by rw[RE];lia⟩ ⟨t,rfl,ag⟩
   ·injection e with e _;subst e;rw[RE] at lt;rw[hM'] at c3;lia
  ·rintro⟨y,rfl,_⟩;exact c rfl
def CN(z y:Str):(Txt.split z y).length<=z.length+2:=by
 unfold Txt.split;split
 ·show 1<=_;lia
 ·split
  ·show 1<=_;lia
  ·have e1:=StrLaws.occ_length_le z y 0 z.length (z.length+1);rw[PySem.length_partsBetween];lia
def xM{z y w:Str}(h:w∈Txt.split z y):w.length<=z.length:=PyProof.Rows.part_short h
def So{K:Fg}{H:Hp}{t:ar}{w a b:Str}{Q:VK}(ht:H t=some (.tup [.str a,.str b]))(q:Q (.bl (decide (w∈[a,b]))) H):FW K (.str w) (.ref t) H Q:=by
 refine .inl ⟨t,_,rfl,.inr (dA.of ht),rfl,rfl,?_⟩;have e:m7 (.str w) [.str a,.str b]=decide (w∈[a,b]):=jb w [a,b];show Q (.bl (m7 (.str w) [.str a,.str b])) H;rw[e];exact q
def Bu{K:Fg}{vs:List V}{H:Hp}{Q:VK}{E:XK}(h:mG K vs H Q E):tF K {nx:=λ_ H'=>Q .non H',rt:=Q} (cQ sQ vs) H:=by
 obtain⟨x,rfl,hx,q⟩:=h;have few:(Txt.split x " ").length<=99000:=by have:=CN x " ";lia
 have sh:∀y∈Txt.split x " ",y.length<=99000:=λy hy=>by have:=xM hy;lia
 have ne:=Gi x " ";refine⟨_,rfl,rfl,x," ",rfl,rfl,by decide +kernel,(by have:=cg (n:=x.length+3) (by lia);lia),λl nl=>?_⟩;show qD K _ [some (.str x),some (.ref l)] _;have s0:aK H (upd H l (.lst ((Txt.split x " ").map V.str))):=(aK.refl H).new nl;have hl0:upd H l (.lst ((Txt.split x " ").map V.str)) l=some (.lst ((Txt.split x " ").map V.str)):=ag;generalize upd H l (.lst ((Txt.split x " ").map V.str))=H0 at s0 hl0 ⊢;generalize Txt.split x " "=ws at few sh ne q hl0;obtain⟨w0,rest,rfl⟩:∃w r,ws=w::r:=by
  cases ws with
  |nil=>exact absurd rfl ne
  |cons w r=>exact⟨w,r,rfl⟩
 have sh0:=sh w0 (by simp);have some_of:∀{H':Hp} {v:V} {r:dw},aK H0 H'->fW (w0::rest) r->gK H' v r->Q v H':=λs lr la=>q _ _ (by rw[rb lr];exact la) (s0.trans s);have k1:∀H1,aK H0 H1->(¬∃t,rest=(("=":Str)::t))->(¬∃y ps,w0="part"/\rest=y::ps/\Nm y/\∀z∈ps,Nm z)->(¬∃a,(w0="say"\/w0="give")/\rest=[a]/\Nm a)->(¬∃y,w0="jump"/\rest=[y]/\Nb y)->(¬∃a y,w0="test"/\rest=[a,y]/\Nm a/\Nb y)->Q .non H1:=λH1 s1 n0 n5 n4 n3 n2=>by
  refine q .non H1 ?_ (s0.trans s1);rw[xx λr h=>?_]
  ·rfl
  rcases h.key with⟨t,e,m⟩|⟨e,x',t,ex,nx⟩
  ·cases r with
   |part y ps=>obtain⟨e,n,np⟩:=h;injection e with e1 e;exact n5 ⟨y,ps,e1,e,n,np⟩
   |say a=>obtain⟨e,n⟩:=h;injection e with e1 e;exact n4 ⟨a,.inl e1,e,n⟩
   |jump to=>obtain⟨y,e,n,_⟩:=h;injection e with e1 e;exact n3 ⟨y,e1,e,n⟩
   |test a to=>obtain⟨y,e,n,nb,_⟩:=h;injection e with e1 e;exact n2 ⟨a,y,e1,e,n,nb⟩
   |give a=>obtain⟨e,n⟩:=h;injection e with e1 e;exact n4 ⟨a,.inr e1,e,n⟩
   |_=>exact absurd m (by simp only[nV];decide +kernel)
  ·injection ex with _ ex;exact n0 ⟨t,ex⟩
 have k2:∀H1,aK H0 H1->(¬∃t,rest=(("=":Str)::t))->(¬∃y ps,w0="part"/\rest=y::ps/\Nm y/\∀z∈ps,Nm z)->(¬∃a,(w0="say"\/w0="give")/\rest=[a]/\Nm a)->(¬∃y,w0="jump"/\rest=[y]/\Nb y)->qz K {nx:=λ_ H'=>Q .non H',rt:=Q} [some (.str x),some (.ref l)] H1:=λH1 s1 n0 n5 n4 n3=>by
  have hl1:=s1 _ _ hl0;refine⟨_,rfl,wg (i:=0) hl1 rfl (.inl ⟨rfl,_,rfl,bL (λc=>?_) (λc=>ff (k1 H1 s1 n0 n5 n4 n3 λ⟨a,y,e,_⟩=>c (by rw[e])))⟩)⟩;have ew:w0="test":=by injection c
  refine⟨_,rfl,_,_,rfl,xu hl1,.inl ⟨rfl,_,rfl,bL (λc2=>?_) (λc2=>ff (k1 H1 s1 n0 n5 n4 n3 λ⟨a,y,_,e,_⟩=>c2 (by rw[e];rfl)))⟩⟩;obtain⟨a,y,rfl⟩:∃a y,rest=[a,y]:=by
   have c2:V.int (((w0::rest).length:Nat):Int)=V.int 3:=c2;injection c2 with c2;exact VH (by rw[aP] at c2;lia)
  refine⟨_,rfl,wg (i:=1) hl1 rfl ⟨a,rfl,sh a (by simp),λba H2 hba s2=>⟨_,rfl,ka (λea=>?_) (λea=>ff (k1 H2 (s1.trans s2) n0 n5 n4 n3 λ⟨a',y',_,e,n,_⟩=>?_))⟩⟩⟩;rotate_left
  ·injection e with e _;subst e;rw[hba.mpr n] at ea;cases ea
  have hl2:=s2 _ _ hl1;refine⟨_,rfl,wg (i:=2) hl2 rfl ⟨y,rfl,sh y (by simp),λby_ H3 hby s3=>⟨_,rfl,ka (λey=>?_) (λey=>k1 H3 ((s1.trans s2).trans s3) n0 n5 n4 n3 λ⟨a',y',_,e,_,n⟩=>?_)⟩⟩⟩;rotate_left
  ·injection e with _ e;injection e with e _;subst e;rw[hby.mpr n] at ey;cases ey
  have hl3:=s3 _ _ hl2;have nb:=hby.mp ey;refine⟨_,rfl,wg (i:=1) hl3 rfl ⟨_,rfl,wg (i:=2) hl3 rfl ⟨y,_,rfl,D6 nb,(by have:=nb.l20;lia),Zf,λt ht=>?_⟩⟩⟩;exact some_of (((s1.trans s2).trans s3).new ht) (r:=.test a (vF y)) ⟨y,by rw[ew],hba.mp ea,nb,rfl⟩ ⟨t,rfl,ag⟩
 have k3:∀H1,aK H0 H1->(¬∃t,rest=(("=":Str)::t))->(¬∃y ps,w0="part"/\rest=y::ps/\Nm y/\∀z∈ps,Nm z)->(¬∃a,(w0="say"\/w0="give")/\rest=[a]/\Nm a)->qA K {nx:=λ_ H'=>Q .non H',rt:=Q} [some (.str x),some (.ref l)] H1:=λH1 s1 n0 n5 n4=>by
  have hl1:=s1 _ _ hl0;refine⟨_,rfl,wg (i:=0) hl1 rfl (.inl ⟨rfl,_,rfl,bL (λc=>?_) (λc=>ff (k2 H1 s1 n0 n5 n4 λ⟨y,e,_⟩=>c (by rw[e])))⟩)⟩;have ew:w0="jump":=by injection c
  refine⟨_,rfl,_,_,rfl,xu hl1,.inl ⟨rfl,_,rfl,bL (λc2=>?_) (λc2=>ff (k2 H1 s1 n0 n5 n4 λ⟨y,_,e,_⟩=>c2 (by rw[e];rfl)))⟩⟩;obtain⟨y,rfl⟩:∃y,rest=[y]:=by
   have c2:V.int (((w0::rest).length:Nat):Int)=V.int 2:=c2;injection c2 with c2;have:rest.length=1:=by rw[aP] at c2;lia
   match rest,this with
   |[y],_=>exact⟨y,rfl⟩
  refine⟨_,rfl,wg (i:=1) hl1 rfl ⟨y,rfl,sh y (by simp),λb H2 hb s2=>⟨_,rfl,ka (λeb=>?_) (λeb=>k2 H2 (s1.trans s2) n0 n5 n4 λ⟨y',_,e,n⟩=>?_)⟩⟩⟩;rotate_left
  ·injection e with e _;subst e;rw[hb.mpr n] at eb;cases eb
  have hl2:=s2 _ _ hl1;have nb:=hb.mp eb;refine⟨_,rfl,wg (i:=1) hl2 rfl ⟨y,_,rfl,D6 nb,(by have:=nb.l20;lia),Ze,λt ht=>?_⟩⟩;exact some_of ((s1.trans s2).new ht) (r:=.jump (vF y)) ⟨y,by rw[ew],nb,rfl⟩ ⟨t,rfl,ag⟩
 have k4:∀H1,aK H0 H1->(¬∃t,rest=(("=":Str)::t))->(¬∃y ps,w0="part"/\rest=y::ps/\Nm y/\∀z∈ps,Nm z)->qB K {nx:=λ_ H'=>Q .non H',rt:=Q} [some (.str x),some (.ref l)] H1:=λH1 s1 n0 n5=>by
  have hl1:=s1 _ _ hl0;refine⟨_,rfl,wg (i:=0) hl1 rfl ⟨Ze,λt nt=>So ag ⟨_,rfl,?_⟩⟩⟩;have s2:aK H0 (upd H1 t (.tup [.str "say",.str "give"])):=s1.new nt;generalize upd H1 t (.tup [.str "say",.str "give"])=H2 at s2 ⊢;have hl2:=s2 _ _ hl0;refine bL (λc=>?_) (λc=>ff (k3 H2 s2 n0 n5 λ⟨a,e,_⟩=>c (by rcases e with e|e<;>rw[e]<;>decide +kernel)));refine⟨_,rfl,_,_,rfl,xu hl2,.inl ⟨rfl,_,rfl,bL (λc2=>?_) (λc2=>ff (k3 H2 s2 n0 n5 λ⟨a,_,e,_⟩=>c2 (by rw[e];rfl)))⟩⟩;obtain⟨a,rfl⟩:∃y,rest=[y]:=by
   have c2:V.int (((w0::rest).length:Nat):Int)=V.int 2:=c2;injection c2 with c2;have:rest.length=1:=by rw[aP] at c2;lia
   match rest,this with
   |[y],_=>exact⟨y,rfl⟩
  refine⟨_,rfl,wg (i:=1) hl2 rfl ⟨a,rfl,sh a (by simp),λb H3 hb s3=>⟨_,rfl,ka (λeb=>?_) (λeb=>k3 H3 (s2.trans s3) n0 n5 λ⟨a',_,e,n⟩=>?_)⟩⟩⟩;rotate_left
  ·injection e with e _;subst e;rw[hb.mpr n] at eb;cases eb
  have hl3:=s3 _ _ hl2;refine⟨_,rfl,wg (i:=0) hl3 rfl ⟨_,rfl,wg (i:=1) hl3 rfl ⟨Ze,λu nu=>?_⟩⟩⟩;simp only[aE,bj,or_false] at c;rcases c with rfl|rfl
  ·exact some_of ((s2.trans s3).new nu) (r:=.say a) ⟨rfl,hb.mp eb⟩ ⟨u,rfl,ag⟩
  ·exact some_of ((s2.trans s3).new nu) (r:=.give a) ⟨rfl,hb.mp eb⟩ ⟨u,rfl,ag⟩
 have k5:(¬∃t,rest=(("=":Str)::t))->qC K {nx:=λ_ H'=>Q .non H',rt:=Q} [some (.str x),some (.ref l)] H0:=λn0=>by
  refine⟨_,rfl,wg (i:=0) hl0 rfl (.inl ⟨rfl,_,rfl,bL (λc=>?_) (λc=>ff (k4 H0 (aK.refl H0) n0 λ⟨y,ps,e,_⟩=>c (by rw[e])))⟩)⟩;have ew:w0="part":=by injection c
  refine⟨_,rfl,_,_,rfl,xu hl0,_,_,rfl,rfl,_,rfl,bL (λc2=>?_) (λc2=>ff (k4 H0 (aK.refl H0) n0 λ⟨y,ps,_,e,_⟩=>c2 (by rw[e];simp only[aP];lia)))⟩;obtain⟨y,ps,rfl⟩:∃y ps,rest=y::ps:=by
   cases rest with
   |nil=>exact absurd c2 (by simp)
   |cons y ps=>exact⟨y,ps,rfl⟩
  refine⟨_,rfl,1,rfl,.inl ⟨l,_,rfl,cN.of hl0,λD nD=>?_⟩⟩;rw[show((1:Int))=((1:Nat):Int) from rfl,yE];have s2:aK H0 (upd H0 D (.lst (((w0::y::ps).drop 1).map V.str))):=(aK.refl H0).new nD;have hD:upd H0 D (.lst (((w0::y::ps).drop 1).map V.str)) D=some (.lst ((y::ps).map V.str)):=ag;generalize upd H0 D (.lst (((w0::y::ps).drop 1).map V.str))=H2 at s2 hD ⊢;refine⟨D,y::ps,rfl,hD,by simp only[aP] at few ⊢;lia,λz hz=>sh z (bx _ hz),λb H3 hb s3=>⟨_,rfl,ka (λeb=>?_) (λeb=>k4 H3 (s2.trans s3) n0 λ⟨y',ps',_,e,n,np⟩=>?_)⟩⟩;rotate_left
  ·injection e with e1 e2;subst e1;subst e2;rw[hb.mpr λz hz=>(aE.mp hz).elim (λe=>by rw[e];exact n) (np z)] at eb;cases eb
  have nm:=hb.mp eb;have s3':=s2.trans s3;have hl3:=s3' _ _ hl0;refine⟨_,rfl,wg (i:=1) hl3 rfl ⟨_,rfl,2,rfl,.inl ⟨l,_,rfl,cN.of hl3,λD2 nD2=>?_⟩⟩⟩;rw[show((2:Int))=((2:Nat):Int) from rfl,yE];have s4:aK H3 (upd H3 D2 (.lst (((w0::y::ps).drop 2).map V.str))):=(aK.refl H3).new nD2;have hD2:upd H3 D2 (.lst (((w0::y::ps).drop 2).map V.str)) D2=some (.lst (ps.map V.str)):=ag;generalize upd H3 D2 (.lst (((w0::y::ps).drop 2).map V.str))=H4 at s4 hD2 ⊢;refine⟨D2,_,rfl,.inl ⟨cN.of hD2,λt nt=>⟨Zf,λu nu=>?_⟩⟩⟩;exact some_of (((s3'.trans s4).new nt).new nu) (r:=.part y ps) ⟨by rw[ew],nm y (by simp),λz hz=>nm z (by simp[hz])⟩ ⟨u,t,rfl,ag,(aK.refl _).new nu _ _ ag⟩
 refine⟨_,rfl,_,_,rfl,xu hl0,_,_,rfl,rfl,_,rfl,bL (λc=>?_) (λc=>ff (k5 λ⟨t,e⟩=>c (by rw[e];simp only[aP];lia)))⟩;obtain⟨y,ps,rfl⟩:∃y ps,rest=y::ps:=by
  cases rest with
  |nil=>exact absurd c (by simp)
  |cons y ps=>exact⟨y,ps,rfl⟩
 refine⟨_,rfl,wg (i:=1) hl0 rfl (.inl ⟨rfl,_,rfl,bL (λc2=>?_) (λc2=>k5 λ⟨t,e⟩=>?_)⟩)⟩
 ·have ey:y="=":=by injection c2
  subst ey;exact⟨_,rfl,l,_,rfl,hl0,by simp only[aP];lia,rfl,few,sh,λv H' la s=>q v H' la (s0.trans s)⟩
 ·injection e with e _;exact c2 (by rw[e])
def oQ{r:dw}:A1 r="part"↔lq r=true:=by
 cases r<;>first|exact⟨λ_=>rfl,λ_=>rfl⟩|exact⟨λz=>absurd z (by simp only[A1];decide +kernel),λz=>by cases z⟩
def Af{K:Fg}(T:Ke K){E:XK}{D:oE}{σ:St}{H H1:Hp}{i n:Nat}(hi:σ[i]?=some (some (.int (n:Nat))))(s:aK H H1)
  (q:∀(dx:ar) (H':Hp),aK H H'->H' dx=some (XD dx (y8 (n:Nat)))->E (.ref (eK K "NoLine")) (some dx) H'):uy K E (ux (eK K "NoLine") (eC K) (ai (au i) aJ)) D σ H1:=by
 refine⟨_,hi,λx hx=>⟨x,_,rfl,ag,λdx H' hd ne gx gd bt=>⟨rfl,x,_,_,rfl,T.clL,gx,(λz=>ne (Option.some.inj z)),λT' hT nT=>?_⟩⟩⟩;refine q dx _ (λp o e=>?_) ?_
 ·have e0:=s p o e;have n1:p≠x:=aC e0 hx;have e1:H' p=some o:=bt p o n1 (by rw[aL n1];exact e0);rw[aL n1,aL (aC e1 hT)];exact e1
 ·rw[aL ne,aL (aC gd hT)];exact gd
def wG{K:Fg}(T:Ke K){vs:List V}{H:Hp}{Q:VK}{E:XK}(h:jY K vs H Q E):pA K E {nx:=λ_ H'=>Q .non H',rt:=Q} (cQ oJ vs) H:=by
 obtain⟨l,ls,rfl,⟨lvs,hl,hA⟩,q1,q2⟩:=h;refine⟨_,rfl,l,rfl,⟨_,cN.of hl⟩,uU (xs:=lvs) (λi σ' H'=>∃o1 o2,σ'=[some (.ref l),o1,o2]/\aK H H'/\∀j,j<i->¬oG ls j) ⟨_,_,rfl,aK.refl H,λj z=>absurd z (cE _)⟩ ?_ ?_ ?_⟩
 ·rintro i σ' H' _ ⟨_,_,_,s,_⟩;exact cN.of (s _ _ hl)
 ·rintro i v σ' H1 a hv na ⟨o1,o2,rfl,s1,ah⟩;obtain⟨ro,hr,la⟩:=hA.of_v hv;refine⟨a,_,rfl,dA.of ag,rfl,_,_,rfl,_,_,rfl,rfl,?_⟩;have s2:aK H (upd H1 a (.tup [.int (i:Nat),v])):=s1.new na;show mL K E _ [some (.ref l),some (.int (i:Nat)),some v] _;generalize upd H1 a (.tup [.int (i:Nat),v])=H2 at s2 ⊢;have out:oG ls i->uy K E (ux (eK K "NoLine") (eC K) (ai (au 1) aJ)) {nx:=λσ' H'=>∃o1 o2,σ'=[some (.ref l),o1,o2]/\aK H H'/\∀j,j<i+1->¬oG ls j,rt:=Q,bk:=λ_ H'=>Q .non H',ct:=λσ' H'=>∃o1 o2,σ'=[some (.ref l),o1,o2]/\aK H H'/\∀j,j<i+1->¬oG ls j} [some (.ref l),some (.int (i:Nat)),some v] H2:=λf=>
   Af T (i:=1) (n:=i) rfl s2 (q2 i ⟨f,ah⟩)
  have on:¬oG ls i->∃o1 o2,[some (V.ref l),some (.int (i:Nat)),some v]=[some (.ref l),o1,o2]/\aK H H2/\∀j,j<i+1->¬oG ls j:=λnf=>⟨_,_,rfl,s2,λj lt=>by
   rcases dD.mp lt with z|z
   ·exact ah j z
   ·rw[z];exact nf⟩
  refine⟨_,rfl,rfl,_,rfl,bL (λc=>lu (out ?_)) (λc=>?_)⟩
  ·cases ro with
   |none=>exact .inl hr
   |some r=>obtain⟨p,_,e,_⟩:=gK.ref la;rw[e] at c;cases c
  cases ro with
  |none=>exact absurd la c
  |some r=>
   obtain⟨p,xs,rfl,hp⟩:=gK.ref la;refine⟨_,rfl,.inl ⟨rfl,_,rfl,bL (λc0=>?_) (λc0=>ff (on ?_))⟩⟩
   ·have i0:i=0:=by
     have c0:V.int ((i:Nat):Int)=V.int 0:=c0;injection c0 with c0;lia
    refine⟨_,rfl,cJ (s2 _ _ hp) (by decide) rfl (.inl ⟨rfl,_,rfl,nU (λne=>out ?_) (λeq=>on ?_)⟩)⟩
    ·refine .inr ⟨i0,r,by rw[<-i0];exact hr,?_⟩;cases c1:lq r with
     |false=>rfl
     |true=>exact absurd (by rw[oQ.mpr c1]) ne
    ·rintro(z|⟨_,r',e,z⟩)
     ·rw[hr] at z;cases z
     ·rw[<-i0,hr] at e;cases e;have:A1 r="part":=by injection eq
      rw[oQ.mp this] at z;cases z
   ·rintro(z|⟨i0,_⟩)
    ·rw[hr] at z;cases z
    ·exact c0 (by rw[i0];rfl)
 ·rintro σ' H' ⟨_,_,_,s,ah⟩;refine q1 (λn f=>?_) H' s;have lt:n<ls.length:=by
   rcases f with z|⟨rfl,r,e,_⟩
   ·exact(aj.mp z).1
   ·exact(aj.mp e).1
  exact ah n (by rw[hA.len];exact lt) f
def Cr:∀{xs:List Str} {i:Nat} {y:Str},xs[i]?=some y->y∉xs.take i->jQ xs y=i
 |[],i,y,h,_=>by simp at h
 |x::xs,0,y,h,_=>by
  have:x=y:=by simpa using h
  unfold jQ;rw[if_pos this]
 |x::xs,i+1,y,h,nd=>by
  have h:xs[i]?=some y:=by simpa using h
  rw[List.take_succ_cons] at nd;have ne:x≠y:=λz=>nd (by rw[z];exact bT);unfold jQ;rw[if_neg ne,Cr h λz=>nd (bx _ z)]
def HK(ls:List dw)(i:Nat){r:dw}(h:ls[i]?=some r):gf (ls.take (i+1))=gf (ls.take i)++(ud r).toList:=by
 unfold gf;rw[bN,h,List.filterMap_append];cases e:ud r<;>simp[e]
def CG(ls:List dw):(gf ls).length<=ls.length:=List.length_filterMap_le _ _
def G5.mono{H H':Hp}{d:ar}{nm:List Str}(h:G5 H d nm)(s:aK H H'):G5 H' d nm:=by
 obtain⟨kvs,e,q⟩:=h;exact⟨kvs,s _ _ e,q⟩
def lP.mono{H H':Hp}{l:ar}{ls:List (Option dw)}(h:lP H l ls)(s:aK H H'):lP H' l ls:=by
 obtain⟨vs,e,q⟩:=h;exact⟨vs,s _ _ e,q.imp λ_ _ z=>z.mono (.of_same s)⟩
def uc{H:Hp}{lvs:List V}{ls:List dw}(h:b3 (uK H) lvs (ls.map some)){i:Nat}{v:V}(e:lvs[i]?=some v):∃r,ls[i]?=some r/\gK H v r:=by
 obtain⟨ro,er,la⟩:=h.of_v e;rw[aQ] at er;obtain⟨r,e',rfl⟩:=b5.mp er;exact⟨r,e',la⟩
def rB{K:Fg}{vs:List V}{H:Hp}{Q:VK}{E:XK}(h:ij K vs H Q E):kT K {nx:=λ_ H'=>Q .non H',rt:=Q} (cQ iK vs) H:=by
 obtain⟨l,ls,rfl,⟨lvs,hl,hA⟩,few,q⟩:=h;have al:lvs.length=ls.length:=by rw[hA.len,af]
 refine .inl ⟨_,rfl,l,rfl,⟨_,cN.of hl⟩,λD nD=>?_⟩;refine jB (xs:=lvs) (λi σ' H'=>∃(o:Option V),σ'=[some (.ref l),none,none,none,none,o]/\H' D=some (.lst ((gf (ls.take i)).map V.str))/\aK H H') ?_ ?_ ?_ ?_
 ·exact⟨none,rfl,ag,(aK.refl H).new nD⟩
 ·rintro i σ' H' _ ⟨o,rfl,_,s⟩;exact cN.of (s _ _ hl)
 ·rintro i v σ' H' hv ⟨o,rfl,hD,s⟩;obtain⟨r,hr,la⟩:=uc hA hv;have la':=gK.mono la (.of_same s);obtain⟨p,xs,rfl,hp⟩:=gK.ref la';have nt:=HK ls i hr;refine⟨_,rfl,Zb hp rfl (.inl ⟨rfl,_,rfl,bL (λc=>?_) (λc=>?_)⟩)⟩
  ·have c:A1 r="part":=by injection c
   have ip:=oQ.mp c;cases r with
   |part x ps=>
    obtain⟨p',q',e,hp',_⟩:=la';cases e;refine⟨_,rfl,Zb hp' rfl ⟨_,hD,cg ?_,_,rfl,?_,fH s nD⟩⟩
    ·rw[af];have:=CG (ls.take i);have:(ls.take i).length<=ls.length:=by rw[aX];lia
     lia
    ·rw[ag,nt,aG];rfl
   |_=>cases ip
  ·refine⟨_,rfl,?_,s⟩;have np:ud r=none:=by
    cases r with
    |part x ps=>exact absurd rfl c
    |_=>rfl
   rw[hD,nt,np];show _=some (HO.lst ((gf (ls.take i)++[]).map V.str));rw[dn]
 ·rintro σ' H1 ⟨o,_,hD,s1⟩;rw[al,bA (aB _)] at hD;have nf:=CG ls;generalize gf ls=nm at hD nf q;show j7 K _ [some (.ref l),some (.ref D),none,none,none] H1;refine λd nd=>?_;show j6 K _ [some (.ref l),some (.ref D),some (.ref d),none,none] _;have s2:aK H (upd H1 d (.dK [])):=s1.new nd;have hd2:upd H1 d (.dK []) d=some (.dK []):=ag;have hD2:upd H1 d (.dK []) D=some (.lst (nm.map V.str)):=by rw[aL (aC hD nd)];exact hD
  generalize upd H1 d (.dK [])=H2 at s2 hd2 hD2 ⊢;have dH:H d=none:=s1.free nd;refine⟨_,rfl,D,rfl,⟨_,cN.of hD2⟩,uU (xs:=nm.map V.str) (λi σ' H'=>∃(o3 o4:Option V) (kvs:List (iy×V)),σ'=[some (.ref l),some (.ref D),some (.ref d),o3,o4]/\H' d=some (.dK kvs)/\kvs.length<=i/\(∀y,jd kvs (Sum.inr y)=if y∈nm.take i then some (V.int ((jQ nm y:Nat):Int)) else none)/\H' D=some (.lst (nm.map V.str))/\aK H H')
   ⟨_,_,[],rfl,hd2,b9 _,λy=>by simp[GQ],hD2,s2⟩ ?_ ?_ ?_⟩
  ·rintro i σ' H' _ ⟨_,_,_,_,_,_,_,h3,_⟩;exact cN.of h3
  ·rintro i v σ' H3 a hv na ⟨o3,o4,kvs,rfl,hd,kl,kq,hD3,s3⟩;obtain⟨y,hy,rfl⟩:=sy hv;have hi:i<nm.length:=(aj.mp hy).1;refine⟨a,_,rfl,dA.of ag,rfl,_,_,rfl,_,_,rfl,rfl,?_⟩;have sa:aK H3 (upd H3 a (.tup [.int (i:Nat),.str y])):=(aK.refl H3).new na;show j4 K _ [some (.ref l),some (.ref D),some (.ref d),some (.int (i:Nat)),some (.str y)] _;generalize upd H3 a (.tup [.int (i:Nat),.str y])=H4 at sa ⊢;have hd4:=sa _ _ hd;have hD4:=sa _ _ hD3;have tk:nm.take (i+1)=nm.take i++[y]:=by rw[bN,hy];rfl
   refine⟨_,rfl,_,rfl,d,_,rfl,uJ.k (k:=Sum.inr y) hd4,_,rfl,?_⟩;rw[kq y];by_cases c:y∈nm.take i
   ·rw[if_pos c];refine ff ⟨_,_,kvs,rfl,hd4,by lia,λz=>?_,hD4,s3.trans sa⟩;rw[kq z,tk];by_cases cz:z∈nm.take i
    ·rw[if_pos cz,if_pos (bX _ cz)]
    ·rw[if_neg cz,if_neg λh=>by
      rcases aV.mp h with h|h
      ·exact cz h
      ·rw[ax.mp h] at cz;exact cz c]
   ·rw[if_neg c];refine lu ⟨_,rfl,_,rfl,_,rfl,d,_,rfl,EK.k (k:=Sum.inr y) hd4 (cg (by lia)),?_⟩;have nDd:D≠d:=λz=>by rw[z,hd4] at hD4;cases hD4
    have lk:(lR kvs (Sum.inr y) (V.int (i:Nat))).length<=i+1:=by
     rw[zX _ (by rw[kq y,if_neg c]),aN];show kvs.length+1<=i+1;lia
    refine⟨_,_,_,rfl,ag,lk,λz=>?_,by rw[aL nDd];exact hD4,fH (s3.trans sa) dH⟩;rw[ON,tk];by_cases cz:z=y
    ·subst cz;rw[if_pos rfl,if_pos (bI _ (ax.mpr rfl)),Cr hy c]
    ·rw[if_neg λh=>cz (Sum.inr.inj h),kq z];by_cases cz2:z∈nm.take i
     ·rw[if_pos cz2,if_pos (bX _ cz2)]
     ·rw[if_neg cz2,if_neg λh=>by
       rcases aV.mp h with h|h
       ·exact cz2 h
       ·exact cz (ax.mp h)]
  ·rintro σ' H3 ⟨o3,o4,kvs,rfl,hd,_,kq,_,s3⟩;rw[af,bA (aB _)] at kq;exact⟨_,rfl,q d H3 ⟨kvs,hd,kq⟩ s3⟩
def Cn{r:dw}:A1 r="call"↔∃x f as,r=.call x f as:=by
 cases r<;>first|exact⟨λ_=>⟨_,_,_,rfl⟩,λ_=>rfl⟩|exact⟨λz=>absurd z (by simp only[A1];decide +kernel),λ⟨_,_,_,z⟩=>by cases z⟩
def wF{K:Fg}(T:Ke K){vs:List V}{H:Hp}{Q:VK}{E:XK}(h:jX K vs H Q E):px K E {nx:=λ_ H'=>Q .non H',rt:=Q} (cQ oH vs) H:=by
 obtain⟨l,d,ls,rfl,⟨lvs,hl,hA⟩,hN,q1,q2⟩:=h;have al:lvs.length=ls.length:=by rw[hA.len,af]
 refine⟨_,rfl,l,rfl,⟨_,cN.of hl⟩,uU (xs:=lvs) (λi σ' H'=>∃o1 o2,σ'=[some (.ref l),some (.ref d),o1,o2]/\aK H H'/\∀j,j<i->¬sP ls j) ⟨_,_,rfl,aK.refl H,λj z=>absurd z (cE _)⟩ ?_ ?_ ?_⟩
 ·rintro i σ' H' _ ⟨_,_,_,s,_⟩;exact cN.of (s _ _ hl)
 ·rintro i v σ' H1 a hv na ⟨o1,o2,rfl,s1,ah⟩;obtain⟨r,hr,la⟩:=uc hA hv;refine⟨a,_,rfl,dA.of ag,rfl,_,_,rfl,_,_,rfl,rfl,?_⟩;have s2:aK H (upd H1 a (.tup [.int (i:Nat),v])):=s1.new na;show mK K E _ [some (.ref l),some (.ref d),some (.int (i:Nat)),some v] _;generalize upd H1 a (.tup [.int (i:Nat),v])=H2 at s2 ⊢;have on:¬sP ls i->∃o1 o2,[some (V.ref l),some (.ref d),some (.int (i:Nat)),some v]=[some (.ref l),some (.ref d),o1,o2]/\aK H H2/\∀j,j<i+1->¬sP ls j:=λnf=>⟨_,_,rfl,s2,λj lt=>by
   rcases dD.mp lt with z|z
   ·exact ah j z
   ·rw[z];exact nf⟩
  have la2:=gK.mono la (.of_same s2);obtain⟨p,xs,rfl,hp⟩:=gK.ref la2;refine⟨_,rfl,Zb hp rfl (.inl ⟨rfl,_,rfl,bL (λc=>?_) (λc=>ff (on ?_))⟩)⟩
  ·obtain⟨x,f,as,rfl⟩:=Cn.mp (by injection c);obtain⟨p',q',e,hp',_⟩:=la2;cases e;obtain⟨kvs,hd,kq⟩:=hN.mono s2;refine⟨_,rfl,Zb hp' rfl ⟨_,rfl,d,_,rfl,uJ.k (k:=Sum.inr f) hd,_,rfl,?_⟩⟩;rw[kq f];by_cases cf:f∈gf ls
   ·rw[if_pos cf];refine ff (on ?_);rintro⟨x',f',as',e,nf⟩;rw[hr] at e;cases e;exact nf cf
   ·rw[if_neg cf];exact lu (Af T (i:=2) (n:=i) rfl s2 (q2 i ⟨⟨x,f,as,hr,cf⟩,ah⟩))
  ·rintro⟨x',f',as',e,_⟩;rw[hr] at e;cases e;exact c rfl
 ·rintro σ' H' ⟨_,_,_,s,ah⟩;refine q1 (λn f=>?_) H' s;obtain⟨x',f',as',e,_⟩:=id f;exact ah n (by rw[al];exact(aj.mp e).1) f
def Eg{K:Fg}{vs:List V}{H:Hp}{Q:VK}{E:XK}(h:oh K vs H Q E):vz K {nx:=λ_ H'=>Q .non H',rt:=Q} (cQ uL vs) H:=by
 obtain⟨v,d,r,nm,rfl,la,np,hN,hc,q⟩:=h;obtain⟨p,xs,rfl,hp⟩:=gK.ref la;refine⟨_,rfl,Zb hp rfl (.inl ⟨rfl,_,rfl,bL (λc=>?_) (λc=>?_)⟩)⟩
 ·obtain⟨x,f,as,rfl⟩:=Cn.mp (by injection c);obtain⟨p',t,e,hp',ht⟩:=la;cases e;obtain⟨kvs,hd,kq⟩:=hN;have kf:=kq f;rw[if_pos (hc x f as rfl)] at kf;refine⟨_,rfl,Zb hp' rfl ⟨_,rfl,_,rfl,Zb hp' rfl ⟨d,_,rfl,(by rw[<-kf];exact uJ.k (k:=Sum.inr f) hd),_,rfl,Zb hp' rfl ⟨Zg,λu nu=>?_⟩⟩⟩⟩;exact q _ _ ⟨u,t,rfl,ag,(aK.refl H).new nu _ _ ht⟩ ((aK.refl H).new nu)
 ·refine⟨_,rfl,q _ H ?_ (aK.refl H)⟩;cases r with
  |part x ps=>cases np
  |call x f as=>exact absurd rfl c
  |num x z=>exact la
  |op x s a b=>exact la
  |say a=>exact la
  |jump to=>exact la
  |test a to=>exact la
  |give a=>exact la
structure Ma where
 p:ar
 q:ar
 a:ar
 rvs:List V
 b:bp
structure IT(H:Hp)(e:Ma):Prop where
 tp:H e.p=some (.tup [.str e.b.name,.ref e.q,.ref e.a])
 tq:H e.q=some (.tup (e.b.params.map V.str))
 la:H e.a=some (.lst e.rvs)
 rw_:b3 (eI H) e.rvs e.b.rows
def IT.mono{H H':Hp}{e:Ma}(h:IT H e)(t:Tp H H')(l:H' e.a=some (.lst e.rvs)):IT H' e:=⟨t _ _ h.tp,t _ _ h.tq,l,h.rw_.imp λ_ _ z=>z.mono t⟩
structure PB(H0 H:Hp)(P:ar)(es:List Ma):Prop where
 lp:H P=some (.lst (es.map λe=>V.ref e.p))
 nd:(es.map (·.a)).Nodup
 np:P∉es.map (·.a)
 ok:∀e∈es,IT H e/\H0 e.a=none
def PB.same{H0 H H':Hp}{P:ar}{es:List Ma}(h:PB H0 H P es)(s:aK H H'):PB H0 H' P es:=
 ⟨s _ _ h.lp,h.nd,h.np,λe he=>⟨(h.ok e he).1.mono (.of_same s) (s _ _ (h.ok e he).1.la),(h.ok e he).2⟩⟩
def Hg(acc:List bp)(w:dQ)(h:acc≠[]):(vW acc w).length=acc.length:=by
 obtain⟨a,b,rfl⟩:∃a b,acc=a++[b]:=⟨acc.dropLast,acc.getLast h,(List.dropLast_concat_getLast h).symm⟩;rw[qV,aN,aN];rfl
def Se{nm:List Str}{acc:List bp}{r:dw}(h:acc≠[]):Mp nm acc r≠[]:=by
 cases c:lq r with
 |true=>
  cases r with
  |part x ps=>show acc++_≠[];simp
  |_=>cases c
 |false=>
  rw[DI c];intro z;have:=Hg acc (sU nm r) h;rw[z] at this;exact h (dO.mp this.symm)
def R9{nm:List Str}{r0:dw}{ls:List dw}(h0:ls[0]?=some r0)(hp:lq r0=true):∀i,0<i->(ls.take i).foldl (Mp nm) []≠[]:=by
 intro i
 induction i with
 |zero=>intro z;cases z
 |succ i ih=>
  intro _;by_cases c:0<i
  ·cases e:ls[i]? with
   |none=>rw[bN,e];simpa using ih c
   |some r=>rw[bN,e,mS];exact Se (ih c)
  ·have:i=0:=by lia
   subst this;rw[bN,h0];cases r0 with
   |part x ps=>show[]++_≠[];simp
   |_=>cases hp
def PL{K:Fg}{p:ar}{xs:List V}{v:V}{H:Hp}{Q:VK}(h:cN K H p xs)(e:xs[xs.length-1]?=some v)(q:Q v H):cV K (.ref p) (.int (-1)) H Q:=by
 have lt:xs.length-1<xs.length:=(aj.mp e).1;refine .inl ⟨p,xs,-1,v,rfl,rfl,h,?_,q⟩;unfold OY PM;rw[if_neg (by decide),if_pos (by lia)];show xs[((-1:Int)+(xs.length:Int)).toNat]?=some v;rw[show((-1:Int)+(xs.length:Int)).toNat=xs.length-1 by lia];exact e
def Ae{K:Fg}{vs:List V}{H:Hp}{Q:VK}{E:XK}(h:lG K vs H Q E):rL K {nx:=λ_ H'=>Q .non H',rt:=Q} (cQ mi vs) H:=by
 obtain⟨l,d,ls,rfl,⟨lvs,hl,hA⟩,few,hN,nf,nc,q⟩:=h;have al:lvs.length=ls.length:=by rw[hA.len,af]
 refine⟨Zc,λP nP=>?_⟩;show pw K _ [some (.ref l),some (.ref d),some (.ref P),none] _;have s1:aK H (upd H P (.lst [])):=(aK.refl H).new nP;have hP1:upd H P (.lst []) P=some (.lst []):=ag;generalize upd H P (.lst [])=H1 at s1 hP1 ⊢;refine .inl ⟨_,rfl,l,rfl,⟨_,cN.of (s1 _ _ hl)⟩,qY (xs:=lvs) (λi σ' H'=>∃(o3:Option V) (es:List Ma),σ'=[some (.ref l),some (.ref d),some (.ref P),o3]/\PB H H' P es/\es.map (·.b)=(ls.take i).foldl (Mp (gf ls)) []/\es.length<=i/\(∀e∈es,e.rvs.length<=i)/\aK H H')
  ⟨_,[],rfl,⟨hP1,List.nodup_nil,(by simp),λe he=>by cases he⟩,rfl,b9 _,(λe he=>by cases he),s1⟩ ?_ ?_ ?_⟩
 ·rintro i σ' H' _ ⟨_,_,_,_,_,_,_,s⟩;exact cN.of (s _ _ hl)
 ·rintro i v σ' H2 hv ⟨o3,es,rfl,pb,eb,el,er,s2⟩;obtain⟨r,hr,la⟩:=uc hA hv;have hi:i<ls.length:=(aj.mp hr).1;have la2:=gK.mono la (.of_same s2);have tk:(ls.take (i+1)).foldl (Mp (gf ls)) []=Mp (gf ls) (es.map (·.b)) r:=by
   rw[bN,hr,mS,<-eb];rfl
  show pj K _ [some (.ref l),some (.ref d),some (.ref P),some v] H2;obtain⟨p0,xs0,rfl,hp0⟩:=gK.ref la2;refine⟨_,rfl,Zb hp0 rfl (.inl ⟨rfl,_,rfl,bL (λc=>?_) (λc=>?_)⟩)⟩
  ·have ip:=oQ.mp (by injection c);cases r with
   |part x ps=>
    obtain⟨p',t,e,hp',ht⟩:=la2;cases e;refine⟨_,rfl,.inl ⟨rfl,_,cN.of pb.lp⟩,_,rfl,Zb hp' rfl ⟨_,rfl,Zb hp' rfl ⟨Zc,λa na=>⟨Zf,λu nu=>?_⟩⟩⟩⟩;have s3:aK H2 (upd H2 a (.lst [])):=(aK.refl H2).new na;have ha3:upd H2 a (.lst []) a=some (.lst []):=ag;generalize upd H2 a (.lst [])=H3 at s3 ha3 nu ⊢;have s4:aK H3 (upd H3 u (.tup [.str x,.ref t,.ref a])):=(aK.refl H3).new nu;have hu4:upd H3 u (.tup [.str x,.ref t,.ref a]) u=some (.tup [.str x,.ref t,.ref a]):=ag;generalize upd H3 u (.tup [.str x,.ref t,.ref a])=H4 at s4 hu4 ⊢;have s24:=s3.trans s4;have hP4:=s24 _ _ pb.lp;refine⟨P,_,_,rfl,rfl,hP4,cg (by rw[af];lia),?_⟩;have nPa:P≠a:=λz=>by rw[z] at hP4;have:=pb.lp;rw[z,na] at this;cases this
    have t4:Tp H2 (upd H4 P (.lst (es.map (λe=>V.ref e.p)++[.ref u]))):=(Tp.of_same s24).lst hP4;have aH:H a=none:=s2.free na;refine⟨_,es++[⟨u,t,a,[],⟨x,ps,[]⟩⟩],rfl,⟨?_,?_,?_,λe he=>?_⟩,?_,by rw[aN];show es.length+1<=i+1;lia,λe he=>?_,fH (s2.trans s24) nP⟩
    ·rw[ag,aG];rfl
    ·rw[aG];refine List.nodup_append.mpr ⟨pb.nd,by simp,λb hb c hc=>?_⟩;have ec:c=a:=by simpa using hc
     subst ec;obtain⟨e,he,rfl⟩:=bF.mp hb;exact λz=>by have:=(pb.ok e he).1.la;rw[z,na] at this;cases this
    ·rw[aG,aV];rintro(z|z)
     ·exact pb.np z
     ·exact nPa (by simpa using z)
    ·rcases aV.mp he with he|he
     ·obtain⟨ok,hn⟩:=pb.ok e he;refine⟨ok.mono t4 ?_,hn⟩;have ne:e.a≠P:=λz=>pb.np (bF.mpr ⟨e,he,z⟩);rw[aL ne];exact s24 _ _ ok.la
     ·have:e=⟨u,t,a,[],⟨x,ps,[]⟩⟩:=by simpa using he
      subst this;refine⟨⟨?_,t4 _ _ ht,?_,b3.nil⟩,aH⟩
      ·show upd H4 P _ u=_;rw[aL (λz=>by rw[z,hP4] at hu4;cases hu4)];exact hu4
      ·show upd H4 P _ a=_;rw[aL (Ne.symm nPa)];exact s4 _ _ ha3
    ·rw[tk,aG];rfl
    ·rcases aV.mp he with he|he
     ·have:=er e he;lia
     ·have:e=⟨u,t,a,[],⟨x,ps,[]⟩⟩:=by simpa using he
      subst this;exact b9 _
   |_=>cases ip
  ·have np:lq r=false:=by
    cases z:lq r with
    |false=>rfl
    |true=>exact absurd (by rw[oQ.mpr z]) c
   have ne:es≠[]:=by
    obtain⟨r0,h0⟩:∃r0,ls[0]?=some r0:=⟨ls[0],ao (by lia)⟩;have hp:lq r0=true:=by
     cases z:lq r0 with
     |true=>rfl
     |false=>exact absurd (.inr ⟨rfl,r0,by rw[aQ,h0];rfl,z⟩) (nf 0)
    have i0:0<i:=by
     apply Nat.pos_of_ne_zero;intro z;rw[z,h0] at hr;cases hr;rw[hp] at np;cases np
    intro z;have:=R9 (nm:=gf ls) h0 hp i i0;rw[<-eb,z] at this;exact this rfl
   obtain⟨es0,e,rfl⟩:∃a b,es=a++[b]:=⟨es.dropLast,es.getLast ne,(List.dropLast_concat_getLast ne).symm⟩;have ee:e∈es0++[e]:=bI _ (by simp);obtain⟨ok,hn⟩:=pb.ok e ee;have lastv:((es0++[e]).map λe=>V.ref e.p)[((es0++[e]).map λe=>V.ref e.p).length-1]?=some (.ref e.p):=by
    rw[aG,aN];show((es0.map λe=>V.ref e.p)++[V.ref e.p])[(es0.map λe=>V.ref e.p).length+1-1]?=_;rw[Nat.add_sub_cancel,bV (aB _),jM];rfl
   refine⟨_,rfl,_,rfl,PL (cN.of pb.lp) lastv (Zb ok.tp rfl ⟨.inl ⟨rfl,_,cN.of ok.la⟩,_,rfl,_,rfl,_,d,r,gf ls,rfl,la2,np,hN.mono s2,λx f as z=>?_,λw H3 rw s3=>?_⟩)⟩
   ·apply Classical.byContradiction;intro cf;exact nc i ⟨x,f,as,by rw[hr,z],cf⟩
   have la3:=s3 _ _ ok.la;have pb3:=pb.same s3;refine⟨e.a,_,_,rfl,rfl,la3,cg (by have:=er e ee;lia),?_⟩;have t4:Tp H3 (upd H3 e.a (.lst (e.rvs++[w]))):=(Tp.refl H3).lst la3;have nPa:P≠e.a:=λz=>pb.np (bF.mpr ⟨e,ee,z.symm⟩);refine⟨_,es0++[⟨e.p,e.q,e.a,e.rvs++[w],⟨e.b.name,e.b.params,e.b.rows++[sU (gf ls) r]⟩⟩],rfl,⟨?_,?_,?_,λe' he=>?_⟩,?_,?_,λe' he=>?_,fH (s2.trans s3) hn⟩
   ·rw[aL nPa,pb3.lp,aG,aG];rfl
   ·have:=pb.nd;rw[aG] at this ⊢;exact this
   ·have:=pb.np;rw[aG] at this ⊢;exact this
   ·have ok3:=(pb3.ok e ee).1;rcases aV.mp he with he|he
    ·obtain⟨ok',hn'⟩:=pb3.ok e' (bX _ he);refine⟨ok'.mono t4 ?_,hn'⟩;have nd:=pb.nd;rw[aG] at nd;have dj:=(List.nodup_append.mp nd).2.2 e'.a (bF.mpr ⟨e',he,rfl⟩) e.a (by simp);rw[aL dj];exact ok'.la
    ·have:e'=⟨e.p,e.q,e.a,e.rvs++[w],⟨e.b.name,e.b.params,e.b.rows++[sU (gf ls) r]⟩⟩:=by simpa using he
     subst this;exact⟨⟨t4 _ _ ok3.tp,t4 _ _ ok3.tq,ag,(ok3.rw_.imp λ_ _ z=>z.mono t4).snoc (rw.mono t4)⟩,hn⟩
   ·rw[tk,DI np,aG,aG];show _=vW (es0.map (·.b)++[e.b]) _;rw[qV];rfl
   ·rw[aN] at el ⊢;exact Nat.le_succ_of_le el
   ·rcases aV.mp he with he|he
    ·have:=er e' (bX _ he);lia
    ·have:e'=⟨e.p,e.q,e.a,e.rvs++[w],⟨e.b.name,e.b.params,e.b.rows++[sU (gf ls) r]⟩⟩:=by simpa using he
     subst this;have:=er e ee;show(e.rvs++[w]).length<=i+1;rw[aN];show e.rvs.length+1<=i+1;lia
 ·rintro σ' H2 ⟨o3,es,rfl,pb,eb,el,er,s2⟩;rw[al,bA (aB _)] at eb;have eb:es.map (·.b)=u7 ls:=eb;rw[al] at el;show ph K _ [some (.ref l),some (.ref d),some (.ref P),o3] H2;refine .inl ⟨_,rfl,P,rfl,⟨_,cN.of pb.lp⟩,λD nD=>?_⟩;refine jB (xs:=es.map λe=>V.ref e.p) (λi σ' H'=>∃(o:Option V) (pvs:List V),σ'=[some (.ref l),some (.ref d),some (.ref P),o3,o]/\H' D=some (.lst pvs)/\b3 (jh H') pvs ((es.take i).map (·.b))/\aK H2 H') ?_ ?_ ?_ ?_
  ·exact⟨none,[],rfl,ag,b3.nil,(aK.refl H2).new nD⟩
  ·rintro i σ' H' _ ⟨o,pvs,rfl,_,_,s⟩;exact cN.of (s _ _ pb.lp)
  ·rintro i v σ' H3 hv ⟨o,pvs,rfl,hD,hP,s3⟩;rw[aQ] at hv;obtain⟨e,he,rfl⟩:=b5.mp hv;have hi:i<es.length:=(aj.mp he).1;obtain⟨ok,_⟩:=(pb.same s3).ok e (aD he);refine iq ⟨_,rfl,Zb ok.tp rfl ⟨_,rfl,Zb ok.tp rfl ⟨_,rfl,Zb ok.tp rfl ⟨e.a,_,rfl,.inl ⟨cN.of ok.la,λt nt=>⟨Zf,λu nu=>?_⟩⟩⟩⟩⟩⟩;have s4:aK H3 (upd (upd H3 t (.tup e.rvs)) u (.tup [.str e.b.name,.ref e.q,.ref t])):=((aK.refl H3).new nt).new nu;have ht4:upd (upd H3 t (.tup e.rvs)) u (.tup [.str e.b.name,.ref e.q,.ref t]) t=some (.tup e.rvs):=(aK.refl _).new nu _ _ ag;have hu4:upd (upd H3 t (.tup e.rvs)) u (.tup [.str e.b.name,.ref e.q,.ref t]) u=some (.tup [.str e.b.name,.ref e.q,.ref t]):=ag;generalize upd (upd H3 t (.tup e.rvs)) u (.tup [.str e.b.name,.ref e.q,.ref t])=H4 at s4 ht4 hu4 ⊢;have hD4:=s4 _ _ hD;have t5:Tp H4 (upd H4 D (.lst (pvs++[.ref u]))):=(Tp.refl H4).lst hD4;have T5:Tp H3 (upd H4 D (.lst (pvs++[.ref u]))):=(Tp.of_same s4).trans t5;have pl:pvs.length<=i:=by rw[hP.len,af,aX];lia
   refine⟨_,hD4,cg (by lia),_,pvs++[.ref u],rfl,ag,?_,fH (s3.trans s4) nD⟩;rw[bN,he,aG];exact(hP.imp λ_ _ z=>z.mono T5).snoc ⟨u,e.q,t,e.rvs,rfl,t5 _ _ hu4,T5 _ _ ok.tq,t5 _ _ ht4,ok.rw_.imp λ_ _ z=>z.mono T5⟩
  ·rintro σ' H3 ⟨o,pvs,_,hD,hP,s3⟩;rw[af,bA (aB _),eb] at hP;refine⟨D,_,rfl,.inl ⟨cN.of hD,λt nt=>?_⟩⟩;exact q t _ ⟨pvs,ag,hP.imp λ_ _ z=>z.mono (.of_same ((aK.refl H3).new nt))⟩ ((s2.trans s3).new nt)
def Ny{E:XK}{n:Int}{C:ar}{H:Hp}(h:∀(dx:ar) (H':Hp),aK H H'->H' dx=some (XD dx (y8 n))->E (.ref C) (some dx) H') :
  ∀(dx:ar) (H':Hp),aK H H'->H' dx=some (XD dx (y8 n))->(oR λ_=>E) (.ref C) (some dx) H':=λdx H' s g x C' T' ec hx nd hT nx=>
 h dx _ (s.new hT) (by rw[aL (aC g hT)];exact g)
def zw:∀(L:List (Option dw)),(∀n:Nat,L[n]?≠some none)->∃ls:List dw,L=ls.map some
 |[],_=>⟨[],rfl⟩
 |none::r,h=>absurd rfl (h 0)
 |some x::r,h=>by
  obtain⟨ls,e⟩:=zw r λn z=>h (n+1) (by simpa using z);exact⟨x::ls,by rw[e];rfl⟩
def Oc{K:Fg}{vs:List V}{H:Hp}{Q:VK}{E:XK}(h:sx K vs H Q E):GA K E {nx:=λ_ H'=>Q .non H',rt:=Q} (cQ zb vs) H:=by
 obtain⟨x,rfl,hx,q1,q2⟩:=h;have few:(Txt.split x "\n").length<=99000:=by have:=CN x "\n";lia
 refine .inl ⟨_,rfl,rfl,x,"\n",rfl,rfl,by decide +kernel,(by have:=cg (n:=x.length+3) (by lia);lia),λl nl=>?_⟩;have s0:aK H (upd H l (.lst ((Txt.split x "\n").map V.str))):=(aK.refl H).new nl;have hl0:upd H l (.lst ((Txt.split x "\n").map V.str)) l=some (.lst ((Txt.split x "\n").map V.str)):=ag;generalize upd H l (.lst ((Txt.split x "\n").map V.str))=H0 at s0 hl0 ⊢;refine⟨l,rfl,⟨_,cN.of hl0⟩,λD nD=>?_⟩;refine jB (xs:=(Txt.split x "\n").map V.str) (λi σ' H'=>∃(o:Option V) (lvs:List V),σ'=[some (.str x),none,none,none,o]/\H' D=some (.lst lvs)/\b3 (uK H') lvs (((Txt.split x "\n").take i).map λy=>lineOf? (Txt.split y " "))/\aK H0 H') ?_ ?_ ?_ ?_
 ·exact⟨none,[],rfl,ag,b3.nil,(aK.refl H0).new nD⟩
 ·rintro i σ' H' _ ⟨o,lvs,rfl,_,_,s⟩;exact cN.of (s _ _ hl0)
 ·rintro i v σ' H1 hv ⟨o,lvs,rfl,hD,hA,s1⟩;obtain⟨y,hy,rfl⟩:=sy hv;have hi:i<(Txt.split x "\n").length:=(aj.mp hy).1;have hyl:y.length<=90000:=by have:=xM (aD hy);lia
  refine iq ⟨_,rfl,y,rfl,hyl,λv H2 la s2=>?_⟩;have hD2:=s2 _ _ hD;have t3:Tp H2 (upd H2 D (.lst (lvs++[v]))):=(Tp.refl H2).lst hD2;have ll:lvs.length<=i:=by rw[hA.len,af,aX];lia
  refine⟨_,hD2,cg (by lia),_,lvs++[v],rfl,ag,?_,fH (s1.trans s2) nD⟩;rw[bN,hy,aG];exact(hA.imp λ_ _ z=>z.mono ((Tp.of_same s2).trans t3)).snoc (la.mono t3)
 ·rintro σ' H1 ⟨o,lvs,_,hD,hA,s1⟩;rw[af,bA (aB _)] at hA;have hA:b3 (uK H1) lvs (parse x):=hA;have S1:=s0.trans s1;have fewp:(parse x).length<=99000:=by show(List.map _ _).length<=99000;rw[af];exact few
  show AL K E _ [some (.str x),some (.ref D),none,none] H1;refine⟨_,rfl,D,parse x,rfl,⟨lvs,hD,hA⟩,λnf H2 s2=>?_,λn f=>Ny λdx H' s g=>q1 n f dx H' (S1.trans s) g⟩;obtain⟨ls,els⟩:=zw (parse x) λn z=>nf n (.inl z);obtain⟨q3,q4⟩:=q2 ls els nf;have S2:=S1.trans s2;have L2:lP H2 D (ls.map some):=by rw[<-els];exact lP.mono ⟨lvs,hD,hA⟩ s2
  have fewl:ls.length<=99000:=by rw[els,af] at fewp;exact fewp
  show AK K E _ [some (.str x),some (.ref D),none,none] H2;refine⟨_,rfl,D,ls,rfl,L2,fewl,λd H3 hN s3=>?_⟩;have S3:=S2.trans s3;show AJ K E _ [some (.str x),some (.ref D),some (.ref d),none] H3;refine⟨_,rfl,_,rfl,D,d,ls,rfl,L2.mono s3,hN,λnc H4 s4=>?_,λn f=>Ny λdx H' s g=>q3 n f dx H' (S3.trans s) g⟩;obtain⟨wd,q5,q6⟩:=q4 nc;have S4:=S3.trans s4;show AI K E _ [some (.str x),some (.ref D),some (.ref d),none] H4;refine⟨_,rfl,_,rfl,D,d,ls,rfl,(L2.mono s3).mono s4,fewl,hN.mono s4,by rw[<-els];exact nf,nc,λp H5 hp s5=>?_⟩;have S5:=S4.trans s5;show AH K E _ [some (.str x),some (.ref D),some (.ref d),some (.ref p)] H5;refine⟨_,rfl,p,_,rfl,hp,wd,λcl H6 s6=>⟨_,rfl,q5 cl p H6 (hp.mono (.of_same s6)) (S5.trans s6)⟩,λk n w f=>Nz λdx H' s g=>q6 k n w f dx H' (S5.trans s) g⟩
def RB{K:Fg}{H:Hp}{l:ar}{sep:Str}{ws:List Str}{b:Nat}{Q:VK}(hl:H l=some (.lst (ws.map V.str)))(hb:∀w∈ws,w.length<=b)(hs:sep.length=1)(hn:ws.length*(b+1)<=100000)(q:Q (.str (Txt.join sep ws)) H):ke K (.str sep) [.ref l] H Q:=by
 refine⟨sep,l,ws,rfl,rfl,cN.of hl,?_,q⟩;have h2:(ws.map (·.length)).sum<=ws.length*b:=StrLaws.sumLen_le ws hb;have:ws.length*(b+1)=ws.length*b+ws.length:=Nat.mul_succ ..;rw[hs];lia
def Ju{sep:Str}{ws:List Str}{b:Nat}(hb:∀w∈ws,w.length<=b)(hs:sep.length=1)(hn:ws.length*(b+1)<=100000):(ws.map (·.length)).sum+ws.length*sep.length<=16777216:=by
 have h2:(ws.map (·.length)).sum<=ws.length*b:=StrLaws.sumLen_le ws hb;have:ws.length*(b+1)=ws.length*b+ws.length:=Nat.mul_succ ..;rw[hs];lia
def hU{K:Fg}{H:Hp}{l:ar}{ps:List bp}{r:dQ}{Q:VK}(hn:∀b∈ps,b.name.length<=8)(hw:xk ps r)(hl:H l=some (.lst ((lI ps r).map V.str)))(q:Q (.str (uZ ps r)) H):ke K (.str " ") [.ref l] H Q:=by
 obtain⟨h1,h2⟩:=Ng hn hw;have:(lI ps r).length*21<=12*21:=dv _ h1;exact RB hl h2 Vg (by lia) q
def F4{K:Fg}{vs:List V}{H:Hp}{Q:VK}{E:XK}(h:pT K vs H Q E):xQ K {nx:=λ_ H'=>Q .non H',rt:=Q} (cQ xf vs) H:=by
 obtain⟨p,v,ps,r,rfl,hp,hn,hr,hw,q⟩:=h;cases r with
 |num x z=>
  obtain⟨t,rfl,ht⟩:=hr;refine⟨_,rfl,Zb ht rfl ?_⟩;refine⟨_,rfl,.inl ⟨rfl,_,rfl,ED ?_⟩⟩;refine⟨rfl,_,rfl,Zb ht rfl ⟨_,rfl,Zb ht rfl ⟨z,rfl,hw.2,λH1 s1=>⟨Zf,λl nl=>?_⟩⟩⟩⟩;exact hU (r:=.num x z) hn hw ag (q _ (s1.new nl))
 |op x s a b=>
  obtain⟨t,rfl,ht⟩:=hr;refine⟨_,rfl,Zb ht rfl ?_⟩;refine⟨_,rfl,.inl ⟨rfl,_,rfl,Za ?_⟩⟩;refine⟨_,rfl,.inl ⟨rfl,_,rfl,ED ?_⟩⟩;refine⟨rfl,_,rfl,Zb ht rfl ⟨_,rfl,Zb ht rfl ⟨_,rfl,Zb ht rfl ⟨_,rfl,Zb ht rfl ⟨Zh,λl nl=>?_⟩⟩⟩⟩⟩;exact hU (r:=.op x s a b) hn hw ag (q _ ((aK.refl H).new nl))
 |call x k as=>
  obtain⟨t,u,rfl,ht,hu⟩:=hr;obtain⟨h1,h2,h3,h4,h5⟩:=id hw;obtain⟨b,eb,_,en⟩:=rY h2 h3;obtain⟨pvs,hpt,hA⟩:=hp;have hk:k.toNat<pvs.length:=by rw[hA.len];exact(aj.mp eb).1
  obtain⟨pa,q0,r0,rs0,epv,hpa,_⟩:=hA.at_ k.toNat _ b (ao hk) eb;refine⟨_,rfl,Zb ht rfl ?_⟩;refine⟨_,rfl,.inl ⟨rfl,_,rfl,Za ?_⟩⟩;refine⟨_,rfl,.inl ⟨rfl,_,rfl,Za ?_⟩⟩;refine⟨_,rfl,.inl ⟨rfl,_,rfl,ED ?_⟩⟩;refine⟨rfl,_,rfl,Zb ht rfl ⟨_,rfl,_,rfl,Zb ht rfl (cJ hpt h2 (by rw[ao hk,epv]) (Zb hpa rfl ⟨Zg,λl nl=>?_⟩))⟩⟩;have s1:aK H (upd H l (.lst [.str x,.str "=",.str "call",.str b.name])):=(aK.refl H).new nl;have hl1:upd H l (.lst [.str x,.str "=",.str "call",.str b.name]) l=some (.lst [.str x,.str "=",.str "call",.str b.name]):=ag;generalize upd H l (.lst [.str x,.str "=",.str "call",.str b.name])=H1 at s1 hl1 ⊢;refine⟨_,rfl,cJ (s1 _ _ ht) (by decide) rfl ⟨u,_,rfl,.inr (dA.of (s1 _ _ hu)),λl2 nl2=>?_⟩⟩;have s2:aK H1 (upd H1 l2 (.lst (as.map V.str))):=(aK.refl H1).new nl2;have hl2:upd H1 l2 (.lst (as.map V.str)) l2=some (.lst (as.map V.str)):=ag;generalize upd H1 l2 (.lst (as.map V.str))=H2 at s2 hl2 ⊢;refine .inr (.inr (.inl ⟨l,l2,_,_,rfl,rfl,s2 _ _ hl1,hl2,di (cg (by rw[af];show 4+as.length<=_;lia)),λl3 nl3=>?_⟩));refine hU (r:=.call x k as) hn hw ?_ (q _ ((s1.trans s2).new nl3));rw[ag];show some (HO.lst _)=some (HO.lst ((x::"="::"call"::pO ps k::as).map V.str));rw[en];rfl
 |say a=>
  obtain⟨t,rfl,ht⟩:=hr;refine⟨_,rfl,Zb ht rfl ?_⟩;refine⟨_,rfl,.inl ⟨rfl,_,rfl,Za ?_⟩⟩;refine⟨_,rfl,.inl ⟨rfl,_,rfl,Za ?_⟩⟩;refine⟨_,rfl,.inl ⟨rfl,_,rfl,Za ?_⟩⟩;refine⟨_,rfl,.inl ⟨rfl,_,rfl,Za ?_⟩⟩;refine⟨_,rfl,.inl ⟨rfl,_,rfl,Za ?_⟩⟩;refine⟨rfl,_,rfl,_,rfl,Zb ht rfl ⟨Ze,λl nl=>?_⟩⟩;exact hU (r:=.say a) hn hw ag (q _ ((aK.refl H).new nl))
 |jump to=>
  obtain⟨t,rfl,ht⟩:=hr;refine⟨_,rfl,Zb ht rfl ?_⟩;refine⟨_,rfl,.inl ⟨rfl,_,rfl,Za ?_⟩⟩;refine⟨_,rfl,.inl ⟨rfl,_,rfl,Za ?_⟩⟩;refine⟨_,rfl,.inl ⟨rfl,_,rfl,Za ?_⟩⟩;refine⟨_,rfl,.inl ⟨rfl,_,rfl,ED ?_⟩⟩;refine⟨rfl,_,rfl,_,rfl,Zb ht rfl ⟨to,rfl,hw,λH1 s1=>⟨Ze,λl nl=>?_⟩⟩⟩;exact hU (r:=.jump to) hn hw ag (q _ (s1.new nl))
 |test a to=>
  obtain⟨t,rfl,ht⟩:=hr;refine⟨_,rfl,Zb ht rfl ?_⟩;refine⟨_,rfl,.inl ⟨rfl,_,rfl,Za ?_⟩⟩;refine⟨_,rfl,.inl ⟨rfl,_,rfl,Za ?_⟩⟩;refine⟨_,rfl,.inl ⟨rfl,_,rfl,Za ?_⟩⟩;refine⟨_,rfl,.inl ⟨rfl,_,rfl,Za ?_⟩⟩;refine⟨_,rfl,.inl ⟨rfl,_,rfl,ED ?_⟩⟩;refine⟨rfl,_,rfl,_,rfl,Zb ht rfl ⟨_,rfl,Zb ht rfl ⟨to,rfl,hw.2,λH1 s1=>⟨Zf,λl nl=>?_⟩⟩⟩⟩;exact hU (r:=.test a to) hn hw ag (q _ (s1.new nl))
 |give a=>
  obtain⟨t,rfl,ht⟩:=hr;refine⟨_,rfl,Zb ht rfl ?_⟩;refine⟨_,rfl,.inl ⟨rfl,_,rfl,Za ?_⟩⟩;refine⟨_,rfl,.inl ⟨rfl,_,rfl,Za ?_⟩⟩;refine⟨_,rfl,.inl ⟨rfl,_,rfl,Za ?_⟩⟩;refine⟨_,rfl,.inl ⟨rfl,_,rfl,Za ?_⟩⟩;refine⟨_,rfl,.inl ⟨rfl,_,rfl,Za ?_⟩⟩;refine⟨rfl,_,rfl,_,rfl,Zb ht rfl ⟨Ze,λl nl=>?_⟩⟩;exact hU (r:=.give a) hn hw ag (q _ ((aK.refl H).new nl))
def Ft{ps:List bp}{b:bp}(h:DC ps b):(("part":Str)::b.name::b.params).length*9<=90:=by
 have:=(se h).1;lia
def qa{ps:List bp}{i:Nat}{b:bp}(h:ps[i]?=some b):((ps.take (i+1)).map (eA ps)).flatten=((ps.take i).map (eA ps)).flatten++eA ps b:=by
 rw[bN,h,aG,List.flatten_append];show _++(eA ps b++[])=_;rw[dn]
def AW{ps:List bp}(hp:mj ps)(i:Nat):((ps.take i).map (eA ps)).flatten.length<=520:=by
 have h1:=(wz hp (ps.take i) λb hb=>dU hb).1;have h2:(ps.take i).length<=8:=by rw[aX];have:=hp.few;lia
 have:(ps.take i).length*65<=8*65:=dv _ h2;lia
def Li{K:Fg}{vs:List V}{H:Hp}{Q:VK}{E:XK}(h:mI K vs H Q E):C4 K {nx:=λ_ H'=>Q .non H',rt:=Q} (cQ vO vs) H:=by
 obtain⟨p,ps,rfl,hp,hw,q⟩:=h;obtain⟨pvs,hpt,hA⟩:=id hp;have hn:∀b∈ps,b.name.length<=8:=λb hb=>(hw.part b hb).nm;refine⟨Zc,λL nL=>?_⟩;show xU K _ [some (.ref p),some (.ref L),none] _;have s1:aK H (upd H L (.lst [])):=(aK.refl H).new nL;have hL1:upd H L (.lst []) L=some (.lst []):=ag;generalize upd H L (.lst [])=H1 at s1 hL1 ⊢;refine .inr ⟨_,rfl,p,rfl,⟨_,dA.of (s1 _ _ hpt)⟩,kJ (xs:=pvs) (λi σ' H'=>∃(o:Option V),σ'=[some (.ref p),some (.ref L),o]/\H' L=some (.lst ((((ps.take i).map (eA ps)).flatten).map V.str))/\aK H H') ⟨_,rfl,hL1,s1⟩ ?_ ?_ ?_⟩
 ·rintro i σ' H' _ ⟨_,_,_,s⟩;exact dA.of (s _ _ hpt)
 ·rintro i v σ' H2 hv ⟨o,rfl,hL,s2⟩;obtain⟨b,hb,pa⟩:=hA.of_v hv;have bm:=aD hb;have wb:=hw.part b bm;have lf:=AW hw i;have lf1:=AW hw (i+1);rw[qa hb,aN] at lf1;obtain⟨pp,pq,pr,rvs,rfl,h1,h2,h3,h4⟩:=pa.mono (.of_same s2);show xT K _ [some (.ref p),some (.ref L),some (.ref pp)] H2;refine⟨_,rfl,.inl ⟨rfl,_,cN.of hL⟩,rfl,_,rfl,Zb h1 rfl ⟨Ze,λl nl=>?_⟩⟩;have s3:aK H2 (upd H2 l (.lst [.str "part",.str b.name])):=(aK.refl H2).new nl;have hl3:upd H2 l (.lst [.str "part",.str b.name]) l=some (.lst [.str "part",.str b.name]):=ag;generalize upd H2 l (.lst [.str "part",.str b.name])=H3 at s3 hl3 ⊢;refine⟨_,rfl,cJ (s3 _ _ h1) (by decide) rfl ⟨pq,_,rfl,.inr (dA.of (s3 _ _ h2)),λl2 nl2=>?_⟩⟩;have s4:aK H3 (upd H3 l2 (.lst (b.params.map V.str))):=(aK.refl H3).new nl2;have hl4:upd H3 l2 (.lst (b.params.map V.str)) l2=some (.lst (b.params.map V.str)):=ag;generalize upd H3 l2 (.lst (b.params.map V.str))=H4 at s4 hl4 ⊢;refine .inr (.inr (.inl ⟨l,l2,_,_,rfl,rfl,s4 _ _ hl3,hl4,di (cg (by rw[af];have:=wb.p8;show 2+b.params.length<=_;lia)),λl3 nl3=>?_⟩));have s5:aK H4 (upd H4 l3 (.lst ([.str "part",.str b.name]++b.params.map V.str))):=(aK.refl H4).new nl3;have hl5:upd H4 l3 (.lst ([.str "part",.str b.name]++b.params.map V.str)) l3=some (.lst ((("part":Str)::b.name::b.params).map V.str)):=ag;generalize upd H4 l3 (.lst ([.str "part",.str b.name]++b.params.map V.str))=H5 at s5 hl5 ⊢;have s25:=(s3.trans s4).trans s5;refine⟨_,l3,_,rfl,rfl,cN.of hl5,Ju (se wb).2 Vg (by have:=Ft wb;lia),L,_,_,rfl,rfl,s25 _ _ hL,cg (by rw[af];lia),?_⟩;have hL5:=s25 _ _ hL;have S6:aK H (upd H5 L (.lst ((((ps.take i).map (eA ps)).flatten).map V.str++[.str (mw b)]))):=fH (s2.trans s25) nL;have t6:Tp H5 (upd H5 L (.lst ((((ps.take i).map (eA ps)).flatten).map V.str++[.str (mw b)]))):=(Tp.refl H5).lst hL5;have hL6:upd H5 L (.lst ((((ps.take i).map (eA ps)).flatten).map V.str++[.str (mw b)])) L=some (.lst ((((ps.take i).map (eA ps)).flatten++[mw b]).map V.str)):=by rw[ag,aG];rfl
  show xS K _ [some (.ref p),some (.ref L),some (.ref pp)] (upd H5 L (.lst ((((ps.take i).map (eA ps)).flatten).map V.str++[.str (mw b)])));generalize upd H5 L (.lst ((((ps.take i).map (eA ps)).flatten).map V.str++[.str (mw b)]))=H6 at S6 t6 hL6 ⊢;have T6:Tp H2 H6:=(Tp.of_same s25).trans t6;refine⟨_,rfl,.inl ⟨rfl,_,cN.of hL6⟩,.inr ⟨_,rfl,cJ (T6 _ _ h1) (by decide) rfl ⟨pr,rfl,⟨_,dA.of (T6 _ _ h3)⟩,λD nD=>?_⟩⟩⟩;refine uS (xs:=rvs) (λj σ' H'=>∃(o:Option V),σ'=[some (.ref p),some (.ref L),some (.ref pp),o]/\H' D=some (.lst (((b.rows.take j).map (uZ ps)).map V.str))/\aK H6 H') ?_ ?_ ?_ ?_
  ·exact⟨none,rfl,ag,(aK.refl H6).new nD⟩
  ·rintro j σ' H' _ ⟨o,rfl,_,s⟩;exact dA.of (s _ _ (T6 _ _ h3))
  ·rintro j v σ' H7 hv ⟨o,rfl,hD,s7⟩;obtain⟨r,hr,ra⟩:=h4.of_v hv;have rm:=aD hr;have jl:j<b.rows.length:=(aj.mp hr).1;have few:=wb.few;refine iq ⟨_,rfl,_,rfl,p,v,ps,r,rfl,hp.mono (.of_same (S6.trans s7)),hn,ra.mono (T6.trans (.of_same s7)),wb.rows r rm,λH8 s8=>⟨_,s8 _ _ hD,cg (by rw[af,af,aX];lia),_,rfl,?_,fH (s7.trans s8) nD⟩⟩;rw[ag,bN,hr,aG,aG];rfl
  ·rintro σ' H7 ⟨o,_,hD,s7⟩;rw[h4.len,bA (aB _)] at hD;have hL7:=s7 _ _ hL6;refine⟨L,D,_,_,rfl,rfl,hL7,hD,di (cg ?_),_,rfl,?_,fH (S6.trans s7) nL⟩
   ·have few:=wb.few;rw[af,af,af,aN];show _+1+_<=_;lia
   ·rw[ag,qa hb,<-aG];unfold eA;rw[dM];rfl
 ·rintro σ' H2 ⟨o,rfl,hL,s2⟩;rw[hA.len,bA (aB _)] at hL;obtain⟨f1,f2⟩:=pL hw;have:(lB ps).length*109<=520*109:=dv _ f1;have hL:H2 L=some (.lst ((lB ps).map V.str)):=hL;exact⟨rfl,_,rfl,RB hL f2 Vs (by lia) (q H2 s2)⟩
def si(sep x y:Str)(r:List Str):Txt.join sep (x::y::r)=x++sep++Txt.join sep (y::r):=by
 show aS.Str.glued sep (x::y::r)=x++sep++aS.Str.glued sep (y::r);rw[StrLaws.glued_eq_join,StrLaws.glued_eq_join];rfl
def xF{K:Fg}{H:Hp}{a b:Str}{Q:VK}(h:a.length+b.length<=100000)(q:Q (.str (a++b)) H):d9 K (.str a) (.str b) H Q:=.inr (.inl ⟨a,b,rfl,rfl,di (cg h),q⟩)
def ML:(" = ":Str)=(" ":Str)++"="++" ":=by decide +kernel
def c3:(" = ":Str).length=3:=by decide +kernel
def c1:(" ":Str).length=1:=by decide +kernel
def Nh(ps:List bp)(x:Str)(z:Int):uZ ps (.num x z)=x++" = "++sN z:=by
 show Txt.join " " [x,"=",sN z]=_;rw[si,zG,ML];simp only[Ce]
def P2(ps:List bp)(x s a b:Str):uZ ps (.op x s a b)=x++" = "++a++" "++s++" "++b:=by
 show Txt.join " " [x,"=",a,s,b]=_;rw[si,si,si,zG,ML];simp only[Ce]
def R8(v:V)(w:Str):Prop:=v=.str w\/∃z:Int,v=.int z/\IR z/\w=sN z
def vG{K:Fg}{H:Hp}{p t:ar}{xs:List V}{ws:List Str}{Q:VK}(ht:H t=some (.tup xs))(few:ws.length<=1000)(al:b3 R8 xs ws)(q:∀(D:ar) (H':Hp),H' D=some (.lst (ws.map V.str))->aK H H'->Q (.ref D) H') :
  hW [] 1 (jR K (au 1)) (aW 2) oj (fS (wC) (ai (au 2) aJ)) [some (.ref p),some (.ref t)] H Q:=by
 refine .inr ⟨_,rfl,t,rfl,⟨_,dA.of ht⟩,λD nD=>?_⟩;refine uS (xs:=xs) (λi σ' H'=>∃(o:Option V),σ'=[some (.ref p),some (.ref t),o]/\H' D=some (.lst ((ws.take i).map V.str))/\aK H H') ?_ ?_ ?_ ?_
 ·exact⟨none,rfl,ag,(aK.refl H).new nD⟩
 ·rintro i σ' H' _ ⟨o,rfl,_,s⟩;exact dA.of (s _ _ ht)
 ·rintro i v σ' H1 hv ⟨o,rfl,hD,s1⟩;obtain⟨w,hw,wa⟩:=al.of_v hv;have hi:i<ws.length:=(aj.mp hw).1;have fin:∃ys,H1 D=some (.lst ys)/\ys.length<av/\∃(o:Option V),([some (V.ref p),some (.ref t),some v]:St)=[some (.ref p),some (.ref t),o]/\upd H1 D (.lst (ys++[.str w])) D=some (.lst ((ws.take (i+1)).map V.str))/\aK H (upd H1 D (.lst (ys++[.str w]))):=
   ⟨_,hD,cg (by rw[af,aX];lia),_,rfl,by rw[ag,bN,hw,aG];rfl,fH s1 nD⟩
  rcases wa with rfl|⟨z,rfl,iz,rfl⟩
  ·exact iq ⟨_,rfl,.inr ⟨w,rfl,fin⟩⟩
  ·exact iq ⟨_,rfl,.inl ⟨z,rfl,D4 iz,fin⟩⟩
 ·rintro σ' H1 ⟨o,_,hD,s1⟩;rw[al.len,bA (aB _)] at hD;exact q D H1 hD s1
def Ig{K:Fg}{vs:List V}{H:Hp}{Q:VK}{E:XK}(h:rF K vs H Q E):AV K {nx:=λ_ H'=>Q .non H',rt:=Q} (cQ tX vs) H:=by
 obtain⟨p,v,ps,r,rfl,hp,hn,hr,hw,q⟩:=h;cases r with
 |num x z=>
  obtain⟨t,rfl,ht⟩:=hr;have h20:=ur hw.2;refine⟨_,rfl,Zb ht rfl (.inl ⟨rfl,_,rfl,ED ?_⟩)⟩;refine⟨_,rfl,Zb ht rfl (xF (by rw[c3];have:=hw.1;lia) ⟨_,rfl,Zb ht rfl (.inl ⟨z,rfl,D4 hw.2,xF (a:=x++" = ") (b:=sN z) (by rw[gF,c3];have:=hw.1;lia) ?_⟩)⟩)⟩;rw[<-Nh ps];exact q H (aK.refl H)
 |op x s a b=>
  obtain⟨t,rfl,ht⟩:=hr;obtain⟨h1,h2,h3,h4⟩:=hw;refine⟨_,rfl,Zb ht rfl (.inl ⟨rfl,_,rfl,Za ?_⟩)⟩;refine⟨_,rfl,Zb ht rfl (.inl ⟨rfl,_,rfl,ED ?_⟩)⟩;refine⟨_,rfl,Zb ht rfl (xF (by rw[c3];lia) ⟨_,rfl,Zb ht rfl (xF (by rw[gF,c3];lia) (xF (by rw[gF,gF,c3,c1];lia) ⟨_,rfl,Zb ht rfl (xF (by rw[gF,gF,gF,c3,c1];lia) (xF (by rw[gF,gF,gF,gF,c3,c1];lia) ⟨_,rfl,Zb ht rfl (xF (by rw[gF,gF,gF,gF,gF,c3,c1];lia) ?_)⟩))⟩))⟩)⟩;rw[<-P2 ps];exact q H (aK.refl H)
 |call x k as=>
  obtain⟨t,u,rfl,ht,hu⟩:=hr;obtain⟨h1,h2,h3,h4,h5⟩:=id hw;obtain⟨b,eb,_,en⟩:=rY h2 h3;obtain⟨pvs,hpt,hA⟩:=hp;have hk:k.toNat<pvs.length:=by rw[hA.len];exact(aj.mp eb).1
  obtain⟨pa,q0,r0,rs0,epv,hpa,_⟩:=hA.at_ k.toNat _ b (ao hk) eb;refine⟨_,rfl,Zb ht rfl (.inl ⟨rfl,_,rfl,Za ?_⟩)⟩;refine⟨_,rfl,Zb ht rfl (.inl ⟨rfl,_,rfl,Za ?_⟩)⟩;refine⟨_,rfl,Zb ht rfl (.inl ⟨rfl,_,rfl,ED ?_⟩)⟩;refine⟨rfl,_,rfl,Zb ht rfl ⟨_,rfl,_,rfl,Zb ht rfl (cJ hpt h2 (by rw[ao hk,epv]) (Zb hpa rfl ⟨Zg,λl nl=>?_⟩))⟩⟩;have s1:aK H (upd H l (.lst [.str x,.str "=",.str "call",.str b.name])):=(aK.refl H).new nl;have hl1:upd H l (.lst [.str x,.str "=",.str "call",.str b.name]) l=some (.lst [.str x,.str "=",.str "call",.str b.name]):=ag;generalize upd H l (.lst [.str x,.str "=",.str "call",.str b.name])=H1 at s1 hl1 ⊢;refine⟨_,rfl,cJ (s1 _ _ ht) (by decide) rfl ⟨u,_,rfl,.inr (dA.of (s1 _ _ hu)),λl2 nl2=>?_⟩⟩;have s2:aK H1 (upd H1 l2 (.lst (as.map V.str))):=(aK.refl H1).new nl2;have hl2:upd H1 l2 (.lst (as.map V.str)) l2=some (.lst (as.map V.str)):=ag;generalize upd H1 l2 (.lst (as.map V.str))=H2 at s2 hl2 ⊢;refine .inr (.inr (.inl ⟨l,l2,_,_,rfl,rfl,s2 _ _ hl1,hl2,di (cg (by rw[af];show 4+as.length<=_;lia)),λl3 nl3=>?_⟩));refine hU (r:=.call x k as) hn hw ?_ (q _ ((s1.trans s2).new nl3));rw[ag];show some (HO.lst _)=some (HO.lst ((x::"="::"call"::pO ps k::as).map V.str));rw[en];rfl
 |say a=>
  obtain⟨t,rfl,ht⟩:=hr;refine⟨_,rfl,Zb ht rfl (.inl ⟨rfl,_,rfl,Za ?_⟩)⟩;refine⟨_,rfl,Zb ht rfl (.inl ⟨rfl,_,rfl,Za ?_⟩)⟩;refine⟨_,rfl,Zb ht rfl (.inl ⟨rfl,_,rfl,Za ?_⟩)⟩;exact⟨rfl,vG ht (ws:=["say",a]) (by show 2<=1000;decide) ((b3.nil.snoc (.inl rfl)).snoc (.inl rfl)) λD H' hD s=>hU (r:=.say a) hn hw hD (q H' s)⟩
 |jump to=>
  obtain⟨t,rfl,ht⟩:=hr;refine⟨_,rfl,Zb ht rfl (.inl ⟨rfl,_,rfl,Za ?_⟩)⟩;refine⟨_,rfl,Zb ht rfl (.inl ⟨rfl,_,rfl,Za ?_⟩)⟩;refine⟨_,rfl,Zb ht rfl (.inl ⟨rfl,_,rfl,Za ?_⟩)⟩;exact⟨rfl,vG ht (ws:=["jump",sN to]) (by show 2<=1000;decide) ((b3.nil.snoc (.inl rfl)).snoc (.inr ⟨to,rfl,hw,rfl⟩)) λD H' hD s=>hU (r:=.jump to) hn hw hD (q H' s)⟩
 |test a to=>
  obtain⟨t,rfl,ht⟩:=hr;refine⟨_,rfl,Zb ht rfl (.inl ⟨rfl,_,rfl,Za ?_⟩)⟩;refine⟨_,rfl,Zb ht rfl (.inl ⟨rfl,_,rfl,Za ?_⟩)⟩;refine⟨_,rfl,Zb ht rfl (.inl ⟨rfl,_,rfl,Za ?_⟩)⟩;exact⟨rfl,vG ht (ws:=["test",a,sN to]) (by show 3<=1000;decide) (((b3.nil.snoc (.inl rfl)).snoc (.inl rfl)).snoc (.inr ⟨to,rfl,hw.2,rfl⟩)) λD H' hD s=>hU (r:=.test a to) hn hw hD (q H' s)⟩
 |give a=>
  obtain⟨t,rfl,ht⟩:=hr;refine⟨_,rfl,Zb ht rfl (.inl ⟨rfl,_,rfl,Za ?_⟩)⟩;refine⟨_,rfl,Zb ht rfl (.inl ⟨rfl,_,rfl,Za ?_⟩)⟩;refine⟨_,rfl,Zb ht rfl (.inl ⟨rfl,_,rfl,Za ?_⟩)⟩;exact⟨rfl,vG ht (ws:=["give",a]) (by show 2<=1000;decide) ((b3.nil.snoc (.inl rfl)).snoc (.inl rfl)) λD H' hD s=>hU (r:=.give a) hn hw hD (q H' s)⟩
def Q3{K:Fg}{vs:List V}{H:Hp}{Q:VK}{E:XK}(h:vi K vs H Q E):JT K {nx:=λ_ H'=>Q .non H',rt:=Q} (cQ IZ vs) H:=by
 obtain⟨p,ps,rfl,hp,hw,q⟩:=h;obtain⟨pvs,hpt,hA⟩:=id hp;have hn:∀b∈ps,b.name.length<=8:=λb hb=>(hw.part b hb).nm;refine⟨Zc,λL nL=>?_⟩;show CU K _ [some (.ref p),some (.ref L),none,none,none,none] _;have s1:aK H (upd H L (.lst [])):=(aK.refl H).new nL;have hL1:upd H L (.lst []) L=some (.lst []):=ag;generalize upd H L (.lst [])=H1 at s1 hL1 ⊢;refine .inr ⟨_,rfl,p,rfl,⟨_,dA.of (s1 _ _ hpt)⟩,kJ (xs:=pvs) (λi σ' H'=>∃(o2 o3 o4 o5:Option V),σ'=[some (.ref p),some (.ref L),o2,o3,o4,o5]/\H' L=some (.lst ((((ps.take i).map (eA ps)).flatten).map V.str))/\aK H H') ⟨_,_,_,_,rfl,hL1,s1⟩ ?_ ?_ ?_⟩
 ·rintro i σ' H' _ ⟨_,_,_,_,_,_,s⟩;exact dA.of (s _ _ hpt)
 ·rintro i v σ' H2 hv ⟨o2,o3,o4,o5,rfl,hL,s2⟩;obtain⟨b,hb,pa⟩:=hA.of_v hv;have bm:=aD hb;have wb:=hw.part b bm;have lf1:=AW hw (i+1);rw[qa hb,aN] at lf1;have lfb:(eA ps b).length=b.rows.length+1:=by unfold eA;rw[aP,af]
  obtain⟨pp,pq,pr,rvs,rfl,h1,h2,h3,h4⟩:=pa.mono (.of_same s2);refine⟨pp,_,rfl,dA.of h1,rfl,_,_,rfl,_,_,rfl,_,_,rfl,rfl,?_⟩;show CT K _ [some (.ref p),some (.ref L),some (.str b.name),some (.ref pq),some (.ref pr),o5] H2;refine⟨_,rfl,.inl ⟨rfl,_,cN.of hL⟩,rfl,_,rfl,Ze,λl nl=>?_⟩;have s3:aK H2 (upd H2 l (.lst [.str "part",.str b.name])):=(aK.refl H2).new nl;have hl3:upd H2 l (.lst [.str "part",.str b.name]) l=some (.lst [.str "part",.str b.name]):=ag;generalize upd H2 l (.lst [.str "part",.str b.name])=H3 at s3 hl3 ⊢;refine⟨_,rfl,pq,_,rfl,.inr (dA.of (s3 _ _ h2)),λl2 nl2=>?_⟩;have s4:aK H3 (upd H3 l2 (.lst (b.params.map V.str))):=(aK.refl H3).new nl2;have hl4:upd H3 l2 (.lst (b.params.map V.str)) l2=some (.lst (b.params.map V.str)):=ag;generalize upd H3 l2 (.lst (b.params.map V.str))=H4 at s4 hl4 ⊢;refine .inr (.inr (.inl ⟨l,l2,_,_,rfl,rfl,s4 _ _ hl3,hl4,di (cg (by rw[af];have:=wb.p8;show 2+b.params.length<=_;lia)),λl3 nl3=>?_⟩));have s5:aK H4 (upd H4 l3 (.lst ([.str "part",.str b.name]++b.params.map V.str))):=(aK.refl H4).new nl3;have hl5:upd H4 l3 (.lst ([.str "part",.str b.name]++b.params.map V.str)) l3=some (.lst ((("part":Str)::b.name::b.params).map V.str)):=ag;generalize upd H4 l3 (.lst ([.str "part",.str b.name]++b.params.map V.str))=H5 at s5 hl5 ⊢;have s25:=(s3.trans s4).trans s5;have hL5:=s25 _ _ hL;refine⟨_,l3,_,rfl,rfl,cN.of hl5,Ju (se wb).2 Vg (by have:=Ft wb;lia),L,_,_,rfl,rfl,hL5,cg (by rw[af];lia),?_⟩;have S6:aK H (upd H5 L (.lst ((((ps.take i).map (eA ps)).flatten).map V.str++[.str (mw b)]))):=fH (s2.trans s25) nL;have t6:Tp H5 (upd H5 L (.lst ((((ps.take i).map (eA ps)).flatten).map V.str++[.str (mw b)]))):=(Tp.refl H5).lst hL5;have hL6:upd H5 L (.lst ((((ps.take i).map (eA ps)).flatten).map V.str++[.str (mw b)])) L=some (.lst ((((ps.take i).map (eA ps)).flatten++[mw b]).map V.str)):=by rw[ag,aG];rfl
  show CS K _ [some (.ref p),some (.ref L),some (.str b.name),some (.ref pq),some (.ref pr),o5] (upd H5 L (.lst ((((ps.take i).map (eA ps)).flatten).map V.str++[.str (mw b)])));generalize upd H5 L (.lst ((((ps.take i).map (eA ps)).flatten).map V.str++[.str (mw b)]))=H6 at S6 t6 hL6 ⊢;have T6:Tp H2 H6:=(Tp.of_same s25).trans t6;refine .inr ⟨_,rfl,pr,rfl,⟨_,dA.of (T6 _ _ h3)⟩,kJ (xs:=rvs) (λj σ' H'=>∃(o5:Option V),σ'=[some (.ref p),some (.ref L),some (.str b.name),some (.ref pq),some (.ref pr),o5]/\H' L=some (.lst ((((ps.take i).map (eA ps)).flatten++mw b::(b.rows.take j).map (uZ ps)).map V.str))/\Tp H2 H'/\aK H H') ⟨_,rfl,hL6,T6,S6⟩ ?_ ?_ ?_⟩
  ·rintro j σ' H' _ ⟨_,_,_,t,_⟩;exact dA.of (t _ _ h3)
  ·rintro j v σ' H7 hv ⟨o5,rfl,hL7,t7,s7⟩;obtain⟨r,hr,ra⟩:=h4.of_v hv;have rm:=aD hr;have jl:j<b.rows.length:=(aj.mp hr).1;show CQ K _ [some (.ref p),some (.ref L),some (.str b.name),some (.ref pq),some (.ref pr),some v] H7;refine⟨_,rfl,.inl ⟨rfl,_,cN.of hL7⟩,_,rfl,_,rfl,p,v,ps,r,rfl,hp.mono (.of_same s7),hn,ra.mono t7,wb.rows r rm,λH8 s8=>?_⟩;have hL8:=s8 _ _ hL7;refine⟨L,_,_,rfl,rfl,hL8,cg ?_,_,rfl,?_,(t7.trans (.of_same s8)).lst hL8,fH (s7.trans s8) nL⟩
   ·rw[af,aN,aP,af,aX];lia
   ·rw[ag,bN,hr,aG (l₁:=b.rows.take j)];simp only[aG,aY,dM,List.cons_append];rfl
  ·rintro σ' H7 ⟨o5,rfl,hL7,t7,s7⟩;rw[h4.len,bA (aB _)] at hL7;refine⟨_,_,_,_,rfl,?_,s7⟩;rw[hL7,qa hb];rfl
 ·rintro σ' H2 ⟨o2,o3,o4,o5,rfl,hL,s2⟩;rw[hA.len,bA (aB _)] at hL;exact⟨_,rfl,q L H2 nL hL s2⟩
def u0{α:Type}:∀{a b:List α},a.map some=b.map some->a=b
 |[],[],_=>rfl
 |[],y::b,h=>by cases h
 |x::a,[],h=>by cases h
 |x::a,y::b,h=>by
  rw[aY,aY] at h;injection h with h1 h2;rw[Option.some.inj h1,u0 h2]
def De{ps:List bp}(nm:jO ps)(n:Nat):¬qQ (oG (parse (rQ ps))) n:=λf=>by
 rw[zU nm] at f;exact absurd f.1 (MS nm.pos n)
def yN{ps:List bp}(nm:jO ps)(nd:(ps.map (·.name)).Nodup){ls:List dw}(e:parse (rQ ps)=ls.map some):(∀n,¬sP ls n)/\u7 ls=ps:=by
 rw[zU nm] at e;have:=u0 e;subst this;exact⟨Ms nm,Ld nm nd⟩
def Js{ys:List Str}{cs:List Nat}{bs:List dr}(ok:tY ys cs bs):jO (bs.map dr.up):=by
 refine⟨by have:=ok.pos;intro z;have:(bs.map dr.up).length=0:=(by rw[z];rfl);rw[af] at this;lia,by rw[af];have:=ok.few;lia,λb' hb'=>?_⟩;obtain⟨b,hb,rfl⟩:=bF.mp hb';have p:=ok.part b hb;have pl:b.params.length<=4:=ok.c4 _ (by rw[<-ok.cnt];exact bF.mpr ⟨b,hb,rfl⟩);refine⟨ok.nnm b hb,by show b.params.length<=8;lia,λy hy=>ok.ynm y (p.pin y hy),by show(b.rows.map bU.up).length<64;rw[af];have:=p.few;lia,λr' hr'=>?_⟩;obtain⟨r,hr,rfl⟩:=bF.mp (show r'∈b.rows.map bU.up from hr');have q:=p.rows r hr;have few:=p.few;have big:∀n:Nat,n<b.rows.length->IR (n:Nat):=λn h=>by
  have h61:n<61:=by lia
  exact⟨by lia,Int.lt_of_lt_of_le (b:=61) (by lia) (by decide)⟩
 cases r with
 |num x z=>exact⟨ok.ynm x q.1,q.2⟩
 |op x s a b=>exact⟨ok.ynm x q.1,q.2.1,ok.ynm a q.2.2.1,ok.ynm b q.2.2.2⟩
 |call x k as=>
  have hk:=(aj.mp q.2.1).1;have h4:as.length<=4:=ok.c4 _ (aD q.2.1);rw[<-ok.cnt,af] at hk;exact⟨ok.ynm x q.1,by lia,by rw[af];lia,by lia,λa ha=>ok.ynm a (q.2.2 a ha)⟩
 |say a=>exact ok.ynm a q
 |jump to=>exact big to q
 |test a to=>exact⟨ok.ynm a q.1,big to q.2⟩
 |give a=>exact ok.ynm a q
def OL(bs:List dr):(bs.map dr.up).map (·.name)=bs.map (·.name):=by rw[dN];rfl
def GU.mono{H H':Hp}(s:aK H H'):∀{d:Nat} {x y:V},GU H d x y->GU H' d x y
 |0,_,_,h=>h
 |d+1,x,y,h=>by
  rcases h with h|⟨p,q,xs,ys,e1,e2,h1,h2,l,f,a⟩
  ·exact .inl h
  ·exact .inr ⟨p,q,xs,ys,e1,e2,s _ _ h1,s _ _ h2,l,f,λi u v e e'=>GU.mono s (a i u v e e')⟩
def RD{K:Fg}{p:ar}{xs:List V}{H:Hp}(h:H p=some (.tup xs)):L6 K (.ref p) H xs.length:=.inr ⟨xs,dA.of h,rfl⟩
def JF{K:Fg}{d:Nat}{vs:List V}{H:Hp}{Q:VK}{E:XK}(h:vh d vs H Q E):Er K (u6 d) {nx:=λ_ H'=>Q .non H',rt:=Q} (cQ yC vs) H:=by
 obtain⟨x,y,rfl,hd,q⟩:=h;have flat:Uk x y->Er K (u6 d) {nx:=λ_ H'=>Q .non H',rt:=Q} [some x,some y] H:=λf=>by
  rcases f with⟨z,rfl,rfl⟩|⟨z,rfl,rfl⟩
  ·refine⟨_,rfl,_,_,_,rfl,.str_tuple z,_,rfl,ff ?_⟩;refine⟨_,rfl,_,rfl,.inl ⟨z,rfl,_,rfl,lu ?_⟩⟩;exact⟨_,rfl,_,rfl,.inl ⟨z,rfl,_,rfl,lu ⟨_,rfl,_,rfl,.inl ⟨rfl,by rw[decide_eq_true rfl];exact q H (aK.refl H)⟩⟩⟩⟩
  ·refine⟨_,rfl,_,_,_,rfl,.int_tuple z,_,rfl,ff ?_⟩;refine⟨_,rfl,_,rfl,.inr ⟨z,rfl,_,rfl,ff ?_⟩⟩;refine⟨_,rfl,_,_,_,rfl,.int_int z,_,rfl,lu ⟨_,rfl,_,_,_,rfl,.int_bool z,_,rfl,_,rfl,lu ⟨_,rfl,_,rfl,.inl ⟨rfl,?_⟩⟩⟩⟩;rw[decide_eq_true rfl];exact q H (aK.refl H)
 cases d with
 |zero=>exact flat hd
 |succ d=>
  rcases hd with hd|⟨p1,p2,xs,ys,rfl,rfl,h1,h2,ll,few,al⟩
  ·exact flat hd
  ·refine⟨_,rfl,_,_,_,rfl,.tup_tuple (dA.of h2),_,rfl,lu ?_⟩;refine⟨_,rfl,_,_,_,rfl,.tup_tuple (dA.of h1),_,rfl,ff ⟨_,rfl,_,_,rfl,RD h1,_,rfl,_,_,rfl,RD h2,.inl ⟨rfl,_,rfl,?_⟩⟩⟩;refine nU (λz=>absurd (by rw[ll]) z) λ_=>?_;show CP K _ _ [some (.ref p1),some (.ref p2)] H;refine⟨_,rfl,_,rfl,true,true,p1,p2,rfl,⟨_,dA.of h1⟩,⟨_,dA.of h2⟩,λD nD=>?_⟩;refine Kj (t1:=true) (t2:=true) (xs:=xs) (ys:=ys) (by lia) (λi σ' H'=>∃(o2 o3:Option V),σ'=[some (.ref p1),some (.ref p2),o2,o3]/\H' D=some (.lst ((bB i true).map V.bl))/\aK H H') ?_ ?_ ?_ ?_
   ·exact⟨none,none,rfl,ag,(aK.refl H).new nD⟩
   ·rintro i σ' H' _ ⟨_,_,_,_,s⟩;exact⟨dA.of (s _ _ h1),dA.of (s _ _ h2)⟩
   ·rintro i u v σ' H1 pp hu hv np ⟨o2,o3,rfl,hD,s1⟩;have hi:i<xs.length:=(aj.mp hu).1;refine⟨pp,_,rfl,dA.of ag,rfl,_,_,rfl,_,_,rfl,rfl,?_⟩;have s2:aK H1 (upd H1 pp (.tup [u,v])):=(aK.refl H1).new np;show uq D oj _ _ [some (.ref p1),some (.ref p2),some u,some v] (upd H1 pp (.tup [u,v]));generalize upd H1 pp (.tup [u,v])=H2 at s2 ⊢;refine iq ⟨_,rfl,_,rfl,u,v,rfl,(al i u v hu hv).mono (s1.trans s2),λH3 s3=>⟨_,s3 _ _ (s2 _ _ hD),cg (by rw[af,cB];lia),_,_,rfl,?_,fH ((s1.trans s2).trans s3) nD⟩⟩;rw[ag,kM,aG];rfl
   ·rintro σ' H1 ⟨o2,o3,_,hD,s1⟩;refine⟨D,_,rfl,cN.of hD,?_⟩;rw[show(bB xs.length true).all id=true from by simp];exact q H1 s1
def zW{H:Hp}{p p':ar}{ps:List bp}(h:eQ H p ps)(h':eQ H p' ps)(wd:qU ps):GU H 5 (.ref p) (.ref p'):=by
 obtain⟨pvs,hp,hA⟩:=h;obtain⟨pvs',hp',hA'⟩:=h';have flatS:∀(d:Nat) (ss:List Str) (a b:ar),H a=some (.tup (ss.map V.str))->H b=some (.tup (ss.map V.str))->ss.length<=100->GU H (d+1) (.ref a) (.ref b):=λd ss a b ha hb l=>
  .inr ⟨a,b,_,_,rfl,rfl,ha,hb,rfl,by rw[af];lia,λi u v e e'=>by
   rw[e] at e';cases e';obtain⟨y,_,rfl⟩:=sy e;cases d with
   |zero=>exact .inl ⟨y,rfl,rfl⟩
   |succ d=>exact .inl (.inl ⟨y,rfl,rfl⟩)⟩
 have row:∀(r:dQ) (u v:V),(Og r).length<=100->eI H u r->eI H v r->GU H 2 u v:=λr u v l hu hv=>by
  have two:∀(p q:ar) (xs:List V),H p=some (.tup xs)->H q=some (.tup xs)->xs.length<=10->(∀x∈xs,Uk x x)->GU H 2 (.ref p) (.ref q):=λp q xs h1 h2 l f=>
   .inr ⟨p,q,xs,xs,rfl,rfl,h1,h2,rfl,by lia,λi u v e e'=>by
    rw[e] at e';cases e';exact .inl (f _ (aD e))⟩
  have fs:∀z:Str,Uk (.str z) (.str z):=λz=>.inl ⟨z,rfl,rfl⟩;have fi:∀z:Int,Uk (.int z) (.int z):=λz=>.inr ⟨z,rfl,rfl⟩;cases r with
  |num x z=>
   obtain⟨p,rfl,h1⟩:=hu;obtain⟨q,rfl,h2⟩:=hv;refine two p q _ h1 h2 (by show 3<=10;decide) λx hx=>?_;simp only[aE,bj,or_false] at hx;rcases hx with rfl|rfl|rfl<;>first|exact fs _|exact fi _
  |op x s a b=>
   obtain⟨p,rfl,h1⟩:=hu;obtain⟨q,rfl,h2⟩:=hv;refine two p q _ h1 h2 (by show 5<=10;decide) λx hx=>?_;simp only[aE,bj,or_false] at hx;rcases hx with rfl|rfl|rfl|rfl|rfl<;>exact fs _
  |call x k as=>
   obtain⟨p,a,rfl,h1,h1'⟩:=hu;obtain⟨q,b,rfl,h2,h2'⟩:=hv;refine .inr ⟨p,q,_,_,rfl,rfl,h1,h2,rfl,(by show 4<=10000;decide),λi u v e e'=>?_⟩
   match i,e,e' with
   |0,e,e'=>cases e;cases e';exact .inl (fs _)
   |1,e,e'=>cases e;cases e';exact .inl (fs _)
   |2,e,e'=>cases e;cases e';exact .inl (fi _)
   |3,e,e'=>cases e;cases e';exact flatS 0 as a b h1' h2' l
   |i+4,e,e'=>cases e
  |say a=>
   obtain⟨p,rfl,h1⟩:=hu;obtain⟨q,rfl,h2⟩:=hv;refine two p q _ h1 h2 (by show 2<=10;decide) λx hx=>?_;simp only[aE,bj,or_false] at hx;rcases hx with rfl|rfl<;>exact fs _
  |jump to=>
   obtain⟨p,rfl,h1⟩:=hu;obtain⟨q,rfl,h2⟩:=hv;refine two p q _ h1 h2 (by show 2<=10;decide) λx hx=>?_;simp only[aE,bj,or_false] at hx;rcases hx with rfl|rfl<;>first|exact fs _|exact fi _
  |test a to=>
   obtain⟨p,rfl,h1⟩:=hu;obtain⟨q,rfl,h2⟩:=hv;refine two p q _ h1 h2 (by show 3<=10;decide) λx hx=>?_;simp only[aE,bj,or_false] at hx;rcases hx with rfl|rfl|rfl<;>first|exact fs _|exact fi _
  |give a=>
   obtain⟨p,rfl,h1⟩:=hu;obtain⟨q,rfl,h2⟩:=hv;refine two p q _ h1 h2 (by show 2<=10;decide) λx hx=>?_;simp only[aE,bj,or_false] at hx;rcases hx with rfl|rfl<;>exact fs _
 refine .inr ⟨p,p',pvs,pvs',rfl,rfl,hp,hp',by rw[hA.len,hA'.len],by rw[hA.len];have:=wd.few;lia,λi u v e e'=>?_⟩;obtain⟨b,eb,pa⟩:=hA.of_v e;have pa':=hA'.at_ i v b e' eb;have wb:=wd.part b (aD eb);obtain⟨a1,a2,a3,rvs,rfl,g1,g2,g3,g4⟩:=pa;obtain⟨c1,c2,c3,rvs',rfl,k1,k2,k3,k4⟩:=pa';refine .inr ⟨a1,c1,_,_,rfl,rfl,g1,k1,rfl,(by show 3<=10000;decide),λi u v e e'=>?_⟩
 match i,e,e' with
 |0,e,e'=>cases e;cases e';exact .inl (.inl ⟨_,rfl,rfl⟩)
 |1,e,e'=>cases e;cases e';exact flatS 2 b.params a2 c2 g2 k2 wb.p9
 |2,e,e'=>
  cases e;cases e';refine .inr ⟨a3,c3,rvs,rvs',rfl,rfl,g3,k3,by rw[g4.len,k4.len],by rw[g4.len];have:=wb.few;lia,λj u v e e'=>?_⟩;obtain⟨r,er,ra⟩:=g4.of_v e;exact row r u v (wb.rd r (aD er)) ra (k4.at_ j v r e' er)
 |i+3,e,e'=>cases e
def GU.succ{H:Hp}:∀{d:Nat} {x y:V},GU H d x y->GU H (d+1) x y
 |0,_,_,h=>.inl h
 |d+1,x,y,h=>by
  rcases h with h|⟨p,q,xs,ys,e1,e2,h1,h2,l,f,a⟩
  ·exact .inl h
  ·exact .inr ⟨p,q,xs,ys,e1,e2,h1,h2,l,f,λi u v e e'=>GU.succ (a i u v e e')⟩
def TR{K:Fg}(T:Mj K){vs:List V}{H:Hp}{Q:VK}{E:XK}(h:yL K vs H Q E):OI K {nx:=λ_ H'=>Q .non H',rt:=Q} (cQ L9 vs) H:=by
 obtain⟨ps,rfl,nm,nd,q1,q2⟩:=h;refine⟨Zd,λa ha=>?_⟩;show GM K _ [some (.str (rQ ps)),some (.ref a),none] _;have s1:aK H (upd H a (.tup [.str "none"])):=(aK.refl H).new ha;generalize upd H a (.tup [.str "none"])=H1 at s1 ⊢;refine⟨_,rfl,rQ ps,rfl,Dd nm.wr,λn f=>absurd f (De nm n),λls els nf=>⟨λn f=>absurd f.1 ((yN nm nd els).1 n),λ_=>?_⟩⟩;rw[(yN nm nd els).2];refine⟨nm.wd,λc p H2 hp s2=>⟨Ze,λb hb=>?_⟩,λk n w f dx H' s2 gd=>?_⟩
 ·exact⟨_,rfl,q1 c b p _ ag (hp.mono (.of_same ((aK.refl H2).new hb))) ((s1.trans s2).new hb)⟩
 ·intro x C T' ec hx ndx hT' nx;cases ec;refine⟨_,rfl,T.mNN,?_⟩;have gx:(upd H' T' (TB T')) x=some (XL x (eK K "NoProgram") (some dx)):=by rw[aL (Ne.symm nx)];exact hx
  have gd2:(upd H' T' (TB T')) dx=some (XD dx (y0 k n w)):=by rw[aL (aC gd hT')];exact gd
  refine⟨_,rfl,x,_,dx,_,_,rfl,.inr gx,gd2,T.clN,T.nNw,rfl,Ze,λb hb=>?_⟩;exact⟨_,rfl,q2 f.clean b w _ ag (((s1.trans s2).new hT').new hb)⟩
def Lk{K:Fg}{vs:List V}{H:Hp}{Q:VK}{E:XK}(h:mJ K vs H Q E):Dc K {nx:=λ_ H'=>Q .non H',rt:=Q} (cQ B9 vs) H:=by
 obtain⟨p,ps,rfl,hp,hw,q⟩:=h;obtain⟨f1,f2⟩:=pL hw;have:(lB ps).length*109<=520*109:=dv _ f1;refine⟨_,rfl,p,ps,rfl,hp,hw,λH1 s1=>?_⟩;show yc K _ [some (.ref p),some (.str (rQ ps))] H1;refine⟨_,rfl,_,rfl,.inl ⟨_,rfl,_,rfl,lu ?_⟩⟩;refine⟨_,rfl,rfl,_,rfl,p,ps,rfl,hp.mono (.of_same s1),hw,λl H2 nl hl s2=>⟨_,l,_,rfl,rfl,cN.of hl,Ju f2 Vs (by lia),.inl ⟨rfl,?_⟩⟩⟩;rw[show decide (V.str (rQ ps)=V.str (Txt.join "\n" (lB ps)))=true from decide_eq_true rfl];exact q H2 (s1.trans s2)
def E4{H:Hp}{p p':ar}{ps:List bp}(h:eQ H p ps)(h':eQ H p' ps)(wd:qU ps):GU H 6 (.ref p) (.ref p'):=(zW h h' wd).succ
def HR{H:Hp}{a b p p':ar}{ps:List bp}(ha:H a=some (.tup [.str "read",.ref p]))(hb:H b=some (.tup [.str "read",.ref p']))(h:eQ H p ps)(h':eQ H p' ps)(wd:qU ps):GU H 6 (.ref a) (.ref b):=by
 refine .inr ⟨a,b,_,_,rfl,rfl,ha,hb,rfl,(by show 2<=10000;decide),λi u v e e'=>?_⟩
 match i,e,e' with
 |0,e,e'=>cases e;cases e';exact .inl (.inl ⟨_,rfl,rfl⟩)
 |1,e,e'=>cases e;cases e';exact zW h h' wd
 |i+2,e,e'=>cases e
def JL{K:Fg}{H:Hp}{p:ar}{xs:List V}{c:Nat}{Q:VK}(hp:H p=some (.tup xs))(h:∀(q:ar) (H':Hp),H' q=some (.tup (xs.take c))->aK H H'->Q (.ref q) H'):N6 K (.ref p) none (some (c:Int)) H Q:=by
 by_cases hc:xs.length<=c
 ·refine .inl ⟨p,xs,rfl,dA.of hp,⟨HT.sIx_none ..,?_⟩,?_⟩
  ·rw[HT.sIx_nat];lia
  ·exact h p H (by rw[hp,bA hc]) (aK.refl H)
 ·refine .inr (.inr ⟨p,xs,rfl,dA.of hp,?_,λq nq=>?_⟩)
  ·rintro⟨_,z⟩;rw[HT.sIx_nat] at z;lia
  ·rw[mq];exact h q _ ag ((aK.refl H).new nq)
def OP{ps:List bp}(h:mj ps)(few:ps.length<=5){b0:bp}(h0:b0∈ps):mj ((b0::ps).take 5):=by
 have len:((b0::ps).take 5).length<=5:=by rw[aX];lia
 have ge:ps.length<=((b0::ps).take 5).length:=by rw[aX,aP];lia
 refine⟨by lia,λb hb=>?_⟩;have hb:b∈ps:=by
  rcases aE.mp (dU hb) with rfl|z
  ·exact h0
  ·exact z
 have p:=h.part b hb;refine⟨p.nm,p.p8,p.pl,p.few,λr hr=>?_⟩;have q:=p.rows r hr;cases r with
 |call x k as=>exact⟨q.1,q.2.1,by have:=q.2.2.1;lia,q.2.2.2.1,q.2.2.2.2⟩
 |num x z=>exact q
 |op x s a b=>exact q
 |say a=>exact q
 |jump to=>exact q
 |test a to=>exact q
 |give a=>exact q
def b3.take{α:Type}{R:V->α->Prop}{vs:List V}{rs:List α}(h:b3 R vs rs)(n:Nat):b3 R (vs.take n) (rs.take n):=by
 refine⟨by rw[aX,aX,h.len],λi v r e e'=>?_⟩;rw[List.getElem?_take] at e e';split at e
 ·rw[if_pos ‹_›] at e';exact h.at_ i v r e e'
 ·cases e
def b3.cons'{α:Type}{R:V->α->Prop}{vs:List V}{rs:List α}{v:V}{r:α}(q:R v r)(h:b3 R vs rs):b3 R (v::vs) (r::rs):=by
 refine⟨by simp[h.len],λi w t e e'=>?_⟩;cases i with
 |zero=>cases e;cases e';exact q
 |succ i=>exact h.at_ i w t (by simpa using e) (by simpa using e')
def Ve{K:Fg}{vs:List V}{H:Hp}{Q:VK}{E:XK}(h:Em K vs H Q E):RS K {nx:=λ_ H'=>Q .non H',rt:=Q} (cQ Rq vs) H:=by
 obtain⟨scr,ns,rfl,hscr,hns,q⟩:=h;refine⟨_,rfl,Zf,λst hst=>?_⟩;have S1:j9 K (upd H st (.lst [.ref scr,.int 0,.int 0])) st 0:=⟨scr,ns,0,ag,hscr.mono (.of_same ((aK.refl H).new hst)),hns⟩;show JR K _ [some (.ref scr),some (.ref st),none,none,none] (upd H st (.lst [.ref scr,.int 0,.int 0]));generalize upd H st (.lst [.ref scr,.int 0,.int 0])=H1 at S1 ⊢;refine⟨_,rfl,st,20,0,rfl,S1,by decide,by decide,by decide,λp pvs bs ys cs k2 H2 hp hA ok few S2 l2 B2=>?_⟩;show JQ K _ [some (.ref scr),some (.ref st),some (.ref p),none,none] H2;have G2:eQ H2 p (bs.map dr.up):=⟨pvs,hp,Ru hA⟩;have gnm:=Js ok;have gnd:((bs.map dr.up).map (·.name)).Nodup:=by rw[OL];exact ok.nnd
 have gcl:=Hw ok;refine⟨_,rfl,_,rfl,st,p,k2,ys,cs,bs,rfl,S2,by lia,⟨pvs,hp,hA⟩,ok,few,λp' ps k3 H3 P3 nm nd S3 B3=>?_⟩;show JP K _ [some (.ref scr),some (.ref st),some (.ref p),some (.ref p'),none] H3;obtain⟨ysl,hst2⟩:=S2.lst;have T3:Tp H2 H3:=.of_but B3 hst2;have G3:=G2.mono T3;refine⟨_,rfl,p,_,rfl,G3,gnm.wr,λH4 s4=>⟨_,rfl,ff ?_⟩⟩;refine⟨_,rfl,p',ps,rfl,P3.mono (.of_same s4),nm.wr,λH5 s5=>⟨_,rfl,ff ?_⟩⟩;have s35:=s4.trans s5;have hp5:=s35 _ _ (T3 _ _ hp);refine⟨_,rfl,1,rfl,p,pvs,rfl,rfl,dA.of hp5,λr nr=>?_⟩;have s6:aK H5 (upd H5 r (.tup pvs.reverse)):=(aK.refl H5).new nr;have hr6:upd H5 r (.tup pvs.reverse) r=some (.tup pvs.reverse):=ag;generalize upd H5 r (.tup pvs.reverse)=H6 at s6 hr6 ⊢;refine⟨1,rfl,JL (c:=1) hr6 λr1 H7 hr7 s7=>?_⟩;have s37:=(s35.trans s6).trans s7;have hp7:=s37 _ _ (T3 _ _ hp);have A7:b3 (jh H7) pvs (bs.map dr.up):=(Ru hA).imp λ_ _ z=>z.mono (T3.trans (.of_same s37));have pl:pvs.length=bs.length:=hA.len;have bpos:=ok.pos;have bfew:=ok.few;obtain⟨pv0,b0,e0,e0',pa0⟩:=A7.get (i:=bs.length-1) (by rw[af];lia);have rv1:pvs.reverse.take 1=[pv0]:=by
  have:pvs.reverse[0]?=some pv0:=by rw[fY (by lia),pl];exact e0
  cases z:pvs.reverse with
  |nil=>rw[z] at this;cases this
  |cons a b=>rw[z] at this;cases this;rfl
 rw[rv1] at hr7;have pne:pvs≠[]:=λz=>by rw[z] at pl;have:(0:Nat)=bs.length:=pl;lia
 refine⟨_,rfl,.inr (.inr (.inr (.inr ⟨r1,p,[pv0],pvs,rfl,rfl,dA.of hr7,dA.of hp7,(by simp),di (cg (by show 1+pvs.length<=100000;lia)),(λz=>absurd z pne),λ_ u nu=>?_⟩)))⟩;have s8:aK H7 (upd H7 u (.tup ([pv0]++pvs))):=(aK.refl H7).new nu;have hu8:upd H7 u (.tup ([pv0]++pvs)) u=some (.tup (pv0::pvs)):=ag;generalize upd H7 u (.tup ([pv0]++pvs))=H8 at s8 hu8 ⊢;refine⟨5,rfl,JL (c:=5) hu8 λr2 H9 hr9 s9=>?_⟩;have s39:=(s37.trans s8).trans s9;have A9:b3 (jh H9) ((pv0::pvs).take 5) ((b0::bs.map dr.up).take 5):=((A7.imp λ_ _ z=>z.mono (.of_same (s8.trans s9))).cons' (pa0.mono (.of_same (s8.trans s9)))).take 5;refine⟨r2,_,rfl,⟨_,hr9,A9⟩,OP gnm.wr (by rw[af];lia) (aD e0'),λH10 s10=>⟨_,rfl,ff ?_⟩⟩;have s310:=s39.trans s10;have G10:=G3.mono (.of_same s310);obtain⟨f1,f2⟩:=pL gnm.wr;have fl:(lB (bs.map dr.up)).length*109<=520*109:=dv _ f1;show JO K _ [some (.ref scr),some (.ref st),some (.ref p),some (.ref p'),none] H10;refine⟨rfl,_,rfl,p,_,rfl,G10,gnm.wr,λl H11 nl hl s11=>⟨_,l,_,rfl,rfl,cN.of hl,Ju f2 Vs (by lia),_,rfl,gnm,gnd,λ_ a pa H12 ha P12 s12=>?_,λnc=>absurd gcl nc⟩⟩;have s312:=(s310.trans s11).trans s12;refine⟨_,rfl,Ze,λb nb=>?_⟩;have s13:aK H12 (upd H12 b (.tup [.str "read",.ref p])):=(aK.refl H12).new nb;have hb13:upd H12 b (.tup [.str "read",.ref p]) b=some (.tup [.str "read",.ref p]):=ag;generalize upd H12 b (.tup [.str "read",.ref p])=H13 at s13 hb13 ⊢;have s313:=s312.trans s13;refine⟨_,_,rfl,HR (s13 _ _ ha) hb13 (P12.mono (.of_same s13)) (G3.mono (.of_same s313)) gnm.wd,λH14 s14=>⟨_,rfl,ff ?_⟩⟩;have s314:=s313.trans s14;show JN K _ [some (.ref scr),some (.ref st),some (.ref p),some (.ref p'),none] H14;have last:∀(w:Str) (xs:List V) (f:ar) (H':Hp),aK H3 H'->H' f=some (.tup (.str w::xs))->(w="read"\/w="refused")->JM K {nx:=λ_ H'=>Q .non H',rt:=Q} [some (.ref scr),some (.ref st),some (.ref p),some (.ref p'),some (.ref f)] H':=λw xs f H' s hf hw=>by
  refine⟨_,rfl,Zb hf rfl ⟨Ze,λt nt=>⟨t,_,rfl,.inr (dA.of ag),rfl,rfl,_,rfl,?_⟩⟩⟩;have sT:aK H3 (upd H' t (.tup [.str "read",.str "refused"])):=s.new nt;generalize upd H' t (.tup [.str "read",.str "refused"])=H'' at sT ⊢;have e:m7 (.str w) [.str "read",.str "refused"]=true:=by
   have:m7 (.str w) [.str "read",.str "refused"]=decide (w∈(["read","refused"]:List Str)):=jb w ["read","refused"];rw[this];refine decide_eq_true ?_;rcases hw with rfl|rfl<;>simp
  rw[show(if false=true then !m7 (V.str w) [.str "read",.str "refused"] else m7 (.str w) [.str "read",.str "refused"])=true from e];refine lu ⟨_,rfl,p,_,rfl,G3.mono (.of_same sT),gnm.wr,λHa sa=>⟨_,rfl,Dd gnm.wr,λn f=>absurd f (De gnm n),λls els nf=>⟨λn f=>absurd f.1 ((yN gnm gnd els).1 n),λ_=>?_⟩⟩⟩;rw[(yN gnm gnd els).2];exact⟨gnm.wd,λ_ pr Hb hb sb=>⟨_,rfl,_,_,rfl,E4 hb (G3.mono (.of_same ((sT.trans sa).trans sb))) gnm.wd,λHc _=>q Hc⟩,λk n w f=>absurd gcl f.clean⟩
 refine⟨_,rfl,p',ps,rfl,P3.mono (.of_same s314),nm.wr,λH15 s15=>⟨ps,rfl,nm,nd,λcl f pr H16 hf P16 s16=>?_,λnc f w H16 hf s16=>?_⟩⟩
 ·have s316:=(s314.trans s15).trans s16;show Es K _ [some (.ref scr),some (.ref st),some (.ref p),some (.ref p'),some (.ref f)] H16;refine⟨_,rfl,Zb hf rfl (.inr (.inl ⟨rfl,_,rfl,ED ?_⟩))⟩;refine⟨_,rfl,Zb hf rfl ⟨_,rfl,_,_,rfl,E4 P16 (P3.mono (.of_same s316)) nm.wd,λH17 s17=>⟨_,rfl,ff ?_⟩⟩⟩;exact last "read" _ f H17 (s316.trans s17) (s17 _ _ hf) (.inl rfl)
 ·have s316:=(s314.trans s15).trans s16;show Es K _ [some (.ref scr),some (.ref st),some (.ref p),some (.ref p'),some (.ref f)] H16;refine⟨_,rfl,Zb hf rfl (.inr (.inl ⟨rfl,_,rfl,Za (ff ?_)⟩))⟩;exact last "refused" _ f H16 s316 hf (.inr rfl)
def V0(y:Str):Bool:=decide (1<=y.length)&&(decide (y.length<=8)&&(y.cps.toList.all (λc=>decide (97<=c)&&decide (c<=122)) && !decide (y∈Ag)))
def RG{y:Str}(h:V0 y=true):Nm y:=by
 unfold V0 at h;simp only[Bool.and_eq_true,decide_eq_true_eq,Bool.not_eq_true',decide_eq_false_iff_not,fQ] at h;exact⟨h.1,h.2.1,λc hc=>h.2.2.1 c hc,h.2.2.2⟩
def SI{d:Int}(h0:0<=d)(h1:d<8):Nm (Txt.slice "abcdefgh" (some d) none):=by
 have:d=0\/d=1\/d=2\/d=3\/d=4\/d=5\/d=6\/d=7:=by lia
 rcases this with rfl|rfl|rfl|rfl|rfl|rfl|rfl|rfl<;>exact RG (by decide +kernel)
def VI:Nm "q":=RG (by decide +kernel)
def VT{K:Fg}{H:Hp}{t:ar}{w a b:Str}{Q:VK}(ht:H t=some (.tup [.str a,.str b]))(q:Q (.bl (decide (w∈[a,b]))) H):EG K false (.str w) (.ref t) H Q:=by
 refine⟨t,_,rfl,.inr (dA.of ht),rfl,rfl,?_⟩;have e:m7 (.str w) [.str a,.str b]=decide (w∈[a,b]):=jb w [a,b];show Q (.bl (m7 (.str w) [.str a,.str b])) H;rw[e];exact q
def Lq:(10:Int) ^ dz 6=1000000:=by decide
def Rz{z:Int}(h0:0<=z)(h1:z<=1000000):IR z:=⟨h0,Int.lt_of_le_of_lt h1 (by decide)⟩
def Ij{K:Fg}{D:oE}{H:Hp}{st p L N:ar}{o3 o4 o5 o8:Option V}{v:V}{r:dQ}{k:Nat}{nvs:List V}{ups:List bp}(S:j9 K H st k)(hk:k<=500000)(hN:H N=some (.lst nvs))(nN:N≠st)(nl:nvs.length<=1000)(hr:eI H v r)(nr:jA ups r)(n4:∀x z as,r=.call x z as->as.length<=4)
  (q:∀(v':V) (r':dQ) (k':Nat) (H1:Hp) (o:Option V),eI H1 v' r'->jA ups r'->j9 K H1 st k'->k'<=k+2->H1 N=some (.lst nvs)->gc st H H1->D.nx [some (.ref st),some (.ref p),some (.ref L),o3,o4,o5,some (.ref N),some v',o] (upd H1 N (.lst (nvs++[v'])))) :
  AQ K D [some (.ref st),some (.ref p),some (.ref L),o3,o4,o5,some (.ref N),some v,o8] H:=by
 obtain⟨ysl,hst⟩:=S.lst;refine⟨_,rfl,st,8,k,rfl,S,by lia,by decide,by decide,λd H1 d0 d1 S1 B1=>?_⟩;show C9 K D [some (.ref st),some (.ref p),some (.ref L),o3,o4,o5,some (.ref N),some v,some (.int d)] H1;have hN1:=B1 N _ nN hN;have hr1:=hr.mono (.of_but B1 hst);have f6:∀(v':V) (r':dQ) (k':Nat) (H':Hp),eI H' v' r'->jA ups r'->j9 K H' st k'->k'<=k+2->H' N=some (.lst nvs)->gc st H H'->wW K D [some (.ref st),some (.ref p),some (.ref L),o3,o4,o5,some (.ref N),some v',some (.int d)] H':=λv' r' k' H' ra nr' S' l' hN' B'=>
  ⟨_,rfl,.inl ⟨rfl,_,cN.of hN'⟩,_,rfl,N,_,_,rfl,rfl,hN',cg (by lia),q v' r' k' H' _ ra nr' S' l' hN' B'⟩
 have f7:d≠2->∀(v':V) (r':dQ) (k':Nat) (H':Hp),eI H' v' r'->jA ups r'->j9 K H' st k'->k'<=k+2->H' N=some (.lst nvs)->gc st H H'->sA K D [some (.ref st),some (.ref p),some (.ref L),o3,o4,o5,some (.ref N),some v',some (.int d)] H':=λn2 v' r' k' H' ra nr' S' l' hN' B'=>
  ⟨_,rfl,.inr (.inl ⟨rfl,_,rfl,bL (λc=>absurd (by injection c) n2) λ_=>ff (f6 v' r' k' H' ra nr' S' l' hN' B')⟩)⟩
 have f8:d≠1->d≠2->∀(v':V) (r':dQ) (k':Nat) (H':Hp),eI H' v' r'->jA ups r'->j9 K H' st k'->k'<=k+2->H' N=some (.lst nvs)->gc st H H'->wX K D [some (.ref st),some (.ref p),some (.ref L),o3,o4,o5,some (.ref N),some v',some (.int d)] H':=λn1 n2 v' r' k' H' ra nr' S' l' hN' B'=>
  ⟨_,rfl,.inr (.inl ⟨rfl,_,rfl,bL (λc=>absurd (by injection c) n1) λ_=>ff (f7 n2 v' r' k' H' ra nr' S' l' hN' B')⟩)⟩
 obtain⟨pr,xs,rfl,hpr⟩:=eI.ref hr1;refine⟨_,rfl,.inr (.inl ⟨rfl,_,rfl,bL (λc=>?_) λc=>ff ?_⟩)⟩
 ·-- a goal
  have e0:d=0:=by injection c
  refine⟨_,rfl,Zb hpr rfl ⟨Ze,λt nt=>VT ag ⟨_,rfl,?_⟩⟩⟩;have s2:aK H1 (upd H1 t (.tup [.str "jump",.str "test"])):=(aK.refl H1).new nt;generalize upd H1 t (.tup [.str "jump",.str "test"])=H2 at s2 ⊢;have S2:=S1.same s2;have B2:gc st H H2:=B1.trans s2.but;have hN2:=s2 _ _ hN1;have hr2:=hr1.mono (.of_same s2);obtain⟨ys2,hst2⟩:=S2.lst;refine bL (λc1=>?_) λc1=>f8 (by lia) (by lia) _ r (k+1) H2 hr2 nr S2 (by lia) hN2 B2;cases r with
  |jump to=>
   obtain⟨p',e,h2⟩:=hr2;cases e;refine⟨_,rfl,1,rfl,-1,rfl,.inl (.inr (.inr ⟨pr,_,rfl,dA.of h2,(by show ¬(HT.sIx 2 0 none=0/\HT.sIx 2 2 (some (-1))=2);decide),λa na=>?_⟩))⟩;have s3:aK H2 (upd H2 a (.tup (kQ [V.str "jump",.int to] none (some (-1))))):=(aK.refl H2).new na;have ha3:upd H2 a (.tup (kQ [V.str "jump",.int to] none (some (-1)))) a=some (.tup [.str "jump"]):=by rw[ag];rfl
   generalize upd H2 a (.tup (kQ [V.str "jump",.int to] none (some (-1))))=H3 at s3 ha3 ⊢;have S3:=S2.same s3;obtain⟨ys3,hst3⟩:=S3.lst;refine⟨_,rfl,_,_,rfl,rfl,⟨by decide,by decide,by decide⟩,st,_,k+1,rfl,S3,by lia,by rw[Lq];decide,by rw[Lq];decide,λg H4 g0 g1 S4 B4=>⟨Zd,λb nb=>?_⟩⟩;rw[Lq] at g1;have na_st:a≠st:=λz=>by rw[z,hst3] at ha3;cases ha3
   have ha4:=B4 a _ na_st ha3;have s5:aK H4 (upd H4 b (.tup [.int g])):=(aK.refl H4).new nb;have hb5:upd H4 b (.tup [.int g]) b=some (.tup [.int g]):=ag;generalize upd H4 b (.tup [.int g])=H5 at s5 hb5 ⊢;refine .inr (.inr (.inr (.inr ⟨a,b,_,_,rfl,rfl,dA.of (s5 _ _ ha4),dA.of hb5,(by simp),(by show 1+1<=av;decide),(λz=>by cases z),λ_ u nu=>?_⟩)));have s6:aK H5 (upd H5 u (.tup ([V.str "jump"]++[.int g]))):=(aK.refl H5).new nu;have hu6:upd H5 u (.tup ([V.str "jump"]++[.int g])) u=some (.tup [.str "jump",.int g]):=ag;generalize upd H5 u (.tup ([V.str "jump"]++[.int g]))=H6 at s6 hu6 ⊢;have s46:=s5.trans s6;exact f8 (by lia) (by lia) _ (.jump g) (k+2) H6 ⟨u,rfl,hu6⟩ (Rz g0 (by lia)) (S4.same s46) (by lia) (s46 _ _ (B4 N _ nN (s3 _ _ hN2))) (((B2.trans s3.but).trans B4).trans s46.but)
  |test x to=>
   obtain⟨p',e,h2⟩:=hr2;cases e;refine⟨_,rfl,1,rfl,-1,rfl,.inl (.inr (.inr ⟨pr,_,rfl,dA.of h2,(by show ¬(HT.sIx 3 0 none=0/\HT.sIx 3 3 (some (-1))=3);decide),λa na=>?_⟩))⟩;have s3:aK H2 (upd H2 a (.tup (kQ [V.str "test",.str x,.int to] none (some (-1))))):=(aK.refl H2).new na;have ha3:upd H2 a (.tup (kQ [V.str "test",.str x,.int to] none (some (-1)))) a=some (.tup [.str "test",.str x]):=by rw[ag];rfl
   generalize upd H2 a (.tup (kQ [V.str "test",.str x,.int to] none (some (-1))))=H3 at s3 ha3 ⊢;have S3:=S2.same s3;obtain⟨ys3,hst3⟩:=S3.lst;refine⟨_,rfl,_,_,rfl,rfl,⟨by decide,by decide,by decide⟩,st,_,k+1,rfl,S3,by lia,by rw[Lq];decide,by rw[Lq];decide,λg H4 g0 g1 S4 B4=>⟨Zd,λb nb=>?_⟩⟩;rw[Lq] at g1;have na_st:a≠st:=λz=>by rw[z,hst3] at ha3;cases ha3
   have ha4:=B4 a _ na_st ha3;have s5:aK H4 (upd H4 b (.tup [.int g])):=(aK.refl H4).new nb;have hb5:upd H4 b (.tup [.int g]) b=some (.tup [.int g]):=ag;generalize upd H4 b (.tup [.int g])=H5 at s5 hb5 ⊢;refine .inr (.inr (.inr (.inr ⟨a,b,_,_,rfl,rfl,dA.of (s5 _ _ ha4),dA.of hb5,(by simp),(by show 2+1<=av;decide),(λz=>by cases z),λ_ u nu=>?_⟩)));have s6:aK H5 (upd H5 u (.tup ([V.str "test",.str x]++[.int g]))):=(aK.refl H5).new nu;have hu6:upd H5 u (.tup ([V.str "test",.str x]++[.int g])) u=some (.tup [.str "test",.str x,.int g]):=ag;generalize upd H5 u (.tup ([V.str "test",.str x]++[.int g]))=H6 at s6 hu6 ⊢;have s46:=s5.trans s6;exact f8 (by lia) (by lia) _ (.test x g) (k+2) H6 ⟨u,rfl,hu6⟩ ⟨nr.1,Rz g0 (by lia)⟩ (S4.same s46) (by lia) (s46 _ _ (B4 N _ nN (s3 _ _ hN2))) (((B2.trans s3.but).trans B4).trans s46.but)
  |_=>exact absurd c1 (by simp only[qH];decide +kernel)
 show wX K D [some (.ref st),some (.ref p),some (.ref L),o3,o4,o5,some (.ref N),some (.ref pr),some (.int d)] H1;refine⟨_,rfl,.inr (.inl ⟨rfl,_,rfl,bL (λc1=>?_) λc1=>ff ?_⟩)⟩
 ·have e1:d=1:=by injection c1
  refine⟨_,rfl,Zb hpr rfl ⟨Ze,λt nt=>VT ag ⟨_,rfl,?_⟩⟩⟩;have s2:aK H1 (upd H1 t (.tup [.str "say",.str "give"])):=(aK.refl H1).new nt;generalize upd H1 t (.tup [.str "say",.str "give"])=H2 at s2 ⊢;have S2:=S1.same s2;have B2:gc st H H2:=B1.trans s2.but;have hN2:=s2 _ _ hN1;have hr2:=hr1.mono (.of_same s2);refine bL (λc2=>?_) λc2=>f7 (by lia) _ r (k+1) H2 hr2 nr S2 (by lia) hN2 B2;refine⟨_,rfl,cJ (s2 _ _ hpr) (by decide) rfl ⟨_,rfl,st,8,k+1,rfl,S2,by lia,by decide,by decide,λg H3 g0 g1 S3 B3=>⟨g,rfl,.inr ⟨_,rfl,(by decide +kernel),Ze,λu nu=>?_⟩⟩⟩⟩;have s4:aK H3 (upd H3 u (.tup [.str (qH r),.str (Txt.slice "abcdefgh" (some g) none)])):=(aK.refl H3).new nu;have hu4:upd H3 u (.tup [.str (qH r),.str (Txt.slice "abcdefgh" (some g) none)]) u=some (.tup [.str (qH r),.str (Txt.slice "abcdefgh" (some g) none)]):=ag;generalize upd H3 u (.tup [.str (qH r),.str (Txt.slice "abcdefgh" (some g) none)])=H4 at s4 hu4 ⊢;have nm:=SI g0 g1;have go:∀r',eI H4 (.ref u) r'->jA ups r'->sA K D [some (.ref st),some (.ref p),some (.ref L),o3,o4,o5,some (.ref N),some (.ref u),some (.int d)] H4:=λr' ra nr'=>
   f7 (by lia) _ r' (k+2) H4 ra nr' (S3.same s4) (by lia) (s4 _ _ (B3 N _ nN hN2)) ((B2.trans B3).trans s4.but)
  cases r with
  |say a=>exact go (.say _) ⟨u,rfl,hu4⟩ nm
  |give a=>exact go (.give _) ⟨u,rfl,hu4⟩ nm
  |_=>exact absurd c2 (by simp only[qH];decide +kernel)
 show sA K D [some (.ref st),some (.ref p),some (.ref L),o3,o4,o5,some (.ref N),some (.ref pr),some (.int d)] H1;refine⟨_,rfl,.inr (.inl ⟨rfl,_,rfl,bL (λc2=>?_) λc2=>ff (f6 _ r (k+1) H1 hr1 nr S1 (by lia) hN1 B1)⟩)⟩;refine⟨_,rfl,Zb hpr rfl (.inr (.inl ⟨rfl,_,rfl,bL (λc3=>?_) λc3=>f6 _ r (k+1) H1 hr1 nr S1 (by lia) hN1 B1⟩))⟩;cases r with
 |call x z as=>
  obtain⟨p',t,e,h2,ht⟩:=hr1;cases e;have l4:=n4 x z as rfl;refine⟨_,rfl,3,rfl,.inl (.inr (.inr ⟨pr,_,rfl,dA.of h2,(by show ¬(HT.sIx 4 0 none=0/\HT.sIx 4 4 (some 3)=4);decide),λa na=>?_⟩))⟩;have s3:aK H1 (upd H1 a (.tup (kQ [V.str "call",.str x,.int z,.ref t] none (some 3)))):=(aK.refl H1).new na;have ha3:upd H1 a (.tup (kQ [V.str "call",.str x,.int z,.ref t] none (some 3))) a=some (.tup [.str "call",.str x,.int z]):=by rw[ag];rfl
  generalize upd H1 a (.tup (kQ [V.str "call",.str x,.int z,.ref t] none (some 3)))=H2 at s3 ha3 ⊢;have h22:=s3 _ _ h2;refine⟨_,rfl,Zb h22 rfl ⟨_,rfl,Zb h22 rfl ⟨Zd,λb nb=>?_⟩⟩⟩;have s4:aK H2 (upd H2 b (.tup [.str x])):=(aK.refl H2).new nb;have hb4:upd H2 b (.tup [.str x]) b=some (.tup [.str x]):=ag;generalize upd H2 b (.tup [.str x])=H3 at s4 hb4 ⊢;have s34:=s3.trans s4;have ht4:=s34 _ _ ht;have rest:∀(c:ar) (H4:Hp),aK H3 H4->H4 c=some (.tup ((as++[x]).map V.str))->e6 (λσ H Q=>Q [.ref c] H) [some (.ref st),some (.ref p),some (.ref L),o3,o4,o5,some (.ref N),some (.ref pr),some (.int d)] H4 (λy H5=>uo K (.ref a) y H5 λw H6=>aW 7 w [some (.ref st),some (.ref p),some (.ref L),o3,o4,o5,some (.ref N),some (.ref pr),some (.int d)] H6 (wW K D)):=λc H4 s5 hc=>by
   refine⟨Zd,λe ne=>?_⟩;have s6:aK H4 (upd H4 e (.tup [.ref c])):=(aK.refl H4).new ne;have he6:upd H4 e (.tup [.ref c]) e=some (.tup [.ref c]):=ag;generalize upd H4 e (.tup [.ref c])=H5 at s6 he6 ⊢;have s36:=(s4.trans s5).trans s6;refine .inr (.inr (.inr (.inr ⟨a,e,_,_,rfl,rfl,dA.of (s36 _ _ ha3),dA.of he6,(by simp),(by show 3+1<=av;decide),(λz=>by cases z),λ_ u nu=>?_⟩)));have s7:aK H5 (upd H5 u (.tup ([V.str "call",.str x,.int z]++[.ref c]))):=(aK.refl H5).new nu;have hu7:upd H5 u (.tup ([V.str "call",.str x,.int z]++[.ref c])) u=some (.tup [.str "call",.str x,.int z,.ref c]):=ag;generalize upd H5 u (.tup ([V.str "call",.str x,.int z]++[.ref c]))=H6 at s7 hu7 ⊢;have s17:=(s3.trans s36).trans s7;refine f6 _ (.call x z (as++[x])) (k+1) H6 ⟨u,c,rfl,hu7,s7 _ _ (s6 _ _ hc)⟩ ⟨nr.1,nr.2.1,nr.2.2.1,by rw[aN];show as.length+1<=8;lia,λy hy=>?_⟩ (S1.same s17) (by lia) (s17 _ _ hN1) (B1.trans s17.but);rcases aV.mp hy with hy|hy
   ·exact nr.2.2.2.2 y hy
   ·rw[ax.mp hy];exact nr.1
  by_cases ca:as=[]
  ·subst ca;exact .inl ⟨t,b,_,rfl,rfl,dA.of ht4,dA.of hb4,rest b H3 (aK.refl H3) hb4⟩
  ·refine .inr (.inr (.inr (.inr ⟨t,b,_,_,rfl,rfl,dA.of ht4,dA.of hb4,(by simpa using ca),di (cg (by rw[af];show as.length+1<=_;lia)),(λz=>by cases z),λ_ c nc=>?_⟩)));exact rest c _ ((aK.refl H3).new nc) (by rw[ag,aG];rfl)
 |_=>exact absurd c3 (by simp only[qH];decide +kernel)
def b3.rev'{α:Type}{R:V->α->Prop}{vs:List V}{rs:List α}(h:b3 R vs rs):b3 R vs.reverse rs.reverse:=by
 refine⟨by rw[dG,dG,h.len],λi v r e e'=>?_⟩;have hi:i<vs.length:=by have:=(aj.mp e).1;rw[dG] at this;exact this
 have hl:=h.len;rw[fY hi] at e;rw[fY (by lia)] at e';exact h.at_ _ v r e (by rw[hl];exact e')
def jA.len{ps ps':List bp}(e:ps.length=ps'.length){r:dQ}(h:jA ps r):jA ps' r:=by
 cases r with
 |call x k as=>exact⟨h.1,h.2.1,by rw[<-e];exact h.2.2.1,h.2.2.2.1,h.2.2.2.2⟩
 |num x z=>exact h
 |op x s a b=>exact h
 |say a=>exact h
 |jump to=>exact h
 |test a to=>exact h
 |give a=>exact h
def vQ.len{ps ps':List bp}(e:ps.length=ps'.length){b:bp}(h:vQ ps b):vQ ps' b:=⟨h.nm,h.p8,h.pn,h.few,λr hr=>(h.rows r hr).len e⟩
def Sq{g:Int}(g0:0<=g)(g1:g<2):IR ((2:Int) ^ dz 64-1-g):=by
 rw[RH];refine⟨by lia,Int.lt_of_le_of_lt (b:=18446744073709551615) (by lia) (by decide)⟩
def R6(K:Fg)(H:Hp)(st p L:ar)(bs:List dr)(k i:Nat)(σ':St)(H':Hp):Prop:=∃(o3 o4 o5 o6 o7 o8:Option V) (k':Nat) (pvs:List V) (qs:List bp),σ'=[some (.ref st),some (.ref p),some (.ref L),o3,o4,o5,o6,o7,o8]/\H' L=some (.lst pvs)/\b3 (jh H') pvs qs/\qs.map (·.name)=(bs.take i).map (·.name)/\(∀b∈qs,vQ (bs.map dr.up) b)/\j9 K H' st k'/\k'<=k+200*i/\gc st H H'
abbrev Jc(K:Fg)(H:Hp)(Q:VK)(st p L:ar)(bs:List dr)(k i:Nat):oE:={nx:=R6 K H st p L bs k (i+1),rt:=Q,bk:=wU K {nx:=λ_ H'=>Q .non H',rt:=Q},ct:=R6 K H st p L bs k (i+1)}
def Q5{K:Fg}{vs:List V}{H:Hp}{Q:VK}{E:XK}(h:An K vs H Q E):JV K {nx:=λ_ H'=>Q .non H',rt:=Q} (cQ I0 vs) H:=by
 obtain⟨st,p,k,ys,cs,bs,rfl,S,hk,⟨ppvs,hp,hA⟩,ok,few,q⟩:=h;have gnm:=Js ok;obtain⟨ysl,hst⟩:=S.lst;refine⟨Zc,λL nL=>?_⟩;show AU K _ [some (.ref st),some (.ref p),some (.ref L),none,none,none,none,none,none] _;have nLst:L≠st:=λz=>by rw[z,hst] at nL;cases nL
 have S1:=S.new (o:=.lst []) nL;have B1:gc st H (upd H L (.lst [])):=(gc.refl st H).new nL;have hL1:upd H L (.lst []) L=some (.lst []):=ag;generalize upd H L (.lst [])=H1 at S1 B1 hL1 ⊢;have T:∀{H'},gc st H H'->Tp H H':=λB=>.of_but B hst;refine .inr ⟨_,rfl,p,rfl,⟨_,dA.of (T B1 _ _ hp)⟩,kJ (xs:=ppvs) (R6 K H st p L bs k)
  ⟨_,_,_,_,_,_,k,[],[],rfl,hL1,b3.nil,rfl,(λb hb=>by cases hb),S1,by lia,B1⟩ ?_ ?_ ?_⟩
 ·rintro i σ' H' _ ⟨_,_,_,_,_,_,_,_,_,_,_,_,_,_,_,_,B⟩;exact dA.of (T B _ _ hp)
 ·rintro i v σ' H2 hv ⟨o3,o4,o5,o6,o7,o8,k2,pvs,qs,rfl,hL2,hQ2,nmq,okq,S2,lk2,B2⟩;obtain⟨b,hb,pa⟩:=hA.of_v hv;have bm:=aD hb;have ib:i<bs.length:=(aj.mp hb).1;have i5:i<5:=by have:=ok.few;lia
  have bup:vQ (bs.map dr.up) b.up:=gnm.part _ (bF.mpr ⟨b,bm,rfl⟩);have ql:qs.length=i:=by
   have:=congrArg gk nmq;rw[af,af,aX] at this;lia
  obtain⟨pp,pq,pr,rvs,rfl,h1,h2,h3,h4⟩:=pa.mono (T B2);obtain⟨ysl2,hst2⟩:=S2.lst;refine⟨pp,_,rfl,dA.of h1,rfl,_,_,rfl,_,_,rfl,_,_,rfl,rfl,?_⟩;show AS K _ [some (.ref st),some (.ref p),some (.ref L),some (.str b.name),some (.ref pq),some (.ref pr),o6,o7,o8] H2;refine⟨Zc,λN nN=>?_⟩;have nNst:N≠st:=λz=>by rw[z,hst2] at nN;cases nN
  have nLN:L≠N:=aC hL2 nN;have T2:∀{H'},gc st H2 H'->Tp H2 H':=λB=>.of_but B hst2;have S3:=S2.new (o:=.lst []) nN;have B3:gc st H2 (upd H2 N (.lst [])):=(gc.refl st H2).new nN;have hN3:upd H2 N (.lst []) N=some (.lst []):=ag;show AR K _ [some (.ref st),some (.ref p),some (.ref L),some (.str b.name),some (.ref pq),some (.ref pr),some (.ref N),o7,o8] (upd H2 N (.lst []));generalize upd H2 N (.lst [])=H3 at S3 B3 hN3 ⊢;have e2:∀(pq':ar) (prm:List Str) (k5:Nat) (H5:Hp) (nvs:List V) (ws:List dQ) (o7 o8:Option V),H5 pq'=some (.tup (prm.map V.str))->prm.length<=8->(∀y∈prm,Nm y)->H5 N=some (.lst nvs)->b3 (eI H5) nvs ws->ws.length<64->(∀w∈ws,jA (bs.map dr.up) w)->j9 K H5 st k5->k5<=k2+200->gc st H2 H5->
    wV K (Jc K H Q st p L bs k i)
     [some (.ref st),some (.ref p),some (.ref L),some (.str b.name),some (.ref pq'),some (.ref pr),some (.ref N),o7,o8] H5:=λpq' prm k5 H5 nvs ws o7 o8 hq5 pl pn hN5 hA5 wl wn S5 lk5 B5=>by
   have hL5:=B5 L _ nLst hL2;refine⟨_,rfl,.inl ⟨rfl,_,cN.of hL5⟩,_,rfl,_,rfl,_,rfl,N,_,rfl,.inl ⟨cN.of hN5,λt nt=>⟨Zf,λu nu=>?_⟩⟩⟩;have s7:aK H5 (upd (upd H5 t (.tup nvs)) u (.tup [.str b.name,.ref pq',.ref t])):=((aK.refl H5).new nt).new nu;have ht7:upd (upd H5 t (.tup nvs)) u (.tup [.str b.name,.ref pq',.ref t]) t=some (.tup nvs):=(aK.refl _).new nu _ _ ag;have hu7:upd (upd H5 t (.tup nvs)) u (.tup [.str b.name,.ref pq',.ref t]) u=some (.tup [.str b.name,.ref pq',.ref t]):=ag;generalize upd (upd H5 t (.tup nvs)) u (.tup [.str b.name,.ref pq',.ref t])=H7 at s7 ht7 hu7 ⊢;have hL7:=s7 _ _ hL5;have pl5:pvs.length<=5:=by rw[hQ2.len];lia
   refine⟨L,_,_,rfl,rfl,hL7,cg (by lia),?_⟩;have t8:Tp H7 (upd H7 L (.lst (pvs++[.ref u]))):=(Tp.refl H7).lst hL7;have T28:Tp H2 (upd H7 L (.lst (pvs++[.ref u]))):=((T2 B5).trans (.of_same s7)).trans t8;have T58:Tp H5 (upd H7 L (.lst (pvs++[.ref u]))):=(Tp.of_same s7).trans t8;refine⟨_,_,_,_,_,_,k5,pvs++[.ref u],qs++[⟨b.name,prm,ws⟩],rfl,ag,(hQ2.imp λ_ _ z=>z.mono T28).snoc ⟨u,pq',t,nvs,rfl,t8 _ _ hu7,T58 _ _ hq5,t8 _ _ ht7,hA5.imp λ_ _ z=>z.mono T58⟩,?_,λb' hb'=>?_,(S5.same s7).mono .upd_at hL7 (Ne.symm nLst),by lia,?_⟩
   ·rw[aG,nmq,bN,hb,aG];rfl
   ·rcases aV.mp hb' with z|z
    ·exact okq b' z
    ·rw[ax.mp z];exact⟨bup.nm,pl,pn,wl,wn⟩
   ·exact gc.past ((B2.trans B5).trans s7.but) nL .upd_at
  have plen:b.params.length<=4:=ok.c4 _ (by rw[<-ok.cnt];exact bF.mpr ⟨b,bm,rfl⟩);have pnm:∀y∈b.params,Nm y:=bup.pn;have e3:∀(k5:Nat) (H5:Hp) (nvs:List V) (ws:List dQ) (o7 o8:Option V),H5 N=some (.lst nvs)->b3 (eI H5) nvs ws->ws.length<64->(∀w∈ws,jA (bs.map dr.up) w)->j9 K H5 st k5->k5<=k2+190->gc st H2 H5->
    C6 K (Jc K H Q st p L bs k i)
     [some (.ref st),some (.ref p),some (.ref L),some (.str b.name),some (.ref pq),some (.ref pr),some (.ref N),o7,o8] H5:=λk5 H5 nvs ws o7 o8 hN5 hA5 wl wn S5 lk5 B5=>by
   obtain⟨ysl5,hst5⟩:=S5.lst;refine⟨_,rfl,st,9,k5,rfl,S5,by lia,by decide,by decide,λd H6 d0 d1 S6 B6=>.inr (.inl ⟨rfl,_,rfl,bL (λc=>?_) λc=>?_⟩)⟩
   ·have B26:=B5.trans B6;have hq6:=T2 B26 _ _ h2;have hN6:=B6 N _ nNst hN5;have hA6:=hA5.imp λ_ _ z=>z.mono (.of_but B6 hst5);refine⟨_,rfl,_,rfl,1,rfl,.inl (JL (c:=1) hq6 λq1 H7 hq7 s7=>?_)⟩;have hq67:=s7 _ _ hq6;have fin:∀(r:ar) (H8:Hp),H8 r=some (.tup ((b.params++b.params.take 1).map V.str))->aK H7 H8->Ia K (.ref r) none (some ((4:Nat):Int)) H8 λx H'=>aW 4 x [some (.ref st),some (.ref p),some (.ref L),some (.str b.name),some (.ref pq),some (.ref pr),some (.ref N),o7,o8] H' (wV K (Jc K H Q st p L bs k i)):=λr H8 hr8 s8=>by
     refine .inl (JL (c:=4) hr8 λr2 H9 hr9 s9=>?_);have s69:=(s7.trans s8).trans s9;refine e2 r2 ((b.params++b.params.take 1).take 4) (k5+1) H9 nvs ws o7 o8 (by rw[hr9,fO]) (by rw[aX];lia) (λy hy=>?_) (s69 _ _ hN6) (hA6.imp λ_ _ z=>z.mono (.of_same s69)) wl wn (S6.same s69) (by lia) (B26.trans s69.but);rcases aV.mp (dU hy) with z|z
     ·exact pnm y z
     ·exact pnm y (dU z)
    rw[<-fO] at hq7;by_cases ce:b.params=[]
    ·refine .inl ⟨pq,q1,_,rfl,rfl,dA.of (by rw[hq67,ce];rfl),dA.of hq7,4,rfl,fin q1 H7 (by rw[hq7,ce];rfl) (aK.refl H7)⟩
    ·have ne1:(b.params.take 1).map V.str≠[]:=by
      cases z:b.params with
      |nil=>exact absurd z ce
      |cons a r=>simp
     refine .inr (.inr (.inr (.inr ⟨pq,q1,_,_,rfl,rfl,dA.of hq67,dA.of hq7,(by simpa using ce),di (cg (by rw[af,af,aX];lia)),(λz=>absurd z ne1),λ_ r nr=>⟨4,rfl,fin r _ ?_ ((aK.refl H7).new nr)⟩⟩)));rw[ag,aG]
   ·exact e2 pq b.params (k5+1) H6 nvs ws o7 o8 (T2 (B5.trans B6) _ _ h2) (by lia) pnm (B6 N _ nNst hN5) (hA5.imp λ_ _ z=>z.mono (.of_but B6 hst5)) wl wn S6 (by lia) (B5.trans B6)
  have e4:∀(k5:Nat) (H5:Hp) (nvs:List V) (ws:List dQ) (o7 o8:Option V),H5 N=some (.lst nvs)->b3 (eI H5) nvs ws->ws.length<64->(∀w∈ws,jA (bs.map dr.up) w)->j9 K H5 st k5->k5<=k2+180->gc st H2 H5->
    C7 K (Jc K H Q st p L bs k i)
     [some (.ref st),some (.ref p),some (.ref L),some (.str b.name),some (.ref pq),some (.ref pr),some (.ref N),o7,o8] H5:=λk5 H5 nvs ws o7 o8 hN5 hA5 wl wn S5 lk5 B5=>by
   obtain⟨ysl5,hst5⟩:=S5.lst;refine⟨_,rfl,st,5,k5,rfl,S5,by lia,by decide,by decide,λd H6 d0 d1 S6 B6=>.inr (.inl ⟨rfl,_,rfl,bL (λc=>?_) λc=>?_⟩)⟩
   ·have hN6:=B6 N _ nNst hN5;have hA6:=hA5.imp λ_ _ z=>z.mono (.of_but B6 hst5);refine⟨_,rfl,.inl ⟨rfl,_,cN.of hN6⟩,N,_,rfl,rfl,hN6,?_⟩;have t7:Tp H6 (upd H6 N (.lst nvs.reverse)):=(Tp.refl H6).lst hN6;exact e3 (k5+1) _ nvs.reverse ws.reverse o7 o8 ag (hA6.rev'.imp λ_ _ z=>z.mono t7) (by rw[dG];exact wl) (λw hw=>wn w (List.mem_reverse.mp hw)) (S6.mono .upd_at hN6 (Ne.symm nNst)) (by lia) (gc.past (B5.trans B6) nN .upd_at)
   ·exact e3 (k5+1) H6 nvs ws o7 o8 (B6 N _ nNst hN5) (hA5.imp λ_ _ z=>z.mono (.of_but B6 hst5)) wl wn S6 (by lia) (B5.trans B6)
  refine .inr ⟨_,rfl,pr,rfl,⟨_,dA.of (T2 B3 _ _ h3)⟩,kJ (xs:=rvs) (λj σ' H'=>∃(o7 o8:Option V) (nvs:List V) (ws:List dQ) (k':Nat),σ'=[some (.ref st),some (.ref p),some (.ref L),some (.str b.name),some (.ref pq),some (.ref pr),some (.ref N),o7,o8]/\H' N=some (.lst nvs)/\b3 (eI H') nvs ws/\ws.length=j/\(∀w∈ws,jA (bs.map dr.up) w)/\j9 K H' st k'/\k'<=k2+2*j/\gc st H2 H')
   ⟨_,_,[],[],k2,rfl,hN3,b3.nil,rfl,(λw hw=>by cases hw),S3,by lia,B3⟩ ?_ ?_ ?_⟩
  ·rintro j σ' H' _ ⟨_,_,_,_,_,_,_,_,_,_,_,_,B⟩;exact dA.of (T2 B _ _ h3)
  ·rintro j v σ' H4 hv ⟨o7,o8,nvs,ws,k4,rfl,hN4,hA4,wl4,wn4,S4,lk4,B4⟩;obtain⟨r,hr,ra⟩:=h4.of_v hv;have jl:j<b.rows.length:=(aj.mp hr).1;have j21:b.rows.length<=21:=few b bm;have rn:jA (bs.map dr.up) r.up:=bup.rows _ (bF.mpr ⟨r,aD hr,rfl⟩);have ro:=(ok.part b bm).rows r (aD hr);obtain⟨ysl4,hst4⟩:=S4.lst;have nl4:nvs.length<=1000:=by rw[hA4.len];lia
   refine Ij (k:=k4) (r:=r.up) S4 (by lia) hN4 nNst nl4 (ra.up.mono (T2 B4)) rn (λx z as e=>?_) λv' r' k5 H5 o ra' nr' S5 lk5 hN5 B5=>?_
   ·cases r with
    |call x' k' as'=>
     have e:dQ.call x' (k':Nat) as'=.call x z as:=e;injection e with _ _ e;rw[<-e];exact ok.c4 _ (aD ro.2.1)
    |_=>cases e
   ·have t6:Tp H5 (upd H5 N (.lst (nvs++[v']))):=(Tp.refl H5).lst hN5;have T46:Tp H4 (upd H5 N (.lst (nvs++[v']))):=(Tp.of_but B5 hst4).trans t6;refine⟨_,_,nvs++[v'],ws++[r'],k5,rfl,ag,(hA4.imp λ_ _ z=>z.mono T46).snoc (ra'.mono t6),by rw[aN,wl4];rfl,λw hw=>?_,S5.mono .upd_at hN5 (Ne.symm nNst),by lia,gc.past (B4.trans B5) nN .upd_at⟩;rcases aV.mp hw with z|z
    ·exact wn4 w z
    ·rw[ax.mp z];exact nr'
  ·rintro σ' H4 ⟨o7,o8,nvs,ws,k4,rfl,hN4,hA4,wl4,wn4,S4,lk4,B4⟩;have j21:b.rows.length<=21:=few b bm;have rl:rvs.length=b.rows.length:=h4.len;obtain⟨ysl4,hst4⟩:=S4.lst;show C8 K _ [some (.ref st),some (.ref p),some (.ref L),some (.str b.name),some (.ref pq),some (.ref pr),some (.ref N),o7,o8] H4;refine⟨_,rfl,st,9,k4,rfl,S4,by lia,by decide,by decide,λd H5 d0 d1 S5 B5=>.inr (.inl ⟨rfl,_,rfl,bL (λc=>?_) λc=>?_⟩)⟩
   ·have hN5:=B5 N _ nNst hN4;obtain⟨ysl5,hst5⟩:=S5.lst;refine⟨_,rfl,.inl ⟨rfl,_,cN.of hN5⟩,_,_,rfl,rfl,⟨by decide,by decide,by decide⟩,_,_,rfl,rfl,_,rfl,st,2,k4+1,rfl,S5,by lia,by decide,by decide,λg H6 g0 g1 S6 B6=>⟨_,_,rfl,rfl,Zf,λt nt=>?_⟩⟩;have hN6:=B6 N _ nNst hN5;have irg:=Sq g0 g1;have s7:aK H6 (upd H6 t (.tup [.str "num",.str "q",.int ((2:Int) ^ dz 64-1-g)])):=(aK.refl H6).new nt;have ht7:upd H6 t (.tup [.str "num",.str "q",.int ((2:Int) ^ dz 64-1-g)]) t=some (.tup [.str "num",.str "q",.int ((2:Int) ^ dz 64-1-g)]):=ag;generalize upd H6 t (.tup [.str "num",.str "q",.int ((2:Int) ^ dz 64-1-g)])=H7 at s7 ht7 ⊢;generalize (2:Int) ^ dz 64-1-g=z at irg ht7;have hN7:=s7 _ _ hN6;refine⟨N,_,_,rfl,rfl,hN7,cg (by rw[hA4.len];lia),?_⟩;have t8:Tp H7 (upd H7 N (.lst (nvs++[.ref t]))):=(Tp.refl H7).lst hN7;have T48:Tp H4 (upd H7 N (.lst (nvs++[.ref t]))):=((Tp.of_but B5 hst4).trans (.of_but B6 hst5)).trans ((Tp.of_same s7).trans t8);refine e4 (k4+2) _ (nvs++[.ref t]) (ws++[.num "q" z]) o7 o8 ag ((hA4.imp λ_ _ z=>z.mono T48).snoc (show eI _ (.ref t) (.num "q" z) from⟨t,rfl,t8 _ _ ht7⟩)) (by rw[aN,wl4];show rvs.length+1<64;lia) (λw hw=>?_) ((S6.same s7).mono .upd_at hN7 (Ne.symm nNst)) (by lia) (gc.past (((B4.trans B5).trans B6).trans s7.but) nN .upd_at);rcases aV.mp hw with y|y
    ·exact wn4 w y
    ·rw[ax.mp y];exact⟨VI,irg⟩
   ·exact e4 (k4+1) H5 nvs ws o7 o8 (B5 N _ nNst hN4) (hA4.imp λ_ _ z=>z.mono (.of_but B5 hst4)) (by lia) wn4 S5 (by lia) (B4.trans B5)
 ·rintro σ' H2 ⟨o3,o4,o5,o6,o7,o8,k2,pvs,qs,rfl,hL2,hQ2,nmq,okq,S2,lk2,B2⟩;rw[hA.len,bA (aB _)] at nmq;have ql:qs.length=bs.length:=by have:=congrArg gk nmq;rw[af,af] at this;exact this
  show wU K _ [some (.ref st),some (.ref p),some (.ref L),o3,o4,o5,o6,o7,o8] H2;refine⟨_,rfl,L,_,rfl,.inl ⟨cN.of hL2,λt nt=>?_⟩⟩;refine q t qs k2 _ ⟨pvs,ag,hQ2.imp λ_ _ z=>z.mono (.of_same ((aK.refl H2).new nt))⟩ ⟨λz=>?_,by rw[ql];have:=ok.few;lia,λb hb=>(okq b hb).len (by rw[af];exact ql.symm)⟩ (by rw[nmq];exact ok.nnd) (S2.new nt) (B2.new nt);rw[z] at ql;have:=ok.pos;have:(0:Nat)=bs.length:=ql;lia
end Bg
end
namespace Bg
open PySem PySem.Spec PyProof.Rows L2
section
variable{P:aZ}{w:bK}{K:Fg}{mg:Str->Option ae}{base:Heap}
def D3{vs:List V}{H:Hp}{Q:VK}{E:XK}(h:kS K vs H Q E):vs.length=kP.length:=by
 first|(obtain⟨_,_,_,_,rfl,_⟩:=h;rfl)
def FR{f:ar}{fd:dR}{dV:ae}(F:O5 K "walked" "walked" gC dV f fd)(B:kG mg)(c_p_sets:yX P w K mg base)(c_p_leads:vH P w K mg base):oF P w K mg base Dl y7 f fd kP (kS K):=
 F.ok Gf (λvs H Q E h=>D3 h) λcdv A outer s H vs Q E hr h=>⟨_,Hq B c_p_sets c_p_leads hr,Ie (E:=E) h⟩
def ua{vs:List V}{H:Hp}{Q:VK}{E:XK}(h:fu K vs H Q E):vs.length=fo.length:=by
 first|(obtain⟨_,_,_,_,rfl,_⟩:=h;rfl)
def u5{f:ar}{fd:dR}(F:O4 K "__init__" "NoProgram.__init__" eZ f fd)(B:kG mg)(T:Mj K) :oF P w K mg base Dl ku f fd fo (fu K):=
 F.ok ve (λvs H Q E h=>ua h) λcdv A outer s H vs Q E hr h=>⟨_,vZ B hr,wD T (E:=E) h⟩
def yv{vs:List V}{H:Hp}{Q:VK}{E:XK}(h:eC K vs H Q E):vs.length=fX.length:=by
 first|(obtain⟨_,_,rfl,_⟩:=h;rfl)
def zS{f:ar}{fd:dR}(F:O4 K "__init__" "NoLine.__init__" gB f fd)(B:kG mg)(T:Ke K) :oF P w K mg base Dl kI f fd fX (eC K):=
 F.ok Ak (λvs H Q E h=>yv h) λcdv A outer s H vs Q E hr h=>⟨_,Be B hr,Br T (E:=E) h⟩
def CB{d:Nat}{vs:List V}{H:Hp}{Q:VK}{E:XK}(h:vh d vs H Q E):vs.length=kO.length:=by
 obtain⟨_,_,rfl,_⟩:=h;rfl
def FQ{f:ar}{fd:dR}(F:O4 K "_law_kinds" "_law_kinds" m9 f fd)(B:kG mg)(hx:mg "_law_kinds"=some (.ref f))(kp:cI K (.ref f)=true)(b:qf K fd kO []):∀d:Nat,oF P w K mg base Dl (d+1) f fd kO (vh d)
 |0=>F.ok Ge (λvs H Q E h=>CB h) λcdv A outer s H vs Q E hr h=>⟨_,Jj B (S:=u6 0) ⟨⟨f,fd,hx,kp,b,⟨λ_ _ _ _ h=>False.elim h,λ_ _ _ _ _ _ _ _ _ _ _ _ _ h=>False.elim h⟩⟩⟩ hr,JF (d:=0) (E:=E) h⟩
 |d+1=>F.ok Ge (λvs H Q E h=>CB h) λcdv A outer s H vs Q E hr h=>⟨_,Jj B (S:=u6 (d+1)) ⟨⟨f,fd,hx,kp,b,FQ F B hx kp b d⟩⟩ hr,JF (d:=d+1) (E:=E) h⟩
end
def all_mk{l:PySem.W.OpenLaw}{w:bK}{K:Fg}{h:Heap}{mg:Str->Option ae}{fa:ar}(X:K.In h)(G:h.Ns bg mg)(hfa:mg "law"=some (.ref fa))
  {C_NoLine:ar} (zc_NoLine:bG K bg "NoLine"=some (some (.ref C_NoLine)))
  {C_NoProgram:ar} (zc_NoProgram:bG K bg "NoProgram"=some (some (.ref C_NoProgram)))
  {nm_NoLine q_NoLine:Str} {N_NoLine B_NoLine:ar} {bs_NoLine:List ae} {sn_NoLine:List Str} {sub_NoLine:List ae} {ab_NoLine:Bool} {col_NoLine:Option Bool} {dd_NoLine:Option ar} {k0_NoLine k1_NoLine k2_NoLine k3_NoLine k5_NoLine:Option ae}
  (lx_NoLine:K.lookup C_NoLine=some (IH nm_NoLine q_NoLine C_NoLine N_NoLine B_NoLine bs_NoLine true sn_NoLine sub_NoLine ab_NoLine col_NoLine dd_NoLine k0_NoLine k1_NoLine k2_NoLine k3_NoLine k5_NoLine)) (ga_NoLine:cH K (.ref C_NoLine) "__getattribute__"=some (some (.builtin "BaseException.__getattribute__"))) (gh_NoLine:cH K (.ref C_NoLine) "__getattr__"=some none) (sa_NoLine:cH K (.ref C_NoLine) "__setattr__"=some (some (.builtin "object.__setattr__")))
  {nm_NoProgram q_NoProgram:Str} {N_NoProgram B_NoProgram:ar} {bs_NoProgram:List ae} {sn_NoProgram:List Str} {sub_NoProgram:List ae} {ab_NoProgram:Bool} {col_NoProgram:Option Bool} {dd_NoProgram:Option ar} {k0_NoProgram k1_NoProgram k2_NoProgram k3_NoProgram k5_NoProgram:Option ae}
  (lx_NoProgram:K.lookup C_NoProgram=some (IH nm_NoProgram q_NoProgram C_NoProgram N_NoProgram B_NoProgram bs_NoProgram true sn_NoProgram sub_NoProgram ab_NoProgram col_NoProgram dd_NoProgram k0_NoProgram k1_NoProgram k2_NoProgram k3_NoProgram k5_NoProgram)) (ga_NoProgram:cH K (.ref C_NoProgram) "__getattribute__"=some (some (.builtin "BaseException.__getattribute__"))) (gh_NoProgram:cH K (.ref C_NoProgram) "__getattr__"=some none) (sa_NoProgram:cH K (.ref C_NoProgram) "__setattr__"=some (some (.builtin "object.__setattr__")))
  {nm2_NoProgram q2_NoProgram:Str} {N2_NoProgram:ar} {bs2_NoProgram bm2_NoProgram:List ae} {hd2_NoProgram:Bool} {sn2_NoProgram:List Str} {sub2_NoProgram:List ae} {ab2_NoProgram:Bool} {col2_NoProgram:Option Bool} {dd2_NoProgram:Option ar} {k02_NoProgram k12_NoProgram k22_NoProgram k32_NoProgram k52_NoProgram:Option ae} {nid_NoProgram:String}
  (le_NoProgram:K.lookup C_NoProgram=some (mR nm2_NoProgram q2_NoProgram C_NoProgram N2_NoProgram bs2_NoProgram bm2_NoProgram hd2_NoProgram sn2_NoProgram sub2_NoProgram ab2_NoProgram col2_NoProgram dd2_NoProgram k02_NoProgram k12_NoProgram k22_NoProgram k32_NoProgram k52_NoProgram nid_NoProgram)) (me_NoProgram:fP K C_NoProgram (.type "BaseException")=some true)
  (kp_NoLine:cI K (.ref C_NoLine)=true)
  (kp_NoProgram:cI K (.ref C_NoProgram)=true)
  (xm_6:fP K C_NoProgram (.ref C_NoProgram)=some true)
  {tk_FIGURES:Tok} (zq_FIGURES:bG K bg "FIGURES"=some (some (.str "0123456789" tk_FIGURES)))
  {tk_LETTERS:Tok} (zq_LETTERS:bG K bg "LETTERS"=some (some (.str "abcdefghijklmnopqrstuvwxyz" tk_LETTERS)))
  {P_WORDS:ar} {od_WORDS:Option ar} {n_WORDS:Nat} {sl_WORDS:Array (Option ae)} {tk0_WORDS tk1_WORDS tk2_WORDS tk3_WORDS tk4_WORDS tk5_WORDS:Tok} (zq_WORDS:bG K bg "WORDS"=some (some (.ref P_WORDS))) (lq_WORDS:K.lookup P_WORDS=some ⟨.type "tuple",od_WORDS,.seq #[.str "part" tk0_WORDS,.str "call" tk1_WORDS,.str "say" tk2_WORDS,.str "jump" tk3_WORDS,.str "test" tk4_WORDS,.str "give" tk5_WORDS] n_WORDS,sl_WORDS⟩)
  {P_SIGNS:ar} {od_SIGNS:Option ar} {n_SIGNS:Nat} {sl_SIGNS:Array (Option ae)} {tk0_SIGNS tk1_SIGNS tk2_SIGNS tk3_SIGNS tk4_SIGNS:Tok} (zq_SIGNS:bG K bg "SIGNS"=some (some (.ref P_SIGNS))) (lq_SIGNS:K.lookup P_SIGNS=some ⟨.type "tuple",od_SIGNS,.seq #[.str "+" tk0_SIGNS,.str "-" tk1_SIGNS,.str "*" tk2_SIGNS,.str "<" tk3_SIGNS,.str "=" tk4_SIGNS] n_SIGNS,sl_SIGNS⟩)
  (no_0:cH K (.ref C_NoLine) "line"=some none)
  (no_1:cH K (.ref C_NoProgram) "part"=some none)
  (no_2:cH K (.ref C_NoProgram) "row"=some none)
  (no_3:cH K (.ref C_NoProgram) "word"=some none)
  (l0:dP K "figures" xH)
  (l1:dP K "line_of" xI)
  (l2:dP K "write" wI)
  (l3:dP K "reads" CL)
  (l4:dP K "names_read" rD)
  (l5:dP K "sets" Gd)
  (l6:dP K "goal" Gc)
  (l7:dP K "leads" CK)
  {od8 an8:Option ar} {sl8:Array (Option ae)} {oc8 kV8 dc8 pm8 cd8 ct8:ae} {f8:ar}
  {T8:ar} {ocT8:ae} {odT8:Option ar} {nT8:Nat} {slT8:Array (Option ae)}
  (a8:bG K bg "walked"=some (some (.ref f8)))
  (l8:K.lookup f8=some ⟨oc8,od8,.func (dk "walked" "walked" (gX gC) (eX gC) (bS gC) (.ref T8) kV8 dc8 pm8 an8 cd8 ct8),sl8⟩) (c8:eh K cd8 "walked"=true) (k8:cI K (.ref f8)=true)
  (t8:K.lookup T8=some ⟨ocT8,odT8,.seq #[ae.none] nT8,slT8⟩)
  (l9:dP K "unset_due" oa)
  {od10 an10:Option ar} {sl10:Array (Option ae)} {oc10 kV10 dc10 pm10 cd10 ct10:ae} {f10:ar}
  (a10:cH K (.ref C_NoProgram) "__init__"=some (some (.ref f10)))
  (l10:K.lookup f10=some ⟨oc10,od10,.func (dk "__init__" "NoProgram.__init__" (gX eZ) (eX eZ) (bS eZ) .none kV10 dc10 pm10 an10 cd10 ct10),sl10⟩) (c10:eh K cd10 "NoProgram.__init__"=true) (k10:cI K (.ref f10)=true)
  (i10:uE K (.ref f10)=true)
  (l11:dP K "refuse" Aj)
  (l12:dP K "comes_round" qp)
  (l13:dP K "ring_due" vd)
  (l14:dP K "calls_amiss" qo)
  (l15:dP K "goes_astray" qr)
  (l16:dP K "row_due" xJ)
  (l17:dP K "name_due" pR)
  (l18:dP K "check" CJ)
  (l19:dP K "numbered" vc)
  (l20:dP K "program_of" mD)
  {od21 an21:Option ar} {sl21:Array (Option ae)} {oc21 kV21 dc21 pm21 cd21 ct21:ae} {f21:ar}
  (a21:cH K (.ref C_NoLine) "__init__"=some (some (.ref f21)))
  (l21:K.lookup f21=some ⟨oc21,od21,.func (dk "__init__" "NoLine.__init__" (gX gB) (eX gB) (bS gB) .none kV21 dc21 pm21 an21 cd21 ct21),sl21⟩) (c21:eh K cd21 "NoLine.__init__"=true) (k21:cI K (.ref f21)=true)
  (i21:uE K (.ref f21)=true)
  (l22:dP K "refuse_calls" oS)
  (l23:dP K "numbers_of_parts" iM)
  (l24:dP K "refuse_forms" oU)
  (l25:dP K "is_number" nZ)
  (l26:dP K "is_name" rC)
  (l27:dP K "are_names" nY)
  (l28:dP K "setting_read" oV)
  (l29:dP K "line_read" sV)
  (l30:dP K "read" Ai)
  {od31 an31:Option ar} {sl31:Array (Option ae)} {oc31 kV31 dc31 pm31 cd31 ct31:ae} {f31:ar}
  (a31:bG K bg "_law_kinds"=some (some (.ref f31)))
  (l31:K.lookup f31=some ⟨oc31,od31,.func (dk "_law_kinds" "_law_kinds" (gX m9) (eX m9) (bS m9) .none kV31 dc31 pm31 an31 cd31 ct31),sl31⟩) (c31:eh K cd31 "_law_kinds"=true) (k31:cI K (.ref f31)=true)
  (l32:dP K "_law_told" Oo)
  (l33:dP K "_law_row_text" uu)
  (l34:dP K "_law_lines" JH)
  (l35:dP K "_law_written" CM)
  (l36:dP K "_law_draw" On)
  (l37:dP K "_law_rough" JI)
  (l38:dP K "_law_filled" Ah)
  (l39:dP K "_law_leads" JG)
  (l40:dP K "_law_set_names" nh)
  (l41:dP K "_law_mended" Gb)
  (l42:dP K "_law_worth" JJ)
  (l43:dP K "_law_rough_row" xK)
  (l44:dP K "_law_part" Ik)
  (l45:dP K "_law_names" Ej)
  (l46:dP K "_law_program" wJ)
  (l47:dP K "law" RQ)
  (z_len:bG K bg "len"=some none) (z_range:bG K bg "range"=some none) (z_divmod:bG K bg "divmod"=some none) (z_max:bG K bg "max"=some none) (z_min:bG K bg "min"=some none) (z_sum:bG K bg "sum"=some none) (z_all:bG K bg "all"=some none) (z_isinstance:bG K bg "isinstance"=some none) (z_int:bG K bg "int"=some none) (z_bool:bG K bg "bool"=some none) (z_list:bG K bg "list"=some none) (z_tuple:bG K bg "tuple"=some none) (z_enumerate:bG K bg "enumerate"=some none) (z_zip:bG K bg "zip"=some none) (z_sorted:bG K bg "sorted"=some none) (z_set:bG K bg "set"=some none) (z_dict:bG K bg "dict"=some none) (z_str:bG K bg "str"=some none) (z_any:bG K bg "any"=some none) (z_reversed:bG K bg "reversed"=some none) (z_abs:bG K bg "abs"=some none) :
  ∃fd:dR,(∀(s:aq) (v:ae),rT s fd ⟨[v],[]⟩ [("_law_script",v)])/\∀base:Heap,K.In base->base.Ns bg mg->oF l.prog w K mg base Dl LZ fa fd Mb (Em K):=by
 have B:kG mg:=⟨bD X G z_len,bD X G z_range,bD X G z_divmod,bD X G z_max,bD X G z_min,bD X G z_sum,bD X G z_all,bD X G z_isinstance,bD X G z_int,bD X G z_bool,bD X G z_list,bD X G z_tuple,bD X G z_enumerate,bD X G z_zip,bD X G z_sorted,bD X G z_set,bD X G z_dict,bD X G z_str,bD X G z_any,bD X G z_reversed,bD X G z_abs⟩;have eC_NoLine:eK K "NoLine"=C_NoLine:=E9 zc_NoLine;have eC_NoProgram:eK K "NoProgram"=C_NoProgram:=E9 zc_NoProgram;have xc_NoLine:DD K C_NoLine:=⟨⟨_,_,_,_,_,_,_,_,_,_,_,_,_,_,_,lx_NoLine⟩,ga_NoLine,gh_NoLine,sa_NoLine⟩;have xc_NoProgram:DD K C_NoProgram:=⟨⟨_,_,_,_,_,_,_,_,_,_,_,_,_,_,_,lx_NoProgram⟩,ga_NoProgram,gh_NoProgram,sa_NoProgram⟩;have xe_NoProgram:UB K C_NoProgram:=⟨⟨_,_,_,_,_,_,_,_,_,_,_,_,_,_,_,_,_,le_NoProgram⟩,me_NoProgram⟩;have q_FIGURES:Ul mg "FIGURES" "0123456789":=⟨⟨_,dX X G zq_FIGURES⟩⟩;have q_LETTERS:Ul mg "LETTERS" "abcdefghijklmnopqrstuvwxyz":=⟨⟨_,dX X G zq_LETTERS⟩⟩;have q_WORDS:Um K mg "WORDS" [.str "part",.str "call",.str "say",.str "jump",.str "test",.str "give"]:=⟨⟨_,_,_,_,dX X G zq_WORDS,lq_WORDS,rfl,rfl,(by show 6<=av;decide),.cons ⟨_,rfl⟩ (.cons ⟨_,rfl⟩ (.cons ⟨_,rfl⟩ (.cons ⟨_,rfl⟩ (.cons ⟨_,rfl⟩ (.cons ⟨_,rfl⟩ (.nil))))))⟩⟩;have q_SIGNS:Um K mg "SIGNS" [.str "+",.str "-",.str "*",.str "<",.str "="]:=⟨⟨_,_,_,_,dX X G zq_SIGNS,lq_SIGNS,rfl,rfl,Zh,.cons ⟨_,rfl⟩ (.cons ⟨_,rfl⟩ (.cons ⟨_,rfl⟩ (.cons ⟨_,rfl⟩ (.cons ⟨_,rfl⟩ (.nil)))))⟩⟩;have g_NoProgram:mg "NoProgram"=some (.ref (eK K "NoProgram")):=dX X G zc_NoProgram |>.trans (by rw[eC_NoProgram]);have T_TxtL:Ke K:=⟨(by rw[eC_NoLine];exact xc_NoLine),(by rw[eC_NoLine];exact no_0)⟩;have T_TxtP:Mj K:=⟨(by rw[eC_NoProgram];exact xc_NoProgram),(by rw[eC_NoProgram];exact no_1),(by rw[eC_NoProgram];exact no_2),(by rw[eC_NoProgram];exact no_3),(by rw[eC_NoProgram];exact⟨xc_NoProgram,xe_NoProgram,xm_6⟩)⟩;have F8:=PF (st:=gC) l8 c8 k8;have F10:=v9 (st:=eZ) l10 c10 k10;have b10:=F10.binds (ps:=fo) λ_ _ _ _ _ _ us hl=>by(obtain⟨_,_,_,_,rfl⟩:=VU (us:=us) hl);rfl
 have F21:=v9 (st:=gB) l21 c21 k21;have b21:=F21.binds (ps:=fX) λ_ _ _ _ _ _ us hl=>by(obtain⟨_,_,rfl⟩:=Vr (us:=us) hl);rfl
 have F31:=v9 (st:=m9) l31 c31 k31;have b31:=F31.binds (ps:=kO) λ_ _ _ _ _ _ us hl=>by(obtain⟨_,_,rfl⟩:=Vr (us:=us) hl);rfl
 refine UH (k:=RC) X G hfa l47 (λbase=>?_) λ_ _ _ _=>Ve;have c_p_figures:w5 l.prog w K mg base:=pN X G l0 (Fd B) λ_ _ _ _=>F2;have c_p_line_of:w6 l.prog w K mg base:=pN X G l1 (Fh B c_p_figures) λ_ _ _ _=>F4;have c_p_write:vJ l.prog w K mg base:=pN X G l2 (Ko B c_p_line_of) λ_ _ _ _=>Li;have c_p_reads:vI l.prog w K mg base:=pN X G l3 (Kn B) λ_ _ _ _=>Lh;have c_p_names_read:qN l.prog w K mg base:=pN X G l4 (zr B c_p_reads) λ_ _ _ _=>Ad;have c_p_sets:yX l.prog w K mg base:=pN X G l5 (MA B) λ_ _ _ _=>Od;have c_p_goal:yU l.prog w K mg base:=pN X G l6 (Fe B) λ_ _ _ _=>Ob;have c_w_goal:EJ l.prog w K mg base:=pN X G l6 (Fe B) λ_ _ _ _=>Oe;have c_p_leads:vH l.prog w K mg base:=pN X G l7 (Km B c_p_goal) λ_ _ _ _=>Lg;have b8_0:qf K _ kP []:=λs us X hl=>by(obtain⟨_,_,rfl⟩:=Vr (us:=us) (show us.length=2 from by rw[dn] at hl;exact hl));exact PySem.W.binds_K (fd:=dk "walked" "walked" (gX gC) (eX gC) (bS gC) (.ref T8) kV8 dc8 pm8 an8 cd8 ct8) X rfl t8 rfl rfl rfl
 have c_p_walked:yY l.prog w K mg base:=⟨⟨_,_,dX X G a8,k8,b8_0,FR F8 B c_p_sets c_p_leads⟩⟩;have c_p_unset_due:sO l.prog w K mg base:=pN X G l9 (Bj B c_p_names_read c_p_walked c_p_reads) λ_ _ _ _=>Bv;have mx_NoProgram:BX l.prog w K mg base "NoProgram" (eK K "NoProgram") fo ku (fu K):=⟨⟨f10,_,dX X G zc_NoProgram |>.trans (by rw[eC_NoProgram]),by rw[eC_NoProgram];exact⟨xc_NoProgram,a10,i10,kp_NoProgram⟩,b10,u5 F10 B T_TxtP⟩⟩;have c_p_refuse:yW l.prog w K mg base:=Nl X G l11 (Ho B mx_NoProgram) λ_ _ _ _=>Ic T_TxtP;have c_p_comes_round:qh l.prog w K mg base:=pN X G l12 (yk B c_p_goal) λ_ _ _ _=>yx;have c_p_ring_due:uI l.prog w K mg base:=pN X G l13 (DR B c_p_comes_round) λ_ _ _ _=>Eh;have c_p_calls_amiss:qg l.prog w K mg base:=pN X G l14 (yj B) λ_ _ _ _=>yw;have c_p_goes_astray:qi l.prog w K mg base:=pN X G l15 (ym B c_w_goal) λ_ _ _ _=>yy;have c_p_row_due:w9 l.prog w K mg base:=pN X G l16 (Fi B c_p_calls_amiss c_p_goes_astray) λ_ _ _ _=>F5;have c_p_name_due:uG l.prog w K mg base:=pN X G l17 (DP B) λ_ _ _ _=>Ef;have c_p_check:BU l.prog w K mg base:=Nl X G l18 (Kl B c_p_unset_due c_p_refuse c_p_ring_due c_p_row_due c_p_name_due) λ_ _ _ _=>Lf;have c_p_numbered:uH l.prog w K mg base:=pN X G l19 (DQ B) λ_ _ _ _=>Eg;have c_p_program_of:qO l.prog w K mg base:=pN X G l20 (zt B c_p_numbered) λ_ _ _ _=>Ae;have mx_NoLine:BX l.prog w K mg base "NoLine" (eK K "NoLine") fX kI (eC K):=⟨⟨f21,_,dX X G zc_NoLine |>.trans (by rw[eC_NoLine]),by rw[eC_NoLine];exact⟨xc_NoLine,a21,i21,kp_NoLine⟩,b21,zS F21 B T_TxtL⟩⟩;have c_p_refuse_calls:oA l.prog w K mg base:=Nl X G l22 (v5 B mx_NoLine) λ_ _ _ _=>wF T_TxtL;have c_p_numbers_of_parts:kN l.prog w K mg base:=pN X G l23 (qX B) λ_ _ _ _=>rB;have c_p_refuse_forms:oB l.prog w K mg base:=Nl X G l24 (v7 B mx_NoLine) λ_ _ _ _=>wG T_TxtL;have c_p_is_number:nF l.prog w K mg base:=pN X G l25 (Bh B q_FIGURES) λ_ _ _ _=>Bt;have c_p_is_name:mW l.prog w K mg base:=pN X G l26 (Ff B q_LETTERS q_WORDS) λ_ _ _ _=>F3;have c_p_are_names:nE l.prog w K mg base:=pN X G l27 (Bf B c_p_is_name) λ_ _ _ _=>Bs;have c_p_setting_read:oC l.prog w K mg base:=pN X G l28 (v8 B q_SIGNS c_p_is_name c_p_are_names c_p_is_number) λ_ _ _ _=>wH;have c_p_line_read:sM l.prog w K mg base:=pN X G l29 (Bi B c_p_is_number c_p_is_name c_p_are_names c_p_setting_read) λ_ _ _ _=>Bu;have c_p_read:yV l.prog w K mg base:=Nl X G l30 (Mz B c_p_check c_p_program_of c_p_refuse_calls c_p_numbers_of_parts c_p_refuse_forms c_p_line_read) λ_ _ _ _=>Oc;have c_kinds:cP l.prog w K mg base "_law_kinds" kO IV (rE K):=⟨⟨_,_,dX X G a31,k31,b31,FQ F31 B (dX X G a31) k31 b31 6⟩⟩;have c_told:LV l.prog w K mg base:=pN X G l32 (Si B g_NoProgram c_p_read) λ_ _ _ _=>TR T_TxtP;have c_row_text:yZ l.prog w K mg base:=pN X G l33 (Hr B) λ_ _ _ _=>Ig;have c_lines:Dm l.prog w K mg base:=pN X G l34 (Po B c_row_text) λ_ _ _ _=>Q3;have c_written:BW l.prog w K mg base:=pN X G l35 (Kr B c_lines c_p_write) λ_ _ _ _=>Lk;have c_draw:qM l.prog w K mg base:=pN X G l36 (Sg B) λ_ _ _ _=>TN;have c_rough:IQ l.prog w K mg base:=pN X G l37 (Pr B c_draw) λ_ _ _ _=>Q5;have c_filled:EH l.prog w K mg base:=pN X G l38 (Mx B c_draw) λ_ _ _ _=>N9;have c_leads:IM l.prog w K mg base:=pN X G l39 (Pn B) λ_ _ _ _=>Q2;have c_set_names:xb l.prog w K mg base:=pN X G l40 (Fk B c_leads) λ_ _ _ _=>F7;have c_mended:EI l.prog w K mg base:=pN X G l41 (My B) λ_ _ _ _=>Oa;have c_worth:IS l.prog w K mg base:=pN X G l42 (Pt B c_draw) λ_ _ _ _=>Q6;have c_rough_row:xa l.prog w K mg base:=pN X G l43 (Fj B c_draw c_worth) λ_ _ _ _=>F6;have c_part:LU l.prog w K mg base:=pN X G l44 (Sh B c_filled c_set_names c_mended c_rough_row c_draw) λ_ _ _ _=>TQ;have c_names:IP l.prog w K mg base:=pN X G l45 (Pp B c_draw) λ_ _ _ _=>Q4;have c_program:BV l.prog w K mg base:=pN X G l46 (Kp B c_part c_draw c_names) λ_ _ _ _=>Lj;intro _ _ _ _ _ _ _ hr;exact UC B c_p_write c_p_read c_kinds c_told c_lines c_written c_rough c_program hr
def TZ{K:Fg}{H:Hp}{a:ar}{ns:List Int}(o:Pc H)(h:cN K H a (ns.map V.int)):mZ K H a ns:=by
 rcases h with(h|h)|h
 ·rcases o a with z|⟨ob,xs,z⟩<;>rw[h] at z<;>cases z
 ·exact .inl h
 ·exact .inr h
def walk{l:PySem.W.OpenLaw}{q:aZ}{loose:List Str}{XP:(Str->Option ae)->Heap->Prop}{YP:bK->Heap->Prop}{d:DefRec}{K:Params->Fg}(hn:l.most=some 63)(hdf:d.params.defaults=[])
  (hY:∀(w:bK) (h:Heap),YP w h->(K w.params).In h)
  (F:∀(w:bK) (mg:Str->Option ae) (fa:ar) (h:Heap),(K w.params).In h->h.Ns bg mg->mg d.name=some (.ref fa)->
   ∃fd:dR,(∀(s:aq) (u:ae),rT s fd ⟨[u],[]⟩ [("_law_script",u)])/\∀base:Heap,(K w.params).In base->base.Ns bg mg->oF l.prog w (K w.params) mg base Dl LZ fa fd Mb (Em (K w.params))) :
  PySem.W.WalkO q loose XP YP l.row.toRowW d [] (λf vs=>yS f vs):=
 L2.walk_of (n:=63) (k:=LZ) (x:="_law_script") (CX:=λ_=>Dl) (sp:=λw=>Em (K w.params)) hn (by decide) hdf ⟨rfl,by decide,by decide⟩ hY F (λ_ _ a ns hl hO hS=>⟨a,ns,rfl,TZ hO hS,hl,λ_=>rfl⟩) λ_ _ _ _ _ z=>z
end Bg
open PySem PySem.W PyProof.Rows
def PySem.W.Fast.tw14653903070418755611:Unit:=()
def PySem.W.Fast.tw8886941105117813195:Unit:=()
def PySem.W.Fast.tw10163576564368491626:Unit:=()
def PySem.W.Fast.tw6192913183944973707:Unit:=()
def PySem.W.Fast.tw5707963498856723444:Unit:=()
def PySem.W.Fast.tw17158705076173238411:Unit:=()
def PySem.W.Fast.tw5643183790587581205:Unit:=()
def PySem.W.Fast.tw9864644588086618277:Unit:=()
def PySem.W.Fast.tw14467849312781372301:Unit:=()
def PySem.W.Fast.tw4368763200482128591:Unit:=()
def PySem.W.Fast.tw17457321733791228761:Unit:=()
def PySem.W.Fast.tw15591201017829748383:Unit:=()
def PySem.W.Fast.tw14835264650135857529:Unit:=()
def PySem.W.Fast.tw3184491208779994969:Unit:=()
def PySem.W.Fast.tw15424574327833002943:Unit:=()
def PySem.W.Fast.tw2862844281387772528:Unit:=()
set_option maxRecDepth 100000 in
set_option maxHeartbeats 0 in
theorem PySem.Challenge.cw_beltgarth_k21_programs_as_texts_holds : PySem.Challenge.rw_beltgarth_k21_programs_as_texts.Holds := by
 w_on;o_law;k_head;(case hw=>w_witness2)
 k_fill
 refine Bg.walk (l:=PySem.Challenge.rw_beltgarth_k21_programs_as_texts) rfl rfl (λw h Y=>PySem.W.kIn_of Y) ?F
 case F=>
  intro w mg fa h KX G hmg
  refine' Bg.all_mk KX G hmg ?zc_NoLine ?zc_NoProgram ?lx_NoLine ?ga_NoLine ?gh_NoLine ?sa_NoLine ?lx_NoProgram ?ga_NoProgram ?gh_NoProgram ?sa_NoProgram ?le_NoProgram ?me_NoProgram ?kp_NoLine ?kp_NoProgram ?xm_6 ?zq_FIGURES ?zq_LETTERS ?zq_WORDS ?lq_WORDS ?zq_SIGNS ?lq_SIGNS ?no_0 ?no_1 ?no_2 ?no_3 ?l0 ?l1 ?l2 ?l3 ?l4 ?l5 ?l6 ?l7 ?a8 ?l8 ?c8 ?k8 ?t8 ?l9 ?a10 ?l10 ?c10 ?k10 ?i10 ?l11 ?l12 ?l13 ?l14 ?l15 ?l16 ?l17 ?l18 ?l19 ?l20 ?a21 ?l21 ?c21 ?k21 ?i21 ?l22 ?l23 ?l24 ?l25 ?l26 ?l27 ?l28 ?l29 ?l30 ?a31 ?l31 ?c31 ?k31 ?l32 ?l33 ?l34 ?l35 ?l36 ?l37 ?l38 ?l39 ?l40 ?l41 ?l42 ?l43 ?l44 ?l45 ?l46 ?l47 ?z_len ?z_range ?z_divmod ?z_max ?z_min ?z_sum ?z_all ?z_isinstance ?z_int ?z_bool ?z_list ?z_tuple ?z_enumerate ?z_zip ?z_sorted ?z_set ?z_dict ?z_str ?z_any ?z_reversed ?z_abs
  case zc_NoLine|zc_NoProgram|lx_NoLine|ga_NoLine|gh_NoLine|sa_NoLine|lx_NoProgram|ga_NoProgram|gh_NoProgram|sa_NoProgram|le_NoProgram|me_NoProgram|kp_NoLine|kp_NoProgram|xm_6|zq_FIGURES|zq_LETTERS|zq_WORDS|lq_WORDS|zq_SIGNS|lq_SIGNS|no_0|no_1|no_2|no_3|a8|l8|c8|k8|t8|a10|l10|c10|k10|i10|a21|l21|c21|k21|i21|a31|l31|c31|k31|z_len|z_range|z_divmod|z_max|z_min|z_sum|z_all|z_isinstance|z_int|z_bool|z_list|z_tuple|z_enumerate|z_zip|z_sorted|z_set|z_dict|z_str|z_any|z_reversed|z_abs=>k_is
  all_goals (refine' Bg.defAt ?a ?l ?c ?k;(case a|l|c|k=>k_is))
